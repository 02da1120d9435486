import PyProof.Rows.All
import Wide.All
import OpenK.AllK
import Wide.FinOn
import HandS.ForMost
import HandS.Wide
import HandS.TupAny
import HandS.ExcValue
import HandS.Style
import HandS.More
import HandS.Defaults
import HandS.EndBits
import HandS.Flow
import HandS.Zip
import HandS.Star
import HandS.StrMore
import HandS.Set
import HandS.SetTxt0
import HandS.IsInst
import HandS.ExcIs
import KE.KRevSl
import PyProof.Rows.SortShellAny
import HandS.RaiseMore
import HandS.Conv
import HandS.IsInst
import HandS.ExcIs
import KE.KRevSl
import PyProof.InstEq
import KE.DataMinMax
import HandS.SortKw
import HandS.StrMore
import HandS.Style
import PyProof.Rows.StrPadFill
import PyProof.Rows.StrPadWhole
import PyProof.StrLaws
import PyProof.Rows.StrFit
import KE.KDictKeyed
import KE.KeyNested
import PySem.Challenge.RW_pageskips_k26_whole_no_value_is_lost
set_option Elab.async false
set_option linter.all false
set_option maxRecDepth 100000
set_option maxHeartbeats 2000000
namespace Pg
open PySem PySem.Spec PyProof.Rows L2
/-! ### heaps: what a piece of the program keeps -/
/-- all that was tracked outside of S stands as it was; in S lists stay lists -/
structure Stp (S : List Addr) (H H' : Hp) : Prop where
  kp : ∀ a o, a ∉ S → H a = some o → H' a = some o
  ls : ∀ a xs, H a = some (.lst xs) → ∃ ys, H' a = some (.lst ys)
theorem Stp.refl (S : List Addr) (H : Hp) : Stp S H H := ⟨fun _ _ _ h => h, fun _ xs h => ⟨xs, h⟩⟩
theorem Stp.trans {S : List Addr} {H H1 H2 : Hp} (a : Stp S H H1) (b : Stp S H1 H2) : Stp S H H2 :=
  ⟨fun x o n h => b.kp x o n (a.kp x o n h), fun x xs h => by
    obtain ⟨ys, h1⟩ := a.ls x xs h
    exact b.ls x ys h1⟩
theorem Stp.sub {S S' : List Addr} {H H' : Hp} (a : Stp S H H') (h : ∀ x ∈ S, x ∈ S') : Stp S' H H' :=
  ⟨fun x o n q => a.kp x o (fun m => n (h x m)) q, a.ls⟩
theorem Stp.nil {S : List Addr} {H H' : Hp} (a : Stp [] H H') : Stp S H H' := a.sub fun _ h => nomatch h
theorem Stp.new {H : Hp} {p : Addr} {o : HO} (h : H p = none) (S : List Addr) : Stp S H (upd H p o) :=
  ⟨fun x u _ q => by rw [upd_ne (ne_of_none q h)]; exact q, fun x xs q => ⟨xs, by rw [upd_ne (ne_of_none q h)]; exact q⟩⟩
theorem Stp.put {S : List Addr} {H : Hp} {p : Addr} {ys : List V} (m : p ∈ S) : Stp S H (upd H p (.lst ys)) :=
  ⟨fun x u n q => by
    rw [upd_ne (fun e => n (by rw [e]; exact m))]
    exact q, fun x xs q => by
    by_cases e : x = p
    · subst e
      exact ⟨ys, upd_same⟩
    · exact ⟨xs, by rw [upd_ne e]; exact q⟩⟩
/-- a local object: it was not there -/
theorem Stp.loc {S : List Addr} {H H' : Hp} {p : Addr} (h : H p = none) (a : Stp (p :: S) H H') : Stp S H H' :=
  ⟨fun x o n q => a.kp x o (fun m => by
    rcases List.mem_cons.mp m with e | m
    · exact ne_of_none q h e
    · exact n m) q, a.ls⟩
theorem Stp.fresh {S : List Addr} {H H' : Hp} {p : Addr} (a : Stp S H H') (n : p ∉ S) (h : H' p = none) : H p = none := by
  cases e : H p with
  | none => rfl
  | some o =>
    rw [a.kp p o n e] at h
    cases h
/-- a list that was not there is changed -/
theorem Stp.mut {S : List Addr} {H H' : Hp} {p : Addr} {ys : List V} (a : Stp S H H') (h : H p = none) : Stp S H (upd H' p (.lst ys)) :=
  ⟨fun x o n q => by
    rw [upd_ne (ne_of_none q h)]
    exact a.kp x o n q, fun x xs q => by
    rw [upd_ne (ne_of_none q h)]
    exact a.ls x xs q⟩
theorem Stp.put' {S : List Addr} {H H' : Hp} {p : Addr} {ys : List V} (a : Stp S H H') (m : p ∈ S) : Stp S H (upd H' p (.lst ys)) := a.trans (Stp.put m)
theorem Stp.new' {S : List Addr} {H H' : Hp} {p : Addr} {o : HO} (a : Stp S H H') (h : H' p = none) : Stp S H (upd H' p o) := a.trans (Stp.new h S)
/-- only the list at p may differ -/
def Only (p : Addr) (H H' : Hp) : Prop := ∃ ys, H' = upd H p (.lst ys)
theorem Only.at {p q : Addr} {H H' : Hp} {o : HO} (h : Only p H H') (e : H q = some o) (n : q ≠ p) : H' q = some o := by
  obtain ⟨ys, rfl⟩ := h
  rw [upd_ne n]
  exact e
theorem Only.stp {p : Addr} {H H' : Hp} {S : List Addr} (h : Only p H H') (m : p ∈ S) : Stp S H H' := by
  obtain ⟨ys, rfl⟩ := h
  exact Stp.put m

/-! ### the draws -/
def BagV (x y z : Int) (n : Nat) : Prop := 0 ≤ x ∧ 0 ≤ y ∧ y < 2 ^ 40 ∧ 0 ≤ z ∧ z ≤ (n : Int)
/-- a bag stands at b, from which at most n draws have been made -/
def Bag (H : Hp) (b : Addr) (n : Nat) : Prop := ∃ x y z, H b = some (.lst [.int x, .int y, .int z]) ∧ BagV x y z n
theorem Bag.mono {H : Hp} {b : Addr} {n m : Nat} (h : Bag H b n) (e : n ≤ m) : Bag H b m := by
  obtain ⟨x, y, z, h1, h2, h3, h4, h5, h6⟩ := h
  exact ⟨x, y, z, h1, h2, h3, h4, h5, by omega⟩
theorem Bag.kp {H H' : Hp} {b : Addr} {n : Nat} {S : List Addr} (h : Bag H b n) (s : Stp S H H') (m : b ∉ S) : Bag H' b n := by
  obtain ⟨x, y, z, h1, h2⟩ := h
  exact ⟨x, y, z, s.kp _ _ m h1, h2⟩
theorem Bag.upd {H : Hp} {b p : Addr} {n : Nat} {o : HO} (h : Bag H b n) (e : b ≠ p) : Bag (L2.upd H p o) b n := by
  obtain ⟨x, y, z, h1, h2⟩ := h
  exact ⟨x, y, z, by rw [upd_ne e]; exact h1, h2⟩
theorem Bag.ne {H : Hp} {b p : Addr} {n : Nat} (h : Bag H b n) (q : H p = none) : b ≠ p := by
  obtain ⟨x, y, z, h1, h2⟩ := h
  exact ne_of_none h1 q
theorem cmul {i j : Int} (a b : Nat) (h1 : 0 ≤ i) (h2 : i < 2 ^ a) (h3 : 0 ≤ j) (h4 : j < 2 ^ b) (ha : 0 < a) (hb : 0 < b) (h : a + b ≤ 1000000) : CMulW i j := by
  refine wide_mul (a := a) (b := b) ?_ ?_ ha hb h
  · have e : ((i.natAbs : Nat) : Int) < ((2 ^ a : Nat) : Int) := by
      rw [Int.natAbs_of_nonneg h1, Int.natCast_pow]
      exact h2
    exact Int.ofNat_lt.mp e
  · have e : ((j.natAbs : Nat) : Int) < ((2 ^ b : Nat) : Int) := by
      rw [Int.natAbs_of_nonneg h3, Int.natCast_pow]
      exact h4
    exact Int.ofNat_lt.mp e
theorem cdiv {i j : Int} (b : Nat) (h1 : 0 < j) (h2 : j < 2 ^ b) (hb : 0 < b) (h9 : b ≤ 9000) : CDivW i j := by
  refine wide_div (b := b) h1 ?_ hb h9
  have e : ((j.natAbs : Nat) : Int) < ((2 ^ b : Nat) : Int) := by
    rw [Int.natAbs_of_nonneg (by omega), Int.natCast_pow]
    exact h2
  exact Int.ofNat_lt.mp e
theorem mul_lt {i j : Int} {a b : Nat} (h1 : 0 ≤ i) (h2 : i < 2 ^ a) (h3 : 0 ≤ j) (h4 : j < 2 ^ b) : 0 ≤ i * j ∧ i * j < 2 ^ (a + b) := by
  refine ⟨Int.mul_nonneg h1 h3, ?_⟩
  have e1 : i * j ≤ i * 2 ^ b := Int.mul_le_mul_of_nonneg_left (Int.le_of_lt h4) h1
  have hp : (0 : Int) < 2 ^ b := Int.pow_pos (by omega)
  have e2 : i * 2 ^ b < 2 ^ a * 2 ^ b := Int.mul_lt_mul_of_pos_right h2 hp
  rw [Int.pow_add]
  omega
/-- a letter for a number -/
theorem genQ {Q : V → Hp → Prop} {H : Hp} {i : Int} (h : ∀ t, t = i → Q (.int t) H) : Q (.int i) H := h i rfl
/-! ### rules of my own -/
section
variable {X : Cx}
/-- 'a' * n -/
theorem op_mul_str : OpR X (binaryOp .Mult) (fun x y H Q => ∃ i j, x = .str i ∧ y = .int j ∧ MulOk i j ∧ Q (.str (Txt.mul i j)) H) := by
  intro pins s σ H x y v u Q I rx ry h
  obtain ⟨i, j, rfl, rfl, hz, q⟩ := h
  obtain ⟨t, rfl⟩ := rx
  obtain ⟨t', rfl⟩ := ry
  exact SB.mul hz (fun t' k => ⟨.str (Txt.mul i j), H, I.tok _, ⟨_, rfl⟩, q⟩)
end
end Pg
namespace Pg
open PySem PySem.Spec PyProof.Rows L2
/-! ### a def of the text: where it stands, what it keeps -/
/-- a def of the text, found by its name -/
structure Df (K : PySem.W.Frag) (mg : Str → Option Value) (x : Str) (st : Stmt) (ps : List Str) (f : Addr) (fd : FuncData) : Prop where
  fn : Fun K x x st f fd
  at_ : mg x = some (.ref f)
  bd : Binds K fd ps []
/-- .. with its promise -/
structure Cl (P : Program) (w : World) (K : PySem.W.Frag) (mg : Str → Option Value) (base : Heap) (k : Nat) (x : Str) (st : Stmt) (ps : List Str) (sp : Sp) : Prop where
  ex : ∃ f fd, Df K mg x st ps f fd ∧ FnOk P w K mg base CX0 k f fd ps sp
theorem Cl.mono {P : Program} {w : World} {K : PySem.W.Frag} {mg : Str → Option Value} {base : Heap} {j k : Nat} {x : Str} {st : Stmt} {ps : List Str} {sp : Sp} (c : Cl P w K mg base j x st ps sp) (h : j ≤ k) : Cl P w K mg base k x st ps sp := by
  obtain ⟨f, fd, D, F⟩ := c.ex
  exact ⟨f, fd, D, F.mono h⟩
theorem Df.cl {P : Program} {w : World} {K : PySem.W.Frag} {mg : Str → Option Value} {base : Heap} {x : Str} {st : Stmt} {f : Addr} {fd : FuncData} {N ps : List Str} {k : Nat} {sp : Sp} (D : Df K mg x st ps f fd) (S : FnScope N ps (defScope st)) (len : ∀ vs H Q E, sp vs H Q E → vs.length = ps.length)
    (hbody : ∀ (cdv : Value) (A : Around) (outer : List Env) (s : Shared) (H : Hp) (vs : List V) (Q : VK) (E : XK), Room k (A.deeper (envOfC x (defScope st) s.heap.objs.size f cdv)) → sp vs H Q E →
      ∃ t, PSs (cxOf CX0 P w K mg base N x (defScope st) f cdv A outer s H E).nox (defBody st) t ∧ t { nx := fun _ H' => Q .non H', rt := Q } (start N vs) H) : Cl P w K mg base (k + 1) x st ps sp :=
  ⟨f, fd, D, D.fn.ok S len hbody⟩
def tCl (sp : Sp) (t : TA) : TE := fun σ H Q => t σ H fun vs H1 => sp vs H1 Q E0
section
variable {X : Cx} {j k : Nat} {st : Stmt} {ps : List Str} {sp : Sp} {x : Str} {p pos : Pos} {e : Expr} {es : List Expr} {t : TA}
theorem pe_cl (c : Cl X.prog X.w X.K X.mg X.base k x st ps sp) (hr : Room j X.A) (hk : k ≤ j) (ha : PA X (e :: es) t) (hg : Gl X x := by rfl) (hdb : (x == ("__debug__" : Str)) = false := by decide)
    (he : starEach (e :: es) X.env = (false, eval e X.env) :: starEach es X.env := by rfl) (hpl : (backTo pos (starEach es X.env)).any (·.1) = false := by rfl) :
    PE X (.Call (.Name x p) (e :: es) [] pos) (tCl sp t) := by
  obtain ⟨f, fd, D, F⟩ := c.ex
  refine ⟨fun pins s σ H Q I h => ?_⟩
  have q := (pe_call (E := E0) (p := p) (F.mono hk) hr hg D.at_ D.fn.kp D.bd .nil pass0 ha hdb he hpl).run pins s σ H Q I
  refine q ?_
  have h' : t σ H (fun vs H1 => sp vs H1 Q E0) := h
  show t σ H fun vs H1 => sp (vs ++ []) H1 Q E0
  simp only [List.append_nil]
  exact h'
theorem pe_cl0 (c : Cl X.prog X.w X.K X.mg X.base k x st ps sp) (hr : Room j X.A) (hk : k ≤ j) (hg : Gl X x := by rfl) (hdb : (x == ("__debug__" : Str)) = false := by decide) :
    PE X (.Call (.Name x p) [] [] pos) (tCl sp tNil) := by
  obtain ⟨f, fd, D, F⟩ := c.ex
  exact pe_call0 (E := E0) (F.mono hk) hr hg D.at_ D.fn.kp D.bd .nil pass0 hdb
/-- f(k = v, ..) -/
def tClK (sp : Sp) (gV : List V → List V → List V) (tk : TA) : TE := fun σ H Q => tk σ H fun zs H1 => sp (gV [] zs) H1 Q E0
theorem pe_clK {ks : List Str} {g : List Value → List Value → List Value} {gV : List V → List V → List V} {kws : List Keyword} {tk : TA} (c : Cl X.prog X.w X.K X.mg X.base k x st ps sp) (hr : Room j X.A) (hk : k ≤ j)
    (hb : ∀ f fd, Fun X.K x x st f fd → KBinds X.K fd ps ks g gV) (hkw : PK X kws tk)
    (hg : Gl X x := by rfl) (hall : (backToKw pos (keywordEach kws X.env)).all (·.1.isSome) = true := by rfl) (hks : (backToKw pos (keywordEach kws X.env)).filterMap (·.1) = ks := by rfl) (hdb : (x == ("__debug__" : Str)) = false := by decide)
    (hpl : ((backTo pos (starEach [] X.env)).any (·.1) || (backToKw pos (keywordEach kws X.env)).any (·.1.isNone)) = false := by rfl) :
    PE X (.Call (.Name x p) [] kws pos) (tClK sp gV tk) := by
  obtain ⟨f, fd, D, F⟩ := c.ex
  refine ⟨fun pins s σ H Q I h => ?_⟩
  refine wpAny_Call_Name_kw (ld_glob I hg D.at_ ?_ hdb)
  refine PySem.W.callWith_KW0 (h₀ := X.base) I.ok.mod.kin D.fn.kp hall ?_ hpl
  refine thn (hkw.run pos pins s σ H _ I h) fun ws s2 ⟨zs, H2, I2, rz, q2⟩ => ⟨I2.kIn, ?_⟩
  rw [hks]
  exact run_fnk (E := E0) (us := []) (vs := []) (F.mono hk) hr (hb f fd D.fn) pass0 I2 .nil rz q2
end
/-- keywords alone, in an order of their own -/
theorem kb_of {K : PySem.W.Frag} {x : Str} {st : Stmt} {f : Addr} {fd : FuncData} {ps ks : List Str} {g : List Value → List Value} {gV : List V → List V} (F : Fun K x x st f fd) (hne : ps ≠ [])
    (h : ∀ (kV doc pm : Value) (an : Option Addr) (cdv ct : Value) (ws : List Value), (g ws).length = ps.length → bindArgs (PySem.W.fnOf x x (defArgs st) (defBody st) (defScope st) .none kV doc pm an cdv ct) ⟨[], ks.zip ws⟩ = pure (ps.zip (g ws)))
    (r : ∀ {zs : List V} {ws : List Value}, Vals zs ws → Vals (gV zs) (g ws)) : KBinds K fd ps ks (fun us ws => match us with | [] => g ws | _ :: _ => []) (fun vs zs => match vs with | [] => gV zs | _ :: _ => []) := by
  obtain ⟨oc, od, kV, doc, pm, an, cdv, ct, osl, rfl, lk, hcd⟩ := F.ex
  refine ⟨fun s us ws _ hl => ?_, fun {vs us zs ws} r1 r2 => ?_⟩
  · cases us with
    | nil => exact .of_eq (h kV doc pm an cdv ct ws hl)
    | cons u us => exact absurd (List.length_eq_zero_iff.mp hl.symm) hne
  · cases r1 with
    | nil => exact r r2
    | cons _ _ => exact .nil
end Pg
namespace Pg
open PySem PySem.Spec PyProof.Rows L2
open Builtin Builtin.Str
/-! ### texts as lists of letters -/
/-- the text of these signs -/
abbrev tx (l : List Nat) : Str := ⟨l.toArray⟩
abbrev Tx (l : List Nat) : V := .str (tx l)
/-- letters a, b, c alone -/
def Abc (l : List Nat) : Prop := ∀ c ∈ l, c = 97 ∨ c = 98 ∨ c = 99
theorem tx_inj {a b : List Nat} (h : tx a = tx b) : a = b := by
  have q : (tx a).cps.toList = (tx b).cps.toList := by rw [h]
  simpa using q
theorem tx_of (s : Str) : ∃ l, s = tx l := ⟨s.cps.toList, by cases s; simp [tx]⟩
theorem tx_len (l : List Nat) : (tx l).length = l.length := by simp [Str.length]
theorem tx_app (a b : List Nat) : tx a ++ tx b = tx (a ++ b) := by
  show (⟨a.toArray ++ b.toArray⟩ : Str) = _
  simp [tx]
theorem tx_cut (l : List Nat) (lo hi : Option Int) : cutS (tx l) lo hi = tx ((l.drop (HT.sIx l.length 0 lo)).take (HT.sIx l.length l.length hi - HT.sIx l.length 0 lo)) := by
  unfold cutS
  rw [tx_len]
theorem tx_upto (l : List Nat) (k : Nat) : cutS (tx l) none (some (k : Int)) = tx (l.take k) := by
  rw [tx_cut, HT.sIx_none, HT.sIx_nat]
  rw [List.drop_zero, Nat.sub_zero]
  rcases Nat.le_total k l.length with h | h
  · rw [Nat.min_eq_left h]
  · rw [Nat.min_eq_right h, List.take_of_length_le (Nat.le_refl _), List.take_of_length_le h]
theorem tx_init (l : List Nat) : cutS (tx l) none (some (-1)) = tx l.dropLast := by
  rw [tx_cut, HT.sIx_none]
  have e : HT.sIx l.length l.length (some (-1)) = l.length - 1 := by
    show (if (-1 : Int) < 0 then ((-1 : Int) + (l.length : Int)).toNat else min (-1 : Int).toNat l.length) = _
    rw [if_pos (by decide)]
    omega
  rw [e, List.drop_zero, Nat.sub_zero, ← List.dropLast_eq_take]
theorem tx_last (l : List Nat) : cutS (tx l) (some (-1)) none = tx (l.drop (l.length - 1)) := by
  rw [tx_cut, HT.sIx_none]
  have e : HT.sIx l.length 0 (some (-1)) = l.length - 1 := by
    show (if (-1 : Int) < 0 then ((-1 : Int) + (l.length : Int)).toNat else min (-1 : Int).toNat l.length) = _
    rw [if_pos (by decide)]
    omega
  rw [e]
  congr 2
  rw [List.take_of_length_le]
  rw [List.length_drop]
  exact Nat.le_refl _
theorem foldl_app_rep {α : Type} (c : α) : ∀ (n : Nat) (acc : Array α), (List.replicate n #[c]).foldl (· ++ ·) acc = acc ++ (List.replicate n c).toArray
  | 0, acc => by simp
  | n + 1, acc => by
    rw [List.replicate_succ, List.foldl_cons, foldl_app_rep c n, List.replicate_succ]
    apply Array.ext'
    simp
theorem tx_mul (c : Nat) (n : Int) : Txt.mul (tx [c]) n = tx (List.replicate n.toNat c) := by
  unfold Txt.mul
  by_cases h : n < 1
  · rw [if_pos h, show n.toNat = 0 by omega]
    rfl
  · rw [if_neg h]
    by_cases h1 : n = 1
    · subst h1
      rfl
    · rw [if_neg (by simp [h1, Str.length])]
      show (⟨(List.replicate n.toNat #[c]).foldl (· ++ ·) #[]⟩ : Str) = _
      rw [foldl_app_rep]
      simp [tx]
theorem mulOk (c : Nat) {n : Int} (h0 : -1000 ≤ n) (h1 : n ≤ 100000) : MulOk (tx [c]) n := by
  refine ⟨by simp; omega, fun a b q => ?_, fun a b => ?_⟩
  · rw [tx_len] at q
    have e : (1 : Int) ≤ (2 ^ 63 - 1) / n := by
      have hp : 0 < n := by omega
      exact (Int.le_ediv_iff_mul_le hp).mpr (by omega)
    have q' : (([c].length : Nat) : Int) = 1 := rfl
    rw [q'] at q
    have e2 : (1 : Int) > (2 ^ 63 - 1) / n := q
    exact absurd e (by omega)
  · rw [tx_len]
    have e : ([c].length * n.toNat) ≤ sizeLine := Nat.le_trans (show [c].length * n.toNat ≤ 100000 by simp; omega) (by decide)
    unfold tooLong
    simpa using e
theorem foldl_app {α : Type} : ∀ (ps : List (List α)) (acc : Array α), (ps.map List.toArray).foldl (fun a p => a ++ p) acc = acc ++ ps.flatten.toArray
  | [], acc => by simp
  | p :: ps, acc => by
    rw [List.map_cons, List.foldl_cons, foldl_app ps, List.flatten_cons]
    apply Array.ext'
    simp
theorem join_abc (cs : List Nat) : Txt.join (tx []) (cs.map fun c => tx [c]) = tx cs := by
  cases cs with
  | nil => rfl
  | cons c cs =>
    show (⟨((cs.map fun c => tx [c])).foldl (fun acc p => acc ++ (tx []).cps ++ p.cps) (tx [c]).cps⟩ : Str) = _
    have e : ∀ (l : List Nat) (acc : Array Nat), (l.map fun c => tx [c]).foldl (fun acc p => acc ++ (tx []).cps ++ p.cps) acc = acc ++ l.toArray := by
      intro l
      induction l with
      | nil => intro acc; simp
      | cons x l ih =>
        intro acc
        rw [List.map_cons, List.foldl_cons, ih]
        apply Array.ext'
        simp
    rw [e]
    simp [tx]
theorem Abc.nil : Abc [] := fun _ h => nomatch h
theorem Abc.app {a b : List Nat} (h : Abc a) (g : Abc b) : Abc (a ++ b) := fun c m => (List.mem_append.mp m).elim (h c) (g c)
theorem Abc.take {a : List Nat} (h : Abc a) (n : Nat) : Abc (a.take n) := fun c m => h c (List.mem_of_mem_take m)
theorem Abc.drop {a : List Nat} (h : Abc a) (n : Nat) : Abc (a.drop n) := fun c m => h c (List.mem_of_mem_drop m)
theorem Abc.init {a : List Nat} (h : Abc a) : Abc a.dropLast := fun c m => h c (List.dropLast_subset _ m)
theorem Abc.rep (n : Nat) {c : Nat} (h : c = 97 ∨ c = 98 ∨ c = 99) : Abc (List.replicate n c) := fun x m => by
  rw [(List.mem_replicate.mp m).2]
  exact h
theorem Abc.one {c : Nat} (h : c = 97 ∨ c = 98 ∨ c = 99) : Abc [c] := fun x m => by
  rw [List.mem_singleton.mp m]
  exact h
theorem abc_lit : ("abc" : Str) = tx [97, 98, 99] := by decide +kernel
theorem nil_lit : ("" : Str) = tx [] := by decide +kernel
theorem goes_abc (c : Nat) : (tx [97, 98, 99]).cps.contains c = true ↔ (c = 97 ∨ c = 98 ∨ c = 99) := by
  simp [tx]
/-- strip('abc') leaves nothing just of letters alone -/
theorem strip_abc (l : List Nat) : (Txt.stripChars (tx l) (tx [97, 98, 99]) = tx []) ↔ Abc l := by
  unfold Txt.stripChars
  rw [stripBy_eq]
  obtain ⟨a1, a2, a3⟩ := lo_facts (tx [97, 98, 99]).cps.contains (tx l)
  obtain ⟨b1, b2, b3, b4⟩ := hi_facts (tx [97, 98, 99]).cps.contains (tx l) _ a1
  generalize stripLo (tx [97, 98, 99]).cps.contains true (tx l) = lo at *
  generalize stripHi (tx [97, 98, 99]).cps.contains true (tx l) lo = hi at *
  have gd : ∀ k, (tx l).cps.getD k 0 = l.getD k 0 := fun k => by rw [← getD_list]
  have hlen : (tx l).length = l.length := tx_len l
  rw [hlen] at a1 a3 b2 b3
  have size : (strSub (tx l) lo hi).length = hi - lo := by
    unfold strSub Str.length
    simp
    omega
  constructor
  · intro h
    have e : hi - lo = 0 := by rw [← size, h]; rfl
    have e2 : hi = lo := by omega
    subst e2
    have all : ∀ k, k < l.length → (tx [97, 98, 99]).cps.contains (l.getD k 0) = true := fun k hk => by
      rw [← gd]
      by_cases q : k < hi
      · exact a2 k q
      · exact b3 k (by omega) hk
    intro c m
    obtain ⟨k, hk, rfl⟩ := List.mem_iff_getElem.mp m
    have := all k hk
    rw [List.getD_eq_getElem?_getD, List.getElem?_eq_getElem hk] at this
    exact (goes_abc _).mp this
  · intro h
    have e : lo = l.length := by
      rcases a3 with e | e
      · exact e
      · by_cases q : lo < l.length
        · rw [gd, List.getD_eq_getElem?_getD, List.getElem?_eq_getElem q] at e
          have := (goes_abc _).mpr (h _ (List.getElem_mem q))
          rw [Option.getD_some] at e
          rw [e] at this
          cases this
        · omega
    have z : (strSub (tx l) lo hi).length = 0 := by omega
    have : (strSub (tx l) lo hi).cps = #[] := Array.eq_empty_of_size_eq_zero z
    cases hh : strSub (tx l) lo hi with
    | mk c =>
      rw [hh] at this
      show (⟨c⟩ : Str) = ⟨#[]⟩
      rw [show c = #[] from this]
/-! ### picking -/
theorem pick {α : Type} {xs : List α} {d : Int} (h0 : 0 ≤ d) (h1 : d < (xs.length : Int)) : ∃ v, v ∈ xs ∧ atI xs d = some v := by
  obtain ⟨k, rfl⟩ := Int.eq_ofNat_of_zero_le h0
  have hk : k < xs.length := by omega
  exact ⟨xs[k], List.getElem_mem hk, atI_nat (List.getElem?_eq_getElem hk)⟩
theorem pick_int {ns : List Int} {d : Int} (h0 : 0 ≤ d) (h1 : d < (ns.length : Int)) : ∃ v, v ∈ ns ∧ atI (ns.map V.int) d = some (.int v) := by
  obtain ⟨v, m, e⟩ := pick (xs := ns.map V.int) h0 (by rw [List.length_map]; exact h1)
  obtain ⟨n, hn, rfl⟩ := List.mem_map.mp m
  exact ⟨n, hn, e⟩
theorem at0 {α : Type} {a : α} {l : List α} : atI (a :: l) 0 = some a := atI_nat (j := 0) rfl
theorem at1 {α : Type} {a b : α} {l : List α} : atI (a :: b :: l) 1 = some b := atI_nat (j := 1) rfl
theorem sz {n : Nat} (h : n ≤ 100000) : n ≤ sizeLine := Nat.le_trans h (by decide)
theorem szt {l : List Nat} (h : l.length ≤ 100000) : (tx l).length ≤ sizeLine := by
  rw [tx_len]
  exact sz h
theorem inV_str (s : Str) : ∀ ws : List Str, inV (.str s) (ws.map V.str) = decide (s ∈ ws)
  | [] => rfl
  | x :: ws => by
    have ih := inV_str s ws
    unfold inV at ih ⊢
    rw [List.map_cons, List.any_cons, ih]
    show ((x == s) || decide (s ∈ ws)) = _
    by_cases e : x = s
    · subst e
      simp
    · have : (x == s) = false := beq_eq_false_iff_ne.mpr e
      rw [this]
      simp
      exact fun q => absurd q.symm e
end Pg
namespace Pg
open PySem PySem.Spec PyProof.Rows L2
/-! ### lists of texts, compared -/
theorem strOk_abc {l : List Nat} (h : Abc l) : PyData.canLay0 (.str (tx l)) = true := by
  unfold PyData.canLay0 PyData.strOk
  simp
  intro c m
  rcases h c m with e | e | e <;> subst e <;> decide
theorem canLay_strs : ∀ {ls : List (List Nat)}, (∀ l ∈ ls, Abc l) → PyData.canLayAll0 (ls.map fun l => .str (tx l)) = true
  | [], _ => rfl
  | l :: ls, h => by
    show (PyData.canLay0 (.str (tx l)) && PyData.canLayAll0 (ls.map fun l => .str (tx l))) = true
    rw [strOk_abc (h l List.mem_cons_self), canLay_strs fun m q => h m (List.mem_cons_of_mem _ q)]
    rfl
theorem depth_strs : ∀ (ls : List (List Nat)), PyData.depthAll (ls.map fun l => .str (tx l)) = 0
  | [] => rfl
  | l :: ls => by
    show max 0 (PyData.depthAll (ls.map fun l => .str (tx l))) = 0
    rw [depth_strs ls]
    rfl
theorem shaped_strs {ls : List (List Nat)} (h : ∀ l ∈ ls, Abc l) : SeqAt.shaped (.list (ls.map fun l => .str (tx l))) = true := by
  unfold SeqAt.shaped
  rw [show PyData.canLay0 (.list (ls.map fun l => .str (tx l))) = true from canLay_strs h]
  rw [show PyData.depth (.list (ls.map fun l => .str (tx l))) = 0 + 1 by show PyData.depthAll _ + 1 = _; rw [depth_strs]]
  rfl
theorem dp_strs {K : PySem.W.Frag} {H : Hp} : ∀ (ls : List (List Nat)), DpAll K H (ls.map Tx) (ls.map fun l => .str (tx l))
  | [] => .nil
  | l :: ls => .cons (.str _) (dp_strs ls)
theorem ne_nil_strs {K : PySem.W.Frag} {H : Hp} {p q : Addr} {ls : List (List Nat)} {Q : VK} (hp : SqL K H p (ls.map Tx)) (h : ∀ l ∈ ls, Abc l) (hq : H q = some (.lst [])) (k : Q (.bl (!ls.isEmpty)) H) : rNeD K (.ref p) (.ref q) H Q := by
  refine ⟨.list (ls.map fun l => .str (tx l)), .list [], .lst hp (dp_strs ls), .lst (SqL.of hq) .nil, shaped_strs h, rfl, ?_⟩
  have e : PyData.eqv (.list (ls.map fun l => .str (tx l))) (.list []) = ls.isEmpty := by
    cases ls with
    | nil => rfl
    | cons l ls => rfl
  rw [e]
  exact k
end Pg
namespace Pg
open PySem PySem.Spec PyProof.Rows L2
/-! ### any values: what they are, as far as the program looks -/
inductive Dt where
  | non | bl (b : Bool) | int (i : Int) | str (l : List Nat) | tup (ds : List Dt) | lst | obj
mutual
def Dt.dep : Dt → Nat
  | .tup ds => Dt.depL ds + 1
  | _ => 0
def Dt.depL : List Dt → Nat
  | [] => 0
  | d :: ds => max d.dep (Dt.depL ds)
end
theorem Dt.dep_mem : ∀ {ds : List Dt} {d : Dt}, d ∈ ds → d.dep ≤ Dt.depL ds
  | e :: ds, d, m => by
    rcases List.mem_cons.mp m with rfl | m
    · exact Nat.le_max_left _ _
    · exact Nat.le_trans (Dt.dep_mem m) (Nat.le_max_right _ _)
theorem Dt.depL_le : ∀ {ds : List Dt} {n : Nat}, (∀ d ∈ ds, d.dep ≤ n) → Dt.depL ds ≤ n
  | [], _, _ => Nat.zero_le _
  | d :: ds, n, h => Nat.max_le.mpr ⟨h d List.mem_cons_self, Dt.depL_le fun e m => h e (List.mem_cons_of_mem _ m)⟩
mutual
inductive Rp (K : PySem.W.Frag) (H : Hp) : V → Dt → Prop
  | non : Rp K H .non .non
  | bl (b : Bool) : Rp K H (.bl b) (.bl b)
  | int (i : Int) : Rp K H (.int i) (.int i)
  | str (l : List Nat) (h : l.length ≤ 100000) : Rp K H (Tx l) (.str l)
  | tup {a : Addr} {vs : List V} {ds : List Dt} : SqT K H a vs → vs.length ≤ 100000 → RpL K H vs ds → Rp K H (.ref a) (.tup ds)
  | lst {a : Addr} {vs : List V} : H a = some (.lst vs) → Rp K H (.ref a) .lst
  | obj {a C : Addr} : H a = some (ExO (.ref C) a) → Rp K H (.ref a) .obj
inductive RpL (K : PySem.W.Frag) (H : Hp) : List V → List Dt → Prop
  | nil : RpL K H [] []
  | cons {v : V} {vs : List V} {d : Dt} {ds : List Dt} : Rp K H v d → RpL K H vs ds → RpL K H (v :: vs) (d :: ds)
end
/-- S has nothing but lists -/
def Lsts (H : Hp) (S : List Addr) : Prop := ∀ p ∈ S, ∃ xs, H p = some (.lst xs)
theorem Lsts.nil {H : Hp} : Lsts H [] := fun _ m => nomatch m
theorem Lsts.one {H : Hp} {p : Addr} {xs : List V} (h : H p = some (.lst xs)) : Lsts H [p] := fun q m => by
  rw [List.mem_singleton.mp m]
  exact ⟨xs, h⟩
theorem Lsts.cons {H : Hp} {p : Addr} {S : List Addr} {xs : List V} (h : H p = some (.lst xs)) (t : Lsts H S) : Lsts H (p :: S) := fun q m => by
  rcases List.mem_cons.mp m with rfl | m
  · exact ⟨xs, h⟩
  · exact t q m
theorem Lsts.stp {H H' : Hp} {S S' : List Addr} (h : Lsts H S) (s : Stp S' H H') : Lsts H' S := fun p m => by
  obtain ⟨xs, e⟩ := h p m
  exact s.ls p xs e
theorem sqt_stp {K : PySem.W.Frag} {H H' : Hp} {S : List Addr} {a : Addr} {vs : List V} (s : Stp S H H') (l : Lsts H S) (h : SqT K H a vs) : SqT K H' a vs := by
  rcases h with (h | ⟨o, h⟩) | h
  · refine .inl (.inl (s.kp a _ (fun m => ?_) h))
    obtain ⟨xs, e⟩ := l a m
    rw [h] at e
    cases e
  · refine .inl (.inr ⟨o, s.kp a _ (fun m => ?_) h⟩)
    obtain ⟨xs, e⟩ := l a m
    rw [h] at e
    cases e
  · exact .inr h
mutual
theorem Rp.stp {K : PySem.W.Frag} {H H' : Hp} {S : List Addr} (s : Stp S H H') (l : Lsts H S) : ∀ {v : V} {d : Dt}, Rp K H v d → Rp K H' v d
  | _, .non, .non => .non
  | _, .bl _, .bl b => .bl b
  | _, .int _, .int i => .int i
  | _, .str _, .str x h => .str x h
  | _, .tup ds, .tup h n r => .tup (sqt_stp s l h) n (RpL.stp s l r)
  | _, .lst, .lst (a := a) (vs := vs) h => by
    obtain ⟨ys, e⟩ := s.ls a vs h
    exact .lst e
  | _, .obj, .obj (a := a) (C := C) h => by
    refine .obj (C := C) (s.kp a _ (fun m => ?_) h)
    obtain ⟨xs, e⟩ := l a m
    rw [h] at e
    cases e
theorem RpL.stp {K : PySem.W.Frag} {H H' : Hp} {S : List Addr} (s : Stp S H H') (l : Lsts H S) : ∀ {vs : List V} {ds : List Dt}, RpL K H vs ds → RpL K H' vs ds
  | _, [], .nil => .nil
  | _, _ :: _, .cons h r => .cons (Rp.stp s l h) (RpL.stp s l r)
end
theorem RpL.len {K : PySem.W.Frag} {H : Hp} : ∀ {vs : List V} {ds : List Dt}, RpL K H vs ds → vs.length = ds.length
  | _, [], .nil => rfl
  | _, _ :: _, .cons _ r => by rw [List.length_cons, List.length_cons, RpL.len r]
theorem RpL.get {K : PySem.W.Frag} {H : Hp} : ∀ {vs : List V} {ds : List Dt} {i : Nat} {v : V}, RpL K H vs ds → vs[i]? = some v → ∃ d, ds[i]? = some d ∧ Rp K H v d
  | _, [], _, _, .nil, e => by simp at e
  | _, d :: _, 0, _, .cons h _, e => by
    simp at e
    subst e
    exact ⟨d, rfl, h⟩
  | _, _ :: _, i + 1, v, .cons _ r, e => RpL.get (i := i) (v := v) r (by simpa using e)
theorem RpL.app {K : PySem.W.Frag} {H : Hp} : ∀ {vs ws : List V} {ds es : List Dt}, RpL K H vs ds → RpL K H ws es → RpL K H (vs ++ ws) (ds ++ es)
  | _, _, [], _, .nil, q => q
  | _, _, _ :: _, _, .cons h r, q => .cons h (RpL.app r q)
theorem RpL.one {K : PySem.W.Frag} {H : Hp} : ∀ {vs : List V} {ds : List Dt}, RpL K H vs ds → vs.length = 1 → ∃ v d, vs = [v] ∧ ds = [d] ∧ Rp K H v d
  | _, [], .nil, h => by simp at h
  | _, [d], .cons h .nil, _ => ⟨_, d, rfl, rfl, h⟩
  | _, _ :: _ :: _, .cons _ (.cons _ _), h => by simp at h
/-! ### type(x), is -/
/-- the name of a value's built-in class; none for an object of the package -/
def Dt.ty : Dt → Option String
  | .non => some "NoneType"
  | .bl _ => some "bool"
  | .int _ => some "int"
  | .str _ => some "str"
  | .tup _ => some "tuple"
  | .lst => some "list"
  | .obj => none
def rTy (K : PySem.W.Frag) : List V → Hp → VK → Prop := fun xs H Q => ∃ x d, xs = [x] ∧ Rp K H x d ∧ ∀ y, (∀ T, d.ty = some T → y = .ty T) → (d.ty = none → ∃ C, y = .ref C) → Q y H
section
variable {X : Cx}
theorem call_type : CallR X (.type "type") (rTy X.K) := by
  intro pins s σ H xs us Q I r h
  obtain ⟨x, d, rfl, rp, q⟩ := h
  have old : ∀ T, TyB X.K H x T → d.ty = some T → wpAny (model X.prog X.w) X.A (call (.type "type") us) (EP X pins σ Q) X.xe s := fun T t e => by
    refine call_type1 pins s σ H [x] us Q I r ⟨x, T, rfl, t, q _ (fun T' e' => ?_) (fun n => ?_)⟩
    · rw [e] at e'
      cases e'
      rfl
    · rw [e] at n
      cases n
  cases rp with
  | non => exact old _ .non rfl
  | bl b => exact old _ (.bl b) rfl
  | int i => exact old _ (.int i) rfl
  | str l hl => exact old _ (.str _) rfl
  | tup hs hn ha => exact old _ (.tup hs) rfl
  | lst hs => exact old _ (.lst (SqL.of hs)) rfl
  | obj ho =>
    rename_i a C
    obtain ⟨u, rfl, rx⟩ := vals1 r
    cases rx
    obtain ⟨⟨oe, vs, e1, ⟨e2, e3⟩, e4, _⟩, _⟩ := I.hok _ _ ho
    obtain ⟨hh, g, dd, t, os⟩ := s
    exact call_type_obj e1 (by rw [e2]; rfl) (by rw [e2]; exact ⟨.ref C, H, I, rfl, q _ (fun T e => nomatch e) (fun _ => ⟨C, rfl⟩)⟩)
def rTyIs (neg : Bool) : R2 := fun x y H Q => ∃ T, y = .ty T ∧ ((∃ T', x = .ty T' ∧ Q (.bl (neg ^^ decide (T' = T))) H) ∨ ∃ C, x = .ref C ∧ Q (.bl neg) H)
theorem op_isTy : OpR X (compareOp .Is) (rTyIs false) := by
  intro pins s σ H x y v u Q I rx ry h
  obtain ⟨T, rfl, ⟨T', rfl, q⟩ | ⟨C, rfl, q⟩⟩ := h
  · exact op_isTyB pins s σ H _ _ _ _ _ I rx ry ⟨T', T, rfl, rfl, by rwa [Bool.false_xor] at q⟩
  · cases (show v = Value.ref C from rx)
    cases (show u = Value.type T from ry)
    exact wpAny_is_other rfl (by intro e; cases e) ⟨.bl false, H, I, rfl, q⟩
theorem op_notTy : OpR X (compareOp .IsNot) (rTyIs true) := by
  intro pins s σ H x y v u Q I rx ry h
  obtain ⟨T, rfl, ⟨T', rfl, q⟩ | ⟨C, rfl, q⟩⟩ := h
  · exact op_notTyB pins s σ H _ _ _ _ _ I rx ry ⟨T', T, rfl, rfl, by rwa [Bool.true_xor] at q⟩
  · cases (show v = Value.ref C from rx)
    cases (show u = Value.type T from ry)
    exact wpAny_isNot_other rfl (by intro e; cases e) ⟨.bl true, H, I, rfl, q⟩
end
/-- type(x) is T, type(x) is not T -/
theorem ty_is {K : PySem.W.Frag} {H : Hp} {x : V} {d : Dt} {T : String} {neg : Bool} {Q : VK} (r : Rp K H x d) (k : Q (.bl (neg ^^ decide (d.ty = some T))) H) : rTy K [x] H fun y H1 => rTyIs neg y (.ty T) H1 Q := by
  refine ⟨x, d, rfl, r, fun y h1 h2 => ⟨T, rfl, ?_⟩⟩
  cases e : d.ty with
  | none =>
    obtain ⟨C, rfl⟩ := h2 e
    refine .inr ⟨C, rfl, ?_⟩
    rw [e] at k
    simpa using k
  | some T' =>
    rw [h1 T' e]
    refine .inl ⟨T', rfl, ?_⟩
    rw [e] at k
    simpa using k
/-! ### type(e) is T as one piece -/
def Mono (te : TE) : Prop := ∀ σ H (Q Q' : VK), (∀ v H', Q v H' → Q' v H') → te σ H Q → te σ H Q'
theorem Mono.var {i : Nat} : Mono (tVar i) := fun σ H Q Q' h ⟨v, e, q⟩ => ⟨v, e, h _ _ q⟩
theorem Mono.c {v : V} : Mono (tC v) := fun σ H Q Q' h q => h _ _ q
theorem Mono.op {r : R2} {ta tb : TE} (ha : Mono ta) (hb : Mono tb) (hr : ∀ x y H (Q Q' : VK), (∀ v H', Q v H' → Q' v H') → r x y H Q → r x y H Q') : Mono (tOp r ta tb) := fun σ H Q Q' h q =>
  ha σ H _ _ (fun x H1 q1 => hb σ H1 _ _ (fun y H2 q2 => hr x y H2 _ _ h q2) q1) q
theorem Mono.ixT {K : PySem.W.Frag} {ta tb : TE} (ha : Mono ta) (hb : Mono tb) : Mono (tOp (rIxT K) ta tb) := Mono.op ha hb fun _ _ _ _ _ h ⟨p, xs, i, v, e1, e2, e3, e4, q⟩ => ⟨p, xs, i, v, e1, e2, e3, e4, h _ _ q⟩
theorem Mono.ixL {K : PySem.W.Frag} {ta tb : TE} (ha : Mono ta) (hb : Mono tb) : Mono (tOp (rIxL K) ta tb) := Mono.op ha hb fun _ _ _ _ _ h ⟨p, xs, i, v, e1, e2, e3, e4, q⟩ => ⟨p, xs, i, v, e1, e2, e3, e4, h _ _ q⟩
def tTyIs (K : PySem.W.Frag) (neg : Bool) (T : String) (te : TE) : TE := fun σ H Q => te σ H fun x H1 => ∃ d, Rp K H1 x d ∧ Q (.bl (neg ^^ decide (d.ty = some T))) H1
def tTTyIs (K : PySem.W.Frag) (neg : Bool) (T : String) (te : TE) : TT := fun σ H Q => te σ H fun x H1 => ∃ d, Rp K H1 x d ∧ Q (neg ^^ decide (d.ty = some T)) H1
section
variable {X : Cx} {e : Expr} {te : TE} {T : String} {x : Str} {p pos q pos2 : Pos}
theorem pe_tyIs (hm : Mono te) (he : PE X e te) (hn : X.mg "type" = none) (hT : X.mg x = none) (hv : bootBuiltins x = some (Value.type T)) (hg : Gl X "type" := by rfl) (hgT : Gl X x := by rfl) (hnn : x ≠ "__name__" := by decide) (hd : (x == ("__debug__" : Str)) = false := by decide)
    (hs : starEach [e] X.env = (false, eval e X.env) :: starEach [] X.env := by rfl) (hpl : (backTo pos (starEach [] X.env)).any (·.1) = false := by rfl) :
    PE X (.Compare (.Call (.Name "type" p) [e] [] pos) [.Is] [.Name x q] pos2) (tTyIs X.K false T te) := by
  have h := pe_cmpR (X := X) (pos := pos2) op_isTy (pe_callTy (p := p) (pos := pos) call_type hg hn (by decide +kernel) (pa_cons he pa_nil (hs := hs)) (he := hs) (hpl := hpl)) (pe_bltn (v := .ty T) (pos := q) hgT hT hv rfl hnn hd) (nomark _)
  refine ⟨fun pins s σ H Q I hw => h.run pins s σ H Q I ?_⟩
  exact hm σ H _ _ (fun v H1 ⟨d, r, k⟩ => ty_is (neg := false) r k) hw
theorem pe_tyNot (hm : Mono te) (he : PE X e te) (hn : X.mg "type" = none) (hT : X.mg x = none) (hv : bootBuiltins x = some (Value.type T)) (hg : Gl X "type" := by rfl) (hgT : Gl X x := by rfl) (hnn : x ≠ "__name__" := by decide) (hd : (x == ("__debug__" : Str)) = false := by decide)
    (hs : starEach [e] X.env = (false, eval e X.env) :: starEach [] X.env := by rfl) (hpl : (backTo pos (starEach [] X.env)).any (·.1) = false := by rfl) :
    PE X (.Compare (.Call (.Name "type" p) [e] [] pos) [.IsNot] [.Name x q] pos2) (tTyIs X.K true T te) := by
  have h := pe_cmpR (X := X) (pos := pos2) op_notTy (pe_callTy (p := p) (pos := pos) call_type hg hn (by decide +kernel) (pa_cons he pa_nil (hs := hs)) (he := hs) (hpl := hpl)) (pe_bltn (v := .ty T) (pos := q) hgT hT hv rfl hnn hd) (nomark _)
  refine ⟨fun pins s σ H Q I hw => h.run pins s σ H Q I ?_⟩
  exact hm σ H _ _ (fun v H1 ⟨d, r, k⟩ => ty_is (neg := true) r k) hw
theorem pt_tyIs (hm : Mono te) (he : PE X e te) (hn : X.mg "type" = none) (hT : X.mg x = none) (hv : bootBuiltins x = some (Value.type T)) (hg : Gl X "type" := by rfl) (hgT : Gl X x := by rfl) (hnn : x ≠ "__name__" := by decide) (hd : (x == ("__debug__" : Str)) = false := by decide)
    (hs : starEach [e] X.env = (false, eval e X.env) :: starEach [] X.env := by rfl) (hpl : (backTo pos (starEach [] X.env)).any (·.1) = false := by rfl) :
    PT X (.Compare (.Call (.Name "type" p) [e] [] pos) [.Is] [.Name x q] pos2) (tTTyIs X.K false T te) := by
  have h := pt_cmpR (X := X) (pos := pos2) op_isTy (pe_callTy (p := p) (pos := pos) call_type hg hn (by decide +kernel) (pa_cons he pa_nil (hs := hs)) (he := hs) (hpl := hpl)) (pe_bltn (v := .ty T) (pos := q) hgT hT hv rfl hnn hd) (nomark _)
  refine ⟨fun pins s σ H Q I hw => h.run pins s σ H Q I ?_⟩
  exact hm σ H _ _ (fun v H1 ⟨d, r, k⟩ => ty_is (neg := false) (Q := fun x H' => ∃ k, x = .bl k ∧ Q k H') r ⟨_, rfl, k⟩) hw
theorem pt_tyNot (hm : Mono te) (he : PE X e te) (hn : X.mg "type" = none) (hT : X.mg x = none) (hv : bootBuiltins x = some (Value.type T)) (hg : Gl X "type" := by rfl) (hgT : Gl X x := by rfl) (hnn : x ≠ "__name__" := by decide) (hd : (x == ("__debug__" : Str)) = false := by decide)
    (hs : starEach [e] X.env = (false, eval e X.env) :: starEach [] X.env := by rfl) (hpl : (backTo pos (starEach [] X.env)).any (·.1) = false := by rfl) :
    PT X (.Compare (.Call (.Name "type" p) [e] [] pos) [.IsNot] [.Name x q] pos2) (tTTyIs X.K true T te) := by
  have h := pt_cmpR (X := X) (pos := pos2) op_notTy (pe_callTy (p := p) (pos := pos) call_type hg hn (by decide +kernel) (pa_cons he pa_nil (hs := hs)) (he := hs) (hpl := hpl)) (pe_bltn (v := .ty T) (pos := q) hgT hT hv rfl hnn hd) (nomark _)
  refine ⟨fun pins s σ H Q I hw => h.run pins s σ H Q I ?_⟩
  exact hm σ H _ _ (fun v H1 ⟨d, r, k⟩ => ty_is (neg := true) (Q := fun x H' => ∃ k, x = .bl k ∧ Q k H') r ⟨_, rfl, k⟩) hw
end
end Pg
namespace Pg
open PySem PySem.Spec PyProof.Rows L2
/-! ### readings are monotone: a piece may be cut off by what it leaves -/
def MonoT (t : TT) : Prop := ∀ σ H (Q Q' : Bool → Hp → Prop), (∀ b H', Q b H' → Q' b H') → t σ H Q → t σ H Q'
def MonoA (t : TA) : Prop := ∀ σ H (Q Q' : List V → Hp → Prop), (∀ vs H', Q vs H' → Q' vs H') → t σ H Q → t σ H Q'
def MonoS (sp : Sp) : Prop := ∀ vs H (Q Q' : VK) E, (∀ v H', Q v H' → Q' v H') → sp vs H Q E → sp vs H Q' E
def MonoR (r : R2) : Prop := ∀ x y H (Q Q' : VK), (∀ v H', Q v H' → Q' v H') → r x y H Q → r x y H Q'
def MonoC (r : List V → Hp → VK → Prop) : Prop := ∀ vs H (Q Q' : VK), (∀ v H', Q v H' → Q' v H') → r vs H Q → r vs H Q'
theorem Mono.cut {te : TE} (m : Mono te) {σ : L2.St} {H : Hp} {Q : VK} (P : V → Hp → Prop) (h : te σ H P) (k : ∀ v H', P v H' → Q v H') : te σ H Q := m σ H P Q k h
theorem MonoT.cut {t : TT} (m : MonoT t) {σ : L2.St} {H : Hp} {Q : Bool → Hp → Prop} (P : Bool → Hp → Prop) (h : t σ H P) (k : ∀ b H', P b H' → Q b H') : t σ H Q := m σ H P Q k h
theorem MonoR.i0 {g : Int → Int → V} : MonoR (rI0 g) := fun _ _ _ _ _ h ⟨i, j, e1, e2, q⟩ => ⟨i, j, e1, e2, h _ _ q⟩
theorem MonoR.i {C : Int → Int → Prop} {g : Int → Int → V} : MonoR (rI C g) := fun _ _ _ _ _ h ⟨i, j, e1, e2, c, q⟩ => ⟨i, j, e1, e2, c, h _ _ q⟩
theorem MonoR.eq : MonoR rEq := fun _ _ _ _ _ h ⟨s, q⟩ => ⟨s, h _ _ q⟩
theorem MonoR.ne : MonoR rNe := fun _ _ _ _ _ h ⟨s, q⟩ => ⟨s, h _ _ q⟩
theorem MonoR.ixL {K : PySem.W.Frag} : MonoR (rIxL K) := fun _ _ _ _ _ h ⟨p, xs, i, v, e1, e2, e3, e4, q⟩ => ⟨p, xs, i, v, e1, e2, e3, e4, h _ _ q⟩
theorem MonoR.ixT {K : PySem.W.Frag} : MonoR (rIxT K) := fun _ _ _ _ _ h ⟨p, xs, i, v, e1, e2, e3, e4, q⟩ => ⟨p, xs, i, v, e1, e2, e3, e4, h _ _ q⟩
theorem MonoR.ixS : MonoR rIxS := fun _ _ _ _ _ h ⟨z, i, c, e1, e2, e3, e4, q⟩ => ⟨z, i, c, e1, e2, e3, e4, h _ _ q⟩
theorem MonoR.inn {K : PySem.W.Frag} {neg : Bool} : MonoR (rIn K neg) := fun _ _ _ _ _ h ⟨p, xs, e1, e2, e3, e4, q⟩ => ⟨p, xs, e1, e2, e3, e4, h _ _ q⟩
theorem MonoR.neD {K : PySem.W.Frag} : MonoR (rNeD K) := fun _ _ _ _ _ h ⟨d, e, a, b, c, f, q⟩ => ⟨d, e, a, b, c, f, h _ _ q⟩
theorem MonoR.eqD {K : PySem.W.Frag} : MonoR (rEqD K) := fun _ _ _ _ _ h ⟨d, e, a, b, c, f, q⟩ => ⟨d, e, a, b, c, f, h _ _ q⟩
theorem MonoR.str {C : Str → Str → Prop} {g : Str → Str → V} : MonoR (fun x y H Q => ∃ i j, x = .str i ∧ y = .str j ∧ C i j ∧ Q (g i j) H) := fun _ _ _ _ _ h ⟨i, j, a, b, c, q⟩ => ⟨i, j, a, b, c, h _ _ q⟩
theorem MonoR.str0 {g : Str → Str → V} : MonoR (fun x y H Q => ∃ i j, x = .str i ∧ y = .str j ∧ Q (g i j) H) := fun _ _ _ _ _ h ⟨i, j, a, b, q⟩ => ⟨i, j, a, b, h _ _ q⟩
theorem Mono.op' {r : R2} {ta tb : TE} (hr : MonoR r) (ha : Mono ta) (hb : Mono tb) : Mono (tOp r ta tb) := Mono.op ha hb hr
theorem Mono.tif {t : TT} {ta tb : TE} (ht : MonoT t) (ha : Mono ta) (hb : Mono tb) : Mono (tIf t ta tb) := fun σ H Q Q' h q => ht σ H _ _ (fun b H1 q1 => by
  cases b with
  | true => exact ha σ H1 _ _ h q1
  | false => exact hb σ H1 _ _ h q1) q
theorem MonoT.test {te : TE} (h : Mono te) : MonoT (tTest te) := fun σ H Q Q' k q => h σ H _ _ (fun x H1 ⟨c, e, q1⟩ => ⟨c, e, k _ _ q1⟩) q
theorem MonoT.b {te : TE} (h : Mono te) : MonoT (tB te) := fun σ H Q Q' k q => h σ H _ _ (fun x H1 ⟨c, e, q1⟩ => ⟨c, e, k _ _ q1⟩) q
theorem MonoT.not {t : TT} (h : MonoT t) : MonoT (tNot t) := fun σ H Q Q' k q => h σ H _ _ (fun b H1 q1 => k _ _ q1) q
theorem MonoT.and {t u : TT} (h : MonoT t) (g : MonoT u) : MonoT (tAnd t u) := fun σ H Q Q' k q => h σ H _ _ (fun b H1 q1 => by
  cases b with
  | true => exact g σ H1 _ _ k q1
  | false => exact k _ _ q1) q
theorem MonoT.or {t u : TT} (h : MonoT t) (g : MonoT u) : MonoT (tOr t u) := fun σ H Q Q' k q => h σ H _ _ (fun b H1 q1 => by
  cases b with
  | true => exact k _ _ q1
  | false => exact g σ H1 _ _ k q1) q
theorem MonoA.nil : MonoA tNil := fun _ _ _ _ h q => h _ _ q
theorem MonoA.cons {te : TE} {ta : TA} (h : Mono te) (g : MonoA ta) : MonoA (tCons te ta) := fun σ H Q Q' k q => h σ H _ _ (fun x H1 q1 => g σ H1 _ _ (fun vs H2 q2 => k _ _ q2) q1) q
theorem Mono.cl {sp : Sp} {ta : TA} (hs : MonoS sp) (ha : MonoA ta) : Mono (tCl sp ta) := fun σ H Q Q' k q => ha σ H _ _ (fun vs H1 q1 => hs vs H1 _ _ E0 k q1) q
theorem Mono.cb {r : List V → Hp → VK → Prop} {ta : TA} (hs : MonoC r) (ha : MonoA ta) : Mono (tCB r ta) := fun σ H Q Q' k q => ha σ H _ _ (fun vs H1 q1 => hs vs H1 _ _ k q1) q
theorem Mono.tup {ta : TA} (ha : MonoA ta) : Mono (tTup ta) := fun σ H Q Q' k q => ha σ H _ _ (fun vs H1 ⟨l, q1⟩ => ⟨l, fun p hp => k _ _ (q1 p hp)⟩) q
theorem Mono.lst {ta : TA} (ha : MonoA ta) : Mono (tLst ta) := fun σ H Q Q' k q => ha σ H _ _ (fun vs H1 ⟨l, q1⟩ => ⟨l, fun p hp => k _ _ (q1 p hp)⟩) q
/-- one of two constants -/
theorem ite_tC {c : Prop} [Decidable c] {a b : V} {σ : L2.St} {H : Hp} {Q : VK} (h : ∀ v, v = a ∨ v = b → Q v H) : if c then tC a σ H Q else tC b σ H Q := by
  split
  · exact h a (.inl rfl)
  · exact h b (.inr rfl)
theorem MonoC.two {g : Int → Int → V} : MonoC (fun xs H Q => ∃ i j, xs = [.int i, .int j] ∧ Q (g i j) H) := fun _ _ _ _ h ⟨i, j, e, q⟩ => ⟨i, j, e, h _ _ q⟩
theorem MonoC.int1 : MonoC (fun xs H Q => (∃ i, xs = [.int i] ∧ Q (.int i) H) ∨ ∃ k : Bool, xs = [.bl k] ∧ Q (.int (if k then 1 else 0)) H) := fun _ _ _ _ h q => by
  rcases q with ⟨i, e, q⟩ | ⟨i, e, q⟩
  · exact .inl ⟨i, e, h _ _ q⟩
  · exact .inr ⟨i, e, h _ _ q⟩
theorem RpL.strs {K : PySem.W.Frag} {H : Hp} : ∀ {ws : List (List Nat)}, (∀ l ∈ ws, l.length ≤ 100000) → RpL K H (ws.map Tx) (ws.map Dt.str)
  | [], _ => .nil
  | l :: ws, h => .cons (.str l (h l List.mem_cons_self)) (RpL.strs fun m q => h m (List.mem_cons_of_mem _ q))
theorem dep_strs : ∀ (ws : List (List Nat)), Dt.depL (ws.map Dt.str) = 0
  | [] => rfl
  | l :: ws => by
    show max 0 (Dt.depL (ws.map Dt.str)) = 0
    rw [dep_strs ws]
    rfl
/-- a text of the program's own as a value -/
theorem Rp.lit {K : PySem.W.Frag} {H : Hp} (s : Str) (h : s.cps.toList.length ≤ 100000 := by decide +kernel) : Rp K H (.str s) (.str s.cps.toList) := by
  have := Rp.str (K := K) (H := H) s.cps.toList h
  have e : tx s.cps.toList = s := by cases s <;> simp [tx]
  rwa [Tx, e] at this
end Pg
namespace Pg
open PySem PySem.Spec PyProof.Rows L2
/-! ### expressions that build data: what they evaluate to -/
def EvD (K : PySem.W.Frag) (te : TE) (σ : L2.St) (H : Hp) (d : Dt) : Prop := ∀ H1, Stp [] H H1 → ∀ Q : VK, (∀ v H2, Stp [] H1 H2 → Rp K H2 v d → Q v H2) → te σ H1 Q
def EvDA (K : PySem.W.Frag) (ta : TA) (σ : L2.St) (H : Hp) (ds : List Dt) : Prop := ∀ H1, Stp [] H H1 → ∀ Q : List V → Hp → Prop, (∀ vs H2, Stp [] H1 H2 → RpL K H2 vs ds → Q vs H2) → ta σ H1 Q
section
variable {K : PySem.W.Frag} {te : TE} {ta : TA} {σ : L2.St} {H : Hp} {d : Dt} {ds : List Dt}
theorem EvD.bl {b : Bool} : EvD K (tC (.bl b)) σ H (.bl b) := fun H1 _ _ k => k _ H1 (Stp.refl _ _) (.bl b)
theorem EvD.int {i : Int} : EvD K (tC (.int i)) σ H (.int i) := fun H1 _ _ k => k _ H1 (Stp.refl _ _) (.int i)
theorem EvD.non : EvD K (tC .non) σ H .non := fun H1 _ _ k => k _ H1 (Stp.refl _ _) .non
theorem EvD.str {s : Str} (h : s.cps.toList.length ≤ 100000 := by decide +kernel) : EvD K (tC (.str s)) σ H (.str s.cps.toList) := fun H1 _ _ k => k _ H1 (Stp.refl _ _) (Rp.lit s h)
theorem EvD.var {i : Nat} {v : V} (r : Rp K H v d) (e : σ[i]? = some (some v) := by rfl) : EvD K (tVar i) σ H d := fun H1 s _ k => ⟨v, e, k v H1 (Stp.refl _ _) (r.stp s Lsts.nil)⟩
theorem EvDA.nil : EvDA K tNil σ H [] := fun H1 _ _ k => k [] H1 (Stp.refl _ _) .nil
theorem EvDA.cons (h : EvD K te σ H d) (g : EvDA K ta σ H ds) : EvDA K (tCons te ta) σ H (d :: ds) := fun H1 s Q k =>
  h H1 s _ fun v H2 s2 r => g H2 (s.trans s2) _ fun vs H3 s3 rs => k (v :: vs) H3 (s2.trans s3) (.cons (r.stp s3 Lsts.nil) rs)
theorem EvD.tup (h : EvDA K ta σ H ds) (hl : ds.length ≤ 1000) : EvD K (tTup ta) σ H (.tup ds) := fun H1 s Q k =>
  h H1 s _ fun vs H2 s2 rs => ⟨sz (by rw [rs.len]; omega), fun p np => k _ _ (s2.new' np) (.tup (SqT.of upd_same) (by rw [rs.len]; omega) (rs.stp (Stp.new np []) Lsts.nil))⟩
theorem EvD.lst (h : EvDA K ta σ H ds) (hl : ds.length ≤ 1000) : EvD K (tLst ta) σ H .lst := fun H1 s Q k =>
  h H1 s _ fun vs H2 s2 rs => ⟨sz (by rw [rs.len]; omega), fun p np => k _ _ (s2.new' np) (.lst upd_same)⟩
theorem EvD.exc {C : Addr} (h : EvD K te σ H d) : EvD K (fun σ H Q => te σ H fun _ H1 => ∀ a, H1 a = none → Q (.ref a) (upd H1 a (ExO (.ref C) a))) σ H .obj := fun H1 s Q k =>
  h H1 s _ fun v H2 s2 _ => fun a na => k _ _ (s2.new' na) (.obj upd_same)
theorem EvD.cat {tb : TE} {a b : List Nat} (h : EvD K te σ H (.str a)) (g : EvD K tb σ H (.str b)) (hl : a.length + b.length ≤ 100000) : EvD K (tOp (fun x y H Q => ∃ i j, x = .str i ∧ y = .str j ∧ i.length + j.length ≤ sizeLine ∧ Q (.str (i ++ j)) H) te tb) σ H (.str (a ++ b)) := fun H1 s Q k =>
  h H1 s _ fun v H2 s2 r => g H2 (s.trans s2) _ fun u H3 s3 q => by
    cases r with
    | str _ h1 =>
      cases q with
      | str _ h2 =>
        refine ⟨tx a, tx b, rfl, rfl, by rw [tx_len, tx_len]; exact sz hl, ?_⟩
        rw [tx_app]
        exact k _ _ (s2.trans s3) (.str _ (by rw [List.length_append]; exact hl))
theorem EvD.pow {i j : Int} (h : CPow i j) : EvD K (tOp (rI CPow fun i j => .int (i ^ j.toNat)) (tC (.int i)) (tC (.int j))) σ H (.int (i ^ j.toNat)) := fun H1 s Q k =>
  ⟨i, j, rfl, rfl, h, k _ _ (Stp.refl _ _) (.int _)⟩
theorem EvD.neg {i : Int} : EvD K (tUn (rU fun i => .int (-i)) (tC (.int i))) σ H (.int (-i)) := fun H1 s Q k => ⟨i, rfl, k _ _ (Stp.refl _ _) (.int _)⟩
/-- list(t) of a tuple -/
theorem EvD.list (h : EvD K te σ H (.tup ds)) : EvD K (tCB (fun xs H Q => ∃ p ys, xs = [.ref p] ∧ (SqL K H p ys ∨ SqT K H p ys) ∧ ∀ l, H l = none → Q (.ref l) (upd H l (.lst ys))) (tCons te tNil)) σ H .lst := fun H1 s Q k =>
  h H1 s _ fun v H2 s2 r => by
    cases r with
    | tup hs hn rl => exact ⟨_, _, rfl, .inr hs, fun l nl => k _ _ (s2.new' nl) (.lst upd_same)⟩
theorem EvDA.use (h : EvDA K ta σ H ds) {Q : List V → Hp → Prop} (k : ∀ vs H2, Stp [] H H2 → RpL K H2 vs ds → Q vs H2) : ta σ H Q := h H (Stp.refl _ _) Q k
theorem EvD.use (h : EvD K te σ H d) {Q : VK} (k : ∀ v H2, Stp [] H H2 → Rp K H2 v d → Q v H2) : te σ H Q := h H (Stp.refl _ _) Q k
/-- a new list of data -/
theorem EvDA.newl (h : EvDA K ta σ H ds) (hl : ds.length ≤ 1000) {Q : VK} (k : ∀ p vs H2, Stp [] H H2 → H p = none → H2 p = some (.lst vs) → RpL K H2 vs ds → Q (.ref p) H2) : tLst ta σ H Q :=
  h.use fun vs H2 s rs => ⟨sz (by rw [rs.len]; omega), fun p np => k p vs _ (s.new' np) (s.fresh (fun m => nomatch m) np) upd_same (rs.stp (Stp.new np []) Lsts.nil)⟩
end
/-! ### tuples put together, cut -/
theorem catA_use {K : PySem.W.Frag} {H : Hp} {a b : Addr} {xs ys : List V} {Q : VK} (ha : SqT K H a xs) (hb : SqT K H b ys) (hl : xs.length + ys.length ≤ 100000) (k : ∀ p H', Stp [] H H' → SqT K H' p (xs ++ ys) → Q (.ref p) H') : rCatA K (.ref a) (.ref b) H Q := by
  refine ⟨a, b, xs, ys, rfl, rfl, ha, hb, sz hl, fun e => ?_, fun _ e => ?_, fun _ _ p np => ?_⟩
  · subst e
    exact k b H (Stp.refl _ _) hb
  · subst e
    refine k a H (Stp.refl _ _) ?_
    rw [List.append_nil]
    exact ha
  · exact k p _ (Stp.new np _) (SqT.of upd_same)
theorem slA_use {K : PySem.W.Frag} {H : Hp} {a : Addr} {xs : List V} {lo hi : Option Int} {Q : VK} (ha : SqT K H a xs) (k : ∀ p H', Stp [] H H' → SqT K H' p (cutV xs lo hi) → Q (.ref p) H') : rSlA K (.ref a) lo hi H Q := by
  refine ⟨a, xs, rfl, ha, fun ⟨e1, e2⟩ => ?_, fun _ p np => ?_⟩
  · refine k a H (Stp.refl _ _) ?_
    have e : cutV xs lo hi = xs := by
      unfold cutV
      rw [e1, e2, List.drop_zero, Nat.sub_zero, List.take_length]
    rw [e]
    exact ha
  · exact k p _ (Stp.new np _) (SqT.of upd_same)
theorem cut_upto {xs : List V} (k : Nat) : cutV xs none (some (k : Int)) = xs.take k := by
  unfold cutV
  rw [HT.sIx_none, HT.sIx_nat, List.drop_zero, Nat.sub_zero]
  rcases Nat.le_total k xs.length with h | h
  · rw [Nat.min_eq_left h]
  · rw [Nat.min_eq_right h, List.take_of_length_le (Nat.le_refl _), List.take_of_length_le h]
theorem cut_from {xs : List V} (k : Nat) : cutV xs (some (k : Int)) none = xs.drop k := by
  unfold cutV
  rw [HT.sIx_none, HT.sIx_nat]
  rcases Nat.le_total k xs.length with h | h
  · rw [Nat.min_eq_left h, List.take_of_length_le (by rw [List.length_drop]; exact Nat.le_refl _)]
  · rw [Nat.min_eq_right h, List.drop_length, List.drop_of_length_le h, List.take_nil]
theorem RpL.take {K : PySem.W.Frag} {H : Hp} : ∀ {vs : List V} {ds : List Dt} (n : Nat), RpL K H vs ds → RpL K H (vs.take n) (ds.take n)
  | _, _, 0, _ => by rw [List.take_zero, List.take_zero]; exact .nil
  | _, [], _ + 1, .nil => .nil
  | _, _ :: _, n + 1, .cons h r => .cons h (RpL.take n r)
theorem RpL.drop {K : PySem.W.Frag} {H : Hp} : ∀ {vs : List V} {ds : List Dt} (n : Nat), RpL K H vs ds → RpL K H (vs.drop n) (ds.drop n)
  | _, _, 0, r => r
  | _, [], _ + 1, .nil => .nil
  | _, _ :: _, n + 1, .cons _ r => RpL.drop n r
/-! ### heads of statements -/
theorem asg_name {te : TE} {i : Nat} {u : TS} {D : Ends} {σ : L2.St} {H : Hp} (h : te σ H fun x H1 => u D (σ.set i (some x)) H1) : tSeq (tAsg te (gName i)) u D σ H := h
theorem op_var {r : R2} {i : Nat} {tb : TE} {σ : L2.St} {H : Hp} {Q : VK} {v : V} (e : σ[i]? = some (some v)) (h : tb σ H fun y H2 => r v y H2 Q) : tOp r (tVar i) tb σ H Q := ⟨v, e, h⟩
theorem nopart {σ : L2.St} {H : Hp} {Q : Option Int → Hp → Prop} (h : Q none H) : tNoPart σ H Q := h
end Pg
namespace Pv
open PySem PySem.Spec PyProof.Rows L2 Pg
/-! ### values with all that is in them -/
inductive D where
  | non | bl (b : Bool) | int (i : Int) | str (l : List Nat) | tup (ds : List D) | lst (ds : List D) | obj (C : Addr)
mutual
def D.old : D → Dt
  | .non => .non
  | .bl b => .bl b
  | .int i => .int i
  | .str l => .str l
  | .tup ds => .tup (D.olds ds)
  | .lst _ => .lst
  | .obj _ => .obj
def D.olds : List D → List Dt
  | [] => []
  | d :: ds => d.old :: D.olds ds
end
def D.ty (d : D) : Option String := d.old.ty
/-- isinstance(d, T) -/
def D.isi (T : String) : D → Bool
  | .bl _ => T == "bool" || T == "int"
  | .int _ => T == "int"
  | .str _ => T == "str"
  | .tup _ => T == "tuple"
  | .lst _ => T == "list"
  | _ => false
/-- what the class of an object says -/
structure OkC (K : PySem.W.Frag) (C : Addr) : Prop where
  exc : ExcC K C
  is_str : PySem.W.kitOne K (.ref C) (.type "str") = some false
  is_int : PySem.W.kitOne K (.ref C) (.type "int") = some false
  is_bool : PySem.W.kitOne K (.ref C) (.type "bool") = some false
  is_tuple : PySem.W.kitOne K (.ref C) (.type "tuple") = some false
  is_list : PySem.W.kitOne K (.ref C) (.type "list") = some false
mutual
/-- v is d; no list in it stands at an address of S -/
inductive Rv (K : PySem.W.Frag) (S : List Addr) (H : Hp) : V → D → Prop
  | non : Rv K S H .non .non
  | bl (b : Bool) : Rv K S H (.bl b) (.bl b)
  | int (i : Int) : Rv K S H (.int i) (.int i)
  | str (l : List Nat) (h : l.length ≤ 100000) : Rv K S H (Tx l) (.str l)
  | tup {a : Addr} {vs : List V} {ds : List D} : SqT K H a vs → vs.length ≤ 100000 → RvL K S H vs ds → Rv K S H (.ref a) (.tup ds)
  | lst {a : Addr} {vs : List V} {ds : List D} : H a = some (.lst vs) → a ∉ S → vs.length ≤ 100000 → RvL K S H vs ds → Rv K S H (.ref a) (.lst ds)
  | obj {a C : Addr} : H a = some (ExO (.ref C) a) → OkC K C → Rv K S H (.ref a) (.obj C)
inductive RvL (K : PySem.W.Frag) (S : List Addr) (H : Hp) : List V → List D → Prop
  | nil : RvL K S H [] []
  | cons {v : V} {vs : List V} {d : D} {ds : List D} : Rv K S H v d → RvL K S H vs ds → RvL K S H (v :: vs) (d :: ds)
end
section
variable {K : PySem.W.Frag} {S : List Addr} {H H' : Hp}
mutual
theorem Rv.old : ∀ {v : V} {d : D}, Rv K S H v d → Rp K H v d.old
  | _, .non, .non => .non
  | _, .bl _, .bl b => .bl b
  | _, .int _, .int i => .int i
  | _, .str _, .str x h => .str x h
  | _, .tup ds, .tup h n r => .tup h n (RvL.old r)
  | _, .lst _, .lst h _ _ _ => .lst h
  | _, .obj _, .obj h _ => .obj h
theorem RvL.old : ∀ {vs : List V} {ds : List D}, RvL K S H vs ds → RpL K H vs (D.olds ds)
  | _, [], .nil => .nil
  | _, _ :: _, .cons h r => .cons (Rv.old h) (RvL.old r)
end
mutual
theorem Rv.fr {S' : List Addr} (s : Stp S' H H') (l : Lsts H S') (sub : ∀ x ∈ S', x ∈ S) : ∀ {v : V} {d : D}, Rv K S H v d → Rv K S H' v d
  | _, .non, .non => .non
  | _, .bl _, .bl b => .bl b
  | _, .int _, .int i => .int i
  | _, .str _, .str x h => .str x h
  | _, .tup ds, .tup h n r => .tup (sqt_stp s l h) n (RvL.fr s l sub r)
  | _, .lst ds, .lst h o n r => .lst (s.kp _ _ (fun m => o (sub _ m)) h) o n (RvL.fr s l sub r)
  | _, .obj _, .obj (a := a) (C := C) h k => by
    refine .obj (C := C) (s.kp a _ (fun m => ?_) h) k
    obtain ⟨xs, e⟩ := l a m
    rw [h] at e
    cases e
theorem RvL.fr {S' : List Addr} (s : Stp S' H H') (l : Lsts H S') (sub : ∀ x ∈ S', x ∈ S) : ∀ {vs : List V} {ds : List D}, RvL K S H vs ds → RvL K S H' vs ds
  | _, [], .nil => .nil
  | _, _ :: _, .cons h r => .cons (Rv.fr s l sub h) (RvL.fr s l sub r)
end
theorem Rv.stp {v : V} {d : D} (r : Rv K S H v d) (s : Stp S H H') (l : Lsts H S) : Rv K S H' v d := Rv.fr s l (fun _ m => m) r
theorem RvL.stp {vs : List V} {ds : List D} (r : RvL K S H vs ds) (s : Stp S H H') (l : Lsts H S) : RvL K S H' vs ds := RvL.fr s l (fun _ m => m) r
theorem Rv.up {v : V} {d : D} (r : Rv K S H v d) (s : Stp [] H H') : Rv K S H' v d := Rv.fr s Lsts.nil (fun _ m => nomatch m) r
theorem RvL.up {vs : List V} {ds : List D} (r : RvL K S H vs ds) (s : Stp [] H H') : RvL K S H' vs ds := RvL.fr s Lsts.nil (fun _ m => nomatch m) r
mutual
theorem Rv.sub {S' : List Addr} (h : ∀ x ∈ S', x ∈ S) : ∀ {v : V} {d : D}, Rv K S H v d → Rv K S' H v d
  | _, .non, .non => .non
  | _, .bl _, .bl b => .bl b
  | _, .int _, .int i => .int i
  | _, .str _, .str x h => .str x h
  | _, .tup ds, .tup q n r => .tup q n (RvL.sub h r)
  | _, .lst ds, .lst q o n r => .lst q (fun m => o (h _ m)) n (RvL.sub h r)
  | _, .obj _, .obj q k => .obj q k
theorem RvL.sub {S' : List Addr} (h : ∀ x ∈ S', x ∈ S) : ∀ {vs : List V} {ds : List D}, RvL K S H vs ds → RvL K S' H vs ds
  | _, [], .nil => .nil
  | _, _ :: _, .cons q r => .cons (Rv.sub h q) (RvL.sub h r)
end
theorem RvL.len : ∀ {vs : List V} {ds : List D}, RvL K S H vs ds → vs.length = ds.length
  | _, [], .nil => rfl
  | _, _ :: _, .cons _ r => by rw [List.length_cons, List.length_cons, RvL.len r]
theorem RvL.get : ∀ {vs : List V} {ds : List D} {i : Nat} {v : V}, RvL K S H vs ds → vs[i]? = some v → ∃ d, ds[i]? = some d ∧ Rv K S H v d
  | _, [], _, _, .nil, e => by simp at e
  | _, d :: _, 0, _, .cons h _, e => by
    simp at e
    subst e
    exact ⟨d, rfl, h⟩
  | _, _ :: _, i + 1, v, .cons _ r, e => RvL.get (i := i) (v := v) r (by simpa using e)
theorem RvL.app : ∀ {vs ws : List V} {ds es : List D}, RvL K S H vs ds → RvL K S H ws es → RvL K S H (vs ++ ws) (ds ++ es)
  | _, _, [], _, .nil, q => q
  | _, _, _ :: _, _, .cons h r, q => .cons h (RvL.app r q)
theorem RvL.take : ∀ {vs : List V} {ds : List D} (n : Nat), RvL K S H vs ds → RvL K S H (vs.take n) (ds.take n)
  | _, _, 0, _ => by rw [List.take_zero, List.take_zero]; exact .nil
  | _, [], _ + 1, .nil => .nil
  | _, _ :: _, n + 1, .cons h r => .cons h (RvL.take n r)
theorem RvL.drop : ∀ {vs : List V} {ds : List D} (n : Nat), RvL K S H vs ds → RvL K S H (vs.drop n) (ds.drop n)
  | _, _, 0, r => r
  | _, [], _ + 1, .nil => .nil
  | _, _ :: _, n + 1, .cons _ r => RvL.drop n r
theorem RvL.rev : ∀ {vs : List V} {ds : List D}, RvL K S H vs ds → RvL K S H vs.reverse ds.reverse
  | _, [], .nil => .nil
  | _, _ :: _, .cons h r => by
    rw [List.reverse_cons, List.reverse_cons]
    exact RvL.app (RvL.rev r) (.cons h .nil)
theorem RvL.pick {vs : List V} {ds : List D} {i : Int} (r : RvL K S H vs ds) (h0 : 0 ≤ i) (h1 : i < (ds.length : Int)) : ∃ v d, d ∈ ds ∧ Rv K S H v d ∧ atI vs i = some v := by
  obtain ⟨k, rfl⟩ := Int.eq_ofNat_of_zero_le h0
  have hk : k < vs.length := by rw [r.len]; omega
  obtain ⟨d, hd, rd⟩ := r.get (List.getElem?_eq_getElem hk)
  exact ⟨vs[k], d, List.mem_of_getElem? hd, rd, atI_nat (List.getElem?_eq_getElem hk)⟩
/-- a text of the program's own -/
def wd (s : Str) : D := .str s.cps.toList
theorem tx_cps (s : Str) : tx s.cps.toList = s := by cases s <;> simp [tx]
theorem Rv.lit (s : Str) (h : s.cps.toList.length ≤ 100000 := by decide +kernel) : Rv K S H (.str s) (wd s) := by
  have := Rv.str (K := K) (S := S) (H := H) s.cps.toList h
  rwa [Tx, tx_cps] at this
theorem out_new {p : Addr} (l : Lsts H S) (h : H p = none) : p ∉ S := fun m => by
  obtain ⟨xs, e⟩ := l p m
  rw [h] at e
  cases e
/-- a new tuple, a new list -/
theorem Rv.newT {p : Addr} {vs : List V} {ds : List D} (np : H p = none) (r : RvL K S H vs ds) (h : ds.length ≤ 100000) : Rv K S (upd H p (.tup vs)) (.ref p) (.tup ds) := .tup (SqT.of upd_same) (by rw [r.len]; exact h) (r.up (Stp.new np []))
theorem Rv.newL {p : Addr} {vs : List V} {ds : List D} (l : Lsts H S) (np : H p = none) (r : RvL K S H vs ds) (h : ds.length ≤ 100000) : Rv K S (upd H p (.lst vs)) (.ref p) (.lst ds) := .lst upd_same (out_new l np) (by rw [r.len]; exact h) (r.up (Stp.new np []))
theorem Lsts.up {H H' : Hp} (l : Lsts H S) (s : Stp [] H H') : Lsts H' S := l.stp s
end
/-! ### type(x) is T -/
theorem D.ty_old (d : D) : d.old.ty = d.ty := rfl
theorem ty_non : D.non.ty = some "NoneType" := rfl
theorem ty_bl {b : Bool} : (D.bl b).ty = some "bool" := rfl
theorem ty_int {i : Int} : (D.int i).ty = some "int" := rfl
theorem ty_str {l : List Nat} : (D.str l).ty = some "str" := rfl
theorem ty_tup {ds : List D} : (D.tup ds).ty = some "tuple" := by unfold D.ty D.old; rfl
theorem ty_lst {ds : List D} : (D.lst ds).ty = some "list" := by unfold D.ty D.old; rfl
theorem ty_obj {C : Addr} : (D.obj C).ty = none := rfl
theorem D.lst_of {d : D} (h : d.ty = some "list") : ∃ ds, d = .lst ds := by
  cases d with
  | lst ds => exact ⟨ds, rfl⟩
  | tup ds => rw [ty_tup] at h; exact absurd h (by decide)
  | obj C => rw [ty_obj] at h; cases h
  | non => exact absurd h (by rw [ty_non]; decide)
  | bl b => exact absurd h (by rw [ty_bl]; decide)
  | int i => exact absurd h (by rw [ty_int]; decide)
  | str l => exact absurd h (by rw [ty_str]; decide)
theorem D.tup_of {d : D} (h : d.ty = some "tuple") : ∃ ds, d = .tup ds := by
  cases d with
  | tup ds => exact ⟨ds, rfl⟩
  | lst ds => rw [ty_lst] at h; exact absurd h (by decide)
  | obj C => rw [ty_obj] at h; cases h
  | non => exact absurd h (by rw [ty_non]; decide)
  | bl b => exact absurd h (by rw [ty_bl]; decide)
  | int i => exact absurd h (by rw [ty_int]; decide)
  | str l => exact absurd h (by rw [ty_str]; decide)
theorem D.str_of {d : D} (h : d.ty = some "str") : ∃ l, d = .str l := by
  cases d with
  | str ds => exact ⟨ds, rfl⟩
  | lst ds => rw [ty_lst] at h; exact absurd h (by decide)
  | tup ds => rw [ty_tup] at h; exact absurd h (by decide)
  | obj C => rw [ty_obj] at h; cases h
  | non => exact absurd h (by rw [ty_non]; decide)
  | bl b => exact absurd h (by rw [ty_bl]; decide)
  | int i => exact absurd h (by rw [ty_int]; decide)
theorem D.int_of {d : D} (h : d.ty = some "int") : ∃ i, d = .int i := by
  cases d with
  | int i => exact ⟨i, rfl⟩
  | lst ds => rw [ty_lst] at h; exact absurd h (by decide)
  | tup ds => rw [ty_tup] at h; exact absurd h (by decide)
  | obj C => rw [ty_obj] at h; cases h
  | non => exact absurd h (by rw [ty_non]; decide)
  | bl b => exact absurd h (by rw [ty_bl]; decide)
  | str l => exact absurd h (by rw [ty_str]; decide)
/-! ### isinstance -/
def rIsD (K : PySem.W.Frag) (T : String) : List V → Hp → VK → Prop := fun xs H Q => ∃ (S : List Addr) (x : V) (d : D), xs = [x, .ty T] ∧ Rv K S H x d ∧ Q (.bl (d.isi T)) H
section
variable {X : Cx} {T : String}
theorem tyx_of {K : PySem.W.Frag} {S : List Addr} {H : Hp} {x : V} {d : D} (r : Rv K S H x d) (t : String) (h : d.ty = some t) : TyX K H x (.type t) := by
  cases r with
  | non => rw [ty_non] at h; cases h; exact .base .non
  | bl b => rw [ty_bl] at h; cases h; exact .base (.bl b)
  | int i => rw [ty_int] at h; cases h; exact .base (.int i)
  | str l hl => rw [ty_str] at h; cases h; exact .base (.str _)
  | lst hs _ _ _ => rw [ty_lst] at h; cases h; exact .base (.lst hs)
  | obj ho _ => rw [ty_obj] at h; cases h
  | tup hs _ _ =>
    rw [ty_tup] at h
    cases h
    rcases hs with (hs | ⟨o, hs⟩) | ⟨o, its, n, e, c, _⟩
    · exact .base (.tup hs)
    · exact .fTuple hs
    · exact .kTuple e c
theorem kit_str : ∀ t : String, t ∈ ["NoneType", "bool", "int", "str", "tuple", "list"] → kitB t "str" = some (t == "str") := by decide +kernel
theorem kit_int : ∀ t : String, t ∈ ["NoneType", "bool", "int", "str", "tuple", "list"] → kitB t "int" = some (t == "bool" || t == "int") := by decide +kernel
theorem kit_bool : ∀ t : String, t ∈ ["NoneType", "bool", "int", "str", "tuple", "list"] → kitB t "bool" = some (t == "bool") := by decide +kernel
theorem kit_tuple : ∀ t : String, t ∈ ["NoneType", "bool", "int", "str", "tuple", "list"] → kitB t "tuple" = some (t == "tuple") := by decide +kernel
theorem kit_list : ∀ t : String, t ∈ ["NoneType", "bool", "int", "str", "tuple", "list"] → kitB t "list" = some (t == "list") := by decide +kernel
theorem kit_d {d : D} {t : String} (h : d.ty = some t) (hT : T ∈ ["str", "int", "bool", "tuple", "list"]) : kitB t T = some (d.isi T) := by
  simp only [List.mem_cons, List.not_mem_nil, or_false] at hT
  have go : ∀ u, d.ty = some u → u = t := fun u e => by rw [h] at e; exact (Option.some.inj e).symm
  rcases hT with rfl | rfl | rfl | rfl | rfl <;> cases d
  all_goals first
    | (have q := go _ ty_non; subst q; first | exact kit_str _ (by decide) | exact kit_int _ (by decide) | exact kit_bool _ (by decide) | exact kit_tuple _ (by decide) | exact kit_list _ (by decide))
    | (have q := go _ ty_bl; subst q; first | exact kit_str _ (by decide) | exact kit_int _ (by decide) | exact kit_bool _ (by decide) | exact kit_tuple _ (by decide) | exact kit_list _ (by decide))
    | (have q := go _ ty_int; subst q; first | exact kit_str _ (by decide) | exact kit_int _ (by decide) | exact kit_bool _ (by decide) | exact kit_tuple _ (by decide) | exact kit_list _ (by decide))
    | (have q := go _ ty_str; subst q; first | exact kit_str _ (by decide) | exact kit_int _ (by decide) | exact kit_bool _ (by decide) | exact kit_tuple _ (by decide) | exact kit_list _ (by decide))
    | (have q := go _ ty_tup; subst q; first | exact kit_str _ (by decide) | exact kit_int _ (by decide) | exact kit_bool _ (by decide) | exact kit_tuple _ (by decide) | exact kit_list _ (by decide))
    | (have q := go _ ty_lst; subst q; first | exact kit_str _ (by decide) | exact kit_int _ (by decide) | exact kit_bool _ (by decide) | exact kit_tuple _ (by decide) | exact kit_list _ (by decide))
    | (rw [ty_obj] at h; cases h)
theorem D.has_ty (d : D) : (∃ t, d.ty = some t) ∨ ∃ C, d = .obj C := by
  cases d with
  | obj C => exact .inr ⟨C, rfl⟩
  | non => exact .inl ⟨_, ty_non⟩
  | bl b => exact .inl ⟨_, ty_bl⟩
  | int i => exact .inl ⟨_, ty_int⟩
  | str l => exact .inl ⟨_, ty_str⟩
  | tup ds => exact .inl ⟨_, ty_tup⟩
  | lst ds => exact .inl ⟨_, ty_lst⟩
theorem call_isiD (hT : T ∈ ["str", "int", "bool", "tuple", "list"]) : CallR X (.builtin "isinstance") (rIsD X.K T) := by
  intro pins s σ H xs us Q I r h
  obtain ⟨S, x, d, rfl, rv, q⟩ := h
  rcases d.has_ty with ⟨t, ht⟩ | ⟨C, rfl⟩
  · exact call_isi pins s σ H _ us Q I r ⟨x, .ty T, _, _, d.isi T, rfl, .ty T, tyx_of rv t ht, kit_ty (kit_d ht hT), q⟩
  · cases rv with
    | obj ho ok =>
      rename_i a
      obtain ⟨u1, u2, rfl, r1, r2⟩ := vals2 r
      cases r1
      cases (show u2 = Value.type T from r2)
      obtain ⟨⟨oe, vs, e1, ⟨e2, e3⟩, e4, _⟩, _⟩ := I.hok _ _ ho
      have J : PySem.W.InstAt s.heap a oe C none := by
        obtain ⟨oc, od, oda, osl⟩ := oe
        dsimp only at e2 e3 e4
        subst e2 e3 e4
        exact ⟨e1, rfl, rfl, trivial⟩
      have kit : PySem.W.kitOne X.K (.ref C) (.type T) = some ((D.obj C).isi T) := by
        simp only [List.mem_cons, List.not_mem_nil, or_false] at hT
        rcases hT with rfl | rfl | rfl | rfl | rfl
        · exact ok.is_str
        · exact ok.is_int
        · exact ok.is_bool
        · exact ok.is_tuple
        · exact ok.is_list
      exact PySem.W.kia_one (PySem.W.handS_kitx_exc ok.exc.hg ok.exc.hk ok.exc.hs ok.exc.hd ok.exc.ha ok.exc.hn ok.exc.ht ok.exc.hm) I.kIn J kit (fun z => nomatch z) fun tk => ⟨.bl ((D.obj C).isi T), H, I.kept (t' := tk) fun _ _ z => z, rfl, q⟩
end
theorem call_isiDK {X : Cx} {T : String} {K : PySem.W.Frag} (hK : X.K = K) (hT : T ∈ ["str", "int", "bool", "tuple", "list"]) : CallR X (.builtin "isinstance") (rIsD K T) := by
  subst hK
  exact call_isiD hT
/-! ### t[::-1] -/
section
variable {prog : Program} {w : World} {A : Around} {E : Value → Shared → Prop} {s : Shared}
open HT
theorem sliceApplied_rev {sl : Addr} {vl vu vs : Value} {n : Nat} {Q : Int × Int × Nat → Shared → Prop} (hs : s.heap.IsSliceOf sl vl vu vs) (pl : IsPart vl none) (pu : IsPart vu none) (ps : IsPart vs (some (-1)))
    (h : Q ((n : Int) - 1, -1, n) s) : wpAny (model prog w) A (Builtin.Slice.sliceApplied (.ref sl) (pure (n : Int))) Q E s := by
  obtain ⟨os, hos, hcs, hds⟩ := id hs
  unfold Builtin.Slice.sliceApplied Builtin.Slice.sliceFields
  refine wpAny_bind (wpAny_bind (wpAny_field hos hds (x := vl) rfl (wpAny_bind (wpAny_field hos hds (x := vu) rfl (wpAny_bind (wpAny_field hos hds (x := vs) rfl (wpAny_pure ?_)))))))
  refine wpAny_bind (slicePart_ ps ?_)
  show wpAny _ _ (if ((-1 : Int) == 0) = true then _ else _) _ _ s
  rw [if_neg (by decide)]
  refine wpAny_bind (slicePart_ pl (wpAny_bind (slicePart_ pu (wpAny_bind (wpAny_pure ?_)))))
  show wpAny _ _ (pure ((n : Int) - 1, (-1 : Int), Builtin.Slice.slicePlaces ((n : Int) - 1) (-1) (-1))) _ _ s
  have e : Builtin.Slice.slicePlaces ((n : Int) - 1) (-1) (-1) = n := by
    unfold Builtin.Slice.slicePlaces
    rw [if_neg (by decide)]
    by_cases c : (n : Int) - 1 > -1
    · rw [if_pos c, show (- -1 : Int) = 1 by decide, Int.ediv_one]
      omega
    · rw [if_neg c]
      omega
  rw [e]
  exact wpAny_pure h
theorem pick_rev (xs : Array Value) : ((List.range xs.size).filterMap fun (k : Nat) => xs[((xs.size : Int) - 1 + (k : Int) * (-1)).toNat]?).toArray = xs.toList.reverse.toArray := by
  have e : (fun (k : Nat) => xs[((xs.size : Int) - 1 + (k : Int) * (-1)).toNat]?) = (fun k => xs[xs.size - 1 - k]?) := by
    funext k
    have : ((xs.size : Int) - 1 + (k : Int) * (-1)).toNat = xs.size - 1 - k := by omega
    rw [this]
  rw [e]
  have e2 : (fun k => xs[xs.size - 1 - k]?) = (fun k => xs[k]?) ∘ fun k => xs.size - 1 - k := rfl
  rw [e2, ← List.filterMap_map, PySem.W.krv_range, List.filterMap_reverse, PySem.W.krv_all]
theorem getItem_tuple_rev {t sl : Addr} {items : Array Value} {vl vu vs : Value} {Q : Value → Shared → Prop} (ht : IsTup s.heap t items) (hs : s.heap.IsSliceOf sl vl vu vs) (pl : IsPart vl none) (pu : IsPart vu none) (ps : IsPart vs (some (-1)))
    (h : Q (.ref s.heap.objs.size) { s with heap := s.heap.push { cls := .type "tuple", data := .seq items.toList.reverse.toArray } })
    (hsz : items.size ≤ sizeLine) : wpAny (model prog w) A (getItem (.ref t) (.ref sl)) Q E s := by
  have htake : sizeOk (.seq items.toList.reverse.toArray) := by
    show items.toList.reverse.toArray.size ≤ sizeLine
    rw [List.size_toArray, List.length_reverse, Array.length_toList]
    exact hsz
  obtain ⟨os, hos, hcs, hds⟩ := id hs
  have hTs : s.TypeIs (.ref sl) "slice" := ⟨os, hos, hcs⟩
  unfold getItem
  try with_reducible refine wpAny_holding ?_
  first | refine wpAny_bind (wpAny_pure ?_) | skip
  refine wpAny_bind (wpAny_sequenceKey ht.typeIs (by decide) ?_)
  refine wpAny_bind (wpAny_callSpecial?_slot (name := Str.ofString "__getitem__") ht.typeIs PyProof.Rows.slot_tuple_getitem
    (wpAny_call_entry PyProof.Rows.slot_tuple_getitem ht.typeIs entry_tuple_getitem ?_ (args_tuple_getitem _ _)))
  show wpAny _ _ (Builtin.Tuple.tupleItemsOf (.ref t) >>= _) _ _ s
  refine wpAny_bind (tupleItemsOf_ ht ?_)
  refine wpAny_bind (wpAny_typeOf hTs ?_)
  rw [if_pos (by decide)]
  refine wpAny_bind (sliceApplied_rev hs pl pu ps ?_)
  have hno : ¬ ((((items.size : Int) - 1) == 0 && (-1 : Int) == 1 && items.size == items.size) = true) := by
    intro q
    rw [Bool.and_eq_true, Bool.and_eq_true] at q
    exact absurd q.1.2 (by decide)
  show wpAny _ _ (if (((items.size : Int) - 1) == 0 && (-1 : Int) == 1 && items.size == items.size) = true then _ else _) _ _ s
  rw [if_neg hno, pick_rev]
  first
    | exact wpAny_bind (m := Builtin.Tuple.tupleExact _) (wpAny_newObj_type (wpAny_pure ⟨_, rfl, wpAny_pure h⟩) htake)
    | exact wpAny_bind (m := Builtin.Tuple.tupleExact _) (wpAny_newObj_type (wpAny_bind (wpAny_pure (wpAny_pure ⟨_, rfl, wpAny_pure h⟩))) htake)
    | exact wpAny_bind (wpAny_bind (m := Builtin.Tuple.tupleExact _) (wpAny_newObj_type (wpAny_pure (wpAny_pure ⟨_, rfl, wpAny_pure h⟩)) htake))
    | exact wpAny_bind (wpAny_bind (m := Builtin.Tuple.tupleExact _) (wpAny_newObj_type (wpAny_pure ⟨_, rfl, wpAny_pure h⟩) htake))
end
section
variable {X : Cx}
def tRevT (K : PySem.W.Frag) (te : TE) : TE := fun σ H Q => te σ H fun x H1 => ∃ a xs, x = .ref a ∧ SqT K H1 a xs ∧ ∀ p, H1 p = none → Q (.ref p) (upd H1 p (.tup xs.reverse))
theorem pe_revT {e : Expr} {te : TE} {k : Nat} {p1 p2 p3 pos : Pos} (he : PE X e te) : PE X (.Subscript e (.Slice none none (some (.UnaryOp .USub (.Constant (.int 1) k p1) p2)) p3) pos) (tRevT X.K te) := by
  refine ⟨fun pins s σ H Q I h => ?_⟩
  refine Subscript_ (thn (he.run pins s σ H _ I h) fun v s1 ⟨x, H1, I1, r1, q1⟩ => ?_)
  obtain ⟨a, xs, ex, hx, q⟩ := q1
  subst ex
  cases r1
  have hst : PO X (some (.UnaryOp .USub (.Constant (.int 1) k p1) p2)) (tPart (tUn (rU fun i => .int (-i)) (tC (.int 1)))) := po_some (pe_un un_neg pe_int)
  refine wpAny_Slice (thn (po_none.run pins s1 σ H1 (fun o H2 => o = none ∧ H2 = H1) I1 ⟨rfl, rfl⟩) fun vl s2 ⟨l, H2, I2, pl, el, e2⟩ => ?_)
  subst el e2
  refine thn (po_none.run pins s2 σ H2 (fun o H3 => o = none ∧ H3 = H2) I2 ⟨rfl, rfl⟩) fun vu s3 ⟨u, H3, I3, pu, eu, e3⟩ => ?_
  subst eu e3
  refine thn (hst.run pins s3 σ H3 (fun o H4 => o = some (-1) ∧ H4 = H3) I3 ⟨1, rfl, -1, rfl, rfl, rfl⟩) fun vs s4 ⟨o, H4, I4, ps, eo, e4⟩ => ?_
  subst eo e4
  have I5 : Inv X pins σ H4 { s4 with heap := s4.heap.push { cls := .type "slice", data := .fields #[vl, vu, vs] } } := I4.kept (t' := s4.toks) fun b ob q => Heap.get?_push_of_some _ q
  obtain ⟨its, r, ht, hz⟩ := I5.tuple hx
  have hlen := r.length
  show wpAny (model X.prog X.w) X.A (subscriptTail e (.Slice none none (some (.UnaryOp .USub (.Constant (.int 1) k p1) p2)) p3) (.ref a) (.ref s4.heap.objs.size)) (EP X pins σ Q) X.xe { s4 with heap := s4.heap.push { cls := .type "slice", data := .fields #[vl, vu, vs] } }
  refine tail_any (ops := [.ref a, .ref s4.heap.objs.size]) ht.typeIs (PyProof.Rows.slot_tuple_getitem.lookup) ?_ (by with_unfolding_all rfl)
  refine getItem_tuple_rev ht (Heap.IsSliceOf.new _ vl vu vs) pl pu ps ?_ (by rw [List.size_toArray]; omega)
  refine ⟨.ref _, _, I5.laid (t' := s4.toks) (o := .tup xs.reverse) (fun b ob q => Heap.get?_push_of_some _ q) (Nat.le_refl _) ?_, rfl, q _ (I5.hok.fresh (Nat.le_refl _))⟩
  exact ⟨by rw [List.length_reverse]; exact hz, _, r.reverse, IsTup.new _ _⟩
end
/-! ### expressions that build values -/
def EvD (K : PySem.W.Frag) (S : List Addr) (te : TE) (σ : L2.St) (H : Hp) (d : D) : Prop := ∀ H1, Stp [] H H1 → ∀ Q : VK, (∀ v H2, Stp [] H1 H2 → Rv K S H2 v d → Q v H2) → te σ H1 Q
def EvDA (K : PySem.W.Frag) (S : List Addr) (ta : TA) (σ : L2.St) (H : Hp) (ds : List D) : Prop := ∀ H1, Stp [] H H1 → ∀ Q : List V → Hp → Prop, (∀ vs H2, Stp [] H1 H2 → RvL K S H2 vs ds → Q vs H2) → ta σ H1 Q
section
variable {K : PySem.W.Frag} {S : List Addr} {te : TE} {ta : TA} {σ : L2.St} {H : Hp} {d : D} {ds : List D}
theorem EvD.bl {b : Bool} : EvD K S (tC (.bl b)) σ H (.bl b) := fun H1 _ _ k => k _ H1 (Stp.refl _ _) (.bl b)
theorem EvD.int {i : Int} : EvD K S (tC (.int i)) σ H (.int i) := fun H1 _ _ k => k _ H1 (Stp.refl _ _) (.int i)
theorem EvD.non : EvD K S (tC .non) σ H .non := fun H1 _ _ k => k _ H1 (Stp.refl _ _) .non
theorem EvD.str {s : Str} (h : s.cps.toList.length ≤ 100000 := by decide +kernel) : EvD K S (tC (.str s)) σ H (wd s) := fun H1 _ _ k => k _ H1 (Stp.refl _ _) (Rv.lit s h)
theorem EvD.var {i : Nat} {v : V} (r : Rv K S H v d) (e : σ[i]? = some (some v) := by rfl) : EvD K S (tVar i) σ H d := fun H1 s _ k => ⟨v, e, k v H1 (Stp.refl _ _) (r.up s)⟩
theorem EvDA.nil : EvDA K S tNil σ H [] := fun H1 _ _ k => k [] H1 (Stp.refl _ _) .nil
theorem EvDA.cons (h : EvD K S te σ H d) (g : EvDA K S ta σ H ds) : EvDA K S (tCons te ta) σ H (d :: ds) := fun H1 s Q k =>
  h H1 s _ fun v H2 s2 r => g H2 (s.trans s2) _ fun vs H3 s3 rs => k (v :: vs) H3 (s2.trans s3) (.cons (r.up s3) rs)
theorem EvD.tup (h : EvDA K S ta σ H ds) (hl : ds.length ≤ 1000) : EvD K S (tTup ta) σ H (.tup ds) := fun H1 s Q k =>
  h H1 s _ fun vs H2 s2 rs => ⟨sz (by rw [rs.len]; omega), fun p np => k _ _ (s2.new' np) (Rv.newT np rs (by omega))⟩
theorem EvD.lst (L : Lsts H S) (h : EvDA K S ta σ H ds) (hl : ds.length ≤ 1000) : EvD K S (tLst ta) σ H (.lst ds) := fun H1 s Q k =>
  h H1 s _ fun vs H2 s2 rs => ⟨sz (by rw [rs.len]; omega), fun p np => k _ _ (s2.new' np) (Rv.newL (Pv.Lsts.up L (s.trans s2)) np rs (by omega))⟩
theorem EvD.exc {C : Addr} (ok : OkC K C) (h : EvD K S te σ H d) : EvD K S (fun σ H Q => te σ H fun _ H1 => ∀ a, H1 a = none → Q (.ref a) (upd H1 a (ExO (.ref C) a))) σ H (.obj C) := fun H1 s Q k =>
  h H1 s _ fun v H2 s2 _ => fun a na => k _ _ (s2.new' na) (.obj upd_same ok)
theorem EvD.pow {i j : Int} (h : CPow i j) : EvD K S (tOp (rI CPow fun i j => .int (i ^ j.toNat)) (tC (.int i)) (tC (.int j))) σ H (.int (i ^ j.toNat)) := fun H1 s Q k =>
  ⟨i, j, rfl, rfl, h, k _ _ (Stp.refl _ _) (.int _)⟩
theorem EvD.neg {i : Int} : EvD K S (tUn (rU fun i => .int (-i)) (tC (.int i))) σ H (.int (-i)) := fun H1 s Q k => ⟨i, rfl, k _ _ (Stp.refl _ _) (.int _)⟩
theorem EvDA.use (h : EvDA K S ta σ H ds) {Q : List V → Hp → Prop} (k : ∀ vs H2, Stp [] H H2 → RvL K S H2 vs ds → Q vs H2) : ta σ H Q := h H (Stp.refl _ _) Q k
theorem EvD.use (h : EvD K S te σ H d) {Q : VK} (k : ∀ v H2, Stp [] H H2 → Rv K S H2 v d → Q v H2) : te σ H Q := h H (Stp.refl _ _) Q k
theorem EvDA.newl (h : EvDA K S ta σ H ds) (hl : ds.length ≤ 1000) {Q : VK} (k : ∀ p vs H2, Stp [] H H2 → H p = none → H2 p = some (.lst vs) → RvL K S H2 vs ds → Q (.ref p) H2) : tLst ta σ H Q :=
  h.use fun vs H2 s rs => ⟨sz (by rw [rs.len]; omega), fun p np => k p vs _ (s.new' np) (s.fresh (fun m => nomatch m) np) upd_same (rs.up (Stp.new np []))⟩
end
/-! ### lists of truths, compared -/
theorem dp_bools {K : PySem.W.Frag} {H : Hp} : ∀ (bs : List Bool), DpAll K H (bs.map V.bl) (bs.map PyData.bool)
  | [] => .nil
  | b :: bs => .cons (.bl b) (dp_bools bs)
theorem lay_bools : ∀ (bs : List Bool), PyData.canLayAll0 (bs.map PyData.bool) = true
  | [] => rfl
  | b :: bs => by
    show (PyData.canLay0 (.bool b) && PyData.canLayAll0 (bs.map PyData.bool)) = true
    rw [lay_bools bs]
    rfl
theorem dep_bools : ∀ (bs : List Bool), PyData.depthAll (bs.map PyData.bool) = 0
  | [] => rfl
  | b :: bs => by
    show max 0 (PyData.depthAll (bs.map PyData.bool)) = 0
    rw [dep_bools bs]
    rfl
theorem shaped_bools (bs : List Bool) : SeqAt.shaped (.list (bs.map PyData.bool)) = true := by
  unfold SeqAt.shaped
  rw [show PyData.canLay0 (.list (bs.map PyData.bool)) = true from lay_bools bs]
  rw [show PyData.depth (.list (bs.map PyData.bool)) = 0 + 1 by show PyData.depthAll _ + 1 = _; rw [dep_bools]]
  rfl
/-- the same list of truths twice: != says no -/
theorem ne_bools {K : PySem.W.Frag} {H : Hp} {p q : Addr} {bs : List Bool} {Q : VK} (hp : SqL K H p (bs.map V.bl)) (hq : SqL K H q (bs.map V.bl)) (k : Q (.bl false) H) : rNeD K (.ref p) (.ref q) H Q := by
  refine ⟨.list (bs.map PyData.bool), .list (bs.map PyData.bool), .lst hp (dp_bools bs), .lst hq (dp_bools bs), shaped_bools bs, shaped_bools bs, ?_⟩
  rw [SeqAt.eqv_refl _ (show PyData.canLay0 (.list (bs.map PyData.bool)) = true from lay_bools bs)]
  exact k
end Pv
namespace Pv
open PySem PySem.Spec PyProof.Rows L2 Pg
/-- the ways of an expression, joined by what they leave -/
theorem te_join {te : TE} {σ : L2.St} {H : Hp} {Q : VK} (I : V → Hp → Prop) (h : (∀ v H', I v H' → Q v H') → te σ H Q) (k : ∀ v H', I v H' → Q v H') : te σ H Q := h k
/-- xs + ys, new lists of values -/
theorem cat_use {K : PySem.W.Frag} {S : List Addr} {H : Hp} {a b : Addr} {xs ys : List V} {ds es : List D} {Q : VK} (ha : H a = some (.lst xs)) (hb : H b = some (.lst ys)) (ra : RvL K S H xs ds) (rb : RvL K S H ys es) (hl : ds.length + es.length ≤ 100000)
    (k : ∀ p, H p = none → ∀ H' zs, Stp [] H H' → H' p = some (.lst zs) → RvL K S H' zs (ds ++ es) → Q (.ref p) H') : rCat (.ref a) (.ref b) H Q :=
  ⟨a, b, xs, ys, rfl, rfl, ha, hb, by rw [ra.len, rb.len]; exact sz hl, fun p np => k p np _ _ (Stp.new np _) upd_same ((ra.app rb).up (Stp.new np _))⟩
/-- xs + ys, also of a list that is locked -/
def rCatS (K : PySem.W.Frag) : R2 := fun x y H Q => ∃ l b xs zs, x = .ref l ∧ y = .ref b ∧ SqL K H l xs ∧ SqL K H b zs ∧ xs.length + zs.length ≤ sizeLine ∧ ∀ p, H p = none → Q (.ref p) (upd H p (.lst (xs ++ zs)))
theorem op_catS {X : Cx} : OpR X (binaryOp .Add) (rCatS X.K) := by
  intro pins s σ H x y v u Q I rx ry h
  obtain ⟨l, b, xs, zs, rfl, rfl, hH, hB, hz, q⟩ := h
  cases rx
  cases ry
  obtain ⟨its, r, pl, _⟩ := I.list hH
  obtain ⟨its2, r2, pl2, _⟩ := I.list hB
  have hl := r.length
  have hl2 := r2.length
  have ea : its.toArray ++ its2.toArray = (its ++ its2).toArray := by simp
  obtain ⟨⟨cls, dd, data, sl⟩, ho, hc, n, hd⟩ := pl.isList
  obtain ⟨⟨cls2, dd2, data2, sl2⟩, ho2, hc2, n2, hd2⟩ := pl2.isList
  simp only at hc hd hc2 hd2
  subst hc hd hc2 hd2
  refine concat_meets ⟨_, ho, rfl⟩ ⟨_, ho2, rfl⟩ noFill_list_add seq_list_add PySem.F.slot_list_add PySem.F.entry_list_add (PySem.F.args_list_add_2 _ _) (list_addW l b its.toArray its2.toArray n n2 dd dd2 sl sl2 (by rw [List.size_toArray, List.size_toArray]; omega)) ⟨ho, ho2, ?_⟩
  rw [ea]
  exact ⟨.ref _, _, I.lnew (t' := s.toks) (r.append r2) (by rw [List.length_append]; omega), rfl, q _ I.fresh⟩
theorem out_of {b p : Addr} {H : Hp} {o : HO} (h : H b = some o) (np : H p = none) : p ∉ [b] := fun m => by
  rw [List.mem_singleton.mp m, h] at np
  cases np
end Pv
namespace Pv
open PySem PySem.Spec PyProof.Rows L2 Pg
section
variable {K : PySem.W.Frag} {S : List Addr} {te : TE} {ta : TA} {σ : L2.St} {H : Hp} {d : D} {ds es : List D}
theorem catT {a b : Addr} {xs ys : List V} {Q : VK} (ha : SqT K H a xs) (hb : SqT K H b ys) (ra : RvL K S H xs ds) (rb : RvL K S H ys es) (hl : ds.length + es.length ≤ 100000)
    (k : ∀ p zs H', Stp [] H H' → SqT K H' p zs → RvL K S H' zs (ds ++ es) → Q (.ref p) H') : rCatA K (.ref a) (.ref b) H Q :=
  catA_use ha hb (by rw [ra.len, rb.len]; exact hl) fun p H' s h => k p _ H' s h ((ra.app rb).up s)
theorem upT {a : Addr} {xs : List V} {n : Nat} {Q : VK} (ha : SqT K H a xs) (ra : RvL K S H xs ds) (k : ∀ p zs H', Stp [] H H' → SqT K H' p zs → RvL K S H' zs (ds.take n) → Q (.ref p) H') : rSlA K (.ref a) none (some (n : Int)) H Q :=
  slA_use ha fun p H' s h => k p _ H' s (by rwa [cut_upto] at h) ((ra.take n).up s)
theorem fromT {a : Addr} {xs : List V} {n : Nat} {Q : VK} (ha : SqT K H a xs) (ra : RvL K S H xs ds) (k : ∀ p zs H', Stp [] H H' → SqT K H' p zs → RvL K S H' zs (ds.drop n) → Q (.ref p) H') : rSlA K (.ref a) (some (n : Int)) none H Q :=
  slA_use ha fun p H' s h => k p _ H' s (by rwa [cut_from] at h) ((ra.drop n).up s)
theorem fromT1 {a : Addr} {xs : List V} {n : Nat} {Q : VK} (ha : SqT K H a xs) (ra : RvL K S H xs ds) (k : ∀ p zs H', Stp [] H H' → SqT K H' p zs → RvL K S H' zs (ds.drop (n + 1)) → Q (.ref p) H') : rSlA K (.ref a) (some ((n : Int) + 1)) none H Q :=
  Pv.fromT (n := n + 1) ha ra k
/-! more expressions -/
theorem Rv.tupE {a : V} (r : Rv K S H a (.tup ds)) : ∃ p vs, a = .ref p ∧ SqT K H p vs ∧ vs.length ≤ 100000 ∧ RvL K S H vs ds := by
  cases r with
  | tup h n r => exact ⟨_, _, rfl, h, n, r⟩
theorem EvD.list (L : Lsts H S) (h : EvD K S te σ H (.tup ds)) : EvD K S (tCB (fun xs H Q => ∃ p ys, xs = [.ref p] ∧ (SqL K H p ys ∨ SqT K H p ys) ∧ ∀ l, H l = none → Q (.ref l) (upd H l (.lst ys))) (tCons te tNil)) σ H (.lst ds) := fun H1 s Q k =>
  h H1 s _ fun v H2 s2 r => by
    obtain ⟨p, vs, rfl, hs, n, rl⟩ := r.tupE
    exact ⟨_, _, rfl, .inr hs, fun l nl => k _ _ (s2.new' nl) (Rv.newL (Pg.Lsts.stp L (s.trans s2)) nl rl (by rw [← rl.len]; exact n))⟩
theorem EvD.upT {n : Nat} (h : EvD K S te σ H (.tup ds)) : EvD K S (tSl (rSlA K) te tNoPart (tPart (tC (.int (n : Int))))) σ H (.tup (ds.take n)) := fun H1 s Q k =>
  h H1 s _ fun v H2 s2 r => by
    obtain ⟨p, vs, rfl, hs, n, rl⟩ := r.tupE
    exact ⟨_, rfl, Pv.upT hs rl fun p zs H' s3 h2 r2 => k _ _ (s2.trans s3) (.tup h2 (by rw [r2.len, List.length_take, ← rl.len]; omega) r2)⟩
theorem EvD.fromT {n : Nat} (h : EvD K S te σ H (.tup ds)) : EvD K S (tSl (rSlA K) te (tPart (tC (.int (n : Int)))) tNoPart) σ H (.tup (ds.drop n)) := fun H1 s Q k =>
  h H1 s _ fun v H2 s2 r => by
    obtain ⟨p, vs, rfl, hs, n, rl⟩ := r.tupE
    exact ⟨_, rfl, Pv.fromT hs rl fun p zs H' s3 h2 r2 => k _ _ (s2.trans s3) (.tup h2 (by rw [r2.len, List.length_drop, ← rl.len]; omega) r2)⟩
theorem EvD.catT {tb : TE} (h : EvD K S te σ H (.tup ds)) (g : EvD K S tb σ H (.tup es)) (hl : ds.length + es.length ≤ 100000) : EvD K S (tOp (rCatA K) te tb) σ H (.tup (ds ++ es)) := fun H1 s Q k =>
  h H1 s _ fun v H2 s2 r => g H2 (s.trans s2) _ fun u H3 s3 q => by
    obtain ⟨p, vs, rfl, hs, n, rl⟩ := (r.up s3).tupE
    obtain ⟨p2, vs2, rfl, hs2, n2, rl2⟩ := q.tupE
    exact Pv.catT hs hs2 rl rl2 hl fun p zs H' s4 h2 r2 => k _ _ ((s2.trans s3).trans s4) (.tup h2 (by rw [r2.len, List.length_append]; exact hl) r2)
theorem EvD.ixT {i : Nat} (h : EvD K S te σ H (.tup ds)) (e : ds[i]? = some d) : EvD K S (tOp (rIxT K) te (tC (.int (i : Int)))) σ H d := fun H1 s Q k =>
  h H1 s _ fun v H2 s2 r => by
    obtain ⟨p, vs, rfl, hs, n, rl⟩ := r.tupE
    have hi : i < vs.length := by
      rw [rl.len]
      exact (List.getElem?_eq_some_iff.mp e).1
    obtain ⟨d', e', r'⟩ := rl.get (List.getElem?_eq_getElem hi)
    rw [e] at e'
    cases e'
    exact ⟨p, vs, _, _, rfl, rfl, hs, atI_nat (List.getElem?_eq_getElem hi), k _ _ s2 r'⟩
theorem EvD.revT (h : EvD K S te σ H (.tup ds)) : EvD K S (tRevT K te) σ H (.tup ds.reverse) := fun H1 s Q k =>
  h H1 s _ fun v H2 s2 r => by
    obtain ⟨p, vs, rfl, hs, n, rl⟩ := r.tupE
    exact ⟨p, vs, rfl, hs, fun p np => k _ _ (s2.new' np) (Rv.newT np rl.rev (by rw [List.length_reverse, ← rl.len]; exact n))⟩
theorem op_newl {r : R2} {tb : TE} {Q : VK} (h : EvDA K S ta σ H ds) (hl : ds.length ≤ 1000) (k : ∀ p vs H2, Stp [] H H2 → H p = none → H2 p = some (.lst vs) → RvL K S H2 vs ds → tb σ H2 fun y H3 => r (.ref p) y H3 Q) : tOp r (tLst ta) tb σ H Q := h.newl hl k
theorem EvDA.one (h : EvD K S te σ H d) : EvDA K S (tCons te tNil) σ H [d] := .cons h .nil
end
end Pv
namespace Pv
open PySem PySem.Spec PyProof.Rows L2 Pg
/-! ### xs == [], xs any values -/
def rEqNil (K : PySem.W.Frag) : R2 := fun x y H Q => ∃ a b xs, x = .ref a ∧ y = .ref b ∧ a ≠ b ∧ SqL K H a xs ∧ SqL K H b [] ∧ Q (.bl xs.isEmpty) H
def rNeNil (K : PySem.W.Frag) : R2 := fun x y H Q => ∃ a b xs, x = .ref a ∧ y = .ref b ∧ a ≠ b ∧ SqL K H a xs ∧ SqL K H b [] ∧ Q (.bl (!xs.isEmpty)) H
theorem op_eqNil {X : Cx} (hu : X.A.units + 64 < cLine) : OpR X (compareOp .Eq) (rEqNil X.K) := by
  intro pins s σ H x y v u Q I rx ry h
  obtain ⟨a, b, xs, rfl, rfl, ne, hH, hB, q⟩ := h
  cases rx
  cases ry
  obtain ⟨its, r, pl, _⟩ := I.list hH
  obtain ⟨its2, r2, pl2, _⟩ := I.list hB
  cases r2
  cases xs with
  | nil =>
    cases r
    refine SeqAt.RcAt.lists (e := fun _ => true) pl.isList pl2.isList rfl (by omega) (fun j h1 h2 => absurd h1 (by simp)) _ _ _ _ ?_
    exact ⟨.bl true, H, I, rfl, q⟩
  | cons x xs =>
    cases r with
    | cons r1 r =>
      refine SeqAt.RcAt.lists_lengths pl.isList pl2.isList (by simp) (by omega) _ _ _ _ ?_
      exact ⟨.bl false, H, I, rfl, q⟩
theorem op_neNil {X : Cx} (hu : X.A.units + 64 < cLine) : OpR X (compareOp .NotEq) (rNeNil X.K) := by
  intro pins s σ H x y v u Q I rx ry h
  obtain ⟨a, b, xs, rfl, rfl, ne, hH, hB, q⟩ := h
  cases rx
  cases ry
  obtain ⟨its, r, pl, _⟩ := I.list hH
  obtain ⟨its2, r2, pl2, _⟩ := I.list hB
  cases r2
  cases xs with
  | nil =>
    cases r
    refine SeqAt.RcNeAt.lists (e := fun _ => true) pl.isList pl2.isList rfl (by omega) (fun j h1 h2 => absurd h1 (by simp)) _ _ _ _ ?_
    exact ⟨.bl false, H, I, rfl, q⟩
  | cons x xs =>
    cases r with
    | cons r1 r =>
      refine SeqAt.RcNeAt.lists_lengths pl.isList pl2.isList (by simp) (by omega) _ _ _ _ ?_
      exact ⟨.bl true, H, I, rfl, q⟩
/-- one value told twice -/
theorem eq_rel {v : V} {d : D} {K : PySem.W.Frag} {S : List Addr} {H : Hp} {u u' : Value} (h : Rv K S H v d) (r : RelV v u) (r' : RelV v u') (A : Around) (s : Shared) : SeqAt.EqAt A s u u' true := by
  cases h with
  | non => cases r; cases r'; exact SeqAt.EqAt.same _
  | bl b => cases r; cases r'; exact SeqAt.EqAt.same _
  | int i =>
    obtain ⟨t, rfl⟩ := r
    obtain ⟨t', rfl⟩ := r'
    have := (MeetsSeq.EqGives.int i i t t').at A s
    rwa [show (i == i) = true from beq_self_eq_true i] at this
  | str l hl =>
    obtain ⟨t, rfl⟩ := r
    obtain ⟨t', rfl⟩ := r'
    have := (SeqRoads2.EqGives.str (tx l) (tx l) t t').at A s
    rwa [show ((tx l).cps.toList == (tx l).cps.toList) = true from beq_self_eq_true _] at this
  | tup _ _ _ => cases r; cases r'; exact SeqAt.EqAt.same _
  | lst _ _ _ _ => cases r; cases r'; exact SeqAt.EqAt.same _
  | obj _ _ => cases r; cases r'; exact SeqAt.EqAt.same _
theorem vals_at : ∀ {vs : List V} {us us' : List Value} {ds : List D} {K : PySem.W.Frag} {S : List Addr} {H : Hp}, RvL K S H vs ds → Vals vs us → Vals vs us' → ∀ (A : Around) (s : Shared) (j : Nat) (h1 : j < us.length) (h2 : j < us'.length), SeqAt.EqAt A s us[j] us'[j] true
  | _, _, _, _, _, _, _, .nil, .nil, .nil, _, _, _, h1, _ => absurd h1 (Nat.not_lt_zero _)
  | _, _, _, _, _, _, _, .cons h _, .cons r _, .cons r' _, A, s, 0, _, _ => eq_rel h r r' A s
  | _, _, _, _, _, _, _, .cons _ h, .cons _ r, .cons _ r', A, s, j + 1, h1, h2 => vals_at h r r' A s j (Nat.lt_of_succ_lt_succ h1) (Nat.lt_of_succ_lt_succ h2)
/-- xs != ys, both hold the same values -/
def rNeL (K : PySem.W.Frag) : R2 := fun x y H Q => ∃ (S : List Addr) (a b : Addr) (xs : List V) (ds : List D), x = .ref a ∧ y = .ref b ∧ SqL K H a xs ∧ SqL K H b xs ∧ RvL K S H xs ds ∧ Q (.bl false) H
theorem op_neL {X : Cx} (hu : X.A.units + 64 < cLine) : OpR X (compareOp .NotEq) (rNeL X.K) := by
  intro pins s σ H x y v u Q I rx ry h
  obtain ⟨S, a, b, xs, ds, rfl, rfl, hH, hB, rv, q⟩ := h
  cases rx
  cases ry
  obtain ⟨its, r, pl, _⟩ := I.list hH
  obtain ⟨its2, r2, pl2, _⟩ := I.list hB
  have e1 := Vals.length r
  have e2 := Vals.length r2
  refine SeqAt.RcNeAt.lists (e := fun _ => true) pl.isList pl2.isList (by simp; omega) (by omega) (fun j h1 h2 => ?_) _ _ _ _ ?_
  · have := vals_at rv r r2 X.A.in1 s j (by simpa using h1) (by simpa using h2)
    simpa using this
  · refine ⟨.bl _, H, I, rfl, ?_⟩
    rw [show ((List.range its.toArray.size).all fun _ => true) = true from by simp]
    exact q
end Pv
namespace PySem.W
open PySem PySem.Spec PySem.Calls PyProof.Rows Sem
/-- what a class says of == and != : no own ones -/
structure SameC (K : Frag) (D : Addr) : Prop where
  eq : findIn K (.ref D) "__eq__" = some (some (.builtin "object.__eq__"))
  ne : findIn K (.ref D) "__ne__" = some (some (.builtin "object.__ne__"))
  sub : subIn K (.ref D) (.type "object") = some true
section
variable {prog : Program} {w : World} {A : Around} {E : Value → Shared → Prop} {K : Frag} {x D : Addr} {ox : Obj} {h : Heap} {g : Array GenState} {d : Drawn} {t : Nat} {os : OsState}
theorem sp_same {name : Str} {id : String} {args : List Value} {Q : Option Value → Shared → Prop} (LS : Looks (model prog w) h (specialOf (.ref x) name) (some (.builtin id))) (S : PySem.Slot "object" name id)
    (hcall : wpAny (model prog w) A (call (.builtin id) (.ref x :: args)) (fun v => Q (some v)) E ⟨h, g, d, t, os⟩) : wpAny (model prog w) A (callSpecialIfBound? (.ref x) name args) Q E ⟨h, g, d, t, os⟩ := by
  simp only [callSpecialIfBound?, bindSpecialIfBound?]
  refine wpAny_holding (wpAny_bind (wpAny_bind (LS.at ?_)))
  simp only [S.bind]
  refine wpAny_bind (wpAny_askSetting (wpAny_ite ?_))
  have fin : wpAny (model prog w) A (call (.builtin id) ([.ref x] ++ args) >>= fun v => Pure.pure (some v)) Q E ⟨h, g, d, t, os⟩ :=
    wpAny_bind (wpAny_mono hcall (fun v s' h' => wpAny_pure h') fun _ _ h' => h')
  split
  · exact wpAny_bind (wpAny_pure (wpAny_pure fin))
  · exact wpAny_tryCatch (wpAny_bind (wpAny_pure (wpAny_pure fin)))
theorem eq_same (C : SameC K D) (X : K.In h) (I : InstAt h x ox D none) {Q : Option Value → Shared → Prop} (hq : Q (some (.bool true)) ⟨h, g, d, t, os⟩) :
    wpAny (model prog w) A (callSpecialIfBound? (.ref x) "__eq__" [.ref x]) Q E ⟨h, g, d, t, os⟩ := by
  have L0 := I.type (M := model prog w)
  have sub : Looks (model prog w) h (isInstance (.ref x) (.type "object")) true := L0.andThen (looks_subIn X C.sub)
  refine sp_same (L0.andThen (looks_findIn X C.eq)) PySem.F.cmp_object.eq ?_
  refine wpAny_call (codeAny_call_builtin PySem.F.cmp_object.eq.plain PySem.F.cmpEntry_eq ?_)
  exact @check_slot (model prog w) _ _ ⟨h, g, d, t, os⟩ "object.__eq__" "object" "__eq__" (.ref x) [.ref x] [] _ PySem.F.cmpKind_eq PySem.F.cmpSplit_eq sub (PySem.F.cmpArgs_eq _ _) (objEq_entry_same hq)
theorem ne_same (C : SameC K D) (X : K.In h) (I : InstAt h x ox D none) (hu : A.units + 1 < cLine) {Q : Option Value → Shared → Prop} (hq : Q (some (.bool false)) ⟨h, g, d, t, os⟩) :
    wpAny (model prog w) A (callSpecialIfBound? (.ref x) "__ne__" [.ref x]) Q E ⟨h, g, d, t, os⟩ := by
  have L0 := I.type (M := model prog w)
  have sub : Looks (model prog w) h (isInstance (.ref x) (.type "object")) true := L0.andThen (looks_subIn X C.sub)
  refine sp_same (L0.andThen (looks_findIn X C.ne)) PySem.F.cmp_object.ne ?_
  refine wpAny_call (codeAny_call_builtin PySem.F.cmp_object.ne.plain PySem.F.cmpEntry_ne ?_)
  refine @check_slot (model prog w) _ _ ⟨h, g, d, t, os⟩ "object.__ne__" "object" "__ne__" (.ref x) [.ref x] [] _ PySem.F.cmpKind_ne PySem.F.cmpSplit_ne sub (PySem.F.cmpArgs_ne _ _) ?_
  unfold Builtin.«object.__ne__»
  repeat (first | with_reducible refine wpAny_cRoomFor hu ?_ | with_reducible refine eq_same C X I ?_ | wp_step)
  exact hq
theorem compare_ne_same (C : SameC K D) (X : K.In h) (I : InstAt h x ox D none) (hu : A.units + 1 < cLine) {Q : Value → Shared → Prop} (hq : Q (.bool false) ⟨h, g, d, t, os⟩) :
    wpAny (model prog w) A (compareOp .NotEq (.ref x) (.ref x)) Q E ⟨h, g, d, t, os⟩ := by
  have hu0 : A.units < cLine := Nat.lt_of_succ_lt hu
  show wpAny (model prog w) A (richCompare .NotEq (.ref x) (.ref x)) Q E ⟨h, g, d, t, os⟩
  simp only [richCompare, cmpInfo_NotEq, oneThing_ref]
  have L0 := I.type (M := model prog w)
  have tc : ∀ {Q : Option Value → Shared → Prop}, Q (some (.bool false)) ⟨h, g, d, t, os⟩ → wpAny (model prog w) A (tryCompare (.ref x) "__ne__" (.ref x)) Q E ⟨h, g, d, t, os⟩ := fun hq => by
    simp only [tryCompare]
    exact wpAny_bind (ne_same C X I hu (wpAny_pure hq))
  repeat (first | with_reducible refine wpAny_cRoomFor hu0 ?_ | with_reducible refine L0.at ?_ | with_reducible refine tc ?_ | wp_step)
  exact hq
end
end PySem.W
namespace Pv
open PySem PySem.Spec PyProof.Rows L2 Pg
/-- x != x, any value -/
def rNeV (K : PySem.W.Frag) : R2 := fun x y H Q => x = y ∧ ∃ (S : List Addr) (d : D), Rv K S H x d ∧ (∀ C, d = .obj C → PySem.W.SameC K C) ∧ Q (.bl false) H
/-- kept != due: lists of the same values, or one value -/
def rNeK (K : PySem.W.Frag) : R2 := fun x y H Q => rNeL K x y H Q ∨ rNeV K x y H Q
theorem op_neK {X : Cx} (hu : X.A.units + 64 < cLine) : OpR X (compareOp .NotEq) (rNeK X.K) := by
  intro pins s σ H x y v u Q I rx ry h
  rcases h with h | ⟨rfl, S, d, rv, ob, q⟩
  · exact op_neL hu pins s σ H x y v u Q I rx ry h
  · have sc := fun e => op_ne pins s σ H x x v u Q I rx ry ⟨e, by rw [decide_eq_true rfl]; exact q⟩
    cases rv with
    | non => exact sc rfl
    | bl b => exact sc rfl
    | int i => exact sc rfl
    | str l hl => exact sc rfl
    | lst ha hn hl rl => exact op_neL hu pins s σ H _ _ v u Q I rx ry ⟨S, _, _, _, _, rfl, rfl, SqL.of ha, SqL.of ha, rl, q⟩
    | tup hs hl rl =>
      cases rx
      cases ry
      obtain ⟨its, r, pl, _⟩ := I.tuple hs
      refine SeqAt.RcNeAt.tuples (e := fun _ => true) pl pl (by omega) (fun j h1 h2 => SeqAt.EqAt.same _) _ _ _ _ ?_
      refine ⟨.bl _, H, I, rfl, ?_⟩
      have e : ∀ n : Nat, ((List.range n).all fun _ => true) = true := fun n => List.all_eq_true.mpr fun _ _ => rfl
      rw [e]
      simpa using q
    | obj ho ok =>
      rename_i a C
      cases rx
      cases ry
      obtain ⟨⟨oe, vs, e1, ⟨e2, e3⟩, e4, _⟩, _⟩ := I.hok _ _ ho
      have J : PySem.W.InstAt s.heap a oe C none := by
        obtain ⟨oc, od, oda, osl⟩ := oe
        dsimp only at e2 e3 e4
        subst e2 e3 e4
        exact ⟨e1, rfl, rfl, trivial⟩
      obtain ⟨hp, g, d, t, os⟩ := s
      refine PySem.W.compare_ne_same (ob C rfl) I.kIn J (by omega) ⟨.bl false, H, I, rfl, q⟩
end Pv
namespace Pg
open PySem PySem.Spec PyProof.Rows L2 PySem.Froz
/-! ### sets of texts, with what their order leans on -/
/-- the payload D holds the texts l; its table rises, and its order is to be told -/
structure TxR (P : Program) (w : World) (D : SD) (l : List Str) : Prop where
  ok : TxOk P w D l
  all : ∃ us : List Tok, us.length = l.length ∧ D.1.toList.Perm ((l.zip us).map fun p => (hashStr w p.1, Value.str p.1 p.2))
  nd : l.Nodup
  ris : Ris D.2.2.place.toList
  led : w.params.followText "set-order" = true ∨ D.2.2.led = true
section
variable {P : Program} {w : World} {A : Around} {E : Value → Shared → Prop} {s : Shared}
theorem tail_ris {ep : Nat} {xs : Array (Int × Value)} {t : SetTable} {b : Bool} (h : Ris t.place.toList) : Ris (tailTx ep xs t b).2.2.place.toList := by
  unfold tailTx
  by_cases c : (!b && t.tooFull) = true
  · rw [if_pos c]; exact relayAll_ris _ _ _
  · rw [if_neg c]; exact h
theorem tail_led {ep : Nat} {xs : Array (Int × Value)} {t : SetTable} {b : Bool} : (tailTx ep xs t b).2.2.led = t.led := by
  unfold tailTx
  by_cases c : (!b && t.tooFull) = true
  · rw [if_pos c]; exact relayAll_led _ _ _
  · rw [if_neg c]
theorem tail_all {ep : Nat} {xs : Array (Int × Value)} {t : SetTable} {b : Bool} : (tailTx ep xs t b).1.toList.Perm xs.toList := by
  unfold tailTx
  by_cases c : (!b && t.tooFull) = true
  · rw [if_pos c]; exact relayAll_perm _ _ _
  · rw [if_neg c]
theorem TxR.add {D : SD} {l : List Str} {k : Str} (u : Tok) (R : TxR P w D l) (hk : k ∉ l) : TxR P w (addTx (hashStr w k) (.str k u) D) (k :: l) := by
  obtain ⟨us, hu, hp⟩ := R.all
  refine ⟨add_ok u R.ok, ⟨u :: us, by rw [List.length_cons, List.length_cons, hu], ?_⟩, List.nodup_cons.mpr ⟨hk, R.nd⟩, ?_, ?_⟩
  · have p1 : (addTx (hashStr w k) (.str k u) D).1.toList.Perm (D.1.push (hashStr w k, .str k u)).toList := tail_all.trans (layNew_perm _ _ _ _)
    rw [Array.toList_push] at p1
    exact p1.trans ((List.perm_append_singleton _ _).trans (hp.cons _))
  · refine tail_ris ?_
    have q := layNew_ris D.2.2 D.1 (hashStr w k) (.str k u) R.ris
    split
    · exact q
    · exact q
  · have e1 : (addTx (hashStr w k) (.str k u) D).2.2.led = D.2.2.led := by
      unfold addTx
      rw [tail_led]
      have q := layNew_led D.2.2 D.1 (hashStr w k) (.str k u)
      split
      · exact q
      · exact q
    exact R.led.imp id fun z => e1.trans z
/-- a text that is there already is put in -/
theorem add_old {a : Addr} {T : String} {D : SD} {l : List Str} {k : Str} {u : Tok} {Q : Bool → Shared → Prop} (at_ : s.heap.get? a = some (sObj T D)) (F : TxOk P w D l) (hk : k ∈ l) (hb : l.length < scanBound)
    (h : Q false s) : wpAny (model P w) A (setAddHashed a (.str k u) (hashStr w k)) Q E s := by
  obtain ⟨xs, ep, t⟩ := D
  obtain ⟨e, he, hq⟩ := (F.mem k).mp hk
  have size : xs.size < scanBound := by have e : xs.size = l.length := F.sz; omega
  obtain ⟨j, hj⟩ : ∃ j, List.findIdx? (fun e => (strKind P w).is k e.2) xs.toList = some j := by
    cases c : List.findIdx? (fun e => (strKind P w).is k e.2) xs.toList with
    | some j => exact ⟨j, rfl⟩
    | none =>
      have := List.findIdx?_eq_none_iff.mp c e he
      rw [hq] at this
      cases this
  have dat : (sObj T (xs, ep, t)).data = .set xs ep t := rfl
  unfold setAddHashed setAddHashedIn
  refine wpAny_holding (wpAny_bind (wpAny_setState_of at_ dat F.fit ?_)); dsimp only
  rw [byScan_of rfl size F.el]; simp only [↓reduceIte]
  unfold setAddByScan
  refine wpAny_bind (wpAny_bind (wpAny_rule (wpAny_bind (wpAny_setScan_of (knd := strKind P w) (k := k) (is_str k u) at_ dat F.fit F.el ?_))))
  rw [hj]; dsimp only
  exact wpAny_pure (wpAny_pure h)
end
end Pg
namespace Pg
open PySem PySem.Spec PyProof.Rows L2 PySem.Froz
/-- of some texts each once: in the order in which a set takes them -/
def onceL (acc : List Str) : List Str → List Str
  | [] => acc
  | x :: xs => onceL (if x ∈ acc then acc else x :: acc) xs
theorem once_mem : ∀ (xs acc : List Str) (k : Str), k ∈ onceL acc xs ↔ k ∈ acc ∨ k ∈ xs
  | [], acc, k => by show k ∈ acc ↔ _; simp
  | x :: xs, acc, k => by
    show k ∈ onceL (if x ∈ acc then acc else x :: acc) xs ↔ _
    rw [once_mem xs]
    by_cases h : x ∈ acc
    · rw [if_pos h, List.mem_cons]
      constructor
      · rintro (q | q)
        · exact .inl q
        · exact .inr (.inr q)
      · rintro (q | rfl | q)
        · exact .inl q
        · exact .inl h
        · exact .inr q
    · rw [if_neg h, List.mem_cons, List.mem_cons]
      constructor
      · rintro ((q | q) | q)
        · exact .inr (.inl q)
        · exact .inl q
        · exact .inr (.inr q)
      · rintro (q | q | q)
        · exact .inl (.inr q)
        · exact .inl (.inl q)
        · exact .inr q
theorem once_len : ∀ (xs acc : List Str), (onceL acc xs).length ≤ acc.length + xs.length
  | [], acc => Nat.le_refl _
  | x :: xs, acc => by
    have h := once_len xs (if x ∈ acc then acc else x :: acc)
    show (onceL (if x ∈ acc then acc else x :: acc) xs).length ≤ _
    have e : (if x ∈ acc then acc else x :: acc).length ≤ acc.length + 1 := by split <;> simp
    rw [List.length_cons]
    omega
/-- a set of these texts stands at a -/
def SetS (P : Program) (w : World) (h : Heap) (a : Addr) (l : List Str) : Prop := ∃ D, h.get? a = some (sObj "set" D) ∧ TxR P w D l
section
variable {P : Program} {w : World} {A : Around} {E : Value → Shared → Prop} {s : Shared}
/-- one text is put in, new or not -/
theorem put_txt {a : Addr} {l : List Str} {k : Str} {u : Tok} {Q : Bool → Shared → Prop} (R : SetS P w s.heap a l) (hb : l.length + 1 < scanBound)
    (h : ∀ (b : Bool) h', Heap.SameBut a s.heap h' → SetS P w h' a (if k ∈ l then l else k :: l) → Q b { s with heap := h' }) : wpAny (model P w) A (setAddHashed a (.str k u) (hashStr w k)) Q E s := by
  obtain ⟨D, at_, R⟩ := R
  by_cases hk : k ∈ l
  · refine add_old at_ R.ok hk (by omega) ?_
    exact h false s.heap (Heap.SameBut.refl _ _) (by rw [if_pos hk]; exact ⟨D, at_, R⟩)
  · refine add_x at_ R.ok hk hb ?_
    refine h true _ (Heap.SameBut.update s.heap a _) ?_
    rw [if_neg hk]
    exact ⟨_, get_upd _ at_ rfl, R.add u hk⟩
end
section
variable {prog : Program} {w : World} {A : Around} {R : Result → Shared → Prop} {I : Addr} {fp wr : List Addr} {G : Array GenState → Array GenState → Prop} {n : Nat} {P : Nat → Value → Prop} {St : Nat → Shared → Prop}
theorem SetS.moved {h h' : Heap} {a : Addr} {l : List Str} (R : SetS prog w h a l) (k : ∀ o, h.get? a = some o → h'.get? a = some o) : SetS prog w h' a l := by
  obtain ⟨D, at_, q⟩ := R
  exact ⟨D, k _ at_, q⟩
/-- the loop that puts the items of a walk in -/
theorem puts (W : WalksS prog w A.in1 I fp wr G n P St) {D : Addr} (out : D ∉ fp) (xs : List Str) (len : xs.length = n) (few : n + 1 < scanBound) (is : ∀ i v, P i v → ∃ t, v = .str (xs.getD i Str.empty) t) :
    ∀ (m i : Nat) (s : Shared) (acc : List Str), n - i = m → i ≤ n → acc.length ≤ i → St i s → SetS prog w s.heap D acc →
      (∀ s', Moved (D :: wr) G s s' → SetS prog w s'.heap D (onceL acc (xs.drop i)) → R (.ok (.ret .none)) s') →
      codeAny (model prog w) A (.builtin "set.update.loop" ⟨[.ref D, .ref I], []⟩) R s := by
  have offw : D ∉ wr := fun q => out (W.sub _ q)
  have up : ∀ b ∈ wr, b ∈ D :: wr := fun b q => List.mem_cons_of_mem _ q
  intro m
  induction m with
  | zero =>
    intro i s acc hm hi _ st S fin
    obtain rfl : i = n := by omega
    refine codeAny_builtin PyProof.Rows.F.entry_set_update_loop ?_
    rw [Around.under_plainId PyProof.Rows.F.plain_set_update_loop _]
    refine wpAny_bind (W.done s _ _ st fun s' mv => wpAny_pure (fin s' (mv.mono up) ?_))
    rw [List.drop_of_length_le (by omega)]
    exact S.moved fun o e => mv.heap D o offw e
  | succ m ih =>
    intro i s acc hm hi ha st S fin
    have lt : i < n := by omega
    refine codeAny_builtin PyProof.Rows.F.entry_set_update_loop ?_
    rw [Around.under_plainId PyProof.Rows.F.plain_set_update_loop _]
    refine wpAny_bind (W.item i s _ _ lt st fun v s' pv st' mv => ?_)
    obtain ⟨t, rfl⟩ := is i v pv
    have S' : SetS prog w s'.heap D acc := S.moved fun o e => mv.heap D o offw e
    show wpAny _ A.in1 (holding [Value.str (xs.getD i Str.empty) t] (setAdd D (.str (xs.getD i Str.empty) t)) >>= _) _ _ s'
    refine wpAny_bind (wpAny_holding ?_)
    unfold setAdd
    refine wpAny_holding (wpAny_bind ((PySem.strKind prog w).pyHash (k := xs.getD i Str.empty) (strKind_is _ _ _ _) ?_))
    refine put_txt (s := { s' with toks := s'.toks + 1 }) S' (by omega) fun b h' sb S2 => ?_
    have dr : xs.drop i = xs.getD i Str.empty :: xs.drop (i + 1) := by
      rw [List.drop_eq_getElem_cons (by omega), List.getD_eq_getElem?_getD, List.getElem?_eq_getElem (by omega)]
      rfl
    refine wpAny_pure ⟨plainId_quiet PyProof.Rows.F.plain_set_update_loop _, ih (i + 1) _ (if xs.getD i Str.empty ∈ acc then acc else xs.getD i Str.empty :: acc) (by omega) lt ?_ (W.frame _ s' _ _ st' (Nat.le_succ _) fun b hb o e => ?_) S2 fun s'' mv2 S3 => ?_⟩
    · split
      · omega
      · rw [List.length_cons]; omega
    · rw [sb.2 b fun z => out (z ▸ hb)]; exact e
    · refine fin s'' (Moved.trans W.gtrans ((mv.mono up).then_heap (Nat.le_succ _) fun b o hb e => ?_) mv2) ?_
      · rw [sb.2 b fun z => hb (z ▸ List.mem_cons_self)]; exact e
      · rw [dr]; exact S3
end
end Pg
namespace Pg
open PySem PySem.Spec PyProof.Rows L2 PySem.Froz
section
variable {prog : Program} {w : World} {A : Around} {E : Value → Shared → Prop} {s : Shared}
/-- an empty set as it is laid -/
abbrev set0 (w : World) : Obj := { cls := .type "set", dict := none, data := .set #[] 0 (.fresh 0 0 (!w.params.followText "set-order")) }
theorem code_new1 (x : Value) {Z : Value → Shared → Prop} (h : Z (.ref s.heap.objs.size) { s with heap := s.heap.push (set0 w) }) : codeAny (model prog w) A (.call (.builtin "set.__new__") ⟨[.type "set", x], []⟩) (wants Z E) s := by
  refine codeAny_of_tree ?_
  show wpAny _ A.in1 (do checkBuiltinCall "set.__new__" ⟨[.type "set", x], []⟩; again (.builtin "set.__new__" ⟨[.type "set", x], []⟩)) _ _ s
  refine wpAny_bind (wpAny_of_eq (PySem.F.newCall_set_1 x) (wpAny_pure ⟨plainId_quiet PySem.F.plain_set_new _, codeAny_builtin PySem.F.entry_set_new ?_⟩)); rw [Around.under_plainId PySem.F.plain_set_new _]
  unfold Builtin.«set.__new__» Builtin.Frozenset.newClass
  have _sub := sub_set_self
  obtain ⟨heap, gens, drawn, toks, os⟩ := s; dsimp only; wp_walk
  refine wpAny_askSetting (wpAny_pure ?_); dsimp only; simp only [newObj]
  exact wpAny_bind (wpAny_alloc (wpAny_pure (wpAny_pure h)))
theorem set0_ok {h : Heap} : SetS prog w (h.push (set0 w)) h.objs.size [] := by
  refine ⟨(#[], 0, .fresh 0 0 (!w.params.followText "set-order")), Heap.get?_push_size _ rfl, TxOk.nil (by rfl), ⟨[], rfl, List.Perm.refl _⟩, List.nodup_nil, List.Pairwise.nil, ?_⟩
  show _ ∨ (!w.params.followText "set-order") = true
  cases w.params.followText "set-order" with
  | true => exact .inl rfl
  | false => exact .inr rfl
theorem str_at : ∀ {vs : List Value} {xs : List Str}, StrsAre vs xs → ∀ (i : Nat) (v : Value), vs[i]? = some v → ∃ t, v = .str (xs.getD i Str.empty) t
  | _, _, .nil, i, v, h => by simp at h
  | _, _, .cons n t r, 0, v, h => by
    rw [List.getElem?_cons_zero] at h
    exact ⟨t, (Option.some.inj h).symm⟩
  | _, _, .cons n t r, i + 1, v, h => str_at r i v h
set_option maxHeartbeats 4000000 in
/-- set(xs), xs a list of texts -/
theorem call_set_txt {l : Addr} {items : Array Value} {xs : List Str} {Q : Value → Shared → Prop} (hh : A.handled = none) (hl : s.heap.IsList l items) (his : StrsAre items.toList xs) (few : xs.length + 1 < scanBound)
    (h : ∀ (h' : Heap) (tk : Nat), SetS prog w h' s.heap.objs.size (onceL [] xs) → (∀ b o, s.heap.get? b = some o → h'.get? b = some o) → Q (.ref s.heap.objs.size) { s with heap := h', toks := tk }) :
    wpAny (model prog w) A (call (.type "set") [.ref l]) Q E s := by
  obtain ⟨cc, tt, mro⟩ := PySem.F.called_set.mro
  have g1 := PySem.F.called_set.made; have g2 := PySem.F.called_set.sub
  refine wpAny_call (codeAny_of_tree (wpAny_pure ⟨Code.quiet_builtin _ (by decide +kernel), codeAny_builtin PySem.F.entry_type_call ?_⟩))
  rw [Around.under_plain (weight_type_call_type "set" [.ref l] []) rfl]
  have g3 := PySem.F.called_set.notType; have g4 := PySem.F.called_set.canCreate; have g5 := PySem.F.typeCall_set_1 (.ref l)
  repeat (any_goals (first | assumption | wp_step))
  refine codeAny_mono (code_new1 (prog := prog) (.ref l) (E := E) (Z := fun obj z => obj = .ref s.heap.objs.size ∧ z = { s with heap := s.heap.push (set0 w) }) ⟨rfl, rfl⟩) fun r z hr => ?_
  cases r with
  | error e => exact hr
  | ok fl =>
    cases fl with
    | ret obj =>
      obtain ⟨rfl, rfl⟩ := hr
      have at0 : (s.heap.push (set0 w)).get? s.heap.objs.size = some (set0 w) := Heap.get?_push_size _ rfl
      have ty : Shared.TypeIs { s with heap := s.heap.push (set0 w) } (.ref s.heap.objs.size) "set" := ⟨_, at0, rfl⟩
      have g6 := PySem.F.called_set.init.lookup; have g7 := PySem.F.called_set.init.bind (.ref s.heap.objs.size)
      repeat (any_goals (first | assumption | wp_step))
      refine codeAny_mono (codeAny_call_builtin (R := wants (fun r z => r = .none ∧ ∃ h' tk, z = { s with heap := h', toks := tk } ∧ SetS prog w h' s.heap.objs.size (onceL [] xs) ∧ (∀ b o, s.heap.get? b = some o → h'.get? b = some o)) E)
        PySem.F.called_set.init.plain PySem.F.entry_set_init (check_set_init_1 ty ?_)) fun r2 z2 hr2 => ?_
      · obtain ⟨⟨oc, od, odata, osl⟩, hol, hcl, nl, hdl⟩ := hl
        simp only at hcl hdl
        subst hcl hdl
        have hol2 : (s.heap.push (set0 w)).get? l = some { cls := .type "list", dict := od, data := .seq items nl, slots := osl } := Heap.get?_push_of_some _ hol
        have hl2 : (s.heap.push (set0 w)).IsList l items := ⟨_, hol2, rfl, nl, rfl⟩
        have q1 := PySem.F.sub_list_set; have q2 := PySem.F.sub_list_frozenset
        have q3 : (Value.type "list" == Value.type "dict") = false := by decide
        unfold Builtin.«set.__init__» noKeywords Builtin.Frozenset.updateFrom
        generalize hp : pyIter = pi
        wp_walk
        subst hp
        refine wpAny_pyIter_list hl2 (wpAny_bind (wpAny_runValue ?_))
        have lt : l < s.heap.objs.size := Heap.lt_size hol
        have handled : A.in1.in1.in1.handled = none := by simp [hh]
        have sz1 : (s.heap.push (set0 w)).objs.size = s.heap.objs.size + 1 := Heap.size_push _ _
        have ne : l ≠ (s.heap.push (set0 w)).objs.size := by rw [sz1]; exact Nat.ne_of_lt (Nat.lt_succ_of_lt lt)
        have out : s.heap.objs.size ∉ [(s.heap.push (set0 w)).objs.size, l] := by
          rw [sz1]
          intro m
          rcases List.mem_cons.mp m with m | m
          · exact absurd m (Nat.ne_of_lt (Nat.lt_succ_self _))
          · exact absurd (List.mem_singleton.mp m) (Nat.ne_of_gt lt)
        have len : xs.length = items.size := by rw [← StrsAre.len_eq his, Array.length_toList]
        have is : ∀ (i : Nat) (v : Value), items[i]? = some v → ∃ t, v = .str (xs.getD i Str.empty) t := fun i v hv => str_at his i v (by rw [Array.getElem?_toList]; exact hv)
        refine puts ((Walks.list handled _ l ne items).toS) out xs len (by rw [← len]; exact few) is (items.size - 0) 0 _ [] (by omega) (Nat.zero_le _) (Nat.le_refl _) ⟨⟨_, Heap.get?_push_size _ rfl, rfl, rfl⟩, hl2.push _⟩ (set0_ok.moved fun o e => Heap.get?_push_of_some _ e) ?_
        rintro ⟨h', g', d', tk', os'⟩ mv S
        obtain rfl : g' = s.gens := mv.gens
        obtain rfl : d' = s.drawn := mv.drawn
        obtain rfl : os' = s.os := mv.os
        refine wpAny_pure ?_
        refine wpAny_pure ⟨rfl, h', tk', rfl, S, fun b o e => ?_⟩
        have hb : b < s.heap.objs.size := Heap.lt_size e
        refine mv.heap b o (fun m => ?_) (Heap.get?_push_of_some _ (Heap.get?_push_of_some _ e))
        rcases List.mem_cons.mp m with m | m
        · exact absurd m (Nat.ne_of_lt hb)
        · have q := List.mem_singleton.mp m
          rw [sz1] at q
          exact absurd q (Nat.ne_of_lt (Nat.lt_succ_of_lt hb))
      · cases r2 with
        | error e => exact hr2
        | ok fl2 =>
          cases fl2 with
          | ret r =>
            obtain ⟨rfl, h', tk, rfl, a1, a2⟩ := hr2
            repeat (any_goals (first | assumption | wp_step))
            exact h _ _ a1 a2
          | _ => exact hr2.elim
    | _ => exact hr.elim
end
end Pg
namespace Pg
open PySem PySem.Spec PyProof.Rows L2 PySem.Froz
section
variable {prog : Program} {w : World} {A : Around} {E : Value → Shared → Prop} {s : Shared}
/-- the values of a set of texts, in some order, are texts -/
theorem vals_strs : ∀ {vs : List Value} {ps : List (Str × Tok)}, vs.Perm (ps.map fun p => Value.str p.1 p.2) → StrsAre vs (vs.map strOf) ∧ (vs.map strOf).Perm (ps.map Prod.fst) := fun {vs ps} h => by
  refine ⟨strsAre_map vs fun v m => ?_, ?_⟩
  · obtain ⟨p, _, rfl⟩ := List.mem_map.mp (h.mem_iff.mp m)
    exact ⟨p.1, p.2, rfl⟩
  · have q := h.map strOf
    rw [List.map_map] at q
    exact q.trans (List.Perm.of_eq rfl)
theorem zip_fst {α β : Type} : ∀ (l : List α) (us : List β), us.length = l.length → (l.zip us).map Prod.fst = l
  | [], _, _ => rfl
  | x :: l, [], h => by simp at h
  | x :: l, u :: us, h => by rw [List.zip_cons_cons, List.map_cons, zip_fst l us (by simpa using h)]
/-- sorted(a), a set of texts -/
theorem sorted_txt {a : Addr} {l : List Str} {Q : Value → Shared → Prop} (R : SetS prog w s.heap a l) (hh : A.handled = none) (few : l.length < 4000)
    (h : ∀ z p (out : Array Value) (n : Nat) (ys : List Str), (∀ b o, s.heap.get? b = some o → z.heap.get? b = some o) → z.gens = s.gens → z.os = s.os → s.heap.objs.size ≤ p → z.heap.get? p = some (seqObj "list" out n) →
      StrsAre out.toList ys → ys.Perm l → sortedS ys = true → Q (.ref p) z) : wpAny (model prog w) A (call (.builtin "sorted") [.ref a]) Q E s := by
  obtain ⟨⟨es, ep, t⟩, at_, R⟩ := R
  obtain ⟨us, hu, pm⟩ := R.all
  have sz : es.size = l.length := R.ok.sz
  have scan : es.size < scanBound := by rw [sz]; exact Nat.lt_of_lt_of_le few (by decide)
  refine Calls.call_function_entry kind_sorted plain_sorted entry_sorted (args_sorted1 _) ?_
  unfold Builtin.«sorted»
  refine wpAny_bind (m := checkCount "sorted" 1 1 _) (wpAny_pure (wpAny_bind (collect_set (A := A.in1) hh ⟨_, at_, rfl, rfl⟩ R.ok.fit scan R.ris R.led fun z vs k1 hz g1 o1 pv => ?_)))
  have pv2 : vs.Perm ((l.zip us).map fun p => Value.str p.1 p.2) := by
    have q := pv.trans (pm.map (·.2))
    rw [List.map_map] at q
    exact q
  obtain ⟨st, ps⟩ := vals_strs pv2
  rw [zip_fst l us hu] at ps
  have vlen : vs.length = l.length := by
    have := ps.length_eq
    rwa [List.length_map] at this
  refine wpAny_bind (wpAny_newList ?_ (by rw [vlen, sizeLine_eq]; omega))
  have new : (z.heap.push (seqObj "list" vs.toArray 0)).get? z.heap.objs.size = some (seqObj "list" vs.toArray 0) := Heap.get?_push_size _ rfl
  refine wpAny_bind (wpAny_holding (wpAny_call_entry slot_list_sort ⟨_, new, rfl⟩ entry_list_sort (list_sort_treeKAny strKind_oneLt new st.keysOf (fun v1 v2 rest e => keyKind_strs (by rw [← e]; exact st)) (by rw [vlen, sizeLine_eq]; omega) fun st' hp hs => ?_) (args_list_sort _)))
  obtain ⟨ys, y1, y2, y3⟩ := sorted_out_str st hp hs
  obtain ⟨n, hn⟩ := sortedHeap_at (vs := vs) (out := (arrOf st').map (·.2)) new
  refine ⟨_, rfl, wpAny_pure ⟨_, rfl, h _ z.heap.objs.size _ n ys (fun b o e => ?_) g1 o1 hz hn y1 (y2.trans ps) y3⟩⟩
  have q := k1 b o e
  have lt := Heap.lt_size q
  show (sortedHeap (z.heap.push (seqObj "list" vs.toArray 0)) z.heap.objs.size vs _).get? b = some o
  rw [sortedHeap_old (Nat.ne_of_lt lt) (by rw [size_push']; exact Nat.lt_succ_of_lt lt)]
  exact Heap.get?_push_of_some _ q
end
end Pg
namespace Pg
open PySem PySem.Spec PyProof.Rows L2
/-! ### defs that are called where no text is being written of anything -/
structure FnG (P : Program) (w : World) (K : PySem.W.Frag) (mg : Str → Option Value) (base : Heap) (k : Nat) (f : Addr) (fd : FuncData) (ps : List Str) (sp : Sp) : Prop where
  ln : ∀ vs H Q E, sp vs H Q E → vs.length = ps.length
  go : ∀ (A : Around), A.guards = some [] → Room k A → ∀ (outer : List Env) (s : Shared) (H : Hp), Env0 P w K mg base A outer s H →
    ∀ (args : Args) (us : List Value) (vs : List V) (Q : VK) (E : XK), BindsTo s fd args (ps.zip us) → Vals vs us → sp vs H Q E →
    codeAny (model P w) A (.call (.ref f) args) (CR CX0 outer P w H s Q E) s
section
variable {P : Program} {w : World} {K : PySem.W.Frag} {mg : Str → Option Value} {base : Heap}
theorem FnG.of {k : Nat} {f : Addr} {fd : FuncData} {ps : List Str} {sp : Sp} (F : FnOk P w K mg base CX0 k f fd ps sp) : FnG P w K mg base k f fd ps sp :=
  ⟨F.len, fun A _ r outer s H e args us vs Q E b v h => F.run A outer s H args us vs Q E r e b v h⟩
theorem FnG.mono {j k : Nat} {f : Addr} {fd : FuncData} {ps : List Str} {sp : Sp} (F : FnG P w K mg base j f fd ps sp) (h : j ≤ k) : FnG P w K mg base k f fd ps sp :=
  ⟨F.ln, fun A g r => F.go A g (r.mono h)⟩
/-- a def by its body -/
theorem Df.g {x : Str} {st : Stmt} {f : Addr} {fd : FuncData} {N ps : List Str} {k : Nat} {sp : Sp} (D : Df K mg x st ps f fd) (S : FnScope N ps (defScope st)) (len : ∀ vs H Q E, sp vs H Q E → vs.length = ps.length)
    (hb : ∀ (cdv : Value) (A : Around) (outer : List Env) (s : Shared) (H : Hp) (vs : List V) (Q : VK) (E : XK), (A.deeper (envOfC x (defScope st) s.heap.objs.size f cdv)).guards = some [] →
      Room k (A.deeper (envOfC x (defScope st) s.heap.objs.size f cdv)) → sp vs H Q E →
      ∃ t, PSs (cxOf CX0 P w K mg base N x (defScope st) f cdv A outer s H E).nox (defBody st) t ∧ t { nx := fun _ H' => Q .non H', rt := Q } (start N vs) H) : FnG P w K mg base (k + 1) f fd ps sp := by
  obtain ⟨oc, od, kV, doc, pm, an, cdv, ct, osl, rfl, lk, hcd⟩ := D.fn.ex
  refine ⟨len, fun A g hr outer s H e0 args us vs Q E bt rv hsp => ?_⟩
  have hlen := len _ _ _ _ hsp
  have KX : K.In s.heap := e0.mod.kin.keeps fun b o e => (e0.bs b o e).1
  have lim : s.heap.NoLimit := e0.mod.nolimit.keeps fun b o e => (e0.bs b o e).1
  refine codeAny_call_function hr.depth (KX _ _ lk) rfl S.co S.gen rfl (PySem.W.codeRec_of KX hcd) (bt _ _ _ _ ?_)
  refine wpAny_newFunctionEnv_cells S.kind (fun y hy => ?_) fun env he s1 x1 => ?_
  · have hp : y.1 ∈ ps := (List.of_mem_zip (show (y.1, y.2) ∈ ps.zip us from hy)).1
    refine (S.par y.1 hp).imp id fun q => ⟨q, ?_⟩
    exact PySem.W.cellsFrom_some _ _ _ (.inl q)
  subst he
  refine ⟨lim.keeps x1.toInCall.keep, codeAny_func ?_⟩
  obtain ⟨t, ht, hq⟩ := hb cdv A outer s H vs Q E (by rw [← g]; rfl) (hr.deeper _) hsp
  refine wpAny_mono (ht.nox.run [] s1 (start N vs) H _ (inv_start S hr.hd e0 hlen rv x1) hq) (fun fl s' hs => ?_) fun e s' hs => hs
  cases fl with
  | ret u =>
    obtain ⟨v, σ', H', J, rv', q⟩ := hs
    exact ⟨v, H', J.os, J.bare, J.base, J.hok, rv', q⟩
  | next =>
    obtain ⟨σ', H', J, q⟩ := hs
    exact ⟨.non, H', J.os, J.bare, J.base, J.hok, rfl, q⟩
  | brk =>
    obtain ⟨_, _, _, q⟩ := hs
    exact q.elim
  | cont =>
    obtain ⟨_, _, _, q⟩ := hs
    exact q.elim
end
/-- a def of the text with such a promise -/
structure ClG (P : Program) (w : World) (K : PySem.W.Frag) (mg : Str → Option Value) (base : Heap) (k : Nat) (x : Str) (st : Stmt) (ps : List Str) (sp : Sp) : Prop where
  ex : ∃ f fd, Df K mg x st ps f fd ∧ FnG P w K mg base k f fd ps sp
section
variable {X : Cx} {j k : Nat} {st : Stmt} {f : Addr} {fd : FuncData} {ps : List Str} {sp : Sp} {x : Str} {p pos : Pos} {e : Expr} {es : List Expr} {t : TA}
theorem run_g {pins : List (Addr × Obj)} {σ : L2.St} {H : Hp} {s : Shared} {Q : VK} {us : List Value} {vs : List V} (F : FnG X.prog X.w X.K X.mg X.base k f fd ps sp) (hG : X.A.guards = some []) (hr : Room k X.A) (hb : Binds X.K fd ps [])
    (I : Inv X pins σ H s) (r : Vals vs us) (h : sp vs H Q E0) : wpAny (model X.prog X.w) X.A (call (.ref f) us) (EP X pins σ Q) X.xe s := by
  have hl : (us ++ []).length = ps.length := by rw [List.append_nil, ← r.length]; exact F.ln _ _ _ _ h
  have bt := hb s us I.kIn hl
  rw [List.append_nil] at bt
  refine wpAny_call (codeAny_mono (F.go X.A hG hr X.stack s H I.env0 ⟨us, []⟩ us vs Q E0 bt r h) fun r s' hq => ?_)
  cases r with
  | error e => exact (pass0 (X := X) pins σ H s e s' I hq)
  | ok fl =>
    cases fl with
    | ret u => exact I.after hq
    | next => exact hq.elim
    | brk => exact hq.elim
    | cont => exact hq.elim
theorem pe_clG (c : ClG X.prog X.w X.K X.mg X.base k x st ps sp) (hG : X.A.guards = some []) (hr : Room j X.A) (hk : k ≤ j) (ha : PA X (e :: es) t) (hg : Gl X x := by rfl) (hdb : (x == ("__debug__" : Str)) = false := by decide)
    (he : starEach (e :: es) X.env = (false, eval e X.env) :: starEach es X.env := by rfl) (hpl : (backTo pos (starEach es X.env)).any (·.1) = false := by rfl) :
    PE X (.Call (.Name x p) (e :: es) [] pos) (tCl sp t) := by
  obtain ⟨f, fd, D, F⟩ := c.ex
  refine ⟨fun pins s σ H Q I h => ?_⟩
  refine wpAny_Call_Name_kw (ld_glob I hg D.at_ ?_ hdb)
  refine PySem.W.callWith_K (h₀ := X.base) I.ok.mod.kin D.fn.kp (thn (ha.run pos pins s σ H _ I h) fun us s1 ⟨vs, H1, I1, r, q⟩ => ⟨I1.kIn, ?_⟩) he hpl
  exact run_g (F.mono hk) hG hr D.bd I1 r q
end
end Pg
namespace Pg
open PySem PySem.Spec PyProof.Rows L2
/-! ### the end of a law, from a promise that is kept where no text is being written -/
section
variable {P : Program} {w : World} {K : PySem.W.Frag} {mg mb : Str → Option Value} {h : Heap} {a : Addr} {ob : Obj} {xs : List V}
/-- what is known of the store at first: the script, where it is no object of the module -/
def H0 (K : PySem.W.Frag) (a : Addr) (ob : Obj) (xs : List V) : Hp := fun b => if b = a ∧ K.lookup a = none then some (.frz ob (.lst xs)) else none
theorem h0_cases (b : Addr) : H0 K a ob xs b = none ∨ (b = a ∧ K.lookup a = none ∧ H0 K a ob xs b = some (.frz ob (.lst xs))) := by
  by_cases c : b = a ∧ K.lookup a = none
  · exact .inr ⟨c.1, c.2, if_pos c⟩
  · exact .inl (if_neg c)
theorem h0_none {b : Addr} (n : b ≠ a) : H0 K a ob xs b = none := if_neg fun c => n c.1
theorem h0_base {b : Addr} {o : Obj} (e : h.get? b = some o) (n : H0 K a ob xs b = none) : (hidT h (H0 K a ob xs)).get? b = some o := hidT_get e n
theorem h0_ns {b : Addr} {m : Str → Option Value} {l : List Value} {n : Nat} (ha : h.get? a = some { cls := .type "list", data := .seq l.toArray n }) (q : h.Ns b m) : (hidT h (H0 K a ob xs)).Ns b m := by
  obtain ⟨o, es, ep, e, d, r⟩ := q
  refine ⟨o, es, ep, h0_base e (h0_none fun z => ?_), d, r⟩
  subst z
  rw [ha] at e
  cases e
  exact Data.noConfusion d
theorem law_g {k : Nat} {fa : Addr} {fd : FuncData} {x : Str} {sp : Sp} {s₁ : Shared} {vs : List Value} {ns : List Int}
    (KX : K.In s₁.heap) (hns : s₁.heap.Ns mainGlobals mg) (hb : s₁.heap.Ns builtinsNs mb) (hbb : ∀ x : Str, x ≠ "__name__" → mb x = bootBuiltins x) (hlim : s₁.heap.NoLimit) (hg : s₁.gens = #[])
    (ha : s₁.heap.get? a = some { cls := .type "list", data := .seq vs.toArray }) (hi : IntsAre vs ns) (hl : ns.length ≤ sizeLine) (hr : Room k callerA)
    (F : ∀ base : Heap, K.In base → base.Ns mainGlobals mg → FnG P w K mg base k fa fd [x] sp) (hbind : ∀ (s : Shared) (u : Value), BindsTo s fd ⟨[u], []⟩ [(x, u)])
    (hsp : ∀ H : Hp, L2.Only H → SqL K H a (ns.map V.int) → sp [.ref a] H (fun v _ => v = .bl true) fun _ _ _ => False) :
    codeAny (model P w) callerA (.call (.ref fa) ⟨[.ref a], []⟩) (fun r s' => r = .ok (.ret (.bool true)) ∧ OldK s₁.heap s'.heap ∧ s'.os = s₁.os ∧ AllBare s'.gens) s₁ := by
  have rv := vals_ints hi
  have hlen : (ns.map V.int).length ≤ sizeLine := by rw [List.length_map]; exact hl
  have hK : K.In (hidT s₁.heap (H0 K a { cls := .type "list", data := .seq vs.toArray } (ns.map V.int))) := fun b o e => h0_base (KX b o e) (by
    rcases h0_cases (K := K) (a := a) (ob := { cls := .type "list", data := .seq vs.toArray }) (xs := ns.map V.int) b with q | ⟨rfl, q, _⟩
    · exact q
    · rw [q] at e
      cases e)
  have hM : Mod K mg (hidT s₁.heap (H0 K a { cls := .type "list", data := .seq vs.toArray } (ns.map V.int))) := by
    obtain ⟨mc, l1, l2⟩ := hlim
    exact ⟨hK, h0_ns ha hns, ⟨mb, h0_ns ha hb, hbb⟩, ⟨mc, h0_ns ha l1, l2⟩⟩
  have hok : HOk P w (H0 K a { cls := .type "list", data := .seq vs.toArray } (ns.map V.int)) s₁.heap := fun b u z => by
    rcases h0_cases (K := K) (a := a) (ob := { cls := .type "list", data := .seq vs.toArray }) (xs := ns.map V.int) b with q | ⟨rfl, _, q⟩
    · rw [q] at z
      cases z
    · rw [q] at z
      cases z
      exact ⟨ha, hlen, vs, _, rv, ha⟩
  have e0 : Env0 P w K mg (hidT s₁.heap (H0 K a { cls := .type "list", data := .seq vs.toArray } (ns.map V.int))) callerA [] s₁ (H0 K a { cls := .type "list", data := .seq vs.toArray } (ns.map V.int)) :=
    ⟨rfl, hM, fun b o e => of_hidT e, Nat.le_of_eq (hidT_size _ _), trivial, fun b z => absurd (show b ∈ ([] : List Addr) from z) (by simp), hok, .of_eq hg⟩
  have hO : L2.Only (H0 K a { cls := .type "list", data := .seq vs.toArray } (ns.map V.int)) := fun b => by
    rcases h0_cases (K := K) (a := a) (ob := { cls := .type "list", data := .seq vs.toArray }) (xs := ns.map V.int) b with q | ⟨_, _, q⟩
    · exact .inl q
    · exact .inr ⟨_, _, q⟩
  have hS : SqL K (H0 K a { cls := .type "list", data := .seq vs.toArray } (ns.map V.int)) a (ns.map V.int) := by
    cases hk : K.lookup a with
    | none => exact .inl (.inr ⟨_, if_pos ⟨rfl, hk⟩⟩)
    | some o =>
      have e := KX a o hk
      rw [ha] at e
      cases e
      exact .inr ⟨_, vs.toArray, _, hk, rfl, rfl, rfl, by rw [List.size_toArray, hi.length]; exact hl, by simpa using rv⟩
  refine codeAny_mono ((F _ hK (h0_ns ha hns)).go callerA rfl hr [] s₁ _ e0 ⟨[.ref a], []⟩ [.ref a] [.ref a] _ _ (hbind s₁ (.ref a)) (.cons rfl .nil) (hsp _ hO hS)) fun r s' q => ?_
  cases r with
  | error e => exact q.elim
  | ok fl =>
    cases fl with
    | next => exact q.elim
    | brk => exact q.elim
    | cont => exact q.elim
    | ret u =>
      obtain ⟨v, H', os, bare, un, hok', r', q⟩ := q
      have q' : v = .bl true := q
      subst q'
      obtain rfl : u = Value.bool true := r'
      refine ⟨rfl, OldK.of_keep fun b o e => ?_, os, bare⟩
      rcases h0_cases (K := K) (a := a) (ob := { cls := .type "list", data := .seq vs.toArray }) (xs := ns.map V.int) b with z | ⟨_, _, z⟩
      · exact un.keep b o e z (fun z => absurd (show b ∈ ([] : List Addr) from z) (by simp)) (by simp)
      · obtain ⟨e1, _⟩ := hok b _ z
        obtain ⟨e2, _⟩ := hok' b _ (un.frzs b _ _ z)
        rw [e] at e1
        cases e1
        exact e2
end
/-- the goal that the end of a law leaves -/
theorem walk_g {l : PySem.W.OpenLaw} {n k : Nat} {q : Program} {loose : List Str} {XP : (Str → Option Value) → Heap → Prop} {YP : World → Heap → Prop} {d : DefRec} {K : Params → PySem.W.Frag} {sp : World → Sp} {x : Str}
    (hn : l.most = some n) (hn2 : n ≤ sizeLine) (hdf : d.params.defaults = []) (hr : Room k callerA) (hY : ∀ (w : World) (h : Heap), YP w h → (K w.params).In h)
    (F : ∀ (w : World) (mg : Str → Option Value) (fa : Addr) (h : Heap), (K w.params).In h → h.Ns mainGlobals mg → mg d.name = some (.ref fa) →
      ∃ fd : FuncData, (∀ (s : Shared) (u : Value), BindsTo s fd ⟨[u], []⟩ [(x, u)]) ∧ ∀ base : Heap, (K w.params).In base → base.Ns mainGlobals mg → FnG l.prog w (K w.params) mg base k fa fd [x] (sp w))
    (hsp : ∀ (w : World) (H : Hp) (a : Addr) (ns : List Int), ns.length ≤ n → L2.Only H → SqL (K w.params) H a (ns.map V.int) → sp w [.ref a] H (fun v _ => v = .bl true) fun _ _ _ => False) :
    PySem.W.WalkO q loose XP YP l.row.toRowW d [] (fun f vs => PySem.call f vs) :=
  Att.attach_call hn hdf fun w _ s₁ mg _ fa _ _ _ _ a _ ns G Y _ _ _ hmg hobj hints hlen hg => by
    obtain ⟨fd, hb, hF⟩ := F w mg fa _ (hY w _ Y) G.T.g hmg
    exact law_g (hY w _ Y) G.T.g G.T.b G.T.builtins G.T.nolimit hg hobj hints (Nat.le_trans hlen hn2) hr hF hb fun H hO hS => hsp w H a ns hlen hO hS
end Pg
namespace Pg
open PySem PySem.Spec PyProof.Rows L2
/-! ### repr of data -/
mutual
theorem dp_plain {K : PySem.W.Frag} {H : Hp} : ∀ (d : PyData) {v : V}, Dp K H v d → d.hasDict = false
  | .none, _, _ => by simp only [PyData.hasDict]
  | .bool _, _, _ => by simp only [PyData.hasDict]
  | .int _, _, _ => by simp only [PyData.hasDict]
  | .str _, _, _ => by simp only [PyData.hasDict]
  | .list ds, _, h => by
    cases h with
    | lst _ q =>
      simp only [PyData.hasDict]
      exact dps_plain ds q
  | .tuple ds, _, h => by
    cases h with
    | tup _ q =>
      simp only [PyData.hasDict]
      exact dps_plain ds q
  | .dict _, _, h => by cases h
theorem dps_plain {K : PySem.W.Frag} {H : Hp} : ∀ (ds : List PyData) {vs : List V}, DpAll K H vs ds → PyData.hasDictAll ds = false
  | [], _, _ => by simp only [PyData.hasDictAll]
  | d :: ds, _, h => by
    cases h with
    | cons a b => simp only [PyData.hasDictAll, dp_plain d a, dps_plain ds b, Bool.or_self]
end
def rRepr (K : PySem.W.Frag) : List V → Hp → VK → Prop := fun xs H Q => ∃ v d, xs = [v] ∧ Dp K H v d ∧ d.showable = true ∧ d.depth ≤ 100 ∧ d.shown.length ≤ sizeLine ∧ Q (.str d.shown) H
theorem call_repr {X : Cx} {j : Nat} (hG : X.A.guards = some []) (hr : Room j X.A) : CallR X (.builtin "repr") (rRepr X.K) := by
  intro pins s σ H xs us Q I r h
  obtain ⟨v, d, rfl, dp, sh, dd, sz, q⟩ := h
  obtain ⟨u, rfl, rv⟩ := vals1 r
  have hu : X.A.units + (d.depth + 1) < cLine := by have := hr.un; omega
  obtain ⟨as, rd⟩ := Dp.reads I d v u dp rv
  have nd : d.hasDict = true → sysModules ∉ as := PyData.noDict_hsm (dp_plain d dp)
  have deep : ∀ a, u = .ref a → wpAny (model X.prog X.w) X.A (call (.builtin "repr") [u]) (EP X pins σ Q) X.xe s := fun a e => by
    subst e
    exact repr_of_reads' rd sh nd hG hu (fun _ _ e => e) (fun h' t tk k => ⟨.str d.shown, H, I.kept k, ⟨t, rfl⟩, q⟩) sz
  cases rd with
  | none => exact PySem.P.repr_of_none ⟨.str _, H, I.tok _, ⟨_, rfl⟩, by simpa only [PyData.shown] using q⟩
  | bool b => exact PySem.P.repr_of_bool ⟨.str _, H, I.tok _, ⟨_, rfl⟩, by simpa only [PyData.shown] using q⟩
  | int i t => exact PySem.P.repr_of_int (by simpa [PyData.showable] using sh) ⟨.str _, H, I.tok _, ⟨_, rfl⟩, by simpa only [PyData.shown] using q⟩
  | str x t => exact PySem.P.repr_of_str ⟨.str _, H, I.tok _, ⟨_, rfl⟩, by simpa only [PyData.shown] using q⟩ (by simpa only [PyData.shown] using sz)
  | list _ _ _ _ => exact deep _ rfl
  | tuple _ _ _ _ => exact deep _ rfl
  | dict _ _ _ _ _ => exact deep _ rfl
-- a bound for the signs of data whose texts are short: 4 more for every part, 402 for a text
mutual
def dW : PyData → Nat
  | .none => 4
  | .bool _ => 5
  | .int _ => 30
  | .str _ => 402
  | .list ds => dWs ds + 4
  | .tuple ds => dWs ds + 4
  | .dict _ => 0
def dWs : List PyData → Nat
  | [] => 0
  | d :: ds => dW d + 2 + dWs ds
end
-- no ints, texts of 40 letters at most
mutual
inductive Neat : PyData → Prop
  | non : Neat .none
  | bl (b : Bool) : Neat (.bool b)
  | str {x : Str} (h : x.length ≤ 40) (c : ∀ n ∈ x.cps.toList, n < 16 ^ 8) : Neat (.str x)
  | lst {ds : List PyData} : Neats ds → Neat (.list ds)
  | tup {ds : List PyData} : Neats ds → Neat (.tuple ds)
inductive Neats : List PyData → Prop
  | nil : Neats []
  | cons {d : PyData} {ds : List PyData} : Neat d → Neats ds → Neats (d :: ds)
end
mutual
theorem neat_sh : ∀ (d : PyData), Neat d → d.showable = true
  | .none, _ => by simp only [PyData.showable]
  | .bool _, _ => by simp only [PyData.showable]
  | .str _, _ => by simp only [PyData.showable]
  | .int _, h => by cases h
  | .list ds, .lst q => by
    simp only [PyData.showable]
    exact neats_sh ds q
  | .tuple ds, .tup q => by
    simp only [PyData.showable]
    exact neats_sh ds q
  | .dict _, h => by cases h
theorem neats_sh : ∀ (ds : List PyData), Neats ds → PyData.showableAll ds = true
  | [], _ => by simp only [PyData.showableAll]
  | d :: ds, .cons a b => by simp only [PyData.showableAll, neat_sh d a, neats_sh ds b, Bool.and_self]
end
theorem textFrom_le : ∀ (ts : List Str) (k : Nat) (acc : Str), (textFrom k acc ts).length ≤ acc.length + (ts.map fun t => t.length + 2).sum
  | [], k, acc => by
    show acc.length ≤ _
    simp
  | t :: ts, k, acc => by
    have ih := textFrom_le ts (k + 1) (acc ++ (if k > 0 then ", " else "" : String) ++ t)
    have e : (acc ++ (if k > 0 then ", " else "" : String) ++ t).length ≤ acc.length + 2 + t.length := by
      rw [strLen_append, strLen_append]
      by_cases c : k > 0
      · rw [if_pos c]
        have : (Str.ofString ", ").length = 2 := rfl
        omega
      · rw [if_neg c]
        have : (Str.ofString "").length = 0 := rfl
        omega
    rw [List.map_cons, List.sum_cons]
    show (textFrom (k + 1) (acc ++ (if k > 0 then ", " else "" : String) ++ t) ts).length ≤ _
    omega
theorem piled_sum : ∀ ts : List Str, piled ts = (ts.map fun t => t.length + 2).sum
  | [] => rfl
  | t :: ts => by simp [piled, piled_sum ts]
theorem tupleText_le (ts : List Str) : (tupleText ts).length ≤ (ts.map fun t => t.length + 2).sum + 4 := by
  have e1 : (Str.ofString "(").length = 1 := rfl
  have e2 : (Str.ofString (if ts.length == 1 then ",)" else ")")).length ≤ 2 := by split <;> decide
  have e3 : (Str.join (Str.ofString ", ") ts).length ≤ (ts.map fun t => t.length + 2).sum := by
    cases ts with
    | nil => exact Nat.zero_le _
    | cons t ts =>
      have q := join_length_add (t :: ts) (by simp)
      rw [piled_sum] at q
      omega
  unfold tupleText
  rw [strLen_append, strLen_append]
  omega
theorem listText_le (ts : List Str) : (listText ts).length ≤ (ts.map fun t => t.length + 2).sum + 4 := by
  have e1 : (Str.ofString "[").length = 1 := rfl
  have e2 : (Str.ofString "]").length = 1 := rfl
  have q := textFrom_le ts 0 (Str.ofString "[")
  show (textFrom 0 "[" ts ++ "]").length ≤ _
  rw [strLen_append]
  omega
mutual
theorem neat_le : ∀ (d : PyData), Neat d → d.shown.length ≤ dW d
  | .none, _ => by
    simp only [PyData.shown, dW]
    decide
  | .bool b, _ => by
    cases b <;> simp only [PyData.shown, dW] <;> decide
  | .str x, .str h c => by
    simp only [PyData.shown, dW]
    have := StrLaws.reprText_len x c
    omega
  | .int _, h => by cases h
  | .list ds, .lst q => by
    simp only [PyData.shown, dW]
    have a := listText_le (PyData.shownAll ds)
    have b := neats_le ds q
    omega
  | .tuple ds, .tup q => by
    simp only [PyData.shown, dW]
    have a := tupleText_le (PyData.shownAll ds)
    have b := neats_le ds q
    omega
  | .dict _, h => by cases h
theorem neats_le : ∀ (ds : List PyData), Neats ds → ((PyData.shownAll ds).map fun t => t.length + 2).sum ≤ dWs ds
  | [], _ => by
    simp only [PyData.shownAll, dWs]
    decide
  | d :: ds, .cons a b => by
    have p := neat_le d a
    have q := neats_le ds b
    simp only [PyData.shownAll, dWs, List.map_cons, List.sum_cons]
    omega
end
/-- repr of data with short texts and no ints -/
def rNeat (K : PySem.W.Frag) : List V → Hp → VK → Prop := fun xs H Q => ∃ v d, xs = [v] ∧ Dp K H v d ∧ Neat d ∧ d.depth ≤ 100 ∧ dW d ≤ 10000000 ∧ Q (.str d.shown) H
theorem call_repr_neat {X : Cx} {j : Nat} (hG : X.A.guards = some []) (hr : Room j X.A) : CallR X (.builtin "repr") (rNeat X.K) := fun pins s σ H xs us Q I r h => by
  obtain ⟨v, d, e, dp, n, dd, sz, q⟩ := h
  exact call_repr hG hr pins s σ H xs us Q I r ⟨v, d, e, dp, neat_sh d n, dd, Nat.le_trans (neat_le d n) (Nat.le_trans sz (by decide)), q⟩
end Pg
namespace Pg
open PySem PySem.Spec PyProof.Rows L2
/-! ### sorted(set(xs)), texts -/
theorem once_nodup : ∀ (xs acc : List Str), acc.Nodup → (onceL acc xs).Nodup
  | [], _, h => h
  | x :: xs, acc, h => by
    show (onceL (if x ∈ acc then acc else x :: acc) xs).Nodup
    refine once_nodup xs _ ?_
    by_cases c : x ∈ acc
    · rw [if_pos c]
      exact h
    · rw [if_neg c]
      exact List.nodup_cons.mpr ⟨c, h⟩
theorem txt_lt_of {a b : List Nat} (n : ¬ b < a) (d : a ≠ b) : a < b := by
  by_cases h : a < b
  · exact h
  · exact absurd (List.le_antisymm (List.not_lt.mp n) (List.not_lt.mp h)) d
theorem rising_pw : ∀ (zs : List (List Nat)) (p : List Nat), (p :: zs).Nodup → risingS (tx p) (zs.map tx) = true → (p :: zs).Pairwise (· < ·)
  | [], p, _, _ => List.pairwise_singleton _ _
  | z :: zs, p, nd, h => by
    have h' : (!ltCps z p && risingS (tx z) (zs.map tx)) = true := by simpa [risingS] using h
    rw [ltCps_eq] at h'
    obtain ⟨h1, h2⟩ := Bool.and_eq_true_iff.mp h'
    obtain ⟨n1, n2⟩ := List.nodup_cons.mp nd
    have ih := rising_pw zs z n2 h2
    have pz : p < z := txt_lt_of (by simpa using h1) fun e => n1 (by rw [e]; exact List.mem_cons_self)
    refine List.pairwise_cons.mpr ⟨fun y m => ?_, ih⟩
    rcases List.mem_cons.mp m with rfl | m
    · exact pz
    · exact List.lt_trans pz ((List.pairwise_cons.mp ih).1 y m)
theorem sorted_pw {ls : List (List Nat)} {ys : List Str} (pm : ys.Perm (onceL [] (ls.map tx))) (so : sortedS ys = true) : ∃ zs : List (List Nat), ys = zs.map tx ∧ zs.Pairwise (· < ·) ∧ (∀ l, l ∈ zs ↔ l ∈ ls) ∧ zs.length ≤ ls.length := by
  have e : ys = (ys.map fun s => s.cps.toList).map tx := by
    rw [List.map_map]
    conv => lhs; rw [← List.map_id ys]
    rfl
  have nd : ys.Nodup := pm.nodup_iff.mpr (once_nodup _ _ List.nodup_nil)
  have mem : ∀ s, s ∈ ys ↔ s ∈ ls.map tx := fun s => by
    rw [pm.mem_iff, once_mem]
    simp
  refine ⟨ys.map fun s => s.cps.toList, e, ?_, fun l => ?_, ?_⟩
  · have nd2 : (ys.map fun s => s.cps.toList).Nodup := by
      rw [e] at nd
      exact List.Pairwise.of_map tx (fun a b h e => h (by rw [e])) nd
    revert nd2
    rw [e] at so
    generalize (ys.map fun s => s.cps.toList) = zs at so
    intro nd2
    cases zs with
    | nil => exact List.Pairwise.nil
    | cons z zs => exact rising_pw zs z nd2 so
  · constructor
    · intro m
      obtain ⟨s, m1, rfl⟩ := List.mem_map.mp m
      obtain ⟨l, m2, rfl⟩ := List.mem_map.mp ((mem s).mp m1)
      simpa using m2
    · intro m
      exact List.mem_map.mpr ⟨tx l, (mem _).mpr (List.mem_map.mpr ⟨l, m, rfl⟩), by simp⟩
  · rw [List.length_map, pm.length_eq]
    have := once_len (ls.map tx) []
    simpa using this
/-- sorted(set(xs)): xs texts, under 64 of them; strictly ascending -/
def tSS (K : PySem.W.Frag) (te : TE) : TE := fun σ H Q => te σ H fun v H1 => ∃ (a : Addr) (ls : List (List Nat)), v = .ref a ∧ SqL K H1 a (ls.map Tx) ∧ ls.length < 4000 ∧
  ∀ (zs : List (List Nat)) (p : Addr), zs.Pairwise (· < ·) → (∀ l, l ∈ zs ↔ l ∈ ls) → zs.length ≤ ls.length → H1 p = none → Q (.ref p) (upd H1 p (.lst (zs.map Tx)))
theorem pe_sortset {X : Cx} {e : Expr} {te : TE} {p p2 pos pos2 : Pos} (hh : X.A.handled = none) (g1 : Gl X "sorted") (m1 : X.mg "sorted" = none) (g2 : Gl X "set") (m2 : X.mg "set" = none) (he : PE X e te)
    (hs : starEach [e] X.env = (false, eval e X.env) :: starEach [] X.env := by rfl)
    (hs2 : starEach [Expr.Call (.Name "set" p2) [e] [] pos2] X.env = (false, eval (Expr.Call (.Name "set" p2) [e] [] pos2) X.env) :: starEach [] X.env := by rfl) :
    PE X (.Call (.Name "sorted" p) [.Call (.Name "set" p2) [e] [] pos2] [] pos) (tSS X.K te) := by
  refine ⟨fun pins s σ H Q I h => ?_⟩
  refine wpAny_Call_Name_kw (ld_blt I g1 m1 (by rfl) ?_ (by decide) (by decide))
  refine PyProof.Rows.callWith_builtin1 ?_ hs2 (by rfl)
  rw [hs2]
  show wpAny _ _ (spliced ((false, eval (Expr.Call (.Name "set" p2) [e] [] pos2) X.env) :: backTo pos (starEach [] X.env))) _ _ s
  refine Calls.spliced_cons ?_
  refine wpAny_Call_Name_kw (ld_blt I g2 m2 (by rfl) ?_ (by decide) (by decide))
  refine PyProof.Rows.callWith_type1 ?_ hs (by rfl)
  rw [hs]
  show wpAny _ _ (spliced ((false, eval e X.env) :: backTo pos2 (starEach [] X.env))) _ _ s
  refine Calls.spliced_cons (thn (he.run pins s σ H _ I h) fun u s1 ⟨v, H1, I1, r1, q1⟩ => Calls.spliced_nil ?_)
  obtain ⟨a, ls, rfl, hl, few, q⟩ := q1
  obtain rfl : u = .ref a := r1
  obtain ⟨its, rv, pl, _⟩ := I1.list hl
  have st : StrsAre its.toArray.toList (ls.map tx) := by
    have : ls.map Tx = (ls.map tx).map V.str := by rw [List.map_map]; rfl
    rw [this] at rv
    exact rv.strs
  refine call_set_txt hh pl.isList st (by rw [List.length_map]; exact Nat.lt_of_lt_of_le (Nat.succ_lt_succ few) (by decide)) fun h' tk S k => ?_
  refine Calls.spliced_nil ?_
  have few2 : (onceL [] (ls.map tx)).length < 4000 := by
    have := once_len (ls.map tx) []
    rw [List.length_map] at this
    simp at this
    omega
  refine sorted_txt (s := { s1 with heap := h', toks := tk }) S hh few2 fun z p out n ys k2 hg ho hp hat hst pm so => ?_
  obtain ⟨zs, rfl, pw, mem, len⟩ := sorted_pw pm so
  have k3 : ∀ b u, s1.heap.get? b = some u → z.heap.get? b = some u := fun b u e => k2 b u (k b u e)
  have sz : s1.heap.objs.size ≤ p := by
    obtain ⟨D, at_, _⟩ := S
    exact Nat.le_trans (Nat.le_of_lt (Heap.lt_size at_)) hp
  have fr := I1.hok.fresh sz
  refine ⟨.ref p, upd H1 p (.lst (zs.map Tx)), ?_, rfl, q zs p pw mem len fr⟩
  have ok : ObjOk X.prog X.w (upd H1 p (.lst (zs.map Tx))) z.heap p (.lst (zs.map Tx)) :=
    ⟨by rw [List.length_map]; exact Nat.le_trans len (Nat.le_of_lt (Nat.lt_of_lt_of_le few (by decide))), out.toList, n, by
      have := vals_of_strs hst
      rw [List.map_map] at this
      exact this, hat⟩
  exact I1.call' (ch := []) ho (Un.laid k3 sz fr) (I1.hok.laid k3 sz ok) (by rw [hg]; exact I1.bare) (fun b z => absurd z (by simp))
end Pg
namespace Pg
open PySem PySem.Spec PyProof.Rows L2
/-! ### comprehensions that give values -/
theorem sql_up {K : PySem.W.Frag} {H H' : Hp} {a : Addr} {xs : List V} (s : Stp [] H H') (h : SqL K H a xs) : SqL K H' a xs := by
  rcases h with (h | ⟨o, h⟩) | h
  · exact .inl (.inl (s.kp _ _ (fun m => nomatch m) h))
  · exact .inl (.inr ⟨o, s.kp _ _ (fun m => nomatch m) h⟩)
  · exact .inr h
theorem ix_listK {X : Cx} {K : PySem.W.Frag} (hK : X.K = K) : IxR X (rIxL K) := by
  subst hK
  exact ix_list
theorem tn {σ : L2.St} {H : Hp} {Q : List V → Hp → Prop} (h : Q [] H) : tNil σ H Q := h
theorem RpL.snoc {K : PySem.W.Frag} {H : Hp} {vs : List V} {ds : List Dt} {i : Nat} {v : V} {d : Dt} (r : RpL K H vs (ds.take i)) (e : ds[i]? = some d) (h : Rp K H v d) : RpL K H (vs ++ [v]) (ds.take (i + 1)) := by
  rw [List.take_add_one, e]
  exact r.app (.cons h .nil)
theorem rpl_strs {K : PySem.W.Frag} {H : Hp} : ∀ {ls : List (List Nat)} {vs : List V}, RpL K H vs (ls.map Dt.str) → vs = ls.map Tx
  | [], _, .nil => rfl
  | l :: ls, _, .cons h r => by
    cases h
    rw [List.map_cons, rpl_strs r]
theorem rpl_bls {K : PySem.W.Frag} {H : Hp} : ∀ {bs : List Bool} {vs : List V}, RpL K H vs (bs.map Dt.bl) → vs = bs.map V.bl
  | [], _, .nil => rfl
  | b :: bs, _, .cons h r => by
    cases h
    rw [List.map_cons, rpl_bls r]
section
variable {K : PySem.W.Frag} {a : Addr} {xs : List V} {ds : List Dt} {g : TG} {te : TE} {vs : List Nat} {σ : L2.St} {H1 : Hp} {D : Addr} {Qd : Hp → Prop}
theorem lc_mapL (nD : H1 D = none) (hs : SqL K H1 a xs) (hl : ds.length = xs.length) (hz : xs.length ≤ 90000)
    (step : ∀ (i : Nat) x d H, xs[i]? = some x → ds[i]? = some d → Stp [] H1 H → ∀ Q : VK, (∀ y H', Stp [] H H' → Rp K H' y d → Q y H') → g x (wipe σ vs) H fun σ2 H2 => wipe σ2 vs = wipe σ vs ∧ te σ2 H2 Q)
    (hd : ∀ ws H, Stp [] H1 H → H D = some (.lst ws) → RpL K H ws ds → Qd H) :
    ∃ W : Nat → Nat → Hp → Prop, (∃ m, W 0 m (upd H1 D (.lst []))) ∧ ∀ i m H, W i m H →
      ((Itl K a).stop i H ∧ Qd H) ∨ ((Itl K a).go i H ∧ ∃ Nx : Hp → Prop, (∀ H', Nx H' → ∃ m', m' < m ∧ W (i + 1) m' H') ∧ ∀ x H', (Itl K a).yld i H x H' → g x (wipe σ vs) H' fun σ2 H2 => wipe σ2 vs = wipe σ vs ∧ tYes σ2 H2 fun b H3 =>
        if b = true then te σ2 H3 fun y H4 => ∃ acc, H4 D = some (.lst acc) ∧ acc.length < sizeLine ∧ Nx (upd H4 D (.lst (acc ++ [y]))) else Nx H3) := by
  refine lc_list (a := a) (xs := xs) (fun i H => ∃ ws, H D = some (.lst ws) ∧ RpL K H ws (ds.take i) ∧ Stp [] H1 H) ⟨[], upd_same, .nil, Stp.new nD _⟩ (fun i H _ ⟨_, _, _, S⟩ => sql_up S hs) ?_ ?_
  · rintro i x H hi ⟨ws, hL, rv, S⟩
    have il : i < ds.length := by rw [hl]; exact (List.getElem?_eq_some_iff.mp hi).1
    refine step i x ds[i] H hi (List.getElem?_eq_getElem il) S _ fun y H' S' ry => ?_
    refine ⟨ws, S'.kp _ _ (fun m => nomatch m) hL, ?_, ws ++ [y], upd_same, ?_, (S.trans S').mut nD⟩
    · rw [rv.len, List.length_take]
      exact Nat.lt_of_le_of_lt (show min i ds.length ≤ 90000 by omega) (by decide)
    · have s4 : Stp [D] H' (upd H' D (.lst (ws ++ [y]))) := Stp.put (by simp)
      have hL' := S'.kp _ _ (fun m => nomatch m) hL
      exact RpL.snoc ((rv.stp S' Lsts.nil).stp s4 (.one hL')) (List.getElem?_eq_getElem il) (ry.stp s4 (.one hL'))
  · rintro H ⟨ws, hL, rv, S⟩
    rw [← hl, List.take_length] at rv
    exact hd ws H S hL rv
theorem lc_mapT (nD : H1 D = none) (hs : SqT K H1 a xs) (hl : ds.length = xs.length) (hz : xs.length ≤ 90000)
    (step : ∀ (i : Nat) x d H, xs[i]? = some x → ds[i]? = some d → Stp [] H1 H → ∀ Q : VK, (∀ y H', Stp [] H H' → Rp K H' y d → Q y H') → g x (wipe σ vs) H fun σ2 H2 => wipe σ2 vs = wipe σ vs ∧ te σ2 H2 Q)
    (hd : ∀ ws H, Stp [] H1 H → H D = some (.lst ws) → RpL K H ws ds → Qd H) :
    ∃ W : Nat → Nat → Hp → Prop, (∃ m, W 0 m (upd H1 D (.lst []))) ∧ ∀ i m H, W i m H →
      ((Itt K a).stop i H ∧ Qd H) ∨ ((Itt K a).go i H ∧ ∃ Nx : Hp → Prop, (∀ H', Nx H' → ∃ m', m' < m ∧ W (i + 1) m' H') ∧ ∀ x H', (Itt K a).yld i H x H' → g x (wipe σ vs) H' fun σ2 H2 => wipe σ2 vs = wipe σ vs ∧ tYes σ2 H2 fun b H3 =>
        if b = true then te σ2 H3 fun y H4 => ∃ acc, H4 D = some (.lst acc) ∧ acc.length < sizeLine ∧ Nx (upd H4 D (.lst (acc ++ [y]))) else Nx H3) := by
  refine lc_tup (a := a) (xs := xs) (fun i H => ∃ ws, H D = some (.lst ws) ∧ RpL K H ws (ds.take i) ∧ Stp [] H1 H) ⟨[], upd_same, .nil, Stp.new nD _⟩ (fun i H _ ⟨_, _, _, S⟩ => sqt_stp S Lsts.nil hs) ?_ ?_
  · rintro i x H hi ⟨ws, hL, rv, S⟩
    have il : i < ds.length := by rw [hl]; exact (List.getElem?_eq_some_iff.mp hi).1
    refine step i x ds[i] H hi (List.getElem?_eq_getElem il) S _ fun y H' S' ry => ?_
    refine ⟨ws, S'.kp _ _ (fun m => nomatch m) hL, ?_, ws ++ [y], upd_same, ?_, (S.trans S').mut nD⟩
    · rw [rv.len, List.length_take]
      exact Nat.lt_of_le_of_lt (show min i ds.length ≤ 90000 by omega) (by decide)
    · have s4 : Stp [D] H' (upd H' D (.lst (ws ++ [y]))) := Stp.put (by simp)
      have hL' := S'.kp _ _ (fun m => nomatch m) hL
      exact RpL.snoc ((rv.stp S' Lsts.nil).stp s4 (.one hL')) (List.getElem?_eq_getElem il) (ry.stp s4 (.one hL'))
  · rintro H ⟨ws, hL, rv, S⟩
    rw [← hl, List.take_length] at rv
    exact hd ws H S hL rv
theorem lc_mapR {n : Nat} (nD : H1 D = none) (hl : ds.length = n) (hz : n ≤ 90000)
    (step : ∀ (i : Nat) d H, ds[i]? = some d → Stp [] H1 H → ∀ Q : VK, (∀ y H', Stp [] H H' → Rp K H' y d → Q y H') → g (.int ((0 : Int) + (i : Int))) (wipe σ vs) H fun σ2 H2 => wipe σ2 vs = wipe σ vs ∧ te σ2 H2 Q)
    (hd : ∀ ws H, Stp [] H1 H → H D = some (.lst ws) → RpL K H ws ds → Qd H) :
    ∃ W : Nat → Nat → Hp → Prop, (∃ m, W 0 m (upd H1 D (.lst []))) ∧ ∀ i m H, W i m H →
      ((Itr 0 n).stop i H ∧ Qd H) ∨ ((Itr 0 n).go i H ∧ ∃ Nx : Hp → Prop, (∀ H', Nx H' → ∃ m', m' < m ∧ W (i + 1) m' H') ∧ ∀ x H', (Itr 0 n).yld i H x H' → g x (wipe σ vs) H' fun σ2 H2 => wipe σ2 vs = wipe σ vs ∧ tYes σ2 H2 fun b H3 =>
        if b = true then te σ2 H3 fun y H4 => ∃ acc, H4 D = some (.lst acc) ∧ acc.length < sizeLine ∧ Nx (upd H4 D (.lst (acc ++ [y]))) else Nx H3) := by
  refine lc_range (lo := 0) (n := n) (fun i H => ∃ ws, H D = some (.lst ws) ∧ RpL K H ws (ds.take i) ∧ Stp [] H1 H) ⟨[], upd_same, .nil, Stp.new nD _⟩ ?_ ?_
  · rintro i H hi ⟨ws, hL, rv, S⟩
    have il : i < ds.length := by rw [hl]; exact hi
    refine step i ds[i] H (List.getElem?_eq_getElem il) S _ fun y H' S' ry => ?_
    refine ⟨ws, S'.kp _ _ (fun m => nomatch m) hL, ?_, ws ++ [y], upd_same, ?_, (S.trans S').mut nD⟩
    · rw [rv.len, List.length_take]
      exact Nat.lt_of_le_of_lt (show min i ds.length ≤ 90000 by omega) (by decide)
    · have s4 : Stp [D] H' (upd H' D (.lst (ws ++ [y]))) := Stp.put (by simp)
      have hL' := S'.kp _ _ (fun m => nomatch m) hL
      exact RpL.snoc ((rv.stp S' Lsts.nil).stp s4 (.one hL')) (List.getElem?_eq_getElem il) (ry.stp s4 (.one hL'))
  · rintro H ⟨ws, hL, rv, S⟩
    rw [← hl, List.take_length] at rv
    exact hd ws H S hL rv
end
end Pg
namespace Pg
open PySem PySem.Spec PyProof.Rows L2
/-- a new object is changed -/
theorem Stp.mutO {S : List Addr} {H H' : Hp} {p : Addr} {o : HO} (a : Stp S H H') (h : H p = none) : Stp S H (upd H' p o) :=
  ⟨fun x u n q => by
    rw [upd_ne (ne_of_none q h)]
    exact a.kp x u n q, fun x xs q => by
    rw [upd_ne (ne_of_none q h)]
    exact a.ls x xs q⟩
/-- sorted(xs), texts, any number of them -/
def rSortedSA (K : PySem.W.Frag) : List V → Hp → VK → Prop := fun vs H Q => ∃ (a : Addr) (ls : List (List Nat)), vs = [V.ref a] ∧ SqL K H a (ls.map Tx) ∧
  ∀ (zs : List (List Nat)) (p : Addr), zs.Perm ls → zs.Pairwise (· ≤ ·) → H p = none → Q (.ref p) (upd H p (.lst (zs.map Tx)))
theorem rising_le : ∀ (zs : List (List Nat)) (p : List Nat), risingS (tx p) (zs.map tx) = true → (p :: zs).Pairwise (· ≤ ·)
  | [], p, _ => List.pairwise_singleton _ _
  | z :: zs, p, h => by
    have h' : (!ltCps z p && risingS (tx z) (zs.map tx)) = true := by simpa [risingS] using h
    rw [ltCps_eq] at h'
    obtain ⟨h1, h2⟩ := Bool.and_eq_true_iff.mp h'
    have ih := rising_le zs z h2
    have pz : p ≤ z := List.not_lt.mp (by simpa using h1)
    refine List.pairwise_cons.mpr ⟨fun y m => ?_, ih⟩
    rcases List.mem_cons.mp m with rfl | m
    · exact pz
    · exact List.le_trans pz ((List.pairwise_cons.mp ih).1 y m)
theorem cr_sortedSA {X : Cx} : CallR X (.builtin "sorted") (rSortedSA X.K) := by
  intro pins s σ H vs us Q I r h
  obtain ⟨a, ls, rfl, hs, q⟩ := h
  obtain ⟨its, rv, hl, hz⟩ := I.list hs
  rw [Vals.ref1 r]
  have st : StrsAre its (ls.map tx) := by
    have : ls.map Tx = (ls.map tx).map V.str := by rw [List.map_map]; rfl
    rw [this] at rv
    exact rv.strs
  refine sorted_strsAny hl.isList st (by rw [← rv.length]; exact hz) fun out ys h1 h2 h3 => ?_
  have e : ys = (ys.map fun s => s.cps.toList).map tx := by
    rw [List.map_map]
    conv => lhs; rw [← List.map_id ys]
    rfl
  have pm : (ys.map fun s => s.cps.toList).Perm ls := by
    have := h2.map fun s : Str => s.cps.toList
    rw [List.map_map] at this
    refine this.trans (List.Perm.of_eq ?_)
    conv => rhs; rw [← List.map_id ls]
    refine List.map_congr_left fun l _ => ?_
    simp
  have so : (ys.map fun s => s.cps.toList).Pairwise (· ≤ ·) := by
    rw [e] at h3
    generalize (ys.map fun s => s.cps.toList) = zs at h3
    cases zs with
    | nil => exact List.Pairwise.nil
    | cons z zs => exact rising_le zs z h3
  obtain ⟨ep, he'⟩ := PyProof.Rows.sortedAll_at s.heap its out
  rw [e] at h1
  have hv := vals_of_strs h1
  rw [List.map_map] at hv
  have hv : Vals ((ys.map fun s => s.cps.toList).map Tx) out.toList := hv
  have hlen : ((ys.map fun s => s.cps.toList).map Tx).length ≤ sizeLine := by
    rw [List.length_map, pm.length_eq]
    rw [List.length_map] at hz
    exact hz
  exact ⟨.ref _, upd H (s.heap.objs.size + 1) (.lst ((ys.map fun s => s.cps.toList).map Tx)), I.laid (t' := s.toks) (fun _ _ => PyProof.Rows.sortedAll_old) (Nat.le_succ _) ⟨hlen, out.toList, ep, hv, he'⟩, rfl, q _ _ pm so (I.hok.fresh (Nat.le_succ _))⟩
end Pg
namespace Pg
open PySem PySem.Spec PyProof.Rows L2
theorem RpL.rev {K : PySem.W.Frag} {H : Hp} : ∀ {vs : List V} {ds : List Dt}, RpL K H vs ds → RpL K H vs.reverse ds.reverse
  | _, [], .nil => .nil
  | _, _ :: _, .cons h r => by
    rw [List.reverse_cons, List.reverse_cons]
    exact RpL.app (RpL.rev r) (.cons h .nil)
theorem RpL.erase {K : PySem.W.Frag} {H : Hp} {α : Type} {f : α → Dt} : ∀ {vs : List V} {ps : List α} {k : Nat}, RpL K H vs (ps.map f) → RpL K H (vs.eraseIdx k) ((ps.eraseIdx k).map f)
  | _, [], _, .nil => .nil
  | _, _ :: _, 0, .cons _ r => r
  | _, _ :: _, k + 1, .cons h r => .cons h (RpL.erase (k := k) r)
theorem seqIx {n : Nat} {d : Int} (h0 : 0 ≤ d) (h1 : d < (n : Int)) : seqIndex? d n = some d.toNat := (ixN_seq (by unfold ixN; rw [if_pos h0, if_pos h1])).1
/-! ### t[::-1] -/
section
variable {prog : Program} {w : World} {A : Around} {E : Value → Shared → Prop} {s : Shared}
open HT
theorem sliceApplied_rev {sl : Addr} {vl vu vs : Value} {n : Nat} {Q : Int × Int × Nat → Shared → Prop} (hs : s.heap.IsSliceOf sl vl vu vs) (pl : IsPart vl none) (pu : IsPart vu none) (ps : IsPart vs (some (-1)))
    (h : Q ((n : Int) - 1, -1, n) s) : wpAny (model prog w) A (Builtin.Slice.sliceApplied (.ref sl) (pure (n : Int))) Q E s := by
  obtain ⟨os, hos, hcs, hds⟩ := id hs
  unfold Builtin.Slice.sliceApplied Builtin.Slice.sliceFields
  refine wpAny_bind (wpAny_bind (wpAny_field hos hds (x := vl) rfl (wpAny_bind (wpAny_field hos hds (x := vu) rfl (wpAny_bind (wpAny_field hos hds (x := vs) rfl (wpAny_pure ?_)))))))
  refine wpAny_bind (slicePart_ ps ?_)
  show wpAny _ _ (if ((-1 : Int) == 0) = true then _ else _) _ _ s
  rw [if_neg (by decide)]
  refine wpAny_bind (slicePart_ pl (wpAny_bind (slicePart_ pu (wpAny_bind (wpAny_pure ?_)))))
  show wpAny _ _ (pure ((n : Int) - 1, (-1 : Int), Builtin.Slice.slicePlaces ((n : Int) - 1) (-1) (-1))) _ _ s
  have e : Builtin.Slice.slicePlaces ((n : Int) - 1) (-1) (-1) = n := by
    unfold Builtin.Slice.slicePlaces
    rw [if_neg (by decide)]
    by_cases c : (n : Int) - 1 > -1
    · rw [if_pos c, show (- -1 : Int) = 1 by decide, Int.ediv_one]
      omega
    · rw [if_neg c]
      omega
  rw [e]
  exact wpAny_pure h
theorem pick_rev (xs : Array Value) : ((List.range xs.size).filterMap fun (k : Nat) => xs[((xs.size : Int) - 1 + (k : Int) * (-1)).toNat]?).toArray = xs.toList.reverse.toArray := by
  have e : (fun (k : Nat) => xs[((xs.size : Int) - 1 + (k : Int) * (-1)).toNat]?) = (fun k => xs[xs.size - 1 - k]?) := by
    funext k
    have : ((xs.size : Int) - 1 + (k : Int) * (-1)).toNat = xs.size - 1 - k := by omega
    rw [this]
  rw [e]
  have e2 : (fun k => xs[xs.size - 1 - k]?) = (fun k => xs[k]?) ∘ fun k => xs.size - 1 - k := rfl
  rw [e2, ← List.filterMap_map, PySem.W.krv_range, List.filterMap_reverse, PySem.W.krv_all]
theorem getItem_tuple_rev {t sl : Addr} {items : Array Value} {vl vu vs : Value} {Q : Value → Shared → Prop} (ht : IsTup s.heap t items) (hs : s.heap.IsSliceOf sl vl vu vs) (pl : IsPart vl none) (pu : IsPart vu none) (ps : IsPart vs (some (-1)))
    (h : Q (.ref s.heap.objs.size) { s with heap := s.heap.push { cls := .type "tuple", data := .seq items.toList.reverse.toArray } })
    (hsz : items.size ≤ sizeLine) : wpAny (model prog w) A (getItem (.ref t) (.ref sl)) Q E s := by
  have htake : sizeOk (.seq items.toList.reverse.toArray) := by
    show items.toList.reverse.toArray.size ≤ sizeLine
    rw [List.size_toArray, List.length_reverse, Array.length_toList]
    exact hsz
  obtain ⟨os, hos, hcs, hds⟩ := id hs
  have hTs : s.TypeIs (.ref sl) "slice" := ⟨os, hos, hcs⟩
  unfold getItem
  try with_reducible refine wpAny_holding ?_
  first | refine wpAny_bind (wpAny_pure ?_) | skip
  refine wpAny_bind (wpAny_sequenceKey ht.typeIs (by decide) ?_)
  refine wpAny_bind (wpAny_callSpecial?_slot (name := Str.ofString "__getitem__") ht.typeIs PyProof.Rows.slot_tuple_getitem
    (wpAny_call_entry PyProof.Rows.slot_tuple_getitem ht.typeIs entry_tuple_getitem ?_ (args_tuple_getitem _ _)))
  show wpAny _ _ (Builtin.Tuple.tupleItemsOf (.ref t) >>= _) _ _ s
  refine wpAny_bind (tupleItemsOf_ ht ?_)
  refine wpAny_bind (wpAny_typeOf hTs ?_)
  rw [if_pos (by decide)]
  refine wpAny_bind (sliceApplied_rev hs pl pu ps ?_)
  have hno : ¬ ((((items.size : Int) - 1) == 0 && (-1 : Int) == 1 && items.size == items.size) = true) := by
    intro q
    rw [Bool.and_eq_true, Bool.and_eq_true] at q
    exact absurd q.1.2 (by decide)
  show wpAny _ _ (if (((items.size : Int) - 1) == 0 && (-1 : Int) == 1 && items.size == items.size) = true then _ else _) _ _ s
  rw [if_neg hno, pick_rev]
  first
    | exact wpAny_bind (m := Builtin.Tuple.tupleExact _) (wpAny_newObj_type (wpAny_pure ⟨_, rfl, wpAny_pure h⟩) htake)
    | exact wpAny_bind (m := Builtin.Tuple.tupleExact _) (wpAny_newObj_type (wpAny_bind (wpAny_pure (wpAny_pure ⟨_, rfl, wpAny_pure h⟩))) htake)
    | exact wpAny_bind (wpAny_bind (m := Builtin.Tuple.tupleExact _) (wpAny_newObj_type (wpAny_pure (wpAny_pure ⟨_, rfl, wpAny_pure h⟩)) htake))
    | exact wpAny_bind (wpAny_bind (m := Builtin.Tuple.tupleExact _) (wpAny_newObj_type (wpAny_pure ⟨_, rfl, wpAny_pure h⟩) htake))
end
section
variable {X : Cx}
def tRevT (K : PySem.W.Frag) (te : TE) : TE := fun σ H Q => te σ H fun x H1 => ∃ a xs, x = .ref a ∧ SqT K H1 a xs ∧ ∀ p, H1 p = none → Q (.ref p) (upd H1 p (.tup xs.reverse))
theorem pe_revT {e : Expr} {te : TE} {k : Nat} {p1 p2 p3 pos : Pos} (he : PE X e te) : PE X (.Subscript e (.Slice none none (some (.UnaryOp .USub (.Constant (.int 1) k p1) p2)) p3) pos) (tRevT X.K te) := by
  refine ⟨fun pins s σ H Q I h => ?_⟩
  refine Subscript_ (thn (he.run pins s σ H _ I h) fun v s1 ⟨x, H1, I1, r1, q1⟩ => ?_)
  obtain ⟨a, xs, ex, hx, q⟩ := q1
  subst ex
  cases r1
  have hst : PO X (some (.UnaryOp .USub (.Constant (.int 1) k p1) p2)) (tPart (tUn (rU fun i => .int (-i)) (tC (.int 1)))) := po_some (pe_un un_neg pe_int)
  refine wpAny_Slice (thn (po_none.run pins s1 σ H1 (fun o H2 => o = none ∧ H2 = H1) I1 ⟨rfl, rfl⟩) fun vl s2 ⟨l, H2, I2, pl, el, e2⟩ => ?_)
  subst el e2
  refine thn (po_none.run pins s2 σ H2 (fun o H3 => o = none ∧ H3 = H2) I2 ⟨rfl, rfl⟩) fun vu s3 ⟨u, H3, I3, pu, eu, e3⟩ => ?_
  subst eu e3
  refine thn (hst.run pins s3 σ H3 (fun o H4 => o = some (-1) ∧ H4 = H3) I3 ⟨1, rfl, -1, rfl, rfl, rfl⟩) fun vs s4 ⟨o, H4, I4, ps, eo, e4⟩ => ?_
  subst eo e4
  have I5 : Inv X pins σ H4 { s4 with heap := s4.heap.push { cls := .type "slice", data := .fields #[vl, vu, vs] } } := I4.kept (t' := s4.toks) fun b ob q => Heap.get?_push_of_some _ q
  obtain ⟨its, r, ht, hz⟩ := I5.tuple hx
  have hlen := r.length
  show wpAny (model X.prog X.w) X.A (subscriptTail e (.Slice none none (some (.UnaryOp .USub (.Constant (.int 1) k p1) p2)) p3) (.ref a) (.ref s4.heap.objs.size)) (EP X pins σ Q) X.xe { s4 with heap := s4.heap.push { cls := .type "slice", data := .fields #[vl, vu, vs] } }
  refine tail_any (ops := [.ref a, .ref s4.heap.objs.size]) ht.typeIs (PyProof.Rows.slot_tuple_getitem.lookup) ?_ (by with_unfolding_all rfl)
  refine getItem_tuple_rev ht (Heap.IsSliceOf.new _ vl vu vs) pl pu ps ?_ (by rw [List.size_toArray]; omega)
  refine ⟨.ref _, _, I5.laid (t' := s4.toks) (o := .tup xs.reverse) (fun b ob q => Heap.get?_push_of_some _ q) (Nat.le_refl _) ?_, rfl, q _ (I5.hok.fresh (Nat.le_refl _))⟩
  exact ⟨by rw [List.length_reverse]; exact hz, _, r.reverse, IsTup.new _ _⟩
end
end Pg
namespace Pg
open PySem PySem.Spec PyProof.Rows L2
theorem pe_clG0 {X : Cx} {j k : Nat} {st : Stmt} {ps : List Str} {sp : Sp} {x : Str} {p pos : Pos} (c : ClG X.prog X.w X.K X.mg X.base k x st ps sp) (hG : X.A.guards = some []) (hr : Room j X.A) (hk : k ≤ j) (hg : Gl X x := by rfl) (hdb : (x == ("__debug__" : Str)) = false := by decide) :
    PE X (.Call (.Name x p) [] [] pos) (tCl sp tNil) := by
  obtain ⟨f, fd, D, F⟩ := c.ex
  refine ⟨fun pins s σ H Q I h => ?_⟩
  refine wpAny_Call_Name_kw (ld_glob I hg D.at_ ?_ hdb)
  exact PySem.W.callWith_K0 I.kIn D.fn.kp (run_g (us := []) (F.mono hk) hG hr D.bd I .nil h)
end Pg
namespace Pv
open PySem PySem.Spec PyProof.Rows L2 Pg
/-! ### values as data, told by repr -/
mutual
def D.py : D → PyData
  | .non => .none
  | .bl b => .bool b
  | .int i => .int i
  | .str l => .str (tx l)
  | .tup ds => .tuple (D.pys ds)
  | .lst ds => .list (D.pys ds)
  | .obj _ => .none
def D.pys : List D → List PyData
  | [] => []
  | d :: ds => d.py :: D.pys ds
end
mutual
/-- signs at most -/
def D.wt : D → Nat
  | .non => 4
  | .bl _ => 5
  | .int _ => 12
  | .str l => 10 * l.length + 2
  | .tup ds => D.wts ds + 4
  | .lst ds => D.wts ds + 4
  | .obj _ => 0
def D.wts : List D → Nat
  | [] => 0
  | d :: ds => d.wt + 2 + D.wts ds
end
mutual
def D.deep : D → Nat
  | .tup ds => D.deeps ds + 1
  | .lst ds => D.deeps ds + 1
  | _ => 0
def D.deeps : List D → Nat
  | [] => 0
  | d :: ds => max d.deep (D.deeps ds)
end
mutual
/-- no objects, small numbers, signs that are signs -/
def D.fair : D → Bool
  | .non => true
  | .bl _ => true
  | .int i => decide (i.natAbs < 10 ^ 10)
  | .str l => l.all fun n => decide (n < 16 ^ 8)
  | .tup ds => D.fairs ds
  | .lst ds => D.fairs ds
  | .obj _ => false
def D.fairs : List D → Bool
  | [] => true
  | d :: ds => d.fair && D.fairs ds
end
section
variable {K : PySem.W.Frag} {S : List Addr} {H : Hp}
mutual
theorem rv_dp : ∀ {v : V} {d : D}, Rv K S H v d → d.fair = true → Dp K H v d.py
  | _, .non, .non, _ => by unfold D.py; exact .non
  | _, .bl _, .bl b, _ => by unfold D.py; exact .bl b
  | _, .int _, .int i, _ => by unfold D.py; exact .int i
  | _, .str _, .str x h, _ => by unfold D.py; exact .str _
  | _, .tup ds, .tup h n r, f => by
    unfold D.py
    unfold D.fair at f
    exact .tup h (rvs_dp r f)
  | _, .lst ds, .lst h o n r, f => by
    unfold D.py
    unfold D.fair at f
    exact .lst (SqL.of h) (rvs_dp r f)
  | _, .obj _, .obj _ _, f => by
    unfold D.fair at f
    cases f
theorem rvs_dp : ∀ {vs : List V} {ds : List D}, RvL K S H vs ds → D.fairs ds = true → DpAll K H vs (D.pys ds)
  | _, [], .nil, _ => by unfold D.pys; exact .nil
  | _, _ :: _, .cons h r, f => by
    unfold D.pys
    unfold D.fairs at f
    obtain ⟨f1, f2⟩ := Bool.and_eq_true_iff.mp f
    exact .cons (rv_dp h f1) (rvs_dp r f2)
end
end
mutual
theorem D.shw : ∀ (d : D), d.fair = true → d.py.showable = true
  | .non, _ => by unfold D.py; simp only [PyData.showable]
  | .bl _, _ => by unfold D.py; simp only [PyData.showable]
  | .int i, f => by
    unfold D.py
    unfold D.fair at f
    simp only [PyData.showable]
    have h := of_decide_eq_true f
    refine decide_eq_true ?_
    by_cases z : i.natAbs = 0
    · rw [z]; decide
    · exact (Nat.log2_lt z).mpr (Nat.lt_trans h (by decide +kernel))
  | .str _, _ => by unfold D.py; simp only [PyData.showable]
  | .tup ds, f => by
    unfold D.py
    unfold D.fair at f
    simp only [PyData.showable]
    exact D.shws ds f
  | .lst ds, f => by
    unfold D.py
    unfold D.fair at f
    simp only [PyData.showable]
    exact D.shws ds f
  | .obj _, f => by
    unfold D.fair at f
    cases f
theorem D.shws : ∀ (ds : List D), D.fairs ds = true → PyData.showableAll (D.pys ds) = true
  | [], _ => by unfold D.pys; simp only [PyData.showableAll]
  | d :: ds, f => by
    unfold D.pys
    unfold D.fairs at f
    obtain ⟨f1, f2⟩ := Bool.and_eq_true_iff.mp f
    simp only [PyData.showableAll, D.shw d f1, D.shws ds f2, Bool.and_self]
end
mutual
theorem D.dpt : ∀ (d : D), d.py.depth = d.deep
  | .non => by unfold D.py D.deep; rfl
  | .bl _ => by unfold D.py D.deep; rfl
  | .int _ => by unfold D.py D.deep; rfl
  | .str _ => by unfold D.py D.deep; rfl
  | .obj _ => by unfold D.py D.deep; rfl
  | .tup ds => by
    unfold D.py D.deep
    show PyData.depthAll _ + 1 = _
    rw [D.dpts ds]
  | .lst ds => by
    unfold D.py D.deep
    show PyData.depthAll _ + 1 = _
    rw [D.dpts ds]
theorem D.dpts : ∀ (ds : List D), PyData.depthAll (D.pys ds) = D.deeps ds
  | [] => by unfold D.pys D.deeps; rfl
  | d :: ds => by
    unfold D.pys D.deeps
    show max d.py.depth (PyData.depthAll (D.pys ds)) = _
    rw [D.dpt d, D.dpts ds]
end
mutual
theorem D.sgn : ∀ (d : D), d.fair = true → d.py.shown.length ≤ d.wt
  | .non, _ => by
    unfold D.py D.wt
    simp only [PyData.shown]
    decide
  | .bl b, _ => by
    unfold D.py D.wt
    cases b <;> simp only [PyData.shown] <;> decide
  | .int i, f => by
    unfold D.py D.wt
    unfold D.fair at f
    simp only [PyData.shown]
    have h := int_text_length_le10 (k := 10) (by decide) (of_decide_eq_true f)
    show (Str.ofString (toString i)).length ≤ 12
    rw [PySem.ofString_length]
    omega
  | .str l, f => by
    unfold D.py D.wt
    unfold D.fair at f
    simp only [PyData.shown]
    have := StrLaws.reprText_len (tx l) (fun c m => of_decide_eq_true (List.all_eq_true.mp f c (by simpa using m)))
    rw [tx_len] at this
    exact this
  | .tup ds, f => by
    unfold D.py D.wt
    unfold D.fair at f
    simp only [PyData.shown]
    have a := tupleText_le (PyData.shownAll (D.pys ds))
    have b := D.sgns ds f
    omega
  | .lst ds, f => by
    unfold D.py D.wt
    unfold D.fair at f
    simp only [PyData.shown]
    have a := listText_le (PyData.shownAll (D.pys ds))
    have b := D.sgns ds f
    omega
  | .obj _, f => by
    unfold D.fair at f
    cases f
theorem D.sgns : ∀ (ds : List D), D.fairs ds = true → ((PyData.shownAll (D.pys ds)).map fun t => t.length + 2).sum ≤ D.wts ds
  | [], _ => by
    unfold D.pys D.wts
    simp only [PyData.shownAll]
    decide
  | d :: ds, f => by
    unfold D.pys D.wts
    unfold D.fairs at f
    obtain ⟨f1, f2⟩ := Bool.and_eq_true_iff.mp f
    have p := D.sgn d f1
    have q := D.sgns ds f2
    simp only [PyData.shownAll, List.map_cons, List.sum_cons]
    omega
end
/-- what repr tells of a value -/
def D.told (d : D) : Str := d.py.shown
structure D.Fine (d : D) : Prop where
  fair : d.fair = true
  deep : d.deep ≤ 100
  wt : d.wt ≤ 1000000
/-- repr of values -/
def rReprD (K : PySem.W.Frag) : List V → Hp → VK → Prop := fun xs H Q => ∃ (S : List Addr) (v : V) (d : D), xs = [v] ∧ Rv K S H v d ∧ d.Fine ∧ Q (.str d.told) H
theorem call_reprD {X : Cx} {j : Nat} (hG : X.A.guards = some []) (hr : Room j X.A) : CallR X (.builtin "repr") (rReprD X.K) := fun pins s σ H xs us Q I r h => by
  obtain ⟨S, v, d, e, rv, ⟨f, dd, sz⟩, q⟩ := h
  exact call_repr hG hr pins s σ H xs us Q I r ⟨v, d.py, e, rv_dp rv f, D.shw d f, by rw [D.dpt]; exact dd, Nat.le_trans (D.sgn d f) (Nat.le_trans sz (by decide)), q⟩
/-! ### list.count of flat items -/
def rCntF (K : PySem.W.Frag) : V → List V → Hp → VK → Prop := fun x xs H Q => ∃ (p : Addr) (ys : List V) (y : V), x = .ref p ∧ xs = [y] ∧ SqL K H p ys ∧ flatV y = true ∧ ys.all flatV = true ∧ Q (.int ((ys.countP fun z => eqV z y : Nat) : Int)) H
theorem count_eqU {x : V} : ∀ {ys : List V} {us : List Value}, Vals ys us → ys.all flatV = true → us.countP (eqU x) = ys.countP fun z => eqV z x
  | [], _, .nil, _ => rfl
  | y :: ys, _, .cons r t, f => by
    rw [List.all_cons, Bool.and_eq_true] at f
    rw [List.countP_cons, List.countP_cons, count_eqU t f.2, eqU_of r f.1]
theorem mt_lcountF {X : Cx} : MtR X "list.count" (rCntF X.K) := by
  intro pins s σ H x xs v us Q I rx rxs h
  obtain ⟨p, ys, y, rfl, rfl, hs, fy, fys, q⟩ := h
  cases rx
  obtain ⟨u, rfl, ru⟩ := rxs.one
  obtain ⟨its, rv, ⟨⟨cls, dd, data, sl⟩, n, ho, hc, hdn, hd⟩, hlen⟩ := I.list hs
  simp only at hc hd
  subst hc hd
  refine call_meets PySem.F.slot_list_count ⟨_, ho, rfl⟩ PySem.F.entry_list_count (PySem.F.args_list_count_2 _ _)
    (SeqAt.list_countAt p its.toArray n dd sl u (eqU y)) ⟨ho, fun u' hu' => mem_eqAt ru fy rv fys u' (by simpa using hu'), ?_⟩
  have ec : its.toArray.toList.countP (eqU y) = ys.countP fun z => eqV z y := count_eqU rv fys
  refine ⟨.int ((ys.countP fun z => eqV z y : Nat) : Int), H, I.tok _, ⟨s.toks, ?_⟩, q⟩
  show Value.int ((its.toArray.toList.countP (eqU y) : Nat) : Int) s.toks = _
  rw [ec]
/-! ### str.index of what is there -/
def rIdxS : V → List V → Hp → VK → Prop := fun x xs H Q => ∃ (a b : Str) (k : Nat), x = .str a ∧ xs = [.str b] ∧ Txt.index0 a b = some k ∧ Q (.int (k : Int)) H
theorem mt_idxS {X : Cx} : MtR X "str.index" rIdxS := by
  intro pins s σ H x xs v us Q I rx rs h
  obtain ⟨a, b, k, rfl, rfl, hk, w⟩ := h
  obtain ⟨t, rfl⟩ := rx
  cases rs with
  | cons r1 rs =>
    cases rs
    obtain ⟨u, rfl⟩ := r1
    cases q : Builtin.Str.occurrences a b 0 a.length 1 with
    | nil =>
      unfold Txt.index0 at hk
      rw [q] at hk
      cases hk
    | cons k' rest =>
      unfold Txt.index0 at hk
      rw [q] at hk
      cases hk
      exact PySem.SC.index q ⟨.int (k : Nat), H, I.tok _, ⟨_, rfl⟩, w⟩
/-! ### xs == ys, both hold the same values -/
def rEqL (K : PySem.W.Frag) : R2 := fun x y H Q => ∃ (S : List Addr) (a b : Addr) (xs : List V) (ds : List D), x = .ref a ∧ y = .ref b ∧ SqL K H a xs ∧ SqL K H b xs ∧ RvL K S H xs ds ∧ Q (.bl true) H
theorem op_eqL {X : Cx} (hu : X.A.units + 64 < cLine) : OpR X (compareOp .Eq) (rEqL X.K) := by
  intro pins s σ H x y v u Q I rx ry h
  obtain ⟨S, a, b, xs, ds, rfl, rfl, hH, hB, rv, q⟩ := h
  cases rx
  cases ry
  obtain ⟨its, r, pl, _⟩ := I.list hH
  obtain ⟨its2, r2, pl2, _⟩ := I.list hB
  have e1 := Vals.length r
  have e2 := Vals.length r2
  refine SeqAt.RcAt.lists (e := fun _ => true) pl.isList pl2.isList (by simp; omega) (by omega) (fun j h1 h2 => ?_) _ _ _ _ ?_
  · have := vals_at rv r r2 X.A.in1 s j (by simpa using h1) (by simpa using h2)
    simpa using this
  · refine ⟨.bl _, H, I, rfl, ?_⟩
    rw [show ((List.range its.toArray.size).all fun _ => true) = true from by simp]
    exact q
/-! ### letters c at the end -/
/-- without the letters c at its end -/
def cOff (l : List Nat) : List Nat := l.take (l.length - (l.reverse.takeWhile fun c => c == 99).length)
theorem cOff_rev (l : List Nat) : cOff l = (l.reverse.dropWhile fun c => c == 99).reverse := by
  unfold cOff
  have e := List.takeWhile_append_dropWhile (p := fun c => c == 99) (l := l.reverse)
  have e2 : l = (l.reverse.dropWhile fun c => c == 99).reverse ++ (l.reverse.takeWhile fun c => c == 99).reverse := by
    rw [← List.reverse_append, e, List.reverse_reverse]
  have hl : l.length = (l.reverse.dropWhile fun c => c == 99).length + (l.reverse.takeWhile fun c => c == 99).length := by
    have := congrArg List.length e2
    simpa using this
  generalize (l.reverse.dropWhile fun c => c == 99) = A at *
  generalize (l.reverse.takeWhile fun c => c == 99) = B at *
  rw [e2, List.length_append, List.length_reverse, List.length_reverse, Nat.add_sub_cancel, ← List.length_reverse (as := A), List.take_left]
theorem contains_c (n : Nat) : (tx [99]).cps.contains n = (n == 99) := by
  by_cases h : n = 99
  · subst h
    decide +kernel
  · rw [show (n == 99) = false from beq_eq_false_iff_ne.mpr h]
    simp [tx]
    exact fun q => h (by omega)
theorem rstrip_c (l : List Nat) : Txt.rstripChars (tx l) (tx [99]) = tx (cOff l) := by
  unfold Txt.rstripChars
  rw [PyProof.Rows.stripBy_eq]
  have e : (tx [99]).cps.contains = fun n => n == 99 := funext contains_c
  rw [e]
  unfold stripLo stripHi Builtin.Str.strSub cOff
  simp [tx, Str.length]
theorem drop_all : ∀ {l : List Nat}, (l.dropWhile fun c => c == 99) = [] → ∀ c ∈ l, c = 99
  | x :: l, h, c, m => by
    rw [List.dropWhile_cons] at h
    by_cases z : (x == 99) = true
    · rw [if_pos z] at h
      rcases List.mem_cons.mp m with rfl | m
      · exact beq_iff_eq.mp z
      · exact drop_all h c m
    · rw [if_neg z] at h
      cases h
theorem cOff_nil {l : List Nat} (h : cOff l = []) : ∀ c ∈ l, c = 99 := fun c m => by
  rw [cOff_rev] at h
  exact drop_all (List.reverse_eq_nil_iff.mp h) c (List.mem_reverse.mpr m)
theorem cOff_last {l : List Nat} (h : cOff l ≠ []) : ∃ i c, cOff l = i ++ [c] ∧ c ≠ 99 := by
  rw [cOff_rev] at h ⊢
  cases e : (l.reverse.dropWhile fun c => c == 99) with
  | nil => rw [e] at h; exact absurd rfl h
  | cons c t =>
    refine ⟨t.reverse, c, by rw [List.reverse_cons], fun z => ?_⟩
    have := List.head?_dropWhile_not (fun c => c == 99) l.reverse
    rw [e] at this
    simp at this
    exact this z
theorem abc_cOff {l : List Nat} (h : Abc l) : Abc (cOff l) := h.take _
theorem cOff_len (l : List Nat) : (cOff l).length ≤ l.length := by
  unfold cOff
  rw [List.length_take]
  omega
/-- the text beyond -/
def bey (l : List Nat) : Option (List Nat) := if cOff l = [] then none else some ((cOff l).dropLast ++ [(cOff l).getLastD 0 + 1])
theorem abc_bey {l m : List Nat} (h : Abc l) (e : bey l = some m) : Abc m ∧ m.length ≤ l.length := by
  unfold bey at e
  by_cases z : cOff l = []
  · rw [if_pos z] at e; cases e
  · rw [if_neg z] at e
    obtain ⟨i, c, hc, n⟩ := cOff_last z
    have hl := cOff_len l
    have ha := abc_cOff h
    rw [hc] at e hl ha
    simp at e
    subst e
    refine ⟨Abc.app (fun x m => ha x (List.mem_append_left _ m)) (Abc.one ?_), by simpa using hl⟩
    rcases ha c (List.mem_append_right _ List.mem_cons_self) with q | q | q <;> omega
end Pv
namespace Pv
open PySem PySem.Spec PyProof.Rows L2 Pg
theorem bag_ls {H : Hp} {b : Addr} {n : Nat} (B : Bag H b n) : Lsts H [b] := by
  obtain ⟨x, y, z, hb, _⟩ := B
  exact .one hb
theorem catle {a b : List Nat} (h : a.length ≤ 12) (g : b.length ≤ 1000) : a.length + b.length ≤ 100000 := by omega
theorem catle' {a b : List Nat} (h : a.length ≤ 1000) (g : b.length ≤ 12) : a.length + b.length ≤ 100000 := by omega
theorem EvD.cat {K : PySem.W.Frag} {S : List Addr} {te tb : TE} {σ : L2.St} {H : Hp} {a b : List Nat} (h : EvD K S te σ H (.str a)) (g : EvD K S tb σ H (.str b)) (hl : a.length + b.length ≤ 100000) : EvD K S (tOp (fun x y H Q => ∃ i j, x = .str i ∧ y = .str j ∧ i.length + j.length ≤ sizeLine ∧ Q (.str (i ++ j)) H) te tb) σ H (.str (a ++ b)) := fun H1 s Q k =>
  h H1 s _ fun v H2 s2 r => g H2 (s.trans s2) _ fun u H3 s3 q => by
    cases r with
    | str _ h1 =>
      cases q with
      | str _ h2 =>
        refine ⟨tx a, tx b, rfl, rfl, by rw [tx_len, tx_len]; exact sz hl, ?_⟩
        rw [tx_app]
        exact k _ _ (s2.trans s3) (.str _ (by rw [List.length_append]; exact hl))
/-! ### t == () -/
def rEqNilT (K : PySem.W.Frag) : R2 := fun x y H Q => ∃ a b xs, x = .ref a ∧ y = .ref b ∧ SqT K H a xs ∧ SqT K H b [] ∧ Q (.bl xs.isEmpty) H
theorem op_eqNilT {X : Cx} (hu : X.A.units + 64 < cLine) : OpR X (compareOp .Eq) (rEqNilT X.K) := by
  intro pins s σ H x y v u Q I rx ry h
  obtain ⟨a, b, xs, rfl, rfl, hH, hB, q⟩ := h
  cases rx
  cases ry
  obtain ⟨its, r, pl, _⟩ := I.tuple hH
  obtain ⟨its2, r2, pl2, _⟩ := I.tuple hB
  cases r2
  have e1 := Vals.length r
  refine SeqAt.RcAt.tuples (e := fun _ => true) pl pl2 (by omega) (fun j h1 h2 => absurd h2 (by simp)) _ _ _ _ ?_
  refine ⟨.bl _, H, I, rfl, ?_⟩
  have e : ((List.range (min its.toArray.size ([] : List Value).toArray.size)).all (fun _ => true) && its.toArray.size == ([] : List Value).toArray.size) = xs.isEmpty := by
    cases r with
    | nil => rfl
    | cons _ _ => simp
  rw [e]
  exact q
end Pv
namespace Pg
open PySem PySem.Spec PyProof.Rows L2
/-- a text filled up with a sign -/
theorem mt_ljustF {X : Cx} : MtR X "str.ljust" (fun x xs H Q => ∃ (a f : Str) (i : Int), x = .str a ∧ xs = [.int i, .str f] ∧ PadOk i = true ∧ f.length = 1 ∧ Q (.str (Txt.ljustF a i (f.cps.getD 0 0))) H) := by
  intro pins s σ H x xs v us Q I rx rs h
  obtain ⟨a, f, i, rfl, rfl, hp, hf, h⟩ := h
  obtain ⟨t, rfl⟩ := rx
  cases rs with
  | cons r1 rs =>
    cases rs with
    | cons r2 rs =>
      cases rs
      obtain ⟨u, rfl⟩ := r1
      obtain ⟨z, rfl⟩ := r2
      exact ljust_fill hp hf fun t' k => ⟨.str (Txt.ljustF a i (f.cps.getD 0 0)), H, I.tok k, ⟨t', rfl⟩, h⟩
/-- is True, is False, also of an integer -/
def rIsBI : R2 := fun x y H Q => ∃ b : Bool, y = .bl b ∧ ((∃ a : Bool, x = .bl a ∧ Q (.bl (decide (a = b))) H) ∨ ∃ i : Int, x = .int i ∧ Q (.bl false) H)
theorem op_isBI {X : Cx} : OpR X (compareOp .Is) rIsBI := by
  intro pins s σ H x y v u Q I rx ry h
  obtain ⟨b, rfl, ⟨a, rfl, q⟩ | ⟨i, rfl, q⟩⟩ := h
  · exact op_isBl pins s σ H _ _ _ _ _ I rx ry ⟨a, b, rfl, rfl, q⟩
  · obtain ⟨t, rfl⟩ := rx
    cases (show u = Value.bool b from ry)
    exact wpAny_is_other rfl (fun z => by cases z) ⟨.bl false, H, I, rfl, q⟩
end Pg
namespace Pg
open PySem PySem.Spec PyProof.Rows L2
/-! ### min, max of a list of ints with default= -/
theorem ints_reads {h : Heap} : ∀ {its : List Value} {ns : List Int}, IntsAre its ns → ∃ as, ReadsAll h its (ns.map PyData.int) as
  | _, _, .nil => ⟨_, ReadsAll.nil⟩
  | _, _, .cons a t hi => by
    obtain ⟨as, r⟩ := ints_reads (h := h) hi
    exact ⟨_, ReadsAll.cons (Reads.int a t) r⟩
def foldMin (ns : List Int) (d : Int) : Int := match ns with | [] => d | n :: r => r.foldl min n
def foldMax (ns : List Int) (d : Int) : Int := match ns with | [] => d | n :: r => r.foldl max n
theorem alike_ints (ns : List Int) : PySem.W.AlikeAll (ns.map PyData.int) := by
  refine ⟨fun x hx y hy => ?_, fun x hx => ?_⟩
  · obtain ⟨i, _, rfl⟩ := List.mem_map.mp hx
    obtain ⟨j, _, rfl⟩ := List.mem_map.mp hy
    rfl
  · obtain ⟨i, _, rfl⟩ := List.mem_map.mp hx
    exact fun e => nomatch e
theorem depth_ints : ∀ ns : List Int, PyData.depthAll (ns.map PyData.int) ≤ 1
  | [] => Nat.zero_le _
  | n :: ns => Nat.max_le.mpr ⟨(Nat.zero_le 1 : PyData.depth (.int n) ≤ 1), depth_ints ns⟩
section
variable {X : Cx}
def rMinDf (K : PySem.W.Frag) : List V → List V → Hp → VK → Prop := fun vs zs H Q => ∃ (a : Addr) (ns : List Int) (d : Int), vs = [V.ref a] ∧ zs = [.int d] ∧ SqL K H a (ns.map V.int) ∧ Q (.int (foldMin ns d)) H
def rMaxDf (K : PySem.W.Frag) : List V → List V → Hp → VK → Prop := fun vs zs H Q => ∃ (a : Addr) (ns : List Int) (d : Int), vs = [V.ref a] ∧ zs = [.int d] ∧ SqL K H a (ns.map V.int) ∧ Q (.int (foldMax ns d)) H
theorem cr_minDf (hc : X.calm = true) (hu : X.A.units + 64 < cLine) : CallRK X (.builtin "min") [Str.ofString "default"] (rMinDf X.K) := by
  intro pins s σ H vs zs us ws Q I r rz h
  obtain ⟨a, ns, d, rfl, rfl, hs, q⟩ := h
  obtain rfl := Vals.ref1 r
  obtain ⟨w1, rfl, e1⟩ := vals1 rz
  obtain ⟨t1, rfl⟩ := e1
  obtain ⟨its, rv, hl, _⟩ := I.list hs
  obtain ⟨as, ra⟩ := ints_reads (h := s.heap) rv.ints
  refine PySem.W.min_list_default (I.ok.hd hc) hl.isList ra ?_ ?_ (fun e h' tk hk => ?_) fun y ys i v h' tk bs e hv rd hk => ?_
  · exact alike_ints ns
  · have := depth_ints ns
    omega
  · have : ns = [] := List.map_eq_nil_iff.mp e
    subst this
    exact ⟨.int _, H, I.kept hk, ⟨_, rfl⟩, q⟩
  · cases ns with
    | nil => cases e
    | cons n ns =>
      cases e
      rw [PySem.W.minD_ints] at rd
      cases rd
      exact ⟨.int _, H, I.kept hk, ⟨_, rfl⟩, q⟩
theorem cr_maxDf (hc : X.calm = true) (hu : X.A.units + 64 < cLine) : CallRK X (.builtin "max") [Str.ofString "default"] (rMaxDf X.K) := by
  intro pins s σ H vs zs us ws Q I r rz h
  obtain ⟨a, ns, d, rfl, rfl, hs, q⟩ := h
  obtain rfl := Vals.ref1 r
  obtain ⟨w1, rfl, e1⟩ := vals1 rz
  obtain ⟨t1, rfl⟩ := e1
  obtain ⟨its, rv, hl, _⟩ := I.list hs
  obtain ⟨as, ra⟩ := ints_reads (h := s.heap) rv.ints
  refine PySem.W.max_list_default (I.ok.hd hc) hl.isList ra ?_ ?_ (fun e h' tk hk => ?_) fun y ys i v h' tk bs e hv rd hk => ?_
  · exact alike_ints ns
  · have := depth_ints ns
    omega
  · have : ns = [] := List.map_eq_nil_iff.mp e
    subst this
    exact ⟨.int _, H, I.kept hk, ⟨_, rfl⟩, q⟩
  · cases ns with
    | nil => cases e
    | cons n ns =>
      cases e
      rw [PySem.W.maxD_ints] at rd
      cases rd
      exact ⟨.int _, H, I.kept hk, ⟨_, rfl⟩, q⟩
end
section
variable {K : PySem.W.Frag} {a : Addr} {xs : List V} {ds : List Dt} {g : TG} {te : TE} {vs : List Nat} {σ : L2.St} {H1 : Hp} {D : Addr} {Qd : Hp → Prop}
theorem lc_mapT9 (nD : H1 D = none) (hs : SqT K H1 a xs) (hl : ds.length = xs.length) (hz : xs.length ≤ 100000)
    (step : ∀ (i : Nat) x d H, xs[i]? = some x → ds[i]? = some d → Stp [] H1 H → ∀ Q : VK, (∀ y H', Stp [] H H' → Rp K H' y d → Q y H') → g x (wipe σ vs) H fun σ2 H2 => wipe σ2 vs = wipe σ vs ∧ te σ2 H2 Q)
    (hd : ∀ ws H, Stp [] H1 H → H D = some (.lst ws) → RpL K H ws ds → Qd H) :
    ∃ W : Nat → Nat → Hp → Prop, (∃ m, W 0 m (upd H1 D (.lst []))) ∧ ∀ i m H, W i m H →
      ((Itt K a).stop i H ∧ Qd H) ∨ ((Itt K a).go i H ∧ ∃ Nx : Hp → Prop, (∀ H', Nx H' → ∃ m', m' < m ∧ W (i + 1) m' H') ∧ ∀ x H', (Itt K a).yld i H x H' → g x (wipe σ vs) H' fun σ2 H2 => wipe σ2 vs = wipe σ vs ∧ tYes σ2 H2 fun b H3 =>
        if b = true then te σ2 H3 fun y H4 => ∃ acc, H4 D = some (.lst acc) ∧ acc.length < sizeLine ∧ Nx (upd H4 D (.lst (acc ++ [y]))) else Nx H3) := by
  refine lc_tup (a := a) (xs := xs) (fun i H => ∃ ws, H D = some (.lst ws) ∧ RpL K H ws (ds.take i) ∧ Stp [] H1 H) ⟨[], upd_same, .nil, Stp.new nD _⟩ (fun i H _ ⟨_, _, _, S⟩ => sqt_stp S Lsts.nil hs) ?_ ?_
  · rintro i x H hi ⟨ws, hL, rv, S⟩
    have il : i < ds.length := by rw [hl]; exact (List.getElem?_eq_some_iff.mp hi).1
    refine step i x ds[i] H hi (List.getElem?_eq_getElem il) S _ fun y H' S' ry => ?_
    refine ⟨ws, S'.kp _ _ (fun m => nomatch m) hL, ?_, ws ++ [y], upd_same, ?_, (S.trans S').mut nD⟩
    · rw [rv.len, List.length_take]
      exact Nat.lt_of_lt_of_le (show min i ds.length < 100000 by omega) (by decide)
    · have s4 : Stp [D] H' (upd H' D (.lst (ws ++ [y]))) := Stp.put (by simp)
      have hL' := S'.kp _ _ (fun m => nomatch m) hL
      exact RpL.snoc ((rv.stp S' Lsts.nil).stp s4 (.one hL')) (List.getElem?_eq_getElem il) (ry.stp s4 (.one hL'))
  · rintro H ⟨ws, hL, rv, S⟩
    rw [← hl, List.take_length] at rv
    exact hd ws H S hL rv
end
end Pg
namespace Pg
open PySem PySem.Spec PyProof.Rows L2
/-! ### a dict whose keys are tuples of plain values -/
def nkV : V → NestedKey
  | .int i => .num i
  | .bl b => .num (if b = true then 1 else 0)
  | .str s => .text s
  | _ => .none
def plV : V → Bool
  | .non => true
  | .int _ => true
  | .bl _ => true
  | .str _ => true
  | _ => false
def nkT (us : List V) : NestedKey := .tup (us.map nkV)
theorem nk_is {h : Heap} {x : V} {v : Value} (p : plV x = true) (r : RelV x v) : NestedIs h (nkV x) v := by
  cases x with
  | non => cases (show v = Value.none from r); exact .none
  | int i => obtain ⟨t, rfl⟩ := r; exact .int i t
  | bl b => cases (show v = Value.bool b from r); exact .bool rfl
  | str s => obtain ⟨t, rfl⟩ := r; exact .text s t
  | _ => cases p
theorem nk_all {h : Heap} : ∀ {us : List V} {vs : List Value}, us.all plV = true → Vals us vs → NestedAll h (us.map nkV) vs
  | _, _, _, .nil => .nil
  | _, _, p, .cons r rr => by
    obtain ⟨p1, p2⟩ := Bool.and_eq_true_iff.mp (show (plV _ && _) = true from p)
    exact .cons (nk_is p1 r) (nk_all p2 rr)
theorem nk_depth : ∀ us : List V, NestedKey.depthAll (us.map nkV) = 0
  | [] => rfl
  | u :: us => by
    show max (NestedKey.depth (nkV u)) (NestedKey.depthAll (us.map nkV)) = 0
    rw [nk_depth us]
    cases u <;> rfl
def KeyAt (K : PySem.W.Frag) (H : Hp) (q : Addr) (k : NestedKey) : Prop := ∃ us, SqT K H q us ∧ us.all plV = true ∧ k = nkT us
theorem key_is {X : Cx} {pins : List (Addr × Obj)} {σ : L2.St} {H : Hp} {s : Shared} {q : Addr} {k : NestedKey} (I : Inv X pins σ H s) (h : KeyAt X.K H q k) : (nestedKind X.prog X.w).is s.heap k q := by
  obtain ⟨us, hs, p, rfl⟩ := h
  obtain ⟨its, rv, ⟨o, e, c, n, dt⟩, _⟩ := I.tuple hs
  refine ⟨.tup e c dt (by simpa using nk_all p rv), ?_⟩
  show NestedKey.depthAll (us.map nkV) + 1 ≤ 8
  rw [nk_depth]
  decide
abbrev Ent := NestedKey × Addr × V
def EntR (p : Ent) (q : NestedKey × Addr × Value) : Prop := p.1 = q.1 ∧ p.2.1 = q.2.1 ∧ RelV p.2.2 q.2.2
/-- what stands at d: the dict's own object -/
def RawX (P : Program) (w : World) (d : Addr) (es : List Ent) (h : Heap) : Prop := (d == sysModules) = false ∧ ∃ xs : List (NestedKey × Addr × Value), Paired EntR es xs ∧
  ∃ o ees ep, h.get? d = some o ∧ o.ExactDict ∧ o.data = .dict ees ep ∧ ees.toList = xs.map (entryOfKey (nestedKind P w)) ∧ (xs.map (·.1)).Nodup
theorem raw_ok {P : Program} {w : World} {H : Hp} {d : Addr} {es : List Ent} {h : Heap} (r : RawX P w d es h) : ObjOk P w H h d (.ext (RawX P w d es)) := by
  obtain ⟨h0, xs, h1, o, ees, ep, h2, h3⟩ := r
  refine ⟨⟨h0, xs, h1, o, ees, ep, h2, h3⟩, ⟨o, h2⟩, ?_⟩
  rintro g1 g2 ⟨k0, ys, k1, o', ees', ep', k2, k3⟩ st
  exact ⟨k0, ys, k1, o', ees', ep', st o' k2, k3⟩
def tDNewX (P : Program) (w : World) : TE := fun _ H Q => ∀ p, H p = none → Q (.ref p) (upd H p (.ext (RawX P w p [])))
theorem pe_dnewX {X : Cx} {pos : Pos} : PE X (.Dict [] [] pos) (tDNewX X.prog X.w) := ⟨fun pins s σ H Q I h =>
  wpAny_Dict_empty ⟨.ref s.heap.objs.size, _, I.laid (a := s.heap.objs.size) (o := .ext (RawX X.prog X.w s.heap.objs.size [])) (t' := s.toks) (fun _ _ q => Heap.get?_push_of_some _ q) (Nat.le_refl _)
    (raw_ok ⟨beq_eq_false_iff_ne.mpr (Ne.symm (Nat.ne_of_lt I.big)), [], .nil, _, #[], 0, Heap.get?_push_size _ rfl, ⟨rfl, rfl, rfl⟩, rfl, rfl, List.nodup_nil⟩), rfl, h _ (I.hok.fresh (Nat.le_refl _))⟩⟩
theorem ent_at {es : List Ent} {xs : List (NestedKey × Addr × Value)} {k : NestedKey} (h : Paired EntR es xs) : (∀ p, atKey xs k = some p → ∃ e ∈ es, e.1 = k ∧ RelV e.2.2 p.2) ∧ (atKey xs k = none → ∀ e ∈ es, e.1 ≠ k) := by
  induction h with
  | nil => exact ⟨fun p h => (by cases h), fun _ e m => nomatch m⟩
  | @cons a b l1 l2 r t ih =>
    obtain ⟨r1, r2, r3⟩ := r
    by_cases hk : b.1 = k
    · refine ⟨fun p hp => ?_, fun hn => ?_⟩
      · have e : atKey (b :: l2) k = some b.2 := by simp [atKey, hk]
        rw [e] at hp
        cases hp
        exact ⟨a, List.mem_cons_self, r1.trans hk, r3⟩
      · have e : atKey (b :: l2) k = some b.2 := by simp [atKey, hk]
        rw [e] at hn
        cases hn
    · have e : atKey (b :: l2) k = atKey l2 k := by simp [atKey, hk]
      rw [e]
      refine ⟨fun p hp => ?_, fun hn e' m => ?_⟩
      · obtain ⟨e', m, z⟩ := ih.1 p hp
        exact ⟨e', List.mem_cons_of_mem _ m, z⟩
      · rcases List.mem_cons.mp m with rfl | m
        · exact fun z => hk (r1.symm.trans z)
        · exact ih.2 hn e' m
theorem ent_keys {X : Cx} {pins : List (Addr × Obj)} {σ : L2.St} {H : Hp} {s : Shared} (I : Inv X pins σ H s) {es : List Ent} {xs : List (NestedKey × Addr × Value)} (h : Paired EntR es xs) (ks : ∀ e ∈ es, KeyAt X.K H e.2.1 e.1) : ∀ x ∈ xs, (nestedKind X.prog X.w).is s.heap x.1 x.2.1 := by
  induction h with
  | nil => exact fun _ m => nomatch m
  | @cons a b l1 l2 r t ih =>
    obtain ⟨r1, r2, r3⟩ := r
    intro x m
    rcases List.mem_cons.mp m with rfl | m
    · have := key_is I (ks a List.mem_cons_self)
      rw [r1, r2] at this
      exact this
    · exact ih (fun e m => ks e (List.mem_cons_of_mem _ m)) x m
theorem ent_len {es : List Ent} {xs : List (NestedKey × Addr × Value)} (h : Paired EntR es xs) : es.length = xs.length := by
  induction h with
  | nil => rfl
  | cons _ _ ih => simp [ih]
theorem ent_add {es : List Ent} {xs : List (NestedKey × Addr × Value)} (h : Paired EntR es xs) {p : Ent} {q : NestedKey × Addr × Value} (r : EntR p q) : Paired EntR (es ++ [p]) (xs ++ [q]) := by
  induction h with
  | nil => exact .cons r .nil
  | cons r' _ ih => exact .cons r' ih
/-- d.setdefault(q, y): the keys tuples of plain values -/
def rSetX (P : Program) (w : World) (K : PySem.W.Frag) : V → List V → Hp → VK → Prop := fun x vs H Q => ∃ (d q : Addr) (es : List Ent) (us : List V) (y : V), x = .ref d ∧ vs = [.ref q, y] ∧ H d = some (.ext (RawX P w d es)) ∧ SqT K H q us ∧ us.all plV = true ∧ (∀ e ∈ es, KeyAt K H e.2.1 e.1) ∧ es.length ≤ 1000 ∧
  (∀ e ∈ es, e.1 = nkT us → Q e.2.2 H) ∧ ((∀ e ∈ es, e.1 ≠ nkT us) → Q y (upd H d (.ext (RawX P w d (es ++ [(nkT us, q, y)])))))
theorem mt_setX {X : Cx} (hu : X.A.units + 64 < cLine) : MtM X "dict.setdefault" (rSetX X.prog X.w X.K) := by
  intro pins s σ H x vs v us Q I rx rv h
  obtain ⟨d, q, es, ks, y, rfl, rfl, hH, hq, pl, hk, few, k1, k2⟩ := h
  cases rx
  cases rv with
  | cons ra rv =>
    cases rv with
    | cons rb rv =>
      cases rv
      cases ra
      obtain ⟨⟨h0, xs, hp, o, ees, ep, e1, e2, e3, e4, e5⟩, _, _⟩ := I.hok d _ hH
      have lx := ent_len hp
      have hm : s.heap.DictOfH (nestedKind X.prog X.w) d xs := ⟨o, ees, ep, e1, e2, e3, e4, ent_keys I hp hk, e5⟩
      refine call_setdefault_heap (knd := nestedKind X.prog X.w) (k := nkT ks) (hsz := Nat.le_trans (show xs.length ≤ 1000 by omega) (by decide)) (show X.A.units + 1 + 8 < cLine by omega) (key_is I ⟨ks, hq, pl, rfl⟩) h0 hm (fun p hp' => ?_) fun hn h' hm' hs => ?_
      · obtain ⟨e, m, ek, er⟩ := (ent_at hp).1 p hp'
        exact ⟨_, H, I.tok _, er, k1 e m ek⟩
      · rw [storedH_new hn] at hm'
        obtain ⟨o', ees', ep', g1, g2, g3, g4, _, g5⟩ := hm'
        have nk := (ent_at hp).2 hn
        refine ⟨y, _, d_write I (by rw [hH]; exact True.intro) hs ⟨o', g1⟩ (raw_ok ⟨h0, _, ent_add hp ⟨rfl, rfl, rb⟩, o', ees', ep', g1, g2, g3, g4, g5⟩), rb, k2 nk⟩
/-! a method of such a dict -/
def tBMX (P : Program) (w : World) (r : V → List V → Hp → VK → Prop) (to : TE) (t : TA) : TE := fun σ H Q => to σ H fun x H1 => (∃ d es, x = .ref d ∧ H1 d = some (.ext (RawX P w d es))) ∧ t σ H1 fun xs H2 => r x xs H2 Q
section
variable {X : Cx} {o e : Expr} {es : List Expr} {to : TE} {t : TA} {name : Str} {apos cpos : Pos} {id : String} {r : V → List V → Hp → VK → Prop}
theorem pe_bmX (slot : Slot "dict" name id) (hty : typeOf (.builtin id) = pure (.type "method_descriptor")) (hm : MtM X id r) (ho : PE X o to) (ha : PA X (e :: es) t)
    (hbase : attributeBase o name X.env (eval o X.env) = eval o X.env := by rfl)
    (hfew : ((backTo cpos (starEach (e :: es) X.env)).all (fun x => !x.1) && (backToKw cpos (keywordEach [] X.env)).all (fun x => x.1.isSome)
      && decide ((e :: es).length + ([] : List Keyword).length + (if ([] : List Keyword).isEmpty then 0 else 1) < 30)) = true := by rfl)
    (hline : (apos.endLine == cpos.line) = true := by rfl) (hs : starEach (e :: es) X.env = (false, eval e X.env) :: starEach es X.env := by rfl) (hplain : (backTo cpos (starEach es X.env)).any (·.1) = false := by rfl) :
    PE X (.Call (.Attribute o name apos) (e :: es) [] cpos) (tBMX X.prog X.w r to t) := by
  refine ⟨fun pins s σ H Q I h => ?_⟩
  refine wpAny_Call_method_late hbase hfew hline rfl (thn (ho.run pins s σ H _ I h) fun v s1 ⟨x, H1, I1, r1, ⟨d, ents, ex, hH⟩, q1⟩ => ?_)
  subst ex
  cases r1
  obtain ⟨⟨_, _, _, o1, _, _, e1, e2, _⟩, _, _⟩ := I1.hok d _ hH
  refine ⟨"dict", id, F.plainAttrs_dict, slot, hty, ⟨o1, e1, e2.1⟩, fun a e3 => by cases e3; exact ⟨o1, e1, e2.2.1⟩, ?_⟩
  have hA := ha.run cpos pins s1 σ H1 _ I1 q1
  rw [hs] at hA ⊢
  refine Calls.callWith_builtin (by show (false || (backTo cpos (starEach es X.env)).any (·.1)) = false; rw [hplain] <;> rfl) (Calls.evalArgs_plain ?_)
  exact thn hA fun us s2 ⟨vs, H2, I2, r2, q2⟩ => hm pins s2 σ H2 (.ref d) vs _ us Q I2 rfl r2 q2
end
end Pg
namespace Kq
open PySem PySem.Spec PyProof.Rows L2 Pg Pv
def topS (i : Nat) : Stmt := PySem.Challenge.pw_pageskips_k26_whole_no_value_is_lost.main.body.getD i (.Pass ⟨0, 0, 0, 0⟩)
structure Nm (mg : Str → Option Value) : Prop where
  n_int : mg "int" = none
  n_len : mg "len" = none
  n_max : mg "max" = none
  n_min : mg "min" = none
  n_range : mg "range" = none
  n_type : mg "type" = none
  n_tuple : mg "tuple" = none
  n_list : mg "list" = none
  n_str : mg "str" = none
  n_bool : mg "bool" = none
  n_all : mg "all" = none
  n_sorted : mg "sorted" = none
  n_set : mg "set" = none
  n_repr : mg "repr" = none
  n_isinstance : mg "isinstance" = none
  n_zip : mg "zip" = none
  n_any : mg "any" = none
  n_enumerate : mg "enumerate" = none
def KHas (K : PySem.W.Frag) (w : World) (d : Addr) (z : Str) (b : Bool) : Prop := ∃ es n r, KDict K w d es n ∧ PySem.W.nsIn K d z = some r ∧ r.isSome = b
theorem op_notInKd {X : Cx} : OpR X (compareOp .NotIn) (fun x y H Q => ∃ (z : Str) (d : Addr) (b : Bool), x = .str z ∧ y = .ref d ∧ KHas X.K X.w d z b ∧ Q (.bl (!b)) H) := by
  intro pins s σ H x y v u Q I rx ry h
  obtain ⟨z, d, b, rfl, rfl, ⟨es, n, r, D, e, rfl⟩, q⟩ := h
  exact op_notIn_kd D pins s σ H _ _ v u Q I rx ry ⟨z, r, rfl, rfl, e, q⟩
/-- what stands in the module -/
structure Ng (K : PySem.W.Frag) (w : World) (mg : Str → Option Value) where
  TURNED : Addr
  g_TURNED : mg "TURNED" = some (.ref TURNED)
  ny : KDct K w TURNED "yes" (.str "no")
  nn : KDct K w TURNED "no" (.str "yes")
  no : KDct K w TURNED "open" (.str "open")
  hy : KHas K w TURNED "yes" true
  hn : KHas K w TURNED "no" true
  ho : KHas K w TURNED "open" true
  EVERY_TEXT : Addr
  g_EVERY_TEXT : mg "EVERY_TEXT" = some (.ref EVERY_TEXT)
  EV1 : Addr
  ev : ∀ H, SqT K H EVERY_TEXT [.ref EV1]
  ev1 : ∀ H, SqT K H EV1 [.str "", .non]
  NEXT_LETTERS : Addr
  g_NEXT_LETTERS : mg "NEXT_LETTERS" = some (.ref NEXT_LETTERS)
  na : KDct K w NEXT_LETTERS (tx [97]) (.str "b")
  nb : KDct K w NEXT_LETTERS (tx [98]) (.str "c")
  LETTERS_BEFORE : Addr
  g_LETTERS_BEFORE : mg "LETTERS_BEFORE" = some (.ref LETTERS_BEFORE)
  lb : KDct K w LETTERS_BEFORE (tx [98]) (.str "a")
  lc : KDct K w LETTERS_BEFORE (tx [99]) (.str "b")
  hb : KHas K w LETTERS_BEFORE (tx [98]) true
  hc : KHas K w LETTERS_BEFORE (tx [99]) true
  ha : KHas K w LETTERS_BEFORE (tx [97]) false
  he : KHas K w LETTERS_BEFORE (tx []) false
section
variable {P : Program} {w : World} {K : PySem.W.Frag} {mg : Str → Option Value} {base : Heap}
abbrev s__law_bag : Stmt := topS 76
abbrev N__law_bag : List Str := ["cell"]
theorem sc__law_bag : FnScope ["cell"] ["cell"] (defScope s__law_bag) := ⟨rfl, rfl, rfl, by decide +kernel, rfl, by decide +kernel, by decide +kernel⟩

abbrev s__law_pick : Stmt := topS 77
abbrev N__law_pick : List Str := ["urn", "many", "digit", "turn", "stir"]
theorem sc__law_pick : FnScope ["urn", "many", "digit", "turn", "stir"] ["urn", "many"] (defScope s__law_pick) := ⟨rfl, rfl, rfl, by decide +kernel, rfl, by decide +kernel, by decide +kernel⟩

/-! ### the urn, the draws -/
def UrnV (x y z : Int) (n : Nat) : Prop := 0 ≤ x ∧ 0 ≤ y ∧ y < 2 ^ 61 ∧ 0 ≤ z ∧ z ≤ (n : Int)
def Urn (H : Hp) (b : Addr) (n : Nat) : Prop := ∃ x y z, H b = some (.lst [.int x, .int y, .int z]) ∧ UrnV x y z n
theorem Urn.mono {H : Hp} {b : Addr} {n m : Nat} (h : Urn H b n) (e : n ≤ m) : Urn H b m := by
  obtain ⟨x, y, z, h1, h2, h3, h4, h5, h6⟩ := h
  exact ⟨x, y, z, h1, h2, h3, h4, h5, by omega⟩
theorem Urn.kp {H H' : Hp} {b : Addr} {n : Nat} {S : List Addr} (h : Urn H b n) (s : Stp S H H') (m : b ∉ S) : Urn H' b n := by
  obtain ⟨x, y, z, h1, h2⟩ := h
  exact ⟨x, y, z, s.kp _ _ m h1, h2⟩
theorem Urn.up {H H' : Hp} {b : Addr} {n : Nat} (h : Urn H b n) (s : Stp [] H H') : Urn H' b n := h.kp s fun m => nomatch m
theorem Urn.upd {H : Hp} {b p : Addr} {n : Nat} {o : HO} (h : Urn H b n) (e : b ≠ p) : Urn (L2.upd H p o) b n := by
  obtain ⟨x, y, z, h1, h2⟩ := h
  exact ⟨x, y, z, by rw [upd_ne e]; exact h1, h2⟩
theorem Urn.ne {H : Hp} {b p : Addr} {n : Nat} (h : Urn H b n) (q : H p = none) : b ≠ p := by
  obtain ⟨x, y, z, h1, h2⟩ := h
  exact ne_of_none h1 q
theorem Urn.ls {H : Hp} {b : Addr} {n : Nat} (h : Urn H b n) : Lsts H [b] := by
  obtain ⟨x, y, z, h1, h2⟩ := h
  exact .one h1
def spBag : Sp := fun vs H Q _ => ∃ c : Int, vs = [.int c] ∧ ∀ b H', H b = none → Stp [] H H' → Urn H' b 0 → Q (.ref b) H'
theorem cl__law_bag {f : Addr} {fd : FuncData} (D : Df K mg "_law_bag" s__law_bag ["cell"] f fd) (T : Nm mg) : Cl P w K mg base 1 "_law_bag" s__law_bag ["cell"] spBag := by
  refine D.cl sc__law_bag (fun vs H Q E h => ?_) (fun cdv A outer s H vs Q E hr h => ?_)
  · obtain ⟨c, rfl, _⟩ := h
    rfl
  · obtain ⟨c, rfl, k⟩ := h
    refine ⟨_, (pss_one (ps_ret (pe_lst (pa_cons (pe_callB (call_max2 rfl) (by rfl) T.n_max (by decide +kernel) (pa_cons pe_int (pa_cons (pe_op op_sub (pv 0) (pe_op op_pow pe_int pe_int)) pa_nil))) (pa_cons (pe_op op_mod (pe_callTy call_int1 (by rfl) T.n_int (by decide +kernel) (pa_cons (pv 0) pa_nil)) pe_int) (pa_cons pe_int pa_nil)))))), ?_⟩
    refine ⟨_, rfl, _, _, rfl, rfl, ⟨by decide, by decide, by decide⟩, _, _, rfl, rfl, _, _, rfl, ?_⟩
    refine ⟨_, rfl, .inl ⟨c, rfl, _, _, rfl, rfl, (by show (0 : Int) < 2305843009213693951; decide), (by show 3 ≤ sizeLine; decide), fun b nb => ?_⟩⟩
    refine k b _ nb (Stp.new nb _) ⟨_, _, _, upd_same, ?_⟩
    have m1 : 0 ≤ c % 2305843009213693951 := Int.emod_nonneg _ (by decide)
    have m2 : c % 2305843009213693951 < 2305843009213693951 := Int.emod_lt_of_pos _ (by decide)
    refine ⟨?_, m1, by omega, by omega, by omega⟩
    split <;> omega
def spPick : Sp := fun vs H Q _ => ∃ (b : Addr) (up : Int) (n : Nat), vs = [.ref b, .int up] ∧ Urn H b n ∧ n < 2 ^ 30 ∧ 0 < up ∧ up < 2 ^ 30 ∧
  ∀ d H', 0 ≤ d → d < up → Stp [b] H H' → Urn H' b (n + 1) → Q (.int d) H'
theorem cl__law_pick {f : Addr} {fd : FuncData} (D : Df K mg "_law_pick" s__law_pick ["urn", "many"] f fd) (T : Nm mg) : Cl P w K mg base 1 "_law_pick" s__law_pick ["urn", "many"] spPick := by
  refine D.cl sc__law_pick (fun vs H Q E h => ?_) (fun cdv A outer s H vs Q E hr h => ?_)
  · obtain ⟨b, up, n, rfl, _⟩ := h
    rfl
  · obtain ⟨b, up, n, rfl, ⟨x, y, z, hb, x0, y0, y1, z0, z1⟩, hn, u0, u1, k⟩ := h
    refine ⟨_, (pss_cons (ps_if (pt_cmpR op_gt (pe_ix ix_list (pv 0) pe_int (fun _ _ => rfl)) pe_int (by first | exact nomark _ | rfl)) (pss_cons (ps_set (i := 2) sc__law_pick.nd rfl (by first | exact Or.inl rfl | exact Or.inr rfl) (pe_op op_mod (pe_callTy call_int1 (by rfl) T.n_int (by decide +kernel) (pa_cons (pe_ix ix_list (pv 0) pe_int (fun _ _ => rfl)) pa_nil)) (pv 1)))
      (pss_cons (ps_asg (pe_op op_fdivW (pe_ix ix_list (pv 0) pe_int (fun _ _ => rfl)) (pv 1)) (pg_sub (pv 0) pe_int set_list))
      (pss_one (ps_ret (pv 2))))) pss_nil)
      (pss_cons (ps_asg (pe_op op_add (pe_ix ix_list (pv 0) pe_int (fun _ _ => rfl)) pe_int) (pg_sub (pv 0) pe_int set_list))
      (pss_cons (ps_set (i := 3) sc__law_pick.nd rfl (by first | exact Or.inl rfl | exact Or.inr rfl) (pe_ix ix_list (pv 0) pe_int (fun _ _ => rfl)))
      (pss_cons (ps_set (i := 4) sc__law_pick.nd rfl (by first | exact Or.inl rfl | exact Or.inr rfl) (pe_op op_mulW (pe_op op_add (pe_ix ix_list (pv 0) pe_int (fun _ _ => rfl)) pe_int) (pe_op op_add (pe_op op_add (pe_op op_mulW (pe_op op_mulW pe_int (pv 3)) (pv 3)) (pe_op op_mulW pe_int (pv 3))) pe_int)))
      (pss_cons (ps_set (i := 4) sc__law_pick.nd rfl (by first | exact Or.inl rfl | exact Or.inr rfl) (pe_op op_mod (pe_callTy call_int1 (by rfl) T.n_int (by decide +kernel) (pa_cons (pv 4) pa_nil)) pe_int))
      (pss_cons (ps_set (i := 4) sc__law_pick.nd rfl (by first | exact Or.inl rfl | exact Or.inr rfl) (pe_op op_mod (pe_callTy call_int1 (by rfl) T.n_int (by decide +kernel) (pa_cons (pe_op op_add (pe_op op_mulW (pv 4) (pv 4)) (pe_op op_mulW pe_int (pv 4))) pa_nil)) pe_int))
      (pss_one (ps_ret (pe_op op_mod (pe_op op_fdivW (pe_op op_mod (pe_callTy call_int1 (by rfl) T.n_int (by decide +kernel) (pa_cons (pe_op op_add (pe_op op_mulW (pv 4) (pv 4)) (pe_op op_mulW pe_int (pv 3))) pa_nil)) pe_int) pe_int) (pv 1)))))))))), ?_⟩
    have one : b ∈ [b] := List.mem_singleton.mpr rfl
    refine ⟨_, rfl, b, _, 0, .int x, rfl, rfl, SqL.of hb, rfl, _, _, rfl, rfl, _, rfl, ite2 (fun hx => ?_) (fun hx => ?_)⟩
    · refine ⟨_, rfl, b, _, 0, .int x, rfl, rfl, SqL.of hb, rfl, .inl ⟨x, rfl, _, rfl, _, _, rfl, rfl, u0, ?_⟩⟩
      refine ⟨_, rfl, b, _, 0, .int x, rfl, rfl, SqL.of hb, rfl, _, rfl, _, _, rfl, rfl, cdiv 30 u0 u1 (by decide) (by decide), ?_⟩
      refine ⟨_, rfl, b, _, 0, 0, rfl, rfl, hb, rfl, ?_⟩
      refine ⟨_, rfl, k _ _ (Int.emod_nonneg _ (by omega)) (Int.emod_lt_of_pos _ u0) (Stp.put one) ⟨_, _, _, upd_same, ?_⟩⟩
      exact ⟨Int.ediv_nonneg x0 (by omega), y0, y1, z0, by omega⟩
    · refine ⟨_, rfl, b, _, 2, .int z, rfl, rfl, SqL.of hb, rfl, _, _, rfl, rfl, ?_⟩
      obtain ⟨t, et⟩ : ∃ t, t = z + 1 := ⟨_, rfl⟩
      dsimp only
      rw [← et]
      have t0 : 0 ≤ t := by omega
      have t1 : t < 2 ^ 31 := by omega
      refine ⟨_, rfl, b, _, 2, 2, rfl, rfl, hb, rfl, ?_⟩
      refine ⟨_, rfl, b, _, 2, .int t, rfl, rfl, SqL.of upd_same, rfl, ?_⟩
      have a1 := mul_lt (i := 40503) (a := 16) (b := 31) (by decide) (by decide) t0 t1
      have a2 := mul_lt (i := 40503 * t) (j := t) (a := 47) (b := 31) a1.1 a1.2 t0 t1
      have a3 := mul_lt (i := 271) (a := 9) (b := 31) (by decide) (by decide) t0 t1
      have a4 := mul_lt (i := y + 11) (j := 40503 * t * t + 271 * t + 5) (a := 62) (b := 80) (by omega) (by omega) (by omega) (by omega)
      refine ⟨_, rfl, b, _, 1, .int y, rfl, rfl, SqL.of upd_same, rfl, _, _, rfl, rfl,
        _, rfl, _, _, rfl, rfl, cmul 16 31 (by decide) (by decide) t0 t1 (by decide) (by decide) (by decide),
        _, rfl, _, _, rfl, rfl, cmul 47 31 a1.1 a1.2 t0 t1 (by decide) (by decide) (by decide),
        _, rfl, _, _, rfl, rfl, cmul 9 31 (by decide) (by decide) t0 t1 (by decide) (by decide) (by decide), _, _, rfl, rfl, _, _, rfl, rfl,
        _, _, rfl, rfl, cmul 62 80 (by omega) (by omega) (by omega) (by omega) (by decide) (by decide) (by decide), ?_⟩
      refine ⟨_, rfl, .inl ⟨_, rfl, _, _, rfl, rfl, (by show (0 : Int) < 2305843009213693951; decide), ?_⟩⟩
      obtain ⟨m, em⟩ : ∃ m, m = (y + 11) * (40503 * t * t + 271 * t + 5) % 2305843009213693951 := ⟨_, rfl⟩
      dsimp only
      rw [← em]
      have m0 : 0 ≤ m := by rw [em]; exact Int.emod_nonneg _ (by decide)
      have m1 : m < 2 ^ 61 := by
        rw [em]
        exact Int.lt_of_lt_of_le (Int.emod_lt_of_pos _ (by decide)) (by decide)
      refine ⟨_, rfl, _, rfl, _, _, rfl, rfl, cmul 61 61 m0 m1 m0 m1 (by decide) (by decide) (by decide),
        _, rfl, _, _, rfl, rfl, cmul 16 61 (by decide) (by decide) m0 m1 (by decide) (by decide) (by decide), _, _, rfl, rfl,
        .inl ⟨_, rfl, _, _, rfl, rfl, (by show (0 : Int) < 1000000000000000003; decide), ?_⟩⟩
      obtain ⟨v, ev⟩ : ∃ v, v = (m * m + 48271 * m) % 1000000000000000003 := ⟨_, rfl⟩
      dsimp only
      rw [← ev]
      have v0 : 0 ≤ v := by rw [ev]; exact Int.emod_nonneg _ (by decide)
      have v1 : v < 2 ^ 60 := by
        rw [ev]
        exact Int.lt_of_lt_of_le (Int.emod_lt_of_pos _ (by decide)) (by decide)
      refine ⟨_, rfl, _, rfl, _, _, rfl, rfl, cmul 60 60 v0 v1 v0 v1 (by decide) (by decide) (by decide),
        _, rfl, _, _, rfl, rfl, cmul 17 31 (by decide) (by decide) t0 t1 (by decide) (by decide) (by decide), _, _, rfl, rfl,
        .inl ⟨_, rfl, _, _, rfl, rfl, (by show (0 : Int) < 2147483629; decide), _, _, rfl, rfl, cdiv 6 (by decide) (by decide) (by decide) (by decide), _, rfl, _, _, rfl, rfl, u0, ?_⟩⟩
      exact k _ _ (Int.emod_nonneg _ (by omega)) (Int.emod_lt_of_pos _ u0) (Stp.put one) ⟨_, _, _, upd_same, x0, y0, y1, by omega, by omega⟩
abbrev s__law_spell : Stmt := topS 78
abbrev N__law_spell : List Str := ["urn", "peak", "k"]
theorem sc__law_spell : FnScope ["urn", "peak", "k"] ["urn", "peak"] (defScope s__law_spell) := ⟨rfl, rfl, rfl, by decide +kernel, rfl, by decide +kernel, by decide +kernel⟩

/-! ### drawn texts -/
def spSpell : Sp := fun vs H Q _ => ∃ (b : Addr) (peak : Int) (n : Nat), vs = [.ref b, .int peak] ∧ Urn H b n ∧ n + 100 < 2 ^ 30 ∧ 0 ≤ peak ∧ peak ≤ 30 ∧ ∀ l H', Abc l → (l.length : Int) ≤ peak → Stp [b] H H' → Urn H' b (n + 31) → Q (Tx l) H'
theorem cl__law_spell {f : Addr} {fd : FuncData} (D : Df K mg "_law_spell" s__law_spell ["urn", "peak"] f fd) (T : Nm mg) (c__law_pick : Cl P w K mg base 1 "_law_pick" s__law_pick ["urn", "many"] spPick) : Cl P w K mg base 2 "_law_spell" s__law_spell ["urn", "peak"] spSpell := by
  refine D.cl sc__law_spell (fun vs H Q E h => ?_) (fun cdv A outer s H vs Q E hr h => ?_)
  · obtain ⟨b, peak, n, rfl, _⟩ := h
    rfl
  · obtain ⟨b, peak, n, rfl, B, hn, p0, p1, k⟩ := h
    refine ⟨_, (pss_one (ps_ret (pe_join pe_str (pe_lc (own := [("k", 2)]) rfl sc__law_spell.nd (pi_range1 (by rfl) T.n_range (pa_cons (pe_cl c__law_pick hr (by omega) (pa_cons (pv 0) (pa_cons (pe_op op_add (pv 1) pe_int) pa_nil))) pa_nil)) (blkOk_by (own := [("k", 2)]) (N := N__law_spell) (sc := defScope s__law_spell) (by decide +kernel)) (fun _ _ _ _ _ => (pg_name (i := 2) sc__law_spell.nd rfl (by first | exact Or.inl rfl | exact Or.inr rfl))) (fun _ _ _ _ _ => pts_nil) (fun _ _ _ _ _ => (pe_ix ix_str pe_str (pe_cl c__law_pick hr (by omega) (pa_cons (pv 0) (pa_cons pe_int pa_nil))) (fun _ _ => rfl))))))), ?_⟩
    refine ⟨⟨_, rfl⟩, _, rfl, _, rfl, _, _, rfl, rfl, b, _, n, rfl, B, by omega, by omega, by omega, fun z H3 z0 z1 S3 B2 => ?_⟩
    refine ⟨z, rfl, by omega, by omega, fun L nL => ?_⟩
    refine lc_range (lo := 0) (n := z.toNat) (fun i H4 => ∃ cs : List Nat, Abc cs ∧ cs.length = i ∧ H4 L = some (.lst (cs.map fun c => Tx [c])) ∧ Stp [b] H3 H4 ∧ Urn H4 b (n + 1 + i))
      ⟨[], Abc.nil, rfl, upd_same, Stp.new nL _, B2.upd (B2.ne nL)⟩ ?_ ?_
    · rintro i H4 hi ⟨cs, ha, hcl, hL, S4, B4⟩
      refine ⟨rfl, _, rfl, b, 3, _, rfl, B4, by omega, by decide, by decide, fun d H5 d0 d1 S5 B5 => ?_⟩
      obtain ⟨c, mc, ec⟩ := pick (xs := [97, 98, 99]) d0 d1
      have nLb : L ≠ b := (B2.ne nL).symm
      have hL5 : H5 L = some (.lst (cs.map fun c => Tx [c])) := S5.kp _ _ (fun m => nLb (List.mem_singleton.mp m)) hL
      have hc : c = 97 ∨ c = 98 ∨ c = 99 := by
        simp at mc
        exact mc
      refine ⟨("abc" : Str), d, c, rfl, rfl, (by rw [abc_lit]; exact szt (by decide)), (by rw [abc_lit]; exact ec), cs.map fun c => Tx [c], hL5, ?_, ?_⟩
      · rw [List.length_map, hcl]
        exact Nat.lt_of_lt_of_le (show i < 100000 by omega) (by decide)
      · refine ⟨cs ++ [c], ha.app (Abc.one hc), by simp [hcl], ?_, ?_, ?_⟩
        · rw [List.map_append]
          exact upd_same
        · exact (S4.trans S5).mut nL
        · exact B5.upd nLb.symm
    · rintro H4 ⟨cs, ha, hcl, hL, S4, B4⟩
      refine ⟨_, L, cs.map (fun c => tx [c]), rfl, rfl, .inl (SqL.of (by rw [List.map_map]; exact hL)), ?_, ?_⟩
      · rw [List.map_map, nil_lit]
        have e : ∀ l : List Nat, (l.map ((fun x : Str => x.length) ∘ fun c => tx [c])).sum = l.length := by
          intro l
          induction l with
          | nil => rfl
          | cons x l ih =>
            rw [List.map_cons, List.sum_cons, ih, List.length_cons]
            show (tx [x]).length + l.length = l.length + 1
            rw [tx_len]
            simp
            omega
        rw [e, List.length_map, tx_len]
        simp
        omega
      · rw [nil_lit, join_abc]
        exact k _ _ ha (by omega) (S3.trans S4) (B4.mono (by omega))
abbrev s__law_stems : Stmt := topS 79
abbrev N__law_stems : List Str := ["urn", "stem", "found", "k", "cut"]
theorem sc__law_stems : FnScope ["urn", "stem", "found", "k", "cut"] ["urn"] (defScope s__law_stems) := ⟨rfl, rfl, rfl, by decide +kernel, rfl, by decide +kernel, by decide +kernel⟩

/-! ### the stems -/
theorem seq_end {t u : TS} {D : Ends} {σ : L2.St} {H : Hp} (I : L2.St → Hp → Prop) (fin : ∀ σ' H', I σ' H' → u D σ' H') (h : (∀ σ' H', I σ' H' → u D σ' H') → t { D with nx := u D } σ H) : tSeq t u D σ H := h fin
/-- roots: some texts, not none of them -/
def Roots (H : Hp) (p : Addr) (ls : List (List Nat)) : Prop := H p = some (.lst (ls.map Tx)) ∧ (∀ l ∈ ls, Abc l ∧ l.length ≤ 20) ∧ 0 < ls.length ∧ ls.length ≤ 10
theorem c_lit : ("c" : Str) = tx [99] := by decide +kernel
theorem a_lit : ("a" : Str) = tx [97] := by decide +kernel
def spStems : Sp := fun vs H Q _ => ∃ (b : Addr) (n : Nat), vs = [.ref b] ∧ Urn H b n ∧ n + 500 < 2 ^ 30 ∧ ∀ p ls H', H p = none → Roots H' p ls → ls.length ≤ 4 → Stp [b] H H' → Urn H' b (n + 200) → Q (.ref p) H'
theorem cl__law_stems {f : Addr} {fd : FuncData} (D : Df K mg "_law_stems" s__law_stems ["urn"] f fd) (T : Nm mg) (c__law_pick : Cl P w K mg base 1 "_law_pick" s__law_pick ["urn", "many"] spPick)
    (c__law_spell : Cl P w K mg base 2 "_law_spell" s__law_spell ["urn", "peak"] spSpell) : Cl P w K mg base 3 "_law_stems" s__law_stems ["urn"] spStems := by
  refine D.cl sc__law_stems (fun vs H Q E h => ?_) (fun cdv A outer s H vs Q E hr h => ?_)
  · obtain ⟨b, n, rfl, _⟩ := h
    rfl
  · obtain ⟨b, n, rfl, U, hn, k⟩ := h
    refine ⟨_, (pss_cons (ps_set (i := 1) sc__law_stems.nd rfl (by first | exact Or.inl rfl | exact Or.inr rfl) (pe_cl c__law_spell hr (by omega) (pa_cons (pv 0) (pa_cons pe_int pa_nil))))
      (pss_cons (ps_set (i := 2) sc__law_stems.nd rfl (by first | exact Or.inl rfl | exact Or.inr rfl) (pe_lst (pa_cons (pv 1) pa_nil)))
      (pss_cons (ps_for PassesOwn.never rfl (pi_range1 (by rfl) T.n_range (pa_cons (pe_op op_add pe_int (pe_cl c__law_pick hr (by omega) (pa_cons (pv 0) (pa_cons pe_int pa_nil)))) pa_nil)) (pg_name (i := 3) sc__law_stems.nd rfl (by first | exact Or.inl rfl | exact Or.inr rfl)) (pss_cons (ps_set (i := 4) sc__law_stems.nd rfl (by first | exact Or.inl rfl | exact Or.inr rfl) (pe_slice sl_str (pv 1) po_none (po_some (pe_cl c__law_pick hr (by omega) (pa_cons (pv 0) (pa_cons (pe_op op_add (pe_callB call_len_str (by rfl) T.n_len (by decide +kernel) (pa_cons (pv 1) pa_nil)) pe_int) pa_nil))))))
      (pss_one (ps_expr (pe_bm PySem.F.plainAttrs_list PySem.F.slot_list_append PySem.F.type_list_append mt_append (pv 2) (pa_cons (pe_op op_add_str (pe_op op_add_str (pv 4) (pe_op Pg.op_mul_str pe_str (pe_ix ix_list (pe_lst (pa_cons pe_int (pa_cons pe_int (pa_cons pe_int (pa_cons pe_int pa_nil))))) (pe_cl c__law_pick hr (by omega) (pa_cons (pv 0) (pa_cons pe_int pa_nil))) (fun _ _ => rfl)))) (pe_cl c__law_spell hr (by omega) (pa_cons (pv 0) (pa_cons pe_int pa_nil)))) pa_nil))))))
      (pss_one (ps_ret (pv 2)))))), ?_⟩
    have bm : b ∈ [b] := List.mem_singleton.mpr rfl
    refine ⟨_, rfl, b, 7, n, rfl, U, by omega, by decide, by decide, fun st H1 ast lst S1 U1 => ?_⟩
    refine ⟨_, rfl, (by show 1 ≤ sizeLine; decide), fun p np => ?_⟩
    have pb : p ≠ b := (U1.ne np).symm
    have pn : p ∉ [b] := fun m => pb (List.mem_singleton.mp m)
    have np0 : H p = none := S1.fresh pn np
    have U2 := U1.upd (o := .lst [Tx st]) pb.symm
    have S2 : Stp [b] H (upd H1 p (.lst [Tx st])) := S1.new' np
    have hp2 : (upd H1 p (.lst [Tx st])) p = some (.lst ([st].map Tx)) := upd_same
    generalize upd H1 p (.lst [Tx st]) = H2 at *
    refine ⟨_, rfl, b, 3, _, rfl, U2, by omega, by decide, by decide, fun z H3 z0 z1 S3 U3 => ?_⟩
    refine ⟨_, _, rfl, rfl, _, rfl, by omega, by omega, ?_⟩
    have hp3 := S3.kp _ _ pn hp2
    refine for_range (lo := 0) (n := (1 + z).toNat) (fun i σ H4 => ∃ (x3 x4 : Option V) (ls : List (List Nat)), σ = [some (.ref b), some (Tx st), some (.ref p), x3, x4] ∧ H4 p = some (.lst (ls.map Tx)) ∧ (∀ l ∈ ls, Abc l ∧ l.length ≤ 20) ∧ ls.length = i + 1 ∧ Stp [p, b] H2 H4 ∧ Urn H4 b (n + 32 + 40 * i))
      ⟨_, _, [st], rfl, hp3, fun l m => by rw [List.mem_singleton.mp m]; exact ⟨ast, by omega⟩, rfl, S3.sub (by simp), U3⟩ ?_ ?_
    · rintro i σ H4 hi ⟨x3, x4, ls, rfl, hp4, ok, ll, S4, U4⟩
      have i3 : i < 3 := by omega
      have mb : ∀ x ∈ ([b] : List Addr), x ∈ [p, b] := fun x m => List.mem_cons_of_mem _ m
      refine ⟨_, rfl, _, rfl, _, rfl, tx st, rfl, szt (by omega), _, _, rfl, rfl, b, _, _, rfl, U4, by omega, ?_, ?_, fun d H5 d0 d1 S5 U5 => ?_⟩
      · have := tx_len st
        omega
      · have := tx_len st
        omega
      obtain ⟨e, rfl⟩ := Int.eq_ofNat_of_zero_le d0
      refine ⟨_, rfl, tx st, rfl, szt (by omega), ?_⟩
      rw [show cutS (tx st) none (some (e : Int)) = _ from tx_upto st e]
      have hp5 := S5.kp _ _ pn hp4
      have acut : Abc (st.take e) := ast.take _
      have lcut : (st.take e).length ≤ 7 := by rw [List.length_take]; omega
      generalize st.take e = cut at *
      refine ⟨_, rfl, .inl ⟨rfl, _, SqL.of hp5⟩, _, rfl, (by show 4 ≤ sizeLine; decide), fun l nl => ?_⟩
      have hl6 : (upd H5 l (.lst [.int 0, .int 0, .int 1, .int 3])) l = some (.lst [.int 0, .int 0, .int 1, .int 3]) := upd_same
      have lb : l ∉ [b] := fun m => (U5.ne nl).symm (List.mem_singleton.mp m)
      have S6 : Stp [b] H5 (upd H5 l (.lst [.int 0, .int 0, .int 1, .int 3])) := Stp.new nl _
      refine ⟨_, rfl, b, 4, _, rfl, U5.upd (U5.ne nl), by omega, by decide, by decide, fun d2 H6 d20 d21 S7 U6 => ?_⟩
      have S56 := S6.trans S7
      have hl7 := S7.kp _ _ lb hl6
      obtain ⟨u, mu, eu⟩ := pick_int (ns := [0, 0, 1, 3]) d20 d21
      have u0 : 0 ≤ u ∧ u ≤ 3 := by
        simp at mu
        omega
      refine ⟨l, _, d2, .int u, rfl, rfl, SqL.of hl7, eu, tx [99], u, congrArg V.str c_lit, rfl, mulOk 99 (by omega) (by omega), ?_⟩
      refine ⟨tx cut, tx (List.replicate u.toNat 99), rfl, congrArg V.str (tx_mul _ _), (by rw [tx_len, tx_len, List.length_replicate]; exact sz (by omega)), ?_⟩
      refine ⟨_, rfl, b, 2, _, rfl, U6, by omega, by decide, by decide, fun tl H8 atl ltl S8 U8 => ?_⟩
      refine ⟨tx (cut ++ List.replicate u.toNat 99), tx tl, congrArg V.str (tx_app _ _), rfl, (by rw [tx_len, tx_len, List.length_append, List.length_replicate]; exact sz (by omega)), ?_⟩
      have S58 := S56.trans S8
      have hp8 := S58.kp _ _ pn hp5
      rw [tx_app]
      refine ⟨p, _, _, rfl, rfl, hp8, Nat.lt_of_le_of_lt (show (ls.map Tx).length ≤ 1000 by rw [List.length_map]; omega) (by decide), ?_⟩
      have e9 : ls.map Tx ++ [Tx (cut ++ List.replicate u.toNat 99 ++ tl)] = (ls ++ [cut ++ List.replicate u.toNat 99 ++ tl]).map Tx := by rw [List.map_append]; rfl
      refine ⟨_, _, ls ++ [cut ++ List.replicate u.toNat 99 ++ tl], rfl, by rw [← e9]; exact upd_same, fun x m => ?_, by simp [ll], ((S4.trans (S5.sub mb)).trans (S58.sub mb)).put' List.mem_cons_self, (U8.upd pb.symm).mono (by omega)⟩
      rcases List.mem_append.mp m with m | m
      · exact ok x m
      · rw [List.mem_singleton.mp m]
        refine ⟨(acut.app (Abc.rep _ (.inr (.inr rfl)))).app atl, ?_⟩
        rw [List.length_append, List.length_append, List.length_replicate]
        omega
    · rintro σ H4 ⟨x3, x4, ls, rfl, hp4, ok, ll, S4, U4⟩
      refine ⟨_, rfl, ?_⟩
      refine k p ls H4 np0 ⟨hp4, ok, by omega, by omega⟩ (by omega) ?_ (U4.mono (by omega))
      exact Stp.loc np0 ((S2.sub fun x m => List.mem_cons_of_mem _ m).trans S4)
abbrev s__law_near : Stmt := topS 80
abbrev N__law_near : List Str := ["urn", "roots", "text", "way"]
theorem sc__law_near : FnScope ["urn", "roots", "text", "way"] ["urn", "roots"] (defScope s__law_near) := ⟨rfl, rfl, rfl, by decide +kernel, rfl, by decide +kernel, by decide +kernel⟩

/-! ### near texts -/
def Nr (b p : Addr) (way : Int) (m n : Nat) (H0 : Hp) (σ : L2.St) (H : Hp) : Prop := ∃ l : List Nat, σ = [some (.ref b), some (.ref p), some (Tx l), some (.int way)] ∧ Abc l ∧ l.length ≤ m ∧ Stp [b] H0 H ∧ Urn H b n
def spNear : Sp := fun vs H Q _ => ∃ (b p : Addr) (ls : List (List Nat)) (n : Nat), vs = [.ref b, .ref p] ∧ Urn H b n ∧ n + 500 < 2 ^ 30 ∧ Roots H p ls ∧ ∀ l H', Abc l → l.length ≤ 12 → Stp [b] H H' → Urn H' b (n + 70) → Q (Tx l) H'
theorem cl__law_near {f : Addr} {fd : FuncData} (D : Df K mg "_law_near" s__law_near ["urn", "roots"] f fd) (T : Nm mg) (c__law_pick : Cl P w K mg base 1 "_law_pick" s__law_pick ["urn", "many"] spPick)
    (c__law_spell : Cl P w K mg base 2 "_law_spell" s__law_spell ["urn", "peak"] spSpell) : Cl P w K mg base 3 "_law_near" s__law_near ["urn", "roots"] spNear := by
  refine D.cl sc__law_near (fun vs H Q E h => ?_) (fun cdv A outer s H vs Q E hr h => ?_)
  · obtain ⟨b, p, ls, n, rfl, _⟩ := h
    rfl
  · obtain ⟨b, p, ls, n, rfl, U, hn, ⟨hp, ok, l0, l10⟩, k⟩ := h
    refine ⟨_, (pss_cons (ps_set (i := 2) sc__law_near.nd rfl (by first | exact Or.inl rfl | exact Or.inr rfl) (pe_ix ix_list (pv 1) (pe_cl c__law_pick hr (by omega) (pa_cons (pv 0) (pa_cons (pe_callB call_len_seq (by rfl) T.n_len (by decide +kernel) (pa_cons (pv 1) pa_nil)) pa_nil))) (fun _ _ => rfl)))
      (pss_cons (ps_set (i := 3) sc__law_near.nd rfl (by first | exact Or.inl rfl | exact Or.inr rfl) (pe_cl c__law_pick hr (by omega) (pa_cons (pv 0) (pa_cons pe_int pa_nil))))
      (pss_cons (ps_if (pt_cmpR op_eq (pv 3) pe_int (by first | exact nomark _ | rfl)) (pss_one (ps_set (i := 2) sc__law_near.nd rfl (by first | exact Or.inl rfl | exact Or.inr rfl) (pe_op op_add_str (pv 2) pe_str))) pss_nil)
      (pss_cons (ps_if (pt_cmpR op_eq (pv 3) pe_int (by first | exact nomark _ | rfl)) (pss_one (ps_set (i := 2) sc__law_near.nd rfl (by first | exact Or.inl rfl | exact Or.inr rfl) (pe_slice sl_str (pv 2) po_none (po_some (pe_un un_neg pe_int))))) pss_nil)
      (pss_cons (ps_if (pt_cmpR op_eq (pv 3) pe_int (by first | exact nomark _ | rfl)) (pss_one (ps_set (i := 2) sc__law_near.nd rfl (by first | exact Or.inl rfl | exact Or.inr rfl) (pe_op op_add_str (pe_slice sl_str (pv 2) po_none (po_some (pe_un un_neg pe_int))) (pe_ix ix_str pe_str (pe_cl c__law_pick hr (by omega) (pa_cons (pv 0) (pa_cons pe_int pa_nil))) (fun _ _ => rfl))))) pss_nil)
      (pss_cons (ps_if (pt_cmpR op_eq (pv 3) pe_int (by first | exact nomark _ | rfl)) (pss_one (ps_set (i := 2) sc__law_near.nd rfl (by first | exact Or.inl rfl | exact Or.inr rfl) (pe_op op_add_str (pe_slice sl_str (pv 2) po_none (po_some (pe_cl c__law_pick hr (by omega) (pa_cons (pv 0) (pa_cons (pe_op op_add (pe_callB call_len_str (by rfl) T.n_len (by decide +kernel) (pa_cons (pv 2) pa_nil)) pe_int) pa_nil))))) (pe_cl c__law_spell hr (by omega) (pa_cons (pv 0) (pa_cons pe_int pa_nil)))))) pss_nil)
      (pss_one (ps_ret (pe_slice sl_str (pv 2) po_none (po_some pe_int)))))))))), ?_⟩
    have pb : p ≠ b := fun e => by
      obtain ⟨x, y, z, hb, _⟩ := U
      rw [e, hb] at hp
      cases ls with
      | nil => simp at l0
      | cons l ls =>
        simp at hp
    have pn : p ∉ [b] := fun m => pb (List.mem_singleton.mp m)
    refine ⟨_, rfl, _, rfl, _, rfl, p, _, rfl, .inl (SqL.of hp), b, _, n, rfl, U, by omega, by rw [List.length_map]; omega, by rw [List.length_map]; omega, fun d H1 d0 d1 S1 U1 => ?_⟩
    rw [List.length_map] at d1
    obtain ⟨e, rfl⟩ := Int.eq_ofNat_of_zero_le d0
    have he : e < ls.length := by omega
    have hx : (ls.map Tx)[e]? = some (Tx ls[e]) := by rw [List.getElem?_map, List.getElem?_eq_getElem he]; rfl
    obtain ⟨at0, lt0⟩ := ok _ (List.getElem_mem he)
    refine ⟨p, _, e, _, rfl, rfl, SqL.of (S1.kp _ _ pn hp), atI_nat (j := e) hx, ?_⟩
    generalize ls[e] = t0 at *
    refine ⟨_, rfl, b, 7, _, rfl, U1, by omega, by decide, by decide, fun way H2 w0 w1 S2 U2 => ?_⟩
    have S12 := S1.trans S2
    dsimp only [gName]
    refine seq_end (Nr b p way 21 (n + 2) H) ?_ (fun fin => ?_)
    rotate_left
    · refine ⟨_, rfl, rfl, _, rfl, ite2 (fun h => ?_) (fun h => ?_)⟩
      · refine ⟨_, rfl, tx t0, tx [97], rfl, congrArg V.str a_lit, (by rw [tx_len, tx_len]; exact sz (by simp; omega)), ?_⟩
        rw [tx_app]
        exact fin _ _ ⟨_, rfl, at0.app (Abc.one (.inl rfl)), by rw [List.length_append, List.length_singleton]; omega, S12, U2⟩
      · exact fin _ _ ⟨t0, rfl, at0, by omega, S12, U2⟩
    rintro σ H3 ⟨t1, rfl, at1, lt1, S3, U3⟩
    refine seq_end (Nr b p way 21 (n + 2) H) ?_ (fun fin => ?_)
    rotate_left
    · refine ⟨_, rfl, rfl, _, rfl, ite2 (fun h => ?_) (fun h => ?_)⟩
      · refine ⟨_, rfl, 1, rfl, -1, rfl, tx t1, rfl, szt (by omega), ?_⟩
        rw [show cutS (tx t1) none (some (-1)) = _ from tx_init t1]
        exact fin _ _ ⟨_, rfl, at1.init, by rw [List.length_dropLast]; omega, S3, U3⟩
      · exact fin _ _ ⟨t1, rfl, at1, by omega, S3, U3⟩
    rintro σ H4 ⟨t2, rfl, at2, lt2, S4, U4⟩
    refine seq_end (Nr b p way 21 (n + 3) H) ?_ (fun fin => ?_)
    rotate_left
    · refine ⟨_, rfl, rfl, _, rfl, ite2 (fun h => ?_) (fun h => ?_)⟩
      · refine ⟨_, rfl, 1, rfl, -1, rfl, tx t2, rfl, szt (by omega), ?_⟩
        rw [show cutS (tx t2) none (some (-1)) = _ from tx_init t2]
        refine ⟨_, rfl, b, 3, _, rfl, U4, by omega, by decide, by decide, fun d H5 d0 d1 S5 U5 => ?_⟩
        obtain ⟨c, mc, ec⟩ := pick (xs := [97, 98, 99]) d0 d1
        have hc : c = 97 ∨ c = 98 ∨ c = 99 := by
          simp at mc
          exact mc
        refine ⟨("abc" : Str), d, c, rfl, rfl, (by rw [abc_lit]; exact szt (by decide)), (by rw [abc_lit]; exact ec), tx t2.dropLast, tx [c], rfl, rfl, (by rw [tx_len, tx_len, List.length_dropLast, List.length_singleton]; exact sz (by omega)), ?_⟩
        rw [tx_app]
        exact fin _ _ ⟨_, rfl, at2.init.app (Abc.one hc), by rw [List.length_append, List.length_dropLast, List.length_singleton]; omega, S4.trans S5, U5⟩
      · exact fin _ _ ⟨t2, rfl, at2, by omega, S4, U4.mono (by omega)⟩
    rintro σ H5 ⟨t3, rfl, at3, lt3, S5, U5⟩
    refine seq_end (Nr b p way 25 (n + 40) H) ?_ (fun fin => ?_)
    rotate_left
    · refine ⟨_, rfl, rfl, _, rfl, ite2 (fun h => ?_) (fun h => ?_)⟩
      · refine ⟨_, rfl, _, rfl, _, rfl, tx t3, rfl, szt (by omega), _, _, rfl, rfl, b, _, _, rfl, U5, by omega, ?_, ?_, fun d H6 d0 d1 S6 U6 => ?_⟩
        · have := tx_len t3
          omega
        · have := tx_len t3
          omega
        obtain ⟨e, rfl⟩ := Int.eq_ofNat_of_zero_le d0
        refine ⟨_, rfl, tx t3, rfl, szt (by omega), ?_⟩
        rw [show cutS (tx t3) none (some (e : Int)) = _ from tx_upto t3 e]
        refine ⟨_, rfl, b, 4, _, rfl, U6, by omega, by decide, by decide, fun tl H8 atl ltl S8 U8 => ?_⟩
        have lt4 : (t3.take e).length ≤ 21 := by rw [List.length_take]; omega
        refine ⟨tx (t3.take e), tx tl, rfl, rfl, (by rw [tx_len, tx_len]; exact sz (by omega)), ?_⟩
        rw [tx_app]
        exact fin _ _ ⟨_, rfl, (at3.take _).app atl, by rw [List.length_append]; omega, (S5.trans S6).trans S8, U8.mono (by omega)⟩
      · exact fin _ _ ⟨t3, rfl, at3, by omega, S5, U5.mono (by omega)⟩
    rintro σ H6 ⟨t4, rfl, at4, lt4, S6, U6⟩
    refine ⟨_, rfl, 12, rfl, tx t4, rfl, szt (by omega), ?_⟩
    show Q _ _
    rw [show cutS (tx t4) none (some 12) = _ from tx_upto t4 12]
    exact k _ _ (at4.take _) (by rw [List.length_take]; omega) S6 (U6.mono (by omega))
abbrev s__law_page : Stmt := topS 81
abbrev N__law_page : List Str := ["urn", "roots", "peak", "scarce", "leaf", "k"]
theorem sc__law_page : FnScope ["urn", "roots", "peak", "scarce", "leaf", "k"] ["urn", "roots", "peak"] (defScope s__law_page) := ⟨rfl, rfl, rfl, by decide +kernel, rfl, by decide +kernel, by decide +kernel⟩

/-! ### drawn pages -/
/-- values of a column -/
def vD : Option (List Nat) → D
  | none => .non
  | some l => .str l
def vV : Option (List Nat) → V
  | none => .non
  | some l => Tx l
theorem rv_vs {K : PySem.W.Frag} {S : List Addr} {H : Hp} : ∀ (os : List (Option (List Nat))), (∀ l, some l ∈ os → l.length ≤ 100000) → RvL K S H (os.map vV) (os.map vD)
  | [], _ => .nil
  | none :: os, h => .cons .non (rv_vs os fun l m => h l (List.mem_cons_of_mem _ m))
  | some x :: os, h => .cons (.str x (h x List.mem_cons_self)) (rv_vs os fun l m => h l (List.mem_cons_of_mem _ m))
/-- a page stands at p -/
def Leaf (H : Hp) (p : Addr) (os : List (Option (List Nat))) : Prop := H p = some (.lst (os.map vV)) ∧ (∀ l, some l ∈ os → Abc l ∧ l.length ≤ 12) ∧ 0 < os.length
def spPage : Sp := fun vs H Q _ => ∃ (b p : Addr) (ls : List (List Nat)) (pk : Int) (n : Nat), vs = [.ref b, .ref p, .int pk] ∧ Urn H b n ∧ n + 10000 < 2 ^ 30 ∧ Roots H p ls ∧ 0 < pk ∧ pk ≤ 40 ∧
  ∀ q os H', H q = none → Leaf H' q os → os.length ≤ 40 → Stp [b] H H' → Urn H' b (n + 3000) → Q (.ref q) H'
theorem Roots.stp {H H' : Hp} {p b : Addr} {ls : List (List Nat)} {n : Nat} (r : Roots H p ls) (u : Urn H b n) (s : Stp [b] H H') : Roots H' p ls := by
  refine ⟨s.kp _ _ (fun m => ?_) r.1, r.2⟩
  obtain ⟨hp, ok, l0, l10⟩ := r
  obtain ⟨x, y, z, hb, _⟩ := u
  rw [List.mem_singleton.mp m, hb] at hp
  cases ls with
  | nil => simp at l0
  | cons l ls => simp at hp
theorem cl__law_page {f : Addr} {fd : FuncData} (D : Df K mg "_law_page" s__law_page ["urn", "roots", "peak"] f fd) (T : Nm mg) (c__law_pick : Cl P w K mg base 1 "_law_pick" s__law_pick ["urn", "many"] spPick)
    (c__law_near : Cl P w K mg base 3 "_law_near" s__law_near ["urn", "roots"] spNear) : Cl P w K mg base 4 "_law_page" s__law_page ["urn", "roots", "peak"] spPage := by
  refine D.cl sc__law_page (fun vs H Q E h => ?_) (fun cdv A outer s H vs Q E hr h => ?_)
  · obtain ⟨b, p, ls, pk, n, rfl, _⟩ := h
    rfl
  · obtain ⟨b, p, ls, pk, n, rfl, U, hn, R, p0, p1, k⟩ := h
    refine ⟨_, (pss_cons (ps_set (i := 3) sc__law_page.nd rfl (by first | exact Or.inl rfl | exact Or.inr rfl) (pe_ix ix_list (pe_lst (pa_cons pe_int (pa_cons pe_int (pa_cons pe_int (pa_cons pe_int pa_nil))))) (pe_cl c__law_pick hr (by omega) (pa_cons (pv 0) (pa_cons pe_int pa_nil))) (fun _ _ => rfl)))
      (pss_cons (ps_set (i := 4) sc__law_page.nd rfl (by first | exact Or.inl rfl | exact Or.inr rfl) (pe_lst pa_nil))
      (pss_cons (ps_for PassesOwn.never rfl (pi_range1 (by rfl) T.n_range (pa_cons (pe_op op_add pe_int (pe_cl c__law_pick hr (by omega) (pa_cons (pv 0) (pa_cons (pv 2) pa_nil)))) pa_nil)) (pg_name (i := 5) sc__law_page.nd rfl (by first | exact Or.inl rfl | exact Or.inr rfl)) (pss_one (ps_if (pt_cmpR op_lt (pe_cl c__law_pick hr (by omega) (pa_cons (pv 0) (pa_cons pe_int pa_nil))) (pv 3) (by first | exact nomark _ | rfl)) (pss_one (ps_expr (pe_bm PySem.F.plainAttrs_list PySem.F.slot_list_append PySem.F.type_list_append mt_append (pv 4) (pa_cons pe_non pa_nil)))) (pss_one (ps_expr (pe_bm PySem.F.plainAttrs_list PySem.F.slot_list_append PySem.F.type_list_append mt_append (pv 4) (pa_cons (pe_cl c__law_near hr (by omega) (pa_cons (pv 0) (pa_cons (pv 1) pa_nil))) pa_nil)))))))
      (pss_one (ps_ret (pv 4)))))), ?_⟩
    refine ⟨(by show 4 ≤ sizeLine; decide), fun l nl => ?_⟩
    have hl1 : (upd H l (.lst [.int 0, .int 0, .int 1, .int 4])) l = some (.lst [.int 0, .int 0, .int 1, .int 4]) := upd_same
    have lb : l ∉ [b] := fun m => (U.ne nl).symm (List.mem_singleton.mp m)
    have S1 : Stp [b] H (upd H l (.lst [.int 0, .int 0, .int 1, .int 4])) := Stp.new nl _
    refine ⟨_, rfl, b, 4, _, rfl, U.upd (U.ne nl), by omega, by decide, by decide, fun d H2 d0 d1 S2 U2 => ?_⟩
    have S12 := S1.trans S2
    obtain ⟨u, mu, eu⟩ := pick_int (ns := [0, 0, 1, 4]) d0 d1
    refine ⟨l, _, d, .int u, rfl, rfl, SqL.of (S2.kp _ _ lb hl1), eu, ?_⟩
    refine ⟨Nat.zero_le _, fun q nq => ?_⟩
    have qb : q ≠ b := (U2.ne nq).symm
    have qn : q ∉ [b] := fun m => qb (List.mem_singleton.mp m)
    have nq0 : H q = none := S12.fresh qn nq
    have S3 : Stp [b] H (upd H2 q (.lst [])) := S12.new' nq
    have U3 := U2.upd (o := .lst []) qb.symm
    have hq3 : (upd H2 q (.lst [])) q = some (.lst []) := upd_same
    generalize upd H2 q (.lst []) = H3 at *
    refine ⟨_, rfl, _, rfl, b, pk, _, rfl, U3, by omega, p0, by omega, fun z H4 z0 z1 S4 U4 => ?_⟩
    refine ⟨_, _, rfl, rfl, _, rfl, by omega, by omega, ?_⟩
    have hq4 := S4.kp _ _ qn hq3
    refine for_range (lo := 0) (n := (1 + z).toNat) (fun i σ H5 => ∃ (x5 : Option V) (os : List (Option (List Nat))), σ = [some (.ref b), some (.ref p), some (.int pk), some (.int u), some (.ref q), x5] ∧ H5 q = some (.lst (os.map vV)) ∧ (∀ l, some l ∈ os → Abc l ∧ l.length ≤ 12) ∧ os.length = i ∧ Stp [q, b] H3 H5 ∧ Urn H5 b (n + 2 + 73 * i) ∧ Roots H5 p ls)
      ⟨_, [], rfl, hq4, fun l m => (nomatch m), rfl, S4.sub fun x m => List.mem_cons_of_mem _ m, U4, (R.stp U S3).stp U3 S4⟩ ?_ ?_
    · rintro i σ H5 hi ⟨x5, os, rfl, hq5, ok, lo, S5, U5, R5⟩
      have i40 : i < 40 := by omega
      have mb : ∀ x ∈ ([b] : List Addr), x ∈ [q, b] := fun x m => List.mem_cons_of_mem _ m
      have pq : p ≠ q := by
        intro e
        have h1 := R.1
        rw [e, nq0] at h1
        cases h1
      refine ⟨_, rfl, b, 6, _, rfl, U5, by omega, by decide, by decide, fun d2 H6 e0 e1 S6 U6 => ?_⟩
      have hq6 := S6.kp _ _ qn hq5
      refine ⟨_, rfl, _, _, rfl, rfl, _, rfl, ite2 (fun h => ?_) (fun h => ?_)⟩
      · refine ⟨_, rfl, .inl ⟨rfl, _, SqL.of hq6⟩, q, _, _, rfl, rfl, hq6, Nat.lt_of_le_of_lt (show (os.map vV).length ≤ 1000 by rw [List.length_map]; omega) (by decide), ?_⟩
        have e9 : os.map vV ++ [V.non] = (os ++ [none]).map vV := by rw [List.map_append]; rfl
        refine ⟨_, os ++ [none], rfl, by rw [← e9]; exact upd_same, fun x m => ?_, by simp [lo], (S5.trans (S6.sub mb)).put' List.mem_cons_self, (U6.upd qb.symm).mono (by omega), ?_⟩
        · rcases List.mem_append.mp m with m | m
          · exact ok x m
          · simp at m
        · have R6 := R5.stp U5 S6
          exact ⟨by rw [upd_ne pq]; exact R6.1, R6.2⟩
      · refine ⟨_, rfl, .inl ⟨rfl, _, SqL.of hq6⟩, _, rfl, _, rfl, b, p, ls, _, rfl, U6, by omega, R5.stp U5 S6, fun tl H7 atl ltl S7 U7 => ?_⟩
        have hq7 := S7.kp _ _ qn hq6
        refine ⟨q, _, _, rfl, rfl, hq7, Nat.lt_of_le_of_lt (show (os.map vV).length ≤ 1000 by rw [List.length_map]; omega) (by decide), ?_⟩
        have e9 : os.map vV ++ [Tx tl] = (os ++ [some tl]).map vV := by rw [List.map_append]; rfl
        refine ⟨_, os ++ [some tl], rfl, by rw [← e9]; exact upd_same, fun x m => ?_, by simp [lo], ((S5.trans (S6.sub mb)).trans (S7.sub mb)).put' List.mem_cons_self, (U7.upd qb.symm).mono (by omega), ?_⟩
        · rcases List.mem_append.mp m with m | m
          · exact ok x m
          · simp at m
            subst m
            exact ⟨atl, ltl⟩
        · have R7 := (R5.stp U5 S6).stp U6 S7
          exact ⟨by rw [upd_ne pq]; exact R7.1, R7.2⟩
    · rintro σ H5 ⟨x5, os, rfl, hq5, ok, lo, S5, U5, R5⟩
      exact ⟨_, rfl, k q os H5 nq0 ⟨hq5, ok, by omega⟩ (by omega) (Stp.loc nq0 ((S3.sub fun x m => List.mem_cons_of_mem _ m).trans S5)) (U5.mono (by omega))⟩
abbrev s_is_rule : Stmt := topS 44
abbrev N_is_rule : List Str := ["value", "lacks", "low", "high"]
theorem sc_is_rule : FnScope ["value", "lacks", "low", "high"] ["value"] (defScope s_is_rule) := ⟨rfl, rfl, rfl, by decide +kernel, rfl, by decide +kernel, by decide +kernel⟩

abbrev s_is_lacks_part : Stmt := topS 45
abbrev N_is_lacks_part : List Str := ["part"]
theorem sc_is_lacks_part : FnScope ["part"] ["part"] (defScope s_is_lacks_part) := ⟨rfl, rfl, rfl, by decide +kernel, rfl, by decide +kernel, by decide +kernel⟩

abbrev s_is_low_part : Stmt := topS 46
abbrev N_is_low_part : List Str := ["part"]
theorem sc_is_low_part : FnScope ["part"] ["part"] (defScope s_is_low_part) := ⟨rfl, rfl, rfl, by decide +kernel, rfl, by decide +kernel, by decide +kernel⟩

abbrev s_is_high_part : Stmt := topS 47
abbrev N_is_high_part : List Str := ["part"]
theorem sc_is_high_part : FnScope ["part"] ["part"] (defScope s_is_high_part) := ⟨rfl, rfl, rfl, by decide +kernel, rfl, by decide +kernel, by decide +kernel⟩

abbrev s_is_lost : Stmt := topS 48
abbrev N_is_lost : List Str := ["part"]
theorem sc_is_lost : FnScope ["part"] ["part"] (defScope s_is_lost) := ⟨rfl, rfl, rfl, by decide +kernel, rfl, by decide +kernel, by decide +kernel⟩

abbrev s_is_letter_number : Stmt := topS 49
abbrev N_is_letter_number : List Str := ["part"]
theorem sc_is_letter_number : FnScope ["part"] ["part"] (defScope s_is_letter_number) := ⟨rfl, rfl, rfl, by decide +kernel, rfl, by decide +kernel, by decide +kernel⟩

/-! ### what is a rule -/
def isIn (ss : List Str) : D → Bool
  | .str l => decide (tx l ∈ ss)
  | _ => false
def isLost : D → Bool
  | .str l => decide (tx l = ("lost" : Str))
  | _ => false
def isNum : D → Bool
  | .int i => decide (0 ≤ i) && decide (i ≤ 6)
  | _ => false
def isLow (d : D) : Bool := isLost d || isNum d
def isHigh : D → Bool
  | .tup [a, b] => isIn ["cut", "beyond"] a && isNum b
  | d => isLost d
def isRule : D → Bool
  | .tup [a, b, c] => isIn ["many", "some", "hidden"] a && isLow b && isHigh c
  | _ => false
/-- a def that tells a truth of any value -/
def spTell (K : PySem.W.Frag) (t : D → Bool) : Sp := fun vs H Q _ => ∃ (S : List Addr) (v : V) (d : D), vs = [v] ∧ Rv K S H v d ∧ ∀ H' b, Stp [] H H' → b = t d → Q (.bl b) H'
theorem spTell.len {K : PySem.W.Frag} {t : D → Bool} {vs : List V} {H : Hp} {Q : VK} {E : XK} (h : spTell K t vs H Q E) : vs.length = 1 := by
  obtain ⟨S, v, d, rfl, _⟩ := h
  rfl
theorem bl_str {l : List Nat} {s : Str} : decide (Tx l = V.str s) = decide (tx l = s) := by
  by_cases h : tx l = s
  · rw [decide_eq_true (congrArg V.str h), decide_eq_true h]
  · rw [decide_eq_false h, decide_eq_false (fun q => h (V.str.inj q))]
/-- x in (..), texts: the tuple is made on the way -/
theorem in_strs {K : PySem.W.Frag} {H : Hp} {l : List Nat} {ss : List Str} {p : Addr} {Q : VK} (hp : SqL K H p (ss.map V.str) ∨ SqT K H p (ss.map V.str)) (k : Q (.bl (decide (tx l ∈ ss))) H) : rIn K false (Tx l) (.ref p) H Q := by
  refine ⟨p, ss.map V.str, rfl, hp, rfl, ?_, ?_⟩
  · rw [List.all_map]
    exact List.all_eq_true.mpr fun _ _ => rfl
  · show Q (.bl (inV (.str (tx l)) (ss.map V.str))) H
    rw [inV_str]
    exact k
theorem cl_is_lost {f : Addr} {fd : FuncData} (D : Df K mg "is_lost" s_is_lost ["part"] f fd) (T : Nm mg) : Cl P w K mg base 1 "is_lost" s_is_lost ["part"] (spTell K isLost) := by
  refine D.cl sc_is_lost (fun vs H Q E h => h.len) (fun cdv A outer s H vs Q E hr h => ?_)
  obtain ⟨S, v, d, rfl, r, k⟩ := h
  refine ⟨_, (pss_one (ps_ret (pe_and (pe_tyIs (T := "str") Mono.var (pv 0) T.n_type T.n_str (by decide +kernel)) (pe_one (pe_cmpR op_eq (pv 0) pe_str (by first | exact nomark _ | rfl)))))), ?_⟩
  refine ⟨_, rfl, d.old, r.old, _, rfl, ?_⟩
  cases r with
  | str l hl => exact ⟨_, rfl, rfl, by
      show Q (.bl (decide (Tx l = V.str "lost"))) H
      exact k H _ (Stp.refl _ _) bl_str⟩
  | _ => exact k H _ (Stp.refl _ _) rfl
theorem cl_is_letter_number {f : Addr} {fd : FuncData} (D : Df K mg "is_letter_number" s_is_letter_number ["part"] f fd) (T : Nm mg) : Cl P w K mg base 1 "is_letter_number" s_is_letter_number ["part"] (spTell K isNum) := by
  refine D.cl sc_is_letter_number (fun vs H Q E h => h.len) (fun cdv A outer s H vs Q E hr h => ?_)
  obtain ⟨S, v, d, rfl, r, k⟩ := h
  refine ⟨_, (pss_one (ps_ret (pe_and (pe_tyIs (T := "int") Mono.var (pv 0) T.n_type T.n_int (by decide +kernel)) (pe_one (pe_chain op_le op_le pe_int (pv 0) pe_int))))), ?_⟩
  refine ⟨_, rfl, d.old, r.old, _, rfl, ?_⟩
  cases r with
  | int i =>
    refine ⟨_, rfl, _, _, rfl, rfl, _, rfl, ite2 (fun h => ?_) (fun h => ?_)⟩
    · exact ⟨_, _, rfl, rfl, k H _ (Stp.refl _ _) (by show _ = (decide (0 ≤ i) && decide (i ≤ 6)); rw [h]; rfl)⟩
    · exact k H _ (Stp.refl _ _) (by show _ = (decide (0 ≤ i) && decide (i ≤ 6)); rw [Bool.eq_false_iff.mpr h]; rfl)
  | _ => exact k H _ (Stp.refl _ _) rfl
theorem cl_is_lacks_part {f : Addr} {fd : FuncData} (D : Df K mg "is_lacks_part" s_is_lacks_part ["part"] f fd) (T : Nm mg) : Cl P w K mg base 1 "is_lacks_part" s_is_lacks_part ["part"] (spTell K (isIn ["many", "some", "hidden"])) := by
  refine D.cl sc_is_lacks_part (fun vs H Q E h => h.len) (fun cdv A outer s H vs Q E hr h => ?_)
  obtain ⟨S, v, d, rfl, r, k⟩ := h
  refine ⟨_, (pss_one (ps_ret (pe_and (pe_tyIs (T := "str") Mono.var (pv 0) T.n_type T.n_str (by decide +kernel)) (pe_one (pe_cmpR op_in_seq (pv 0) (pe_tup (pa_cons pe_str (pa_cons pe_str (pa_cons pe_str pa_nil)))) (by first | exact nomark _ | rfl)))))), ?_⟩
  refine ⟨_, rfl, d.old, r.old, _, rfl, ?_⟩
  cases r with
  | str l hl => exact ⟨_, rfl, (by show 3 ≤ sizeLine; decide), fun p np => in_strs (ss := ["many", "some", "hidden"]) (.inr (SqT.of upd_same)) (k _ _ (Stp.new np _) rfl)⟩
  | _ => exact k H _ (Stp.refl _ _) rfl
theorem cl_is_low_part {f : Addr} {fd : FuncData} (D : Df K mg "is_low_part" s_is_low_part ["part"] f fd) (T : Nm mg) (c_is_lost : Cl P w K mg base 1 "is_lost" s_is_lost ["part"] (spTell K isLost)) (c_is_letter_number : Cl P w K mg base 1 "is_letter_number" s_is_letter_number ["part"] (spTell K isNum)) :
    Cl P w K mg base 2 "is_low_part" s_is_low_part ["part"] (spTell K isLow) := by
  refine D.cl sc_is_low_part (fun vs H Q E h => h.len) (fun cdv A outer s H vs Q E hr h => ?_)
  obtain ⟨S, v, d, rfl, r, k⟩ := h
  refine ⟨_, (pss_one (ps_ret (pe_or (pe_cl c_is_lost hr (by omega) (pa_cons (pv 0) pa_nil)) (pe_one (pe_cl c_is_letter_number hr (by omega) (pa_cons (pv 0) pa_nil)))))), ?_⟩
  refine ⟨_, rfl, S, v, d, rfl, r, fun H1 b S1 eb => ⟨_, rfl, ite2 (fun h => ?_) (fun h => ?_)⟩⟩
  · exact k H1 _ S1 (by unfold isLow; rw [← eb, h]; rfl)
  · exact ⟨_, rfl, S, v, d, rfl, r.up S1, fun H2 b2 S2 eb2 => k H2 _ (S1.trans S2) (by unfold isLow; rw [← eb, ← eb2, Bool.eq_false_iff.mpr h]; rfl)⟩
theorem isHigh_no {d : D} (h : ∀ a b, d ≠ .tup [a, b]) : isHigh d = isLost d := by
  cases d with
  | tup ds => match ds, h with
    | [], _ => rfl
    | [_], _ => rfl
    | [a, b], h => exact absurd rfl (h a b)
    | _ :: _ :: _ :: _, _ => rfl
  | _ => rfl
theorem two {α : Type} {l : List α} (h : l.length = 2) : ∃ a b, l = [a, b] := by
  match l, h with
  | [a, b], _ => exact ⟨a, b, rfl⟩
theorem three {α : Type} {l : List α} (h : l.length = 3) : ∃ a b c, l = [a, b, c] := by
  match l, h with
  | [a, b, c], _ => exact ⟨a, b, c, rfl⟩
theorem RvL.two {K : PySem.W.Frag} {S : List Addr} {H : Hp} {vs : List V} {a b : D} (r : RvL K S H vs [a, b]) : ∃ u v, vs = [u, v] ∧ Rv K S H u a ∧ Rv K S H v b := by
  cases r with
  | cons h1 r => cases r with
    | cons h2 r => cases r; exact ⟨_, _, rfl, h1, h2⟩
theorem RvL.three {K : PySem.W.Frag} {S : List Addr} {H : Hp} {vs : List V} {a b c : D} (r : RvL K S H vs [a, b, c]) : ∃ u v w, vs = [u, v, w] ∧ Rv K S H u a ∧ Rv K S H v b ∧ Rv K S H w c := by
  cases r with
  | cons h1 r => cases r with
    | cons h2 r => cases r with
      | cons h3 r => cases r; exact ⟨_, _, _, rfl, h1, h2, h3⟩
theorem at2 {α : Type} {a b c : α} {l : List α} : atI (a :: b :: c :: l) 2 = some c := atI_nat (j := 2) rfl
theorem cl_is_high_part {f : Addr} {fd : FuncData} (D : Df K mg "is_high_part" s_is_high_part ["part"] f fd) (T : Nm mg) (c_is_lost : Cl P w K mg base 1 "is_lost" s_is_lost ["part"] (spTell K isLost)) (c_is_letter_number : Cl P w K mg base 1 "is_letter_number" s_is_letter_number ["part"] (spTell K isNum)) :
    Cl P w K mg base 2 "is_high_part" s_is_high_part ["part"] (spTell K isHigh) := by
  refine D.cl sc_is_high_part (fun vs H Q E h => h.len) (fun cdv A outer s H vs Q E hr h => ?_)
  obtain ⟨S, v, d, rfl, r, k⟩ := h
  refine ⟨_, (pss_cons (ps_if (PW.pt (pw_or (pt_tyNot (T := "tuple") Mono.var (pv 0) T.n_type T.n_tuple (by decide +kernel)) (pw_or1 (pt_cmpR op_ne (pe_callB call_len_seq (by rfl) T.n_len (by decide +kernel) (pa_cons (pv 0) pa_nil)) pe_int (by first | exact nomark _ | rfl))))) (pss_one (ps_ret (pe_cl c_is_lost hr (by omega) (pa_cons (pv 0) pa_nil)))) pss_nil)
      (pss_one (ps_ret (pe_and (pe_tyIs (T := "str") (Mono.ixT Mono.var Mono.c) (pe_ix ix_tup (pv 0) pe_int (fun _ _ => rfl)) T.n_type T.n_str (by decide +kernel)) (pe_and (pe_cmpR op_in_seq (pe_ix ix_tup (pv 0) pe_int (fun _ _ => rfl)) (pe_tup (pa_cons pe_str (pa_cons pe_str pa_nil))) (by first | exact nomark _ | rfl)) (pe_one (pe_cl c_is_letter_number hr (by omega) (pa_cons (pe_ix ix_tup (pv 0) pe_int (fun _ _ => rfl)) pa_nil)))))))), ?_⟩
  have no : (∀ a b, d ≠ .tup [a, b]) → ∀ H1, H1 = H → ∃ x, (L2.start N_is_high_part [v])[0]? = some (some x) ∧ spTell K isLost [x] H1 Q E0 := fun n H1 e => by
    subst e
    exact ⟨v, rfl, S, v, d, rfl, r, fun H2 b S2 eb => k H2 b S2 (by rw [isHigh_no n]; exact eb)⟩
  refine ⟨_, rfl, d.old, r.old, ite2 (fun h => ?_) (fun h => ?_)⟩
  · refine no (fun a b e => ?_) H rfl
    rw [e] at h
    exact absurd h (by simp [Pv.D.old, Dt.ty])
  · obtain ⟨ds, rfl⟩ : ∃ ds, d = .tup ds   := Pv.D.tup_of (by
      have h2 := Bool.eq_false_iff.mpr h
      simpa [Pv.D.ty] using h2)
    cases r with
    | tup hs hl rl =>
      rename_i a vs
      refine ⟨_, rfl, a, _, rfl, .inr hs, rfl, _, rfl, ite2 (fun h3 => ?_) (fun h3 => ?_)⟩
      · refine no (fun x y e => ?_) H rfl
        cases e
        rw [rl.len] at h3
        exact absurd h3 (by simp)
      · obtain ⟨x, y, rfl⟩ := two (l := ds) (by
          rw [rl.len] at h3
          have h2 := Bool.eq_false_iff.mpr h3
          simp at h2
          omega)
        obtain ⟨u, v, rfl, r1, r2⟩ := RvL.two rl
        refine ⟨_, rfl, a, _, 0, u, rfl, rfl, hs, at0, x.old, r1.old, _, rfl, ?_⟩
        cases r1 with
        | str l hl =>
          refine ⟨_, rfl, a, _, 0, Tx l, rfl, rfl, hs, at0, (by show 2 ≤ sizeLine; decide), fun p np => in_strs (ss := ["cut", "beyond"]) (.inr (SqT.of upd_same)) ⟨_, rfl, ite2 (fun h => ?_) (fun h => ?_)⟩⟩
          · have S1 : Stp [] H (upd H p (.tup [.str "cut", .str "beyond"])) := Stp.new np _
            refine ⟨_, rfl, a, _, 1, v, rfl, rfl, sqt_stp S1 Lsts.nil hs, at1, S, v, y, rfl, r2.up S1, fun H2 b S2 eb => k H2 b (S1.trans S2) ?_⟩
            show b = (decide (tx l ∈ _) && isNum y)
            rw [h, eb]
            rfl
          · refine k _ _ (Stp.new np _) ?_
            show false = (decide (tx l ∈ _) && isNum y)
            rw [Bool.eq_false_iff.mpr h]
            rfl
        | _ => exact k H _ (Stp.refl _ _) rfl
theorem nt {b : Bool} (h : (!b) = true) : b = false := by simpa using h
theorem nf {b : Bool} (h : ¬ (!b) = true) : b = true := by simpa using h
theorem notin_strs {K : PySem.W.Frag} {H : Hp} {l : List Nat} {ss : List Str} {p : Addr} {Q : VK} (hp : SqL K H p (ss.map V.str) ∨ SqT K H p (ss.map V.str)) (k : Q (.bl (!decide (tx l ∈ ss))) H) : rIn K true (Tx l) (.ref p) H Q := by
  refine ⟨p, ss.map V.str, rfl, hp, rfl, ?_, ?_⟩
  · rw [List.all_map]
    exact List.all_eq_true.mpr fun _ _ => rfl
  · show Q (.bl (!inV (.str (tx l)) (ss.map V.str))) H
    rw [inV_str]
    exact k
theorem isRule_no {d : D} (h : ∀ a b c, d ≠ .tup [a, b, c]) : isRule d = false := by
  cases d with
  | tup ds => match ds, h with
    | [], _ => rfl
    | [_], _ => rfl
    | [_, _], _ => rfl
    | [a, b, c], h => exact absurd rfl (h a b c)
    | _ :: _ :: _ :: _ :: _, _ => rfl
  | _ => rfl
theorem cl_is_rule {f : Addr} {fd : FuncData} (D : Df K mg "is_rule" s_is_rule ["value"] f fd) (T : Nm mg) (c_is_lacks_part : Cl P w K mg base 1 "is_lacks_part" s_is_lacks_part ["part"] (spTell K (isIn ["many", "some", "hidden"])))
    (c_is_low_part : Cl P w K mg base 2 "is_low_part" s_is_low_part ["part"] (spTell K isLow)) (c_is_high_part : Cl P w K mg base 2 "is_high_part" s_is_high_part ["part"] (spTell K isHigh)) : Cl P w K mg base 3 "is_rule" s_is_rule ["value"] (spTell K isRule) := by
  refine D.cl sc_is_rule (fun vs H Q E h => h.len) (fun cdv A outer s H vs Q E hr h => ?_)
  obtain ⟨S, v, d, rfl, r, k⟩ := h
  refine ⟨_, (pss_cons (ps_if (PW.pt (pw_or (pt_tyNot (T := "tuple") Mono.var (pv 0) T.n_type T.n_tuple (by decide +kernel)) (pw_or1 (pt_cmpR op_ne (pe_callB call_len_seq (by rfl) T.n_len (by decide +kernel) (pa_cons (pv 0) pa_nil)) pe_int (by first | exact nomark _ | rfl))))) (pss_one (ps_ret pe_bl)) pss_nil)
      (pss_cons (ps_asg (pv 0) (pg_tup rfl (pgs_cons (pg_name (i := 1) sc_is_rule.nd rfl (by first | exact Or.inl rfl | exact Or.inr rfl)) (pgs_cons (pg_name (i := 2) sc_is_rule.nd rfl (by first | exact Or.inl rfl | exact Or.inr rfl)) (pgs_cons (pg_name (i := 3) sc_is_rule.nd rfl (by first | exact Or.inl rfl | exact Or.inr rfl)) pgs_nil (by rfl)) (by rfl)) (by rfl)) (by rfl) (by rfl)))
      (pss_one (ps_ret (pe_and (pe_cl c_is_lacks_part hr (by omega) (pa_cons (pv 1) pa_nil)) (pe_and (pe_cl c_is_low_part hr (by omega) (pa_cons (pv 2) pa_nil)) (pe_one (pe_cl c_is_high_part hr (by omega) (pa_cons (pv 3) pa_nil))))))))), ?_⟩
  refine ⟨_, rfl, d.old, r.old, ite2 (fun h => ?_) (fun h => ?_)⟩
  · exact k H _ (Stp.refl _ _) (isRule_no fun a b c e => by rw [e] at h; exact absurd h (by simp [Pv.D.old, Dt.ty])).symm
  · obtain ⟨ds, rfl⟩ : ∃ ds, d = .tup ds := Pv.D.tup_of (by
      have h2 := Bool.eq_false_iff.mpr h
      simpa [Pv.D.ty] using h2)
    cases r with
    | tup hs hl rl =>
      rename_i a vs
      refine ⟨_, rfl, a, _, rfl, .inr hs, rfl, _, rfl, ite2 (fun h3 => ?_) (fun h3 => ?_)⟩
      · exact k H _ (Stp.refl _ _) (isRule_no fun x y z e => by
          cases e
          rw [rl.len] at h3
          exact absurd h3 (by simp)).symm
      · obtain ⟨x, y, z, rfl⟩ := three (l := ds) (by
          rw [rl.len] at h3
          have h2 := Bool.eq_false_iff.mpr h3
          simp at h2
          omega)
        obtain ⟨u1, u2, u3, rfl, r1, r2, r3⟩ := RvL.three rl
        refine ⟨_, rfl, a, _, rfl, hs, rfl, _, _, rfl, _, _, rfl, _, _, rfl, rfl, ?_⟩
        refine ⟨_, rfl, S, u1, x, rfl, r1, fun H1 b1 S1 e1 => ⟨_, rfl, ite2 (fun h4 => ?_) (fun h4 => ?_)⟩⟩
        · refine ⟨_, rfl, S, u2, y, rfl, r2.up S1, fun H2 b2 S2 e2 => ⟨_, rfl, ite2 (fun h5 => ?_) (fun h5 => ?_)⟩⟩
          · refine ⟨_, rfl, S, u3, z, rfl, (r3.up S1).up S2, fun H3 b3 S3 e3 => k H3 _ ((S1.trans S2).trans S3) ?_⟩
            show b3 = (isIn _ x && isLow y && isHigh z)
            rw [← e1, ← e2, ← e3, h4, h5]
            rfl
          · refine k H2 _ (S1.trans S2) ?_
            show false = (isIn _ x && isLow y && isHigh z)
            rw [← e1, ← e2, h4, Bool.eq_false_iff.mpr h5]
            rfl
        · refine k H1 _ S1 ?_
          show false = (isIn _ x && isLow y && isHigh z)
          rw [← e1, Bool.eq_false_iff.mpr h4]
          rfl
abbrev s_is_text : Stmt := topS 11
abbrev N_is_text : List Str := ["value"]
theorem sc_is_text : FnScope ["value"] ["value"] (defScope s_is_text) := ⟨rfl, rfl, rfl, by decide +kernel, rfl, by decide +kernel, by decide +kernel⟩

abbrev s_is_value : Stmt := topS 30
abbrev N_is_value : List Str := ["value"]
theorem sc_is_value : FnScope ["value"] ["value"] (defScope s_is_value) := ⟨rfl, rfl, rfl, by decide +kernel, rfl, by decide +kernel, by decide +kernel⟩

abbrev s_is_page : Stmt := topS 50
abbrev N_is_page : List Str := ["value", "inner"]
theorem sc_is_page : FnScope ["value", "inner"] ["value"] (defScope s_is_page) := ⟨rfl, rfl, rfl, by decide +kernel, rfl, by decide +kernel, by decide +kernel⟩

/-! ### what is a page -/
def abcB (l : List Nat) : Bool := l.all fun c => decide (c = 97 ∨ c = 98 ∨ c = 99)
theorem abcB_iff {l : List Nat} : abcB l = true ↔ Abc l := by
  unfold abcB
  rw [List.all_eq_true]
  exact ⟨fun h c m => of_decide_eq_true (h c m), fun h c m => decide_eq_true (h c m)⟩
def isTxt : D → Bool
  | .str l => abcB l
  | _ => false
def isVal : D → Bool
  | .non => true
  | d => isTxt d
def isPage : D → Bool
  | .lst ds => !ds.isEmpty && ds.all isVal
  | _ => false
theorem cl_is_text {f : Addr} {fd : FuncData} (D : Df K mg "is_text" s_is_text ["value"] f fd) (T : Nm mg) : Cl P w K mg base 1 "is_text" s_is_text ["value"] (spTell K isTxt) := by
  refine D.cl sc_is_text (fun vs H Q E h => h.len) (fun cdv A outer s H vs Q E hr h => ?_)
  obtain ⟨S, v, d, rfl, r, k⟩ := h
  refine ⟨_, (pss_one (ps_ret (pe_and (pe_tyIs (T := "str") Mono.var (pv 0) T.n_type T.n_str (by decide +kernel)) (pe_one (pe_cmpR op_eq (pe_bm PySem.F.plainAttrs_str PySem.F.slot_str_strip PySem.F.type_str_strip mt_stripChars (pv 0) (pa_cons pe_str pa_nil)) pe_str (by first | exact nomark _ | rfl)))))), ?_⟩
  refine ⟨_, rfl, d.old, r.old, _, rfl, ?_⟩
  cases r with
  | str l hl =>
    refine ⟨_, rfl, rfl, tx l, ("abc" : Str), rfl, rfl, szt hl, rfl, ?_⟩
    refine k H _ (Stp.refl _ _) ?_
    rw [abc_lit, nil_lit, Bool.eq_iff_iff]
    show _ ↔ abcB l = true
    rw [abcB_iff]
    exact ⟨fun h => (strip_abc l).mp (V.str.inj (of_decide_eq_true h)), fun h => decide_eq_true (congrArg V.str ((strip_abc l).mpr h))⟩
  | _ => exact k H _ (Stp.refl _ _) rfl
theorem cl_is_value {f : Addr} {fd : FuncData} (D : Df K mg "is_value" s_is_value ["value"] f fd) (T : Nm mg) (c_is_text : Cl P w K mg base 1 "is_text" s_is_text ["value"] (spTell K isTxt)) : Cl P w K mg base 2 "is_value" s_is_value ["value"] (spTell K isVal) := by
  refine D.cl sc_is_value (fun vs H Q E h => h.len) (fun cdv A outer s H vs Q E hr h => ?_)
  obtain ⟨S, v, d, rfl, r, k⟩ := h
  refine ⟨_, (pss_one (ps_ret (pe_or (pe_cmpR op_isN (pv 0) pe_non (by first | exact nomark _ | rfl)) (pe_one (pe_cl c_is_text hr (by omega) (pa_cons (pv 0) pa_nil)))))), ?_⟩
  refine ⟨_, rfl, rfl, _, rfl, ite2 (fun h => ?_) (fun h => ?_)⟩
  · have e : v = .non := of_decide_eq_true h
    subst e
    cases r
    exact k H _ (Stp.refl _ _) rfl
  · have e : isVal d = isTxt d := by
      cases r with
      | non => exact absurd (decide_eq_true rfl) h
      | _ => rfl
    exact ⟨_, rfl, S, v, d, rfl, r, fun H1 b S1 eb => k H1 b S1 (by rw [e]; exact eb)⟩
def Small : D → Prop
  | .lst ds => ds.length ≤ 5000
  | _ => True
def spTellP (K : PySem.W.Frag) : Sp := fun vs H Q _ => ∃ (S : List Addr) (v : V) (d : D), vs = [v] ∧ Rv K S H v d ∧ Small d ∧ ∀ H' b, Stp [] H H' → b = isPage d → Q (.bl b) H'
theorem spTellP.len {K : PySem.W.Frag} {vs : List V} {H : Hp} {Q : VK} {E : XK} (h : spTellP K vs H Q E) : vs.length = 1 := by
  obtain ⟨S, v, d, rfl, _⟩ := h
  rfl
theorem cl_is_page {f : Addr} {fd : FuncData} (D : Df K mg "is_page" s_is_page ["value"] f fd) (T : Nm mg) (c_is_value : Cl P w K mg base 2 "is_value" s_is_value ["value"] (spTell K isVal)) : Cl P w K mg base 3 "is_page" s_is_page ["value"] (spTellP K) := by
  refine D.cl sc_is_page (fun vs H Q E h => h.len) (fun cdv A outer s H vs Q E hr h => ?_)
  obtain ⟨S, v, d, rfl, r, sm, k⟩ := h
  refine ⟨_, (pss_one (ps_ret (pe_and (pe_tyIs (T := "list") Mono.var (pv 0) T.n_type T.n_list (by decide +kernel)) (pe_and (pe_cmpR op_gt (pe_callB call_len_seq (by rfl) T.n_len (by decide +kernel) (pa_cons (pv 0) pa_nil)) pe_int (by first | exact nomark _ | rfl)) (pe_one (pe_callB (cr_all rfl) (by rfl) T.n_all (by decide +kernel) (pa_cons (pe_lc (own := [("inner", 1)]) rfl sc_is_page.nd (pi_list (pv 0)) (blkOk_by (own := [("inner", 1)]) (N := N_is_page) (sc := defScope s_is_page) (by decide +kernel)) (fun _ _ _ _ _ => (pg_name (i := 1) sc_is_page.nd rfl (by first | exact Or.inl rfl | exact Or.inr rfl))) (fun _ _ _ _ _ => pts_nil) (fun _ _ _ _ _ => (pe_cl c_is_value hr (by omega) (pa_cons (pv 1) pa_nil)))) pa_nil))))))), ?_⟩
  refine ⟨_, rfl, d.old, r.old, _, rfl, ?_⟩
  cases r with
  | lst ha hn hl rl =>
    rename_i a vs ds
    refine ⟨_, rfl, a, vs, rfl, .inl (SqL.of ha), _, _, rfl, rfl, _, rfl, ite2 (fun h => ?_) (fun h => ?_)⟩
    · have h : (0 : Int) < (vs.length : Int) := of_decide_eq_true h
      refine ⟨_, rfl, a, rfl, ⟨_, SqL.of ha⟩, fun L nL => ?_⟩
      refine lc_mapL (K := K) (ds := (ds.map isVal).map Dt.bl) nL (SqL.of ha) (by simp [rl.len]) (by have : ds.length ≤ 5000 := sm; rw [rl.len]; omega) (fun j x e H3 hx hd S3 Q2 q => ?_) fun ws H3 S3 h3 r3 => ?_
      · obtain ⟨e', he, re⟩ := rl.get hx
        rw [List.getElem?_map, List.getElem?_map, he] at hd
        cases hd
        exact ⟨rfl, _, rfl, S, x, e', rfl, re.up S3, fun H4 b S4 eb => q _ _ S4 (by rw [eb]; exact .bl _)⟩
      obtain rfl := rpl_bls r3
      refine ⟨L, _, rfl, SqL.of h3, k _ _ S3 ?_⟩
      rw [rl.len] at h
      show _ = (!ds.isEmpty && ds.all isVal)
      cases ds with
      | nil => simp at h
      | cons d ds => simp [List.all_map]
    · refine k H _ (Stp.refl _ _) ?_
      have h : ¬ (0 : Int) < (vs.length : Int) := fun q => h (decide_eq_true q)
      rw [rl.len] at h
      show _ = (!ds.isEmpty && ds.all isVal)
      cases ds with
      | nil => rfl
      | cons d ds => simp at h
  | _ => exact k H _ (Stp.refl _ _) rfl
abbrev s__law_rule : Stmt := topS 82
abbrev N__law_rule : List Str := ["urn", "word", "way", "low"]
theorem sc__law_rule : FnScope ["urn", "word", "way", "low"] ["urn"] (defScope s__law_rule) := ⟨rfl, rfl, rfl, by decide +kernel, rfl, by decide +kernel, by decide +kernel⟩

/-! ### drawn rules -/
def lk : Nat → Str
  | 0 => "many"
  | 1 => "some"
  | _ => "hidden"
def wy : Nat → Str
  | 0 => "cut"
  | _ => "beyond"
/-- a rule: which word of lacks, letters of the low bound, the way and the letters of the high one -/
structure Ru where
  lacks : Nat
  low : Option Nat
  high : Option (Nat × Nat)
def loD : Option Nat → D
  | none => wd "lost"
  | some n => .int (n : Int)
def hiD : Option (Nat × Nat) → D
  | none => wd "lost"
  | some (k, n) => .tup [wd (wy k), .int (n : Int)]
def ruD (r : Ru) : D := .tup [wd (lk r.lacks), loD r.low, hiD r.high]
structure RuOk (r : Ru) : Prop where
  lacks : r.lacks < 3
  low : ∀ n, r.low = some n → n ≤ 6
  high : ∀ k n, r.high = some (k, n) → k < 2 ∧ n ≤ 6
theorem pick_at {α : Type} {x0 : α} {l : List α} {d : Int} (h0 : 0 ≤ d) (h1 : d < (l.length : Int)) : ∃ k x, k < l.length ∧ d = (k : Int) ∧ l[k]? = some x ∧ atI l d = some x := by
  obtain ⟨k, rfl⟩ := Int.eq_ofNat_of_zero_le h0
  have hk : k < l.length := by omega
  exact ⟨k, l[k], hk, rfl, List.getElem?_eq_getElem hk, atI_nat (List.getElem?_eq_getElem hk)⟩
theorem words3 {d : Int} (h0 : 0 ≤ d) (h1 : d < 3) : ∃ k, k < 3 ∧ atI [V.str "many", V.str "some", V.str "hidden"] d = some (.str (lk k)) := by
  rcases (by omega : d = 0 ∨ d = 1 ∨ d = 2) with rfl | rfl | rfl
  · exact ⟨0, by decide, at0⟩
  · exact ⟨1, by decide, at1⟩
  · exact ⟨2, by decide, at2⟩
theorem words2 {d : Int} (h0 : 0 ≤ d) (h1 : d < 2) : ∃ k, k < 2 ∧ atI [V.str "cut", V.str "beyond"] d = some (.str (wy k)) := by
  rcases (by omega : d = 0 ∨ d = 1) with rfl | rfl
  · exact ⟨0, by decide, at0⟩
  · exact ⟨1, by decide, at1⟩
theorem lk_len (k : Nat) : (lk k).cps.toList.length ≤ 100000 := by
  unfold lk
  split <;> decide +kernel
theorem wy_len (k : Nat) : (wy k).cps.toList.length ≤ 100000 := by
  unfold wy
  split <;> decide +kernel
def spRule (K : PySem.W.Frag) : Sp := fun vs H Q _ => ∃ (b : Addr) (n : Nat), vs = [.ref b] ∧ Urn H b n ∧ n + 20 < 2 ^ 30 ∧ ∀ v r H', Stp [b] H H' → Urn H' b (n + 10) → RuOk r → Rv K [b] H' v (ruD r) → Q v H'
theorem cl__law_rule {f : Addr} {fd : FuncData} (D : Df K mg "_law_rule" s__law_rule ["urn"] f fd) (T : Nm mg) (c__law_pick : Cl P w K mg base 1 "_law_pick" s__law_pick ["urn", "many"] spPick) : Cl P w K mg base 2 "_law_rule" s__law_rule ["urn"] (spRule K) := by
  refine D.cl sc__law_rule (fun vs H Q E h => ?_) (fun cdv A outer s H vs Q E hr h => ?_)
  · obtain ⟨b, n, rfl, _⟩ := h
    rfl
  · obtain ⟨b, n, rfl, U, hn, k⟩ := h
    refine ⟨_, (pss_cons (ps_set (i := 1) sc__law_rule.nd rfl (by first | exact Or.inl rfl | exact Or.inr rfl) (pe_ix ix_list (pe_lst (pa_cons pe_str (pa_cons pe_str (pa_cons pe_str pa_nil)))) (pe_cl c__law_pick hr (by omega) (pa_cons (pv 0) (pa_cons pe_int pa_nil))) (fun _ _ => rfl)))
      (pss_cons (ps_set (i := 2) sc__law_rule.nd rfl (by first | exact Or.inl rfl | exact Or.inr rfl) (pe_cl c__law_pick hr (by omega) (pa_cons (pv 0) (pa_cons pe_int pa_nil))))
      (pss_cons (ps_set (i := 3) sc__law_rule.nd rfl (by first | exact Or.inl rfl | exact Or.inr rfl) (pe_ifExp (pt_cmpR op_eq (pv 2) pe_int (by first | exact nomark _ | rfl)) pe_str (pe_cl c__law_pick hr (by omega) (pa_cons (pv 0) (pa_cons (pe_ix ix_list (pe_lst (pa_cons pe_int (pa_cons pe_int (pa_cons pe_int pa_nil)))) (pe_op op_sub (pv 2) pe_int) (fun _ _ => rfl)) pa_nil)))))
      (pss_cons (ps_set (i := 2) sc__law_rule.nd rfl (by first | exact Or.inl rfl | exact Or.inr rfl) (pe_cl c__law_pick hr (by omega) (pa_cons (pv 0) (pa_cons pe_int pa_nil))))
      (pss_cons (ps_if (pt_cmpR op_eq (pv 2) pe_int (by first | exact nomark _ | rfl)) (pss_one (ps_ret (pe_tup (pa_cons (pv 1) (pa_cons (pv 3) (pa_cons pe_str pa_nil)))))) pss_nil)
      (pss_one (ps_ret (pe_tup (pa_cons (pv 1) (pa_cons (pv 3) (pa_cons (pe_tup (pa_cons (pe_ix ix_list (pe_lst (pa_cons pe_str (pa_cons pe_str pa_nil))) (pe_op op_fdivW (pv 2) pe_int) (fun _ _ => rfl)) (pa_cons (pe_cl c__law_pick hr (by omega) (pa_cons (pv 0) (pa_cons (pe_ix ix_list (pe_lst (pa_cons pe_int (pa_cons pe_int pa_nil))) (pe_op op_mod (pe_callTy call_int1 (by rfl) T.n_int (by decide +kernel) (pa_cons (pv 2) pa_nil)) pe_int) (fun _ _ => rfl)) pa_nil))) pa_nil))) pa_nil))))))))))), ?_⟩
    have one : b ∈ [b] := List.mem_singleton.mpr rfl
    refine ⟨(by show 3 ≤ sizeLine; decide), fun l nl => ?_⟩
    have U0 := U.upd (o := .lst [.str "many", .str "some", .str "hidden"]) (U.ne nl)
    have nlb : l ∉ [b] := fun m => U.ne nl (List.mem_singleton.mp m).symm
    refine ⟨_, rfl, b, 3, n, rfl, U0, by omega, by decide, by decide, fun d H1 d0 d1 S1 U1 => ?_⟩
    obtain ⟨kw, hkw, ekw⟩ := words3 d0 d1
    refine ⟨l, _, d, _, rfl, rfl, SqL.of (S1.kp _ _ nlb upd_same), ekw, ?_⟩
    have F1 : Stp [b] H H1 := (Stp.new nl _).trans S1
    refine ⟨_, rfl, b, 4, n + 1, rfl, U1, by omega, by decide, by decide, fun way H2 w0 w1 S2 U2 => ?_⟩
    have F2 := F1.trans S2
    dsimp only [gName]
    refine asg_name ?_
    refine te_join (fun v H' => ∃ lo : Option Nat, (∀ m, lo = some m → m ≤ 6) ∧ Rv K [b] H' v (loD lo) ∧ Stp [b] H H' ∧ Urn H' b (n + 3)) (fun fin => ?_) ?_
    · refine ⟨_, rfl, rfl, _, rfl, ite2 (fun h => ?_) (fun h => ?_)⟩
      · exact fin _ _ ⟨none, fun m e => (nomatch e), Rv.lit "lost", F2, U2.mono (by omega)⟩
      · have h : ¬ way = 0 := fun e => h (by rw [e]; rfl)
        refine ⟨_, rfl, (by show 3 ≤ sizeLine; decide), fun l2 nl2 => ?_⟩
        have U3 := U2.upd (o := .lst [.int 7, .int 7, .int 3]) (U2.ne nl2)
        refine ⟨_, rfl, _, _, rfl, rfl, ?_⟩
        obtain ⟨u, mu, eu⟩ := pick_int (ns := [7, 7, 3]) (d := way - 1) (by omega) (by simp; omega)
        have hu : 0 < u ∧ u ≤ 7 := by
          simp at mu
          omega
        refine ⟨l2, _, way - 1, .int u, rfl, rfl, SqL.of upd_same, eu, b, u, n + 2, rfl, U3, by omega, hu.1, by omega, fun z H3 z0 z1 S3 U4 => ?_⟩
        obtain ⟨m, rfl⟩ := Int.eq_ofNat_of_zero_le z0
        exact fin _ _ ⟨some m, fun m' e => by cases e; omega, .int _, (F2.trans (Stp.new nl2 _)).trans S3, U4⟩
    rintro vlo H3 ⟨lo, hlo, rlo, F3, U3⟩
    refine ⟨_, rfl, b, 5, n + 3, rfl, U3, by omega, by decide, by decide, fun way2 H4 w20 w21 S4 U4 => ?_⟩
    have F4 := F3.trans S4
    have rlo4 := rlo.stp S4 U3.ls
    have rw4 : Rv K [b] H4 (.str (lk kw)) (wd (lk kw)) := Rv.lit _ (lk_len kw)
    refine ⟨_, rfl, rfl, _, rfl, ite2 (fun h => ?_) (fun h => ?_)⟩
    · refine (Pv.EvD.tup (Pv.EvDA.cons (Pv.EvD.var rw4) (Pv.EvDA.cons (Pv.EvD.var rlo4) (Pv.EvDA.cons Pv.EvD.str Pv.EvDA.nil))) (by simp)).use fun v H5 S5 r5 => ?_
      exact k v ⟨kw, lo, none⟩ H5 (F4.trans S5.nil) ((U4.up S5).mono (by omega)) ⟨hkw, hlo, fun _ _ e => (nomatch e)⟩ r5
    · have h : ¬ way2 = 0 := fun e => h (by rw [e]; rfl)
      refine ⟨_, rfl, _, rfl, (by show 2 ≤ sizeLine; decide), fun l3 nl3 => ?_⟩
      have nlb3 : l3 ∉ [b] := fun m => U4.ne nl3 (List.mem_singleton.mp m).symm
      have U5 := U4.upd (o := .lst [.str "cut", .str "beyond"]) (U4.ne nl3)
      refine ⟨_, rfl, _, _, rfl, rfl, ⟨by decide, by decide⟩, ?_⟩
      obtain ⟨k2, hk2, ek2⟩ := words2 (d := way2 / 3) (by omega) (by omega)
      refine ⟨l3, _, way2 / 3, _, rfl, rfl, SqL.of upd_same, ek2, ?_⟩
      refine ⟨_, rfl, (by show 2 ≤ sizeLine; decide), fun l4 nl4 => ?_⟩
      have U6 := U5.upd (o := .lst [.int 7, .int 3]) (U5.ne nl4)
      refine ⟨_, rfl, .inl ⟨way2, rfl, _, _, rfl, rfl, (by show (0 : Int) < 2; decide), ?_⟩⟩
      obtain ⟨u, mu, eu⟩ := pick_int (ns := [7, 3]) (d := way2 % 2) (by omega) (by simp; omega)
      have hu : 0 < u ∧ u ≤ 7 := by
        simp at mu
        omega
      refine ⟨l4, _, way2 % 2, .int u, rfl, rfl, SqL.of upd_same, eu, b, u, n + 4, rfl, U6, by omega, hu.1, by omega, fun z H5 z0 z1 S5 U7 => ?_⟩
      obtain ⟨m, rfl⟩ := Int.eq_ofNat_of_zero_le z0
      have F5 : Stp [b] H4 H5 := ((Stp.new nl3 _).trans (Stp.new nl4 _)).trans S5
      refine ⟨(by show 2 ≤ sizeLine; decide), fun t nt => ?_⟩
      refine ⟨(by show 3 ≤ sizeLine; decide), fun t2 nt2 => ?_⟩
      have S6 : Stp [] H5 (upd H5 t (.tup [.str (wy k2), .int (m : Int)])) := Stp.new nt _
      have rh : Rv K [b] (upd H5 t (.tup [.str (wy k2), .int (m : Int)])) (.ref t) (hiD (some (k2, m))) := Rv.newT nt (.cons (Rv.lit _ (wy_len k2)) (.cons (.int _) .nil)) (by simp)
      have rl6 := (rlo4.stp F5 U4.ls).up S6
      exact k _ ⟨kw, lo, some (k2, m)⟩ _ (((F4.trans F5).trans S6.nil).new' nt2) (((U7.up S6).up (Stp.new nt2 _)).mono (by omega)) ⟨hkw, hlo, fun _ _ e => by cases e; exact ⟨hk2, by omega⟩⟩
        (Rv.newT nt2 (.cons (Rv.lit _ (lk_len kw)) (.cons rl6 (.cons rh .nil))) (by simp))
abbrev s_check_text : Stmt := topS 15
abbrev N_check_text : List Str := ["text"]
theorem sc_check_text : FnScope ["text"] ["text"] (defScope s_check_text) := ⟨rfl, rfl, rfl, by decide +kernel, rfl, by decide +kernel, by decide +kernel⟩

abbrev s_beyond : Stmt := topS 19
abbrev N_beyond : List Str := ["text", "stem"]
theorem sc_beyond : FnScope ["text", "stem"] ["text"] (defScope s_beyond) := ⟨rfl, rfl, rfl, by decide +kernel, rfl, by decide +kernel, by decide +kernel⟩

abbrev s_ascending : Stmt := topS 21
abbrev N_ascending : List Str := ["texts", "text"]
theorem sc_ascending : FnScope ["texts", "text"] ["texts"] (defScope s_ascending) := ⟨rfl, rfl, rfl, by decide +kernel, rfl, by decide +kernel, by decide +kernel⟩

abbrev s_check_rule : Stmt := topS 53
abbrev N_check_rule : List Str := ["rule"]
theorem sc_check_rule : FnScope ["rule"] ["rule"] (defScope s_check_rule) := ⟨rfl, rfl, rfl, by decide +kernel, rfl, by decide +kernel, by decide +kernel⟩

abbrev s_check_page : Stmt := topS 54
abbrev N_check_page : List Str := ["page"]
theorem sc_check_page : FnScope ["page"] ["page"] (defScope s_check_page) := ⟨rfl, rfl, rfl, by decide +kernel, rfl, by decide +kernel, by decide +kernel⟩

abbrev s_note : Stmt := topS 56
abbrev N_note : List Str := ["rule", "page", "lacks", "low", "high", "texts", "lacking", "value"]
theorem sc_note : FnScope ["rule", "page", "lacks", "low", "high", "texts", "lacking", "value"] ["rule", "page"] (defScope s_note) := ⟨rfl, rfl, rfl, by decide +kernel, rfl, by decide +kernel, by decide +kernel⟩

abbrev s_lacks_note : Stmt := topS 57
abbrev N_lacks_note : List Str := ["lacks", "lacking"]
theorem sc_lacks_note : FnScope ["lacks", "lacking"] ["lacks", "lacking"] (defScope s_lacks_note) := ⟨rfl, rfl, rfl, by decide +kernel, rfl, by decide +kernel, by decide +kernel⟩

abbrev s_low_note : Stmt := topS 58
abbrev N_low_note : List Str := ["low", "texts"]
theorem sc_low_note : FnScope ["low", "texts"] ["low", "texts"] (defScope s_low_note) := ⟨rfl, rfl, rfl, by decide +kernel, rfl, by decide +kernel, by decide +kernel⟩

abbrev s_high_note : Stmt := topS 59
abbrev N_high_note : List Str := ["high", "texts", "way", "letters", "start"]
theorem sc_high_note : FnScope ["high", "texts", "way", "letters", "start"] ["high", "texts"] (defScope s_high_note) := ⟨rfl, rfl, rfl, by decide +kernel, rfl, by decide +kernel, by decide +kernel⟩

/-! ### what a note says -/
def mn : List (List Nat) → List Nat
  | [] => []
  | x :: xs => xs.foldl (fun a b => if b < a then b else a) x
def mx : List (List Nat) → List Nat
  | [] => []
  | x :: xs => xs.foldl (fun a b => if a < b then b else a) x
theorem mn_fold : ∀ (xs : List (List Nat)) (x : List Nat), (xs.foldl (fun a b => if b < a then b else a) x = x ∨ xs.foldl (fun a b => if b < a then b else a) x ∈ xs) ∧ xs.foldl (fun a b => if b < a then b else a) x ≤ x ∧ ∀ y ∈ xs, xs.foldl (fun a b => if b < a then b else a) x ≤ y
  | [], x => ⟨.inl rfl, List.le_refl _, fun _ m => nomatch m⟩
  | y :: ys, x => by
    rw [List.foldl_cons]
    obtain ⟨h1, h2, h3⟩ := mn_fold ys (if y < x then y else x)
    generalize ys.foldl (fun a b => if b < a then b else a) (if y < x then y else x) = m at *
    by_cases c : y < x
    · rw [if_pos c] at h1 h2
      refine ⟨.inr ?_, List.le_trans h2 (List.le_of_lt c), fun z hz => ?_⟩
      · rcases h1 with h1 | h1
        · rw [h1]; exact List.mem_cons_self
        · exact List.mem_cons_of_mem _ h1
      · rcases List.mem_cons.mp hz with rfl | hz
        · exact h2
        · exact h3 z hz
    · rw [if_neg c] at h1 h2
      refine ⟨?_, h2, fun z hz => ?_⟩
      · rcases h1 with h1 | h1
        · exact .inl h1
        · exact .inr (List.mem_cons_of_mem _ h1)
      · rcases List.mem_cons.mp hz with rfl | hz
        · exact List.le_trans h2 (List.not_lt.mp c)
        · exact h3 z hz
theorem mx_fold : ∀ (xs : List (List Nat)) (x : List Nat), (xs.foldl (fun a b => if a < b then b else a) x = x ∨ xs.foldl (fun a b => if a < b then b else a) x ∈ xs) ∧ x ≤ xs.foldl (fun a b => if a < b then b else a) x ∧ ∀ y ∈ xs, y ≤ xs.foldl (fun a b => if a < b then b else a) x
  | [], x => ⟨.inl rfl, List.le_refl _, fun _ m => nomatch m⟩
  | y :: ys, x => by
    rw [List.foldl_cons]
    obtain ⟨h1, h2, h3⟩ := mx_fold ys (if x < y then y else x)
    generalize ys.foldl (fun a b => if a < b then b else a) (if x < y then y else x) = m at *
    by_cases c : x < y
    · rw [if_pos c] at h1 h2
      refine ⟨.inr ?_, List.le_trans (List.le_of_lt c) h2, fun z hz => ?_⟩
      · rcases h1 with h1 | h1
        · rw [h1]; exact List.mem_cons_self
        · exact List.mem_cons_of_mem _ h1
      · rcases List.mem_cons.mp hz with rfl | hz
        · exact h2
        · exact h3 z hz
    · rw [if_neg c] at h1 h2
      refine ⟨?_, h2, fun z hz => ?_⟩
      · rcases h1 with h1 | h1
        · exact .inl h1
        · exact .inr (List.mem_cons_of_mem _ h1)
      · rcases List.mem_cons.mp hz with rfl | hz
        · exact List.le_trans (List.not_lt.mp c) h2
        · exact h3 z hz
theorem mn_mem {ls : List (List Nat)} (h : ls ≠ []) : mn ls ∈ ls := by
  cases ls with
  | nil => exact absurd rfl h
  | cons x xs =>
    rcases (mn_fold xs x).1 with e | e
    · show xs.foldl _ x ∈ _; rw [e]; exact List.mem_cons_self
    · exact List.mem_cons_of_mem _ e
theorem mx_mem {ls : List (List Nat)} (h : ls ≠ []) : mx ls ∈ ls := by
  cases ls with
  | nil => exact absurd rfl h
  | cons x xs =>
    rcases (mx_fold xs x).1 with e | e
    · show xs.foldl _ x ∈ _; rw [e]; exact List.mem_cons_self
    · exact List.mem_cons_of_mem _ e
theorem mn_le {ls : List (List Nat)} {l : List Nat} (m : l ∈ ls) : mn ls ≤ l := by
  cases ls with
  | nil => exact nomatch m
  | cons x xs =>
    rcases List.mem_cons.mp m with rfl | m
    · exact (mn_fold xs l).2.1
    · exact (mn_fold xs x).2.2 l m
theorem le_mx {ls : List (List Nat)} {l : List Nat} (m : l ∈ ls) : l ≤ mx ls := by
  cases ls with
  | nil => exact nomatch m
  | cons x xs =>
    rcases List.mem_cons.mp m with rfl | m
    · exact (mx_fold xs l).2.1
    · exact (mx_fold xs x).2.2 l m
theorem mn_uniq {ls : List (List Nat)} {m : List Nat} (hm : m ∈ ls) (h : ∀ l ∈ ls, m ≤ l) : m = mn ls := List.le_antisymm (h _ (mn_mem (List.ne_nil_of_mem hm))) (mn_le hm)
theorem mx_uniq {ls : List (List Nat)} {m : List Nat} (hm : m ∈ ls) (h : ∀ l ∈ ls, l ≤ m) : m = mx ls := List.le_antisymm (le_mx hm) (h _ (mx_mem (List.ne_nil_of_mem hm)))
theorem nil_same {α : Type} {a b : List α} (h : ∀ x, x ∈ a ↔ x ∈ b) : a = [] ↔ b = [] := by
  constructor
  · rintro rfl
    exact List.eq_nil_iff_forall_not_mem.mpr fun x m => nomatch (h x).mpr m
  · rintro rfl
    exact List.eq_nil_iff_forall_not_mem.mpr fun x m => nomatch (h x).mp m
theorem mn_same {a b : List (List Nat)} (h : ∀ x, x ∈ a ↔ x ∈ b) : mn a = mn b := by
  by_cases z : a = []
  · rw [(nil_same h).mp z, z]
  · exact mn_uniq ((h _).mp (mn_mem z)) fun l m => mn_le ((h l).mpr m)
theorem mx_same {a b : List (List Nat)} (h : ∀ x, x ∈ a ↔ x ∈ b) : mx a = mx b := by
  by_cases z : a = []
  · rw [(nil_same h).mp z, z]
  · exact mx_uniq ((h _).mp (mx_mem z)) fun l m => le_mx ((h l).mpr m)
theorem mn_head {z : List Nat} {zs : List (List Nat)} (h : (z :: zs).Pairwise (· ≤ ·)) : z = mn (z :: zs) := mn_uniq List.mem_cons_self fun l m => by
  rcases List.mem_cons.mp m with rfl | m
  · exact List.le_refl _
  · exact (List.pairwise_cons.mp h).1 l m
theorem mx_last {z : List Nat} {zs : List (List Nat)} (h : (zs ++ [z]).Pairwise (· ≤ ·)) : z = mx (zs ++ [z]) := mx_uniq (by simp) fun l m => by
  rcases List.mem_append.mp m with m | m
  · exact (List.pairwise_append.mp h).2.2 l m z (by simp)
  · rw [List.mem_singleton.mp m]; exact List.le_refl _
def lowT (lo : Option Nat) (l : List Nat) : Option (List Nat) := lo.map fun n => l.take n
def highT (hi : Option (Nat × Nat)) (l : List Nat) : Option (List Nat) := match hi with
  | none => none
  | some (k, n) => if l.length ≤ n then some l else if k = 0 then some (l.take n) else bey (l.take n)
def lowO (lo : Option Nat) (ts : List (List Nat)) : Option (List Nat) := if ts = [] then none else lowT lo (mn ts)
def highO (hi : Option (Nat × Nat)) (ts : List (List Nat)) : Option (List Nat) := if ts = [] then none else highT hi (mx ts)
theorem lowO_same {lo : Option Nat} {a b : List (List Nat)} (h : ∀ x, x ∈ a ↔ x ∈ b) : lowO lo a = lowO lo b := by
  unfold lowO
  rw [mn_same h]
  by_cases z : a = []
  · rw [if_pos z, if_pos ((nil_same h).mp z)]
  · rw [if_neg z, if_neg fun q => z ((nil_same h).mpr q)]
theorem highO_same {hi : Option (Nat × Nat)} {a b : List (List Nat)} (h : ∀ x, x ∈ a ↔ x ∈ b) : highO hi a = highO hi b := by
  unfold highO
  rw [mx_same h]
  by_cases z : a = []
  · rw [if_pos z, if_pos ((nil_same h).mp z)]
  · rw [if_neg z, if_neg fun q => z ((nil_same h).mpr q)]
def lacksD : Nat → Nat → D
  | 0, m => .int (m : Int)
  | 1, m => .bl (decide ((m : Int) > 0))
  | _, _ => .non
def txs (os : List (Option (List Nat))) : List (List Nat) := os.filterMap id
def gone (os : List (Option (List Nat))) : Nat := os.length - (txs os).length
def noteD (r : Ru) (os : List (Option (List Nat))) : D := .tup [.int (os.length : Int), lacksD r.lacks (gone os), vD (lowO r.low (txs os)), vD (highO r.high (txs os))]
structure Col (os : List (Option (List Nat))) : Prop where
  ok : ∀ l, some l ∈ os → Abc l ∧ l.length ≤ 1000
  few : os.length ≤ 5000
theorem mem_txs {os : List (Option (List Nat))} {l : List Nat} : l ∈ txs os ↔ some l ∈ os := by
  unfold txs
  rw [List.mem_filterMap]
  exact ⟨fun ⟨o, m, e⟩ => by rw [show o = some l from e] at m; exact m, fun m => ⟨_, m, rfl⟩⟩
theorem txs_len (os : List (Option (List Nat))) : (txs os).length ≤ os.length := List.length_filterMap_le _ _
theorem col_lows {os : List (Option (List Nat))} (c : Col os) {lo : Option Nat} {l : List Nat} (h : lowO lo (txs os) = some l) : Abc l ∧ l.length ≤ 1000 := by
  unfold lowO at h
  by_cases z : txs os = []
  · rw [if_pos z] at h; cases h
  · rw [if_neg z] at h
    cases lo with
    | none => cases h
    | some n =>
      cases h
      obtain ⟨a, b⟩ := c.ok _ (mem_txs.mp (mn_mem z))
      exact ⟨a.take _, by rw [List.length_take]; omega⟩
theorem highT_ok {hi : Option (Nat × Nat)} {l m : List Nat} (a : Abc l) (h : highT hi l = some m) : Abc m ∧ m.length ≤ l.length := by
  cases hi with
  | none => cases h
  | some p =>
    obtain ⟨k, n⟩ := p
    have h : (if l.length ≤ n then some l else if k = 0 then some (l.take n) else bey (l.take n)) = some m := h
    by_cases c1 : l.length ≤ n
    · rw [if_pos c1] at h; cases h; exact ⟨a, Nat.le_refl _⟩
    · rw [if_neg c1] at h
      by_cases c2 : k = 0
      · rw [if_pos c2] at h; cases h; exact ⟨a.take _, by rw [List.length_take]; omega⟩
      · rw [if_neg c2] at h
        obtain ⟨x, y⟩ := abc_bey (a.take n) h
        rw [List.length_take] at y
        exact ⟨x, by omega⟩
theorem col_highs {os : List (Option (List Nat))} (c : Col os) {hi : Option (Nat × Nat)} {l : List Nat} (h : highO hi (txs os) = some l) : Abc l ∧ l.length ≤ 1000 := by
  unfold highO at h
  by_cases z : txs os = []
  · rw [if_pos z] at h; cases h
  · rw [if_neg z] at h
    obtain ⟨a, b⟩ := c.ok _ (mem_txs.mp (mx_mem z))
    obtain ⟨x, y⟩ := highT_ok a h
    exact ⟨x, by omega⟩
theorem rv_v {K : PySem.W.Frag} {S : List Addr} {H : Hp} {o : Option (List Nat)} (h : ∀ l, o = some l → l.length ≤ 1000) : Rv K S H (vV o) (vD o) := by
  cases o with
  | none => exact .non
  | some l => exact .str l (by have := h l rfl; omega)
theorem isPage_col {os : List (Option (List Nat))} (c : Col os) (h : 0 < os.length) : isPage (.lst (os.map vD)) = true := by
  show (!(os.map vD).isEmpty && (os.map vD).all isVal) = true
  have e : (os.map vD).isEmpty = false := by
    cases os with
    | nil => simp at h
    | cons _ _ => rfl
  rw [e]
  show (os.map vD).all isVal = true
  rw [List.all_eq_true]
  intro d m
  obtain ⟨o, mo, rfl⟩ := List.mem_map.mp m
  cases o with
  | none => rfl
  | some l => exact abcB_iff.mpr (c.ok l mo).1
theorem isRule_ru {r : Ru} (h : RuOk r) : isRule (ruD r) = true := by
  obtain ⟨k, lo, hi⟩ := r
  obtain ⟨h1, h2, h3⟩ := h
  show (isIn ["many", "some", "hidden"] (wd (lk k)) && isLow (loD lo) && isHigh (hiD hi)) = true
  have e1 : isIn ["many", "some", "hidden"] (wd (lk k)) = true := by
    show decide (tx (lk k).cps.toList ∈ _) = true
    rw [tx_cps]
    refine decide_eq_true ?_
    unfold lk
    split <;> simp
  have e2 : isLow (loD lo) = true := by
    cases lo with
    | none => decide +kernel
    | some n =>
      have := h2 n rfl
      show (false || (decide ((0 : Int) ≤ (n : Int)) && decide ((n : Int) ≤ 6))) = true
      rw [decide_eq_true (by omega : (0 : Int) ≤ (n : Int)), decide_eq_true (by omega : (n : Int) ≤ 6)]
      rfl
  have e3 : isHigh (hiD hi) = true := by
    cases hi with
    | none => decide +kernel
    | some p =>
      obtain ⟨j, n⟩ := p
      have := h3 j n rfl
      show (decide (tx (wy j).cps.toList ∈ (["cut", "beyond"] : List Str)) && (decide ((0 : Int) ≤ (n : Int)) && decide ((n : Int) ≤ 6))) = true
      rw [decide_eq_true (by omega : (0 : Int) ≤ (n : Int)), decide_eq_true (by omega : (n : Int) ≤ 6), tx_cps]
      unfold wy
      split <;> decide +kernel
  rw [e1, e2, e3]
  rfl
/-! ### the program's own words -/
def spCk (K : PySem.W.Frag) (t : D → Bool) : Sp := fun vs H Q _ => ∃ (S : List Addr) (v : V) (d : D), vs = [v] ∧ Rv K S H v d ∧ t d = true ∧ Small d ∧ ∀ H', Stp [] H H' → Q .non H'
theorem spCk.len {K : PySem.W.Frag} {t : D → Bool} {vs : List V} {H : Hp} {Q : VK} {E : XK} (h : spCk K t vs H Q E) : vs.length = 1 := by
  obtain ⟨S, v, d, rfl, _⟩ := h
  rfl
theorem cl_check_text {f : Addr} {fd : FuncData} (D : Df K mg "check_text" s_check_text ["text"] f fd) (T : Nm mg) (c_is_text : Cl P w K mg base 1 "is_text" s_is_text ["value"] (spTell K isTxt)) : Cl P w K mg base 2 "check_text" s_check_text ["text"] (spCk K isTxt) := by
  refine D.cl sc_check_text (fun vs H Q E h => h.len) (fun cdv A outer s H vs Q E hr h => ?_)
  obtain ⟨S, v, d, rfl, r, hd, _, k⟩ := h
  refine ⟨_, (pss_one (ps_if (pt_not (pt_val (pe_cl c_is_text hr (by omega) (pa_cons (pv 0) pa_nil)))) (pss_one ps_never) pss_nil)), ?_⟩
  exact ⟨_, rfl, S, v, d, rfl, r, fun H1 b S1 eb => ⟨_, rfl, ite2 (fun h => absurd h (by rw [eb, hd]; decide)) (fun _ => k H1 S1)⟩⟩
theorem cl_check_rule {f : Addr} {fd : FuncData} (D : Df K mg "check_rule" s_check_rule ["rule"] f fd) (T : Nm mg) (c_is_rule : Cl P w K mg base 3 "is_rule" s_is_rule ["value"] (spTell K isRule)) : Cl P w K mg base 4 "check_rule" s_check_rule ["rule"] (spCk K isRule) := by
  refine D.cl sc_check_rule (fun vs H Q E h => h.len) (fun cdv A outer s H vs Q E hr h => ?_)
  obtain ⟨S, v, d, rfl, r, hd, _, k⟩ := h
  refine ⟨_, (pss_one (ps_if (pt_not (pt_val (pe_cl c_is_rule hr (by omega) (pa_cons (pv 0) pa_nil)))) (pss_one ps_never) pss_nil)), ?_⟩
  exact ⟨_, rfl, S, v, d, rfl, r, fun H1 b S1 eb => ⟨_, rfl, ite2 (fun h => absurd h (by rw [eb, hd]; decide)) (fun _ => k H1 S1)⟩⟩
theorem cl_check_page {f : Addr} {fd : FuncData} (D : Df K mg "check_page" s_check_page ["page"] f fd) (T : Nm mg) (c_is_page : Cl P w K mg base 3 "is_page" s_is_page ["value"] (spTellP K)) : Cl P w K mg base 4 "check_page" s_check_page ["page"] (spCk K isPage) := by
  refine D.cl sc_check_page (fun vs H Q E h => h.len) (fun cdv A outer s H vs Q E hr h => ?_)
  obtain ⟨S, v, d, rfl, r, hd, sm, k⟩ := h
  refine ⟨_, (pss_one (ps_if (pt_not (pt_val (pe_cl c_is_page hr (by omega) (pa_cons (pv 0) pa_nil)))) (pss_one ps_never) pss_nil)), ?_⟩
  exact ⟨_, rfl, S, v, d, rfl, r, sm, fun H1 b S1 eb => ⟨_, rfl, ite2 (fun h => absurd h (by rw [eb, hd]; decide)) (fun _ => k H1 S1)⟩⟩
/-- the letters next to a and b -/
theorem b_lit : ("b" : Str) = tx [98] := by decide +kernel
theorem c_lit9 : ("c" : Str) = tx [99] := by decide +kernel
theorem nil_tx {l : List Nat} : tx l = tx [] ↔ l = [] := ⟨fun h => tx_inj h, fun h => by rw [h]⟩
def spBey (K : PySem.W.Frag) : Sp := fun vs H Q _ => ∃ l : List Nat, vs = [Tx l] ∧ Abc l ∧ l.length ≤ 1000 ∧ ∀ H', Stp [] H H' → Q (vV (bey l)) H'
theorem bey_none {l : List Nat} (h : cOff l = []) : bey l = none := by unfold bey; rw [if_pos h]
theorem bey_some {l i : List Nat} {c : Nat} (h : cOff l = i ++ [c]) : bey l = some (i ++ [c + 1]) := by
  unfold bey
  rw [h, if_neg (by simp)]
  simp
theorem cl_beyond {f : Addr} {fd : FuncData} (D : Df K mg "beyond" s_beyond ["text"] f fd) (T : Nm mg) (TG : Ng K w mg) (c_check_text : Cl P w K mg base 2 "check_text" s_check_text ["text"] (spCk K isTxt)) : Cl P w K mg base 3 "beyond" s_beyond ["text"] (spBey K) := by
  refine D.cl sc_beyond (fun vs H Q E h => ?_) (fun cdv A outer s H vs Q E hr h => ?_)
  · obtain ⟨l, rfl, _⟩ := h
    rfl
  · obtain ⟨l, rfl, al, ll, k⟩ := h
    refine ⟨_, (pss_cons (ps_expr (pe_cl c_check_text hr (by omega) (pa_cons (pv 0) pa_nil)))
      (pss_cons (ps_set (i := 1) sc_beyond.nd rfl (by first | exact Or.inl rfl | exact Or.inr rfl) (pe_bm PySem.F.plainAttrs_str PySem.F.slot_str_rstrip PySem.F.type_str_rstrip mt_rstripChars (pv 0) (pa_cons pe_str pa_nil)))
      (pss_one (ps_ret (pe_ifExp (pt_truth (pv 1) (by intro _; rfl)) (pe_op op_add_str (pe_slice sl_str (pv 1) po_none (po_some (pe_un un_neg pe_int))) (pe_ix ix_kdict (pe_glob (v := .ref TG.NEXT_LETTERS) rfl TG.g_NEXT_LETTERS rfl) (pe_ix ix_str (pv 1) (pe_un un_neg pe_int) (fun _ _ => rfl)) (fun _ _ => rfl))) pe_non))))), ?_⟩
    refine ⟨_, rfl, [], _, .str l, rfl, .str l (by omega), abcB_iff.mpr al, trivial, fun H1 S1 => ?_⟩
    refine ⟨_, rfl, rfl, tx l, ("c" : Str), rfl, rfl, szt (by omega), ?_⟩
    rw [c_lit9, rstrip_c]
    have lo := cOff_len l
    have ao := abc_cOff al
    refine ⟨_, rfl, _, ⟨szt (by omega), rfl⟩, ite2 (fun h => ?_) (fun h => ?_)⟩
    · have ne : cOff l ≠ [] := fun e => by
        rw [e] at h
        exact absurd h (by decide)
      obtain ⟨i, c, hc, nc⟩ := cOff_last ne
      have k' := k H1 S1
      rw [bey_some hc] at k'
      rw [hc] at lo ao
      rw [List.length_append, List.length_singleton] at lo
      have hcc : c = 97 ∨ c = 98 := by
        rcases ao c (by simp) with q | q | q
        · exact .inl q
        · exact .inr q
        · exact absurd q nc
      rw [hc]
      refine ⟨_, rfl, 1, rfl, -1, rfl, tx (i ++ [c]), rfl, szt (by simp; omega), ?_⟩
      rw [show cutS (tx (i ++ [c])) none (some (-1)) = _ from tx_init _, List.dropLast_concat]
      refine ⟨_, rfl, 1, rfl, tx (i ++ [c]), -1, c, rfl, rfl, szt (by simp; omega), atI_last i c, ?_⟩
      rcases hcc with rfl | rfl
      · refine ⟨_, tx [97], _, rfl, rfl, TG.na, tx i, tx [98], rfl, congrArg V.str b_lit, (by rw [tx_len, tx_len]; exact sz (by simp; omega)), ?_⟩
        rw [tx_app]
        exact k'
      · refine ⟨_, tx [98], _, rfl, rfl, TG.nb, tx i, tx [99], rfl, congrArg V.str c_lit9, (by rw [tx_len, tx_len]; exact sz (by simp; omega)), ?_⟩
        rw [tx_app]
        exact k'
    · have e : cOff l = [] := by
        cases hc : cOff l with
        | nil => rfl
        | cons x t =>
          rw [hc, tx_len] at h
          exact absurd (by simp; omega) h
      have k' := k H1 S1
      rw [bey_none e] at k'
      exact k'
def spAsc (K : PySem.W.Frag) : Sp := fun vs H Q _ => ∃ (a : Addr) (ls : List (List Nat)), vs = [.ref a] ∧ SqL K H a (ls.map Tx) ∧ (∀ l ∈ ls, l.length ≤ 1000) ∧ ls.length ≤ 5000 ∧
  ∀ (zs : List (List Nat)) p H', H p = none → Stp [] H H' → zs.Perm ls → zs.Pairwise (· ≤ ·) → H' p = some (.lst (zs.map Tx)) → Q (.ref p) H'
theorem cl_ascending {f : Addr} {fd : FuncData} (D : Df K mg "ascending" s_ascending ["texts"] f fd) (T : Nm mg) : Cl P w K mg base 1 "ascending" s_ascending ["texts"] (spAsc K) := by
  refine D.cl sc_ascending (fun vs H Q E h => ?_) (fun cdv A outer s H vs Q E hr h => ?_)
  · obtain ⟨a, ls, rfl, _⟩ := h
    rfl
  · obtain ⟨a, ls, rfl, hs, sh, few, k⟩ := h
    refine ⟨_, (pss_one (ps_ret (pe_callB Pg.cr_sortedSA (by rfl) T.n_sorted (by decide +kernel) (pa_cons (pe_lc (own := [("text", 1)]) rfl sc_ascending.nd (pi_list (pv 0)) (blkOk_by (own := [("text", 1)]) (N := N_ascending) (sc := defScope s_ascending) (by decide +kernel)) (fun _ _ _ _ _ => (pg_name (i := 1) sc_ascending.nd rfl (by first | exact Or.inl rfl | exact Or.inr rfl))) (fun _ _ _ _ _ => pts_nil) (fun _ _ _ _ _ => (pe_callTy SkE.call_str_str (by rfl) T.n_str (by decide +kernel) (pa_cons (pv 1) pa_nil)))) pa_nil)))), ?_⟩
    refine ⟨_, rfl, a, rfl, ⟨_, hs⟩, fun L nL => ?_⟩
    refine lc_mapL (ds := ls.map Dt.str) nL hs (by simp) (by rw [List.length_map]; omega) (fun j x d H3 hx hd S3 Q2 q => ?_) fun ws H3 S3 h3 r3 => ?_
    · rw [List.getElem?_map] at hx hd
      cases e : ls[j]? with
      | none => rw [e] at hx; cases hx
      | some l =>
        rw [e] at hx hd
        cases hx
        cases hd
        exact ⟨rfl, _, rfl, tx l, rfl, q _ _ (Stp.refl _ _) (.str l (by have := sh l (List.mem_of_getElem? e); omega))⟩
    · have e3 := rpl_strs r3
      subst e3
      exact ⟨L, ls, rfl, SqL.of h3, fun zs p pm pw np => k zs p _ (S3.fresh (fun m => nomatch m) np) (S3.new' np) pm pw upd_same⟩
def spLacks : Sp := fun vs H Q _ => ∃ (k m : Nat), vs = [.str (lk k), .int (m : Int)] ∧ k < 3 ∧ ∀ v, (∀ K S H', Rv K S H' v (lacksD k m)) → Q v H
theorem cl_lacks_note {f : Addr} {fd : FuncData} (D : Df K mg "lacks_note" s_lacks_note ["lacks", "lacking"] f fd) (T : Nm mg) : Cl P w K mg base 1 "lacks_note" s_lacks_note ["lacks", "lacking"] spLacks := by
  refine D.cl sc_lacks_note (fun vs H Q E h => ?_) (fun cdv A outer s H vs Q E hr h => ?_)
  · obtain ⟨j, m, rfl, _⟩ := h
    rfl
  · obtain ⟨j, m, rfl, hj, k⟩ := h
    refine ⟨_, (pss_cons (ps_if (pt_cmpR op_eq (pv 0) pe_str (by first | exact nomark _ | rfl)) (pss_one (ps_ret (pv 1))) pss_nil)
      (pss_one (ps_ret (pe_ifExp (pt_cmpR op_eq (pv 0) pe_str (by first | exact nomark _ | rfl)) (pe_cmpR op_gt (pv 1) pe_int (by first | exact nomark _ | rfl)) pe_non)))), ?_⟩
    rcases (by omega : j = 0 ∨ j = 1 ∨ j = 2) with rfl | rfl | rfl
    · refine ⟨_, rfl, rfl, _, rfl, ite2 (fun h => ?_) (fun h => absurd (by decide +kernel) h)⟩
      exact ⟨_, rfl, k _ fun K S H' => .int _⟩
    · refine ⟨_, rfl, rfl, _, rfl, ite2 (fun h => absurd h (by decide +kernel)) (fun _ => ?_)⟩
      refine ⟨_, rfl, rfl, _, rfl, ite2 (fun h => ?_) (fun h => absurd (by decide +kernel) h)⟩
      exact ⟨_, rfl, _, _, rfl, rfl, k _ fun K S H' => .bl _⟩
    · refine ⟨_, rfl, rfl, _, rfl, ite2 (fun h => absurd h (by decide +kernel)) (fun _ => ?_)⟩
      refine ⟨_, rfl, rfl, _, rfl, ite2 (fun h => absurd h (by decide +kernel)) (fun _ => ?_)⟩
      exact k _ fun K S H' => .non
/-! ### the bounds, the note -/
/-- a list of texts in order -/
structure Asc (zs : List (List Nat)) : Prop where
  pw : zs.Pairwise (· ≤ ·)
  ok : ∀ l ∈ zs, Abc l ∧ l.length ≤ 1000
def spLowN (K : PySem.W.Frag) : Sp := fun vs H Q _ => ∃ (v : V) (lo : Option Nat) (p : Addr) (zs : List (List Nat)), vs = [v, .ref p] ∧ Rv K [] H v (loD lo) ∧ H p = some (.lst (zs.map Tx)) ∧ Asc zs ∧ Q (vV (lowO lo zs)) H
theorem lo_lost {K : PySem.W.Frag} {S : List Addr} {H : Hp} {v : V} (r : Rv K S H v (loD none)) : v = .str "lost" := by
  have r' : Rv K S H v (.str ("lost" : Str).cps.toList) := r
  cases r'
  exact congrArg V.str (tx_cps _)
theorem cl_low_note {f : Addr} {fd : FuncData} (D : Df K mg "low_note" s_low_note ["low", "texts"] f fd) (T : Nm mg) : Cl P w K mg base 1 "low_note" s_low_note ["low", "texts"] (spLowN K) := by
  refine D.cl sc_low_note (fun vs H Q E h => ?_) (fun cdv A outer s H vs Q E hr h => ?_)
  · obtain ⟨v, lo, p, zs, rfl, _⟩ := h
    rfl
  · obtain ⟨v, lo, p, zs, rfl, r, hp, asc, k⟩ := h
    refine ⟨_, (pss_cons (ps_if (PW.pt (pw_or (pt_cmpR op_eq (pv 0) pe_str (by first | exact nomark _ | rfl)) (pw_or1 (pt_not (pt_truth (pv 1) (by intro _; rfl)))))) (pss_one (ps_ret pe_non)) pss_nil)
      (pss_one (ps_ret (pe_slice sl_str (pe_ix ix_list (pv 1) pe_int (fun _ _ => rfl)) po_none (po_some (pv 0)))))), ?_⟩
    cases lo with
    | none =>
      obtain rfl := lo_lost r
      have e : lowO none zs = none := by
        unfold lowO
        split <;> rfl
      rw [e] at k
      exact ⟨_, rfl, rfl, _, rfl, ite2 (fun h => k) (fun h => absurd (by decide +kernel) h)⟩
    | some n =>
      have r' : Rv K [] H v (.int (n : Int)) := r
      cases r'
      refine ⟨_, rfl, rfl, _, rfl, ite2 (fun h => absurd h (by simp)) (fun h => ?_)⟩
      refine ⟨_, rfl, _, .inl ⟨_, SqL.of hp, rfl⟩, ?_⟩
      cases zs with
      | nil => exact k
      | cons z zs =>
        have k' : Q (vV (some ((mn (z :: zs)).take n))) H := k
        rw [← mn_head asc.pw] at k'
        refine ⟨_, rfl, p, _, 0, Tx z, rfl, rfl, SqL.of hp, at0, ?_⟩
        have hz := (asc.ok z List.mem_cons_self).2
        refine ⟨_, rfl, (n : Int), rfl, tx z, rfl, szt (by omega), ?_⟩
        rw [show cutS (tx z) none (some (n : Int)) = _ from tx_upto z n]
        exact k'
def spHighN (K : PySem.W.Frag) : Sp := fun vs H Q _ => ∃ (v : V) (hi : Option (Nat × Nat)) (p : Addr) (zs : List (List Nat)), vs = [v, .ref p] ∧ Rv K [] H v (hiD hi) ∧ (∀ k n, hi = some (k, n) → k < 2 ∧ n ≤ 6) ∧ H p = some (.lst (zs.map Tx)) ∧ Asc zs ∧ ∀ H', Stp [] H H' → Q (vV (highO hi zs)) H'
theorem wy_lay {k : Nat} (h : k < 2) : PyData.canLay0 (.str (tx (wy k).cps.toList)) = true := by
  rcases (by omega : k = 0 ∨ k = 1) with rfl | rfl <;> decide +kernel
theorem wy_fair {k : Nat} (h : k < 2) : (wd (wy k)).fair = true := by
  rcases (by omega : k = 0 ∨ k = 1) with rfl | rfl <;> decide +kernel
def hiP (k n : Nat) : PyData := .tuple [.str (tx (wy k).cps.toList), .int (n : Int)]
theorem hi_dp {K : PySem.W.Frag} {S : List Addr} {H : Hp} {v : V} {k n : Nat} (r : Rv K S H v (hiD (some (k, n)))) (hk : k < 2) (hn : n ≤ 6) : Dp K H v (hiP k n) := by
  refine rv_dp r ?_
  show ((wd (wy k)).fair && (decide (((n : Int)).natAbs < 10 ^ 10) && true)) = true
  rw [decide_eq_true (by omega), wy_fair hk]
  rfl
theorem hi_shaped {k n : Nat} (hk : k < 2) : SeqAt.shaped (hiP k n) = true := by
  unfold SeqAt.shaped hiP
  show ((PyData.canLay0 (.str (tx (wy k).cps.toList)) && (true && true)) && decide (max 0 (max 0 0) + 1 ≤ 64)) = true
  rw [wy_lay hk]
  rfl
theorem lost_dp {K : PySem.W.Frag} {H : Hp} : Dp K H (.str "lost") (.str "lost") := .str _
theorem lost_shaped : SeqAt.shaped (.str "lost") = true := by decide +kernel
theorem hi_ne {k n : Nat} : PyData.eqv (hiP k n) (.str "lost") = false := rfl
theorem wy_eq {k : Nat} (h : k < 2) : decide (V.str (wy k) = V.str "beyond") = decide (k = 1) := by
  rcases (by omega : k = 0 ∨ k = 1) with rfl | rfl <;> decide +kernel
theorem cl_high_note {f : Addr} {fd : FuncData} (D : Df K mg "high_note" s_high_note ["high", "texts"] f fd) (T : Nm mg) (c_beyond : Cl P w K mg base 3 "beyond" s_beyond ["text"] (spBey K)) : Cl P w K mg base 4 "high_note" s_high_note ["high", "texts"] (spHighN K) := by
  refine D.cl sc_high_note (fun vs H Q E h => ?_) (fun cdv A outer s H vs Q E hr h => ?_)
  · obtain ⟨v, hi, p, zs, rfl, _⟩ := h
    rfl
  · obtain ⟨v, hi, p, zs, rfl, r, ok, hp, asc, k⟩ := h
    refine ⟨_, (pss_cons (ps_if (PW.pt (pw_or (pt_cmpR (op_eqD hr.units) (pv 0) pe_str (by first | exact nomark _ | rfl)) (pw_or1 (pt_not (pt_truth (pv 1) (by intro _; rfl)))))) (pss_one (ps_ret pe_non)) pss_nil)
      (pss_cons (ps_asg (pv 0) (pg_tup rfl (pgs_cons (pg_name (i := 2) sc_high_note.nd rfl (by first | exact Or.inl rfl | exact Or.inr rfl)) (pgs_cons (pg_name (i := 3) sc_high_note.nd rfl (by first | exact Or.inl rfl | exact Or.inr rfl)) pgs_nil (by rfl)) (by rfl)) (by rfl) (by rfl)))
      (pss_cons (ps_set (i := 4) sc_high_note.nd rfl (by first | exact Or.inl rfl | exact Or.inr rfl) (pe_slice sl_str (pe_ix ix_list (pv 1) (pe_un un_neg pe_int) (fun _ _ => rfl)) po_none (po_some (pv 3))))
      (pss_one (ps_ret (pe_ifExp (PW.pt (pw_and (pt_cmpR op_eq (pv 2) pe_str (by first | exact nomark _ | rfl)) (pw_and1 (pt_cmpR op_gt (pe_callB call_len_str (by rfl) T.n_len (by decide +kernel) (pa_cons (pe_ix ix_list (pv 1) (pe_un un_neg pe_int) (fun _ _ => rfl)) pa_nil)) (pv 3) (by first | exact nomark _ | rfl))))) (pe_cl c_beyond hr (by omega) (pa_cons (pv 4) pa_nil)) (pv 4))))))), ?_⟩
    cases hi with
    | none =>
      have e : highO none zs = none := by
        unfold highO
        split <;> rfl
      rw [e] at k
      have r' : Rv K [] H v (.str ("lost" : Str).cps.toList) := r
      obtain rfl : v = .str "lost" := by
        cases r'
        exact congrArg V.str (tx_cps _)
      refine ⟨_, rfl, .str "lost", .str "lost", .str _, .str _, by decide +kernel, by decide +kernel, _, rfl, ite2 (fun h => k H (Stp.refl _ _)) (fun h => absurd (by decide +kernel) h)⟩
    | some q =>
      obtain ⟨j, n⟩ := q
      obtain ⟨hj, hn⟩ := ok j n rfl
      refine ⟨_, rfl, hiP j n, .str "lost", hi_dp r hj hn, lost_dp, hi_shaped hj, lost_shaped, _, rfl, ite2 (fun h => nomatch (h : false = true)) (fun _ => ?_)⟩
      refine ⟨_, rfl, _, .inl ⟨_, SqL.of hp, rfl⟩, ?_⟩
      obtain ⟨t, vs, rfl, ht, _, rl⟩ := Pv.Rv.tupE (r : Rv K [] H v (.tup [wd (wy j), .int (n : Int)]))
      obtain ⟨u1, u2, rfl, r1, r2⟩ := RvL.two rl
      obtain rfl : u1 = .str (wy j) := by
        have r1' : Rv K [] H u1 (.str (wy j).cps.toList) := r1
        cases r1'
        exact congrArg V.str (tx_cps _)
      cases r2
      rcases List.eq_nil_or_concat zs with rfl | ⟨zi, z, rfl⟩
      · exact k H (Stp.refl _ _)
      · rw [List.concat_eq_append] at *
        have ne : zi ++ [z] ≠ [] := by simp
        have e : highO (some (j, n)) (zi ++ [z]) = highT (some (j, n)) z := by
          unfold highO
          rw [if_neg ne, ← mx_last asc.pw]
        rw [e] at k
        obtain ⟨az, lz⟩ := asc.ok z (by simp)
        have hem : ((zi ++ [z]).map Tx).isEmpty = false := by simp
        rw [hem]
        refine ⟨_, rfl, t, _, rfl, ht, rfl, _, _, rfl, _, _, rfl, rfl, ?_⟩
        have hp' : H p = some (.lst (zi.map Tx ++ [Tx z])) := by rw [hp, List.map_append]; rfl
        refine ⟨_, rfl, 1, rfl, p, _, -1, Tx z, rfl, rfl, SqL.of hp', atI_last _ _, _, rfl, (n : Int), rfl, tx z, rfl, szt (by omega), ?_⟩
        rw [show cutS (tx z) none (some (n : Int)) = _ from tx_upto z n]
        refine ⟨_, rfl, rfl, _, rfl, ?_⟩
        rw [wy_eq hj]
        have k2 := fun H' S' => k H' S'
        refine ite2 (fun h => ?_) (fun h => ?_)
        · obtain rfl : j = 1 := of_decide_eq_true h
          refine ⟨_, rfl, 1, rfl, p, _, -1, Tx z, rfl, rfl, SqL.of hp', atI_last _ _, tx z, rfl, szt (by omega), _, rfl, _, _, rfl, rfl, _, rfl, ite2 (fun h2 => ?_) (fun h2 => ?_)⟩
          · have h3 : n < z.length := by have := of_decide_eq_true h2; rw [tx_len] at this; omega
            refine ⟨_, rfl, z.take n, rfl, az.take _, by rw [List.length_take]; omega, fun H' S' => ?_⟩
            have k3 := k H' S'
            have e2 : highT (some (1, n)) z = bey (z.take n) := by
              show (if z.length ≤ n then some z else if (1 : Nat) = 0 then some (z.take n) else bey (z.take n)) = _
              rw [if_neg (by omega), if_neg (by decide)]
            rw [e2] at k3
            exact k3
          · have h3 : z.length ≤ n := by
              have : ¬ (n : Int) < ((tx z).length : Int) := fun q => h2 (decide_eq_true q)
              rw [tx_len] at this
              omega
            have k3 := k H (Stp.refl _ _)
            have e2 : highT (some (1, n)) z = some z := by
              show (if z.length ≤ n then some z else if (1 : Nat) = 0 then some (z.take n) else bey (z.take n)) = _
              rw [if_pos h3]
            rw [e2] at k3
            refine ⟨_, rfl, ?_⟩
            rw [List.take_of_length_le h3]
            exact k3
        · have hj0 : j = 0 := by
            have : ¬ j = 1 := fun q => h (decide_eq_true q)
            omega
          subst hj0
          have k3 := k H (Stp.refl _ _)
          have e2 : highT (some (0, n)) z = some (z.take n) := by
            show (if z.length ≤ n then some z else if (0 : Nat) = 0 then some (z.take n) else bey (z.take n)) = _
            by_cases c : z.length ≤ n
            · rw [if_pos c, List.take_of_length_le c]
            · rw [if_neg c, if_pos rfl]
          rw [e2] at k3
          exact ⟨_, rfl, k3⟩
def spNote (K : PySem.W.Frag) : Sp := fun vs H Q _ => ∃ (v : V) (p : Addr) (r : Ru) (os : List (Option (List Nat))), vs = [v, .ref p] ∧ Rv K [] H v (ruD r) ∧ RuOk r ∧ H p = some (.lst (os.map vV)) ∧ Col os ∧ 0 < os.length ∧
  ∀ u H', Stp [] H H' → Rv K [] H' u (noteD r os) → Q u H'
theorem txs_take {os : List (Option (List Nat))} {i : Nat} {o : Option (List Nat)} (h : os[i]? = some o) : txs (os.take (i + 1)) = txs (os.take i) ++ o.toList := by
  unfold txs
  rw [List.take_add_one, h, List.filterMap_append]
  cases o <;> rfl
theorem ruD_parts {K : PySem.W.Frag} {S : List Addr} {H : Hp} {v : V} {r : Ru} (h : Rv K S H v (ruD r)) : ∃ t u2 u3, v = .ref t ∧ SqT K H t [.str (lk r.lacks), u2, u3] ∧ Rv K S H u2 (loD r.low) ∧ Rv K S H u3 (hiD r.high) := by
  obtain ⟨t, vs, rfl, ht, _, rl⟩ := Pv.Rv.tupE (h : Rv K S H v (.tup [wd (lk r.lacks), loD r.low, hiD r.high]))
  obtain ⟨u1, u2, u3, rfl, r1, r2, r3⟩ := RvL.three rl
  have r1' : Rv K S H u1 (.str (lk r.lacks).cps.toList) := r1
  have e : u1 = .str (lk r.lacks) := by
    cases r1'
    exact congrArg V.str (tx_cps _)
  rw [e] at ht
  exact ⟨t, u2, u3, rfl, ht, r2, r3⟩
theorem cl_note {f : Addr} {fd : FuncData} (D : Df K mg "note" s_note ["rule", "page"] f fd) (T : Nm mg) (c_check_rule : Cl P w K mg base 4 "check_rule" s_check_rule ["rule"] (spCk K isRule)) (c_check_page : Cl P w K mg base 4 "check_page" s_check_page ["page"] (spCk K isPage))
    (c_ascending : Cl P w K mg base 1 "ascending" s_ascending ["texts"] (spAsc K)) (c_lacks_note : Cl P w K mg base 1 "lacks_note" s_lacks_note ["lacks", "lacking"] spLacks) (c_low_note : Cl P w K mg base 1 "low_note" s_low_note ["low", "texts"] (spLowN K))
    (c_high_note : Cl P w K mg base 4 "high_note" s_high_note ["high", "texts"] (spHighN K)) : Cl P w K mg base 5 "note" s_note ["rule", "page"] (spNote K) := by
  refine D.cl sc_note (fun vs H Q E h => ?_) (fun cdv A outer s H vs Q E hr h => ?_)
  · obtain ⟨v, p, r, os, rfl, _⟩ := h
    rfl
  · obtain ⟨v, p, r, os, rfl, rv, ok, hp, col, pos, k⟩ := h
    refine ⟨_, (pss_cons (ps_expr (pe_cl c_check_rule hr (by omega) (pa_cons (pv 0) pa_nil)))
      (pss_cons (ps_expr (pe_cl c_check_page hr (by omega) (pa_cons (pv 1) pa_nil)))
      (pss_cons (ps_asg (pv 0) (pg_tup rfl (pgs_cons (pg_name (i := 2) sc_note.nd rfl (by first | exact Or.inl rfl | exact Or.inr rfl)) (pgs_cons (pg_name (i := 3) sc_note.nd rfl (by first | exact Or.inl rfl | exact Or.inr rfl)) (pgs_cons (pg_name (i := 4) sc_note.nd rfl (by first | exact Or.inl rfl | exact Or.inr rfl)) pgs_nil (by rfl)) (by rfl)) (by rfl)) (by rfl) (by rfl)))
      (pss_cons (ps_set (i := 5) sc_note.nd rfl (by first | exact Or.inl rfl | exact Or.inr rfl) (pe_cl c_ascending hr (by omega) (pa_cons (pe_lc (own := [("value", 7)]) rfl sc_note.nd (pi_list (pv 1)) (blkOk_by (own := [("value", 7)]) (N := N_note) (sc := defScope s_note) (by decide +kernel)) (fun _ _ _ _ _ => (pg_name (i := 7) sc_note.nd rfl (by first | exact Or.inl rfl | exact Or.inr rfl))) (fun _ _ _ _ _ => (pts_one (pt_cmpR op_notN (pv 7) pe_non (by first | exact nomark _ | rfl)))) (fun _ _ _ _ _ => (pv 7))) pa_nil)))
      (pss_cons (ps_set (i := 6) sc_note.nd rfl (by first | exact Or.inl rfl | exact Or.inr rfl) (pe_cl c_lacks_note hr (by omega) (pa_cons (pv 2) (pa_cons (pe_op op_sub (pe_callB call_len_seq (by rfl) T.n_len (by decide +kernel) (pa_cons (pv 1) pa_nil)) (pe_callB call_len_seq (by rfl) T.n_len (by decide +kernel) (pa_cons (pv 5) pa_nil))) pa_nil))))
      (pss_one (ps_ret (pe_tup (pa_cons (pe_callB call_len_seq (by rfl) T.n_len (by decide +kernel) (pa_cons (pv 1) pa_nil)) (pa_cons (pv 6) (pa_cons (pe_cl c_low_note hr (by omega) (pa_cons (pv 3) (pa_cons (pv 5) pa_nil))) (pa_cons (pe_cl c_high_note hr (by omega) (pa_cons (pv 4) (pa_cons (pv 5) pa_nil))) pa_nil)))))))))))), ?_⟩
    have nn : ∀ {x : Addr}, x ∉ ([] : List Addr) := fun m => nomatch m
    have few := col.few
    refine ⟨_, rfl, [], v, ruD r, rfl, rv, isRule_ru ok, trivial, fun H1 S1 => ?_⟩
    have hp1 := S1.kp _ _ nn hp
    have rvs1 : RvL K [] H1 (os.map vV) (os.map vD) := rv_vs os fun l m => by have := (col.ok l m).2; omega
    refine ⟨_, rfl, [], .ref p, .lst (os.map vD), rfl, .lst hp1 nn (by rw [List.length_map]; omega) rvs1, isPage_col col pos, (by show (os.map vD).length ≤ 5000; rw [List.length_map]; omega), fun H2 S2 => ?_⟩
    obtain ⟨t, u2, u3, rfl, ht, r2, r3⟩ := ruD_parts (rv.up (S1.trans S2))
    refine ⟨_, rfl, t, _, rfl, ht, rfl, _, _, rfl, _, _, rfl, _, _, rfl, rfl, ?_⟩
    have S12 := S1.trans S2
    have hp2 := S2.kp _ _ nn hp1
    refine ⟨_, rfl, p, rfl, ⟨_, SqL.of hp2⟩, fun L nL => ?_⟩
    refine lc_list (K := K) (a := p) (xs := os.map vV) (fun i H' => H' L = some (.lst ((txs (os.take i)).map Tx)) ∧ Stp [] H2 H')
      ⟨upd_same, Stp.new nL _⟩ (fun i H' _ ⟨_, S⟩ => SqL.of (S.kp _ _ nn hp2)) ?_ ?_
    · rintro i x H' hi ⟨hL, S'⟩
      rw [List.getElem?_map] at hi
      cases e : os[i]? with
      | none => rw [e] at hi; cases hi
      | some o =>
        rw [e] at hi
        cases hi
        have hil : i < os.length := (List.getElem?_eq_some_iff.mp e).1
        refine ⟨rfl, _, rfl, rfl, _, rfl, ?_⟩
        have tk := txs_take e
        cases o with
        | none =>
          refine ite2 (fun h => absurd h (by decide)) (fun _ => ⟨?_, S'⟩)
          rw [tk, Option.toList_none, List.append_nil]
          exact hL
        | some l =>
          refine ite2 (fun _ => ?_) (fun h => absurd rfl h)
          refine ⟨_, rfl, _, hL, ?_, ?_, S'.mut nL⟩
          · rw [List.length_map]
            have := txs_len (os.take i)
            rw [List.length_take] at this
            exact Nat.lt_of_le_of_lt (show (txs (os.take i)).length ≤ 5000 by omega) (by decide)
          · rw [upd_same, tk, List.map_append]
            rfl
    · rintro H3 ⟨hL, S3⟩
      rw [List.length_map, List.take_length] at hL
      have lt := txs_len os
      refine ⟨L, txs os, rfl, SqL.of hL, fun l m => (col.ok l (mem_txs.mp m)).2, by omega, fun zs q H4 nq S4 pm pw hq => ?_⟩
      have S24 := S3.trans S4
      have hp4 := S24.kp _ _ nn hp2
      have zl : zs.length = (txs os).length := pm.length_eq
      refine ⟨_, rfl, _, rfl, p, _, rfl, .inl (SqL.of hp4), _, rfl, q, _, rfl, .inl (SqL.of hq), _, _, rfl, rfl, r.lacks, gone os, ?_, ok.lacks, fun vl rl => ?_⟩
      · have e : ((os.map vV).length : Int) - ((zs.map Tx).length : Int) = ((gone os : Nat) : Int) := by
          rw [List.length_map, List.length_map, zl]
          unfold gone
          omega
        dsimp only
        rw [e]
      have asc : Asc zs := ⟨pw, fun l m => col.ok l (mem_txs.mp (pm.mem_iff.mp m))⟩
      have same : ∀ x, x ∈ zs ↔ x ∈ txs os := fun x => pm.mem_iff
      refine ⟨_, rfl, p, _, rfl, .inl (SqL.of hp4), _, rfl, _, rfl, _, rfl, u2, r.low, q, zs, rfl, r2.up S24, hq, asc, ?_⟩
      refine ⟨_, rfl, _, rfl, u3, r.high, q, zs, rfl, r3.up S24, ok.high, hq, asc, fun H5 S5 => ?_⟩
      rw [lowO_same same, highO_same same]
      refine ⟨(by show 4 ≤ sizeLine; decide), fun t2 nt2 => k _ _ ((S12.trans (S24.trans S5)).new' nt2) ?_⟩
      refine Rv.newT nt2 (.cons ?_ (.cons (rl _ _ _) (.cons (rv_v fun l e => (col_lows col e).2) (.cons (rv_v fun l e => (col_highs col e).2) .nil)))) (by simp)
      rw [List.length_map]
      exact .int _
abbrev s__law_beyond : Stmt := topS 83
abbrev N__law_beyond : List Str := ["text", "rest"]
theorem sc__law_beyond : FnScope ["text", "rest"] ["text"] (defScope s__law_beyond) := ⟨rfl, rfl, rfl, by decide +kernel, rfl, by decide +kernel, by decide +kernel⟩

abbrev s__law_low : Stmt := topS 84
abbrev N__law_low : List Str := ["line", "text"]
theorem sc__law_low : FnScope ["line", "text"] ["line", "text"] (defScope s__law_low) := ⟨rfl, rfl, rfl, by decide +kernel, rfl, by decide +kernel, by decide +kernel⟩

abbrev s__law_high : Stmt := topS 85
abbrev N__law_high : List Str := ["line", "text", "word", "letters"]
theorem sc__law_high : FnScope ["line", "text", "word", "letters"] ["line", "text"] (defScope s__law_high) := ⟨rfl, rfl, rfl, by decide +kernel, rfl, by decide +kernel, by decide +kernel⟩

abbrev s__law_note : Stmt := topS 86
abbrev N__law_note : List Str := ["line", "leaf", "texts", "lacking", "lacks", "text"]
theorem sc__law_note : FnScope ["line", "leaf", "texts", "lacking", "lacks", "text"] ["line", "leaf"] (defScope s__law_note) := ⟨rfl, rfl, rfl, by decide +kernel, rfl, by decide +kernel, by decide +kernel⟩

/-! ### the law's own note -/
theorem ix_ab {c : Nat} (h : c = 97 ∨ c = 98) : Txt.index0 ("ab" : Str) (tx [c]) = some (c - 97) := by
  rcases h with rfl | rfl <;> decide +kernel
def spLBey : Sp := fun vs H Q _ => ∃ l : List Nat, vs = [Tx l] ∧ Abc l ∧ l.length ≤ 1000 ∧ Q (vV (bey l)) H
theorem cl__law_beyond {f : Addr} {fd : FuncData} (D : Df K mg "_law_beyond" s__law_beyond ["text"] f fd) (T : Nm mg) : Cl P w K mg base 1 "_law_beyond" s__law_beyond ["text"] spLBey := by
  refine D.cl sc__law_beyond (fun vs H Q E h => ?_) (fun cdv A outer s H vs Q E hr h => ?_)
  · obtain ⟨l, rfl, _⟩ := h
    rfl
  · obtain ⟨l, rfl, al, ll, k⟩ := h
    refine ⟨_, (pss_cons (ps_set (i := 1) sc__law_beyond.nd rfl (by first | exact Or.inl rfl | exact Or.inr rfl) (pe_bm PySem.F.plainAttrs_str PySem.F.slot_str_rstrip PySem.F.type_str_rstrip mt_rstripChars (pv 0) (pa_cons pe_str pa_nil)))
      (pss_one (ps_ret (pe_ifExp (pt_cmpR op_eq (pv 1) pe_str (by first | exact nomark _ | rfl)) pe_non (pe_op op_add_str (pe_slice sl_str (pv 1) po_none (po_some (pe_un un_neg pe_int))) (pe_ix ix_str pe_str (pe_bm PySem.F.plainAttrs_str PySem.F.slot_str_index PySem.F.type_str_index Pv.mt_idxS pe_str (pa_cons (pe_ix ix_str (pv 1) (pe_un un_neg pe_int) (fun _ _ => rfl)) pa_nil)) (fun _ _ => rfl))))))), ?_⟩
    refine ⟨_, rfl, rfl, tx l, ("c" : Str), rfl, rfl, szt (by omega), ?_⟩
    rw [c_lit9, rstrip_c]
    have lo := cOff_len l
    have ao := abc_cOff al
    refine ⟨_, rfl, rfl, _, rfl, ite2 (fun h => ?_) (fun h => ?_)⟩
    · have e : cOff l = [] := nil_tx.mp (by rw [← nil_lit]; exact V.str.inj (of_decide_eq_true h))
      rw [bey_none e] at k
      exact k
    · have ne : cOff l ≠ [] := fun e => h (decide_eq_true (by rw [e, nil_lit]))
      obtain ⟨i, c, hc, nc⟩ := cOff_last ne
      rw [bey_some hc] at k
      rw [hc] at lo ao
      rw [List.length_append, List.length_singleton] at lo
      have hcc : c = 97 ∨ c = 98 := by
        rcases ao c (by simp) with q | q | q
        · exact .inl q
        · exact .inr q
        · exact absurd q nc
      rw [hc]
      refine ⟨_, rfl, 1, rfl, -1, rfl, tx (i ++ [c]), rfl, szt (by simp; omega), ?_⟩
      rw [show cutS (tx (i ++ [c])) none (some (-1)) = _ from tx_init _, List.dropLast_concat]
      refine ⟨rfl, _, rfl, 1, rfl, tx (i ++ [c]), -1, c, rfl, rfl, szt (by simp; omega), atI_last i c, ("ab" : Str), tx [c], c - 97, rfl, rfl, ix_ab hcc, ?_⟩
      rcases hcc with rfl | rfl
      · refine ⟨("bc" : Str), 0, 98, rfl, rfl, by decide +kernel, by decide +kernel, tx i, tx [98], rfl, rfl, (by rw [tx_len, tx_len]; exact sz (by simp; omega)), ?_⟩
        rw [tx_app]
        exact k
      · refine ⟨("bc" : Str), 1, 99, rfl, rfl, by decide +kernel, by decide +kernel, tx i, tx [99], rfl, rfl, (by rw [tx_len, tx_len]; exact sz (by simp; omega)), ?_⟩
        rw [tx_app]
        exact k
def spLLow (K : PySem.W.Frag) : Sp := fun vs H Q _ => ∃ (v : V) (r : Ru) (l : List Nat), vs = [v, Tx l] ∧ Rv K [] H v (ruD r) ∧ l.length ≤ 1000 ∧ Q (vV (lowT r.low l)) H
theorem cl__law_low {f : Addr} {fd : FuncData} (D : Df K mg "_law_low" s__law_low ["line", "text"] f fd) (T : Nm mg) : Cl P w K mg base 1 "_law_low" s__law_low ["line", "text"] (spLLow K) := by
  refine D.cl sc__law_low (fun vs H Q E h => ?_) (fun cdv A outer s H vs Q E hr h => ?_)
  · obtain ⟨v, r, l, rfl, _⟩ := h
    rfl
  · obtain ⟨v, ⟨j, lo, hi⟩, l, rfl, rv, ll, k⟩ := h
    refine ⟨_, (pss_one (ps_ret (pe_ifExp (pt_cmpR op_eq (pe_ix ix_tup (pv 0) pe_int (fun _ _ => rfl)) pe_str (by first | exact nomark _ | rfl)) pe_non (pe_slice sl_str (pv 1) po_none (po_some (pe_ix ix_tup (pv 0) pe_int (fun _ _ => rfl))))))), ?_⟩
    obtain ⟨t, u2, u3, rfl, ht, r2, r3⟩ := ruD_parts rv
    refine ⟨_, rfl, t, _, 1, u2, rfl, rfl, ht, at1, ?_⟩
    cases lo with
    | none =>
      obtain rfl := lo_lost r2
      exact ⟨rfl, _, rfl, ite2 (fun h => k) (fun h => absurd (by decide +kernel) h)⟩
    | some n =>
      have r2' : Rv K [] H u2 (.int (n : Int)) := r2
      cases r2'
      refine ⟨rfl, _, rfl, ite2 (fun h => absurd h (by simp)) (fun h => ?_)⟩
      refine ⟨_, rfl, _, rfl, t, _, 1, .int (n : Int), rfl, rfl, ht, at1, (n : Int), rfl, tx l, rfl, szt (by omega), ?_⟩
      rw [show cutS (tx l) none (some (n : Int)) = _ from tx_upto l n]
      exact k
theorem wy_cut {k : Nat} (h : k < 2) : decide (V.str (wy k) = V.str "cut") = decide (k = 0) := by
  rcases (by omega : k = 0 ∨ k = 1) with rfl | rfl <;> decide +kernel
def spLHigh (K : PySem.W.Frag) : Sp := fun vs H Q _ => ∃ (v : V) (r : Ru) (l : List Nat), vs = [v, Tx l] ∧ Rv K [] H v (ruD r) ∧ RuOk r ∧ Abc l ∧ l.length ≤ 1000 ∧ Q (vV (highT r.high l)) H
theorem cl__law_high {f : Addr} {fd : FuncData} (D : Df K mg "_law_high" s__law_high ["line", "text"] f fd) (T : Nm mg) (c__law_beyond : Cl P w K mg base 1 "_law_beyond" s__law_beyond ["text"] spLBey) : Cl P w K mg base 2 "_law_high" s__law_high ["line", "text"] (spLHigh K) := by
  refine D.cl sc__law_high (fun vs H Q E h => ?_) (fun cdv A outer s H vs Q E hr h => ?_)
  · obtain ⟨v, r, l, rfl, _⟩ := h
    rfl
  · obtain ⟨v, ⟨j0, lo, hi⟩, l, rfl, rv, ok, al, ll, k⟩ := h
    refine ⟨_, (pss_cons (ps_if (pt_cmpR (op_eqD hr.units) (pe_ix ix_tup (pv 0) pe_int (fun _ _ => rfl)) pe_str (by first | exact nomark _ | rfl)) (pss_one (ps_ret pe_non)) pss_nil)
      (pss_cons (ps_asg (pe_ix ix_tup (pv 0) pe_int (fun _ _ => rfl)) (pg_tup rfl (pgs_cons (pg_name (i := 2) sc__law_high.nd rfl (by first | exact Or.inl rfl | exact Or.inr rfl)) (pgs_cons (pg_name (i := 3) sc__law_high.nd rfl (by first | exact Or.inl rfl | exact Or.inr rfl)) pgs_nil (by rfl)) (by rfl)) (by rfl) (by rfl)))
      (pss_cons (ps_if (pt_cmpR op_le (pe_callB call_len_str (by rfl) T.n_len (by decide +kernel) (pa_cons (pv 1) pa_nil)) (pv 3) (by first | exact nomark _ | rfl)) (pss_one (ps_ret (pv 1))) pss_nil)
      (pss_one (ps_ret (pe_ifExp (pt_cmpR op_eq (pv 2) pe_str (by first | exact nomark _ | rfl)) (pe_slice sl_str (pv 1) po_none (po_some (pv 3))) (pe_cl c__law_beyond hr (by omega) (pa_cons (pe_slice sl_str (pv 1) po_none (po_some (pv 3))) pa_nil)))))))), ?_⟩
    obtain ⟨t0, u2, u3, rfl, ht0, r2, r3⟩ := ruD_parts rv
    refine ⟨_, rfl, t0, _, 2, u3, rfl, rfl, ht0, at2, ?_⟩
    cases hi with
    | none =>
      have r' : Rv K [] H u3 (.str ("lost" : Str).cps.toList) := r3
      obtain rfl : u3 = .str "lost" := by
        cases r'
        exact congrArg V.str (tx_cps _)
      exact ⟨.str "lost", .str "lost", .str _, .str _, by decide +kernel, by decide +kernel, _, rfl, ite2 (fun h => k) (fun h => absurd (by decide +kernel) h)⟩
    | some q =>
      obtain ⟨j, n⟩ := q
      obtain ⟨hj, hn⟩ := ok.high j n rfl
      refine ⟨hiP j n, .str "lost", hi_dp r3 hj hn, lost_dp, hi_shaped hj, lost_shaped, _, rfl, ite2 (fun h => nomatch (h : false = true)) (fun _ => ?_)⟩
      obtain ⟨t, vs, rfl, ht, _, rl⟩ := Pv.Rv.tupE (r3 : Rv K [] H u3 (.tup [wd (wy j), .int (n : Int)]))
      obtain ⟨w1, w2, rfl, r1, r2'⟩ := RvL.two rl
      obtain rfl : w1 = .str (wy j) := by
        have r1' : Rv K [] H w1 (.str (wy j).cps.toList) := r1
        cases r1'
        exact congrArg V.str (tx_cps _)
      cases r2'
      refine ⟨_, rfl, t0, _, 2, .ref t, rfl, rfl, ht0, at2, t, _, rfl, ht, rfl, _, _, rfl, _, _, rfl, rfl, ?_⟩
      refine ⟨_, rfl, tx l, rfl, szt (by omega), _, rfl, _, _, rfl, rfl, _, rfl, ite2 (fun h => ?_) (fun h => ?_)⟩
      · have h3 : l.length ≤ n := by have := of_decide_eq_true h; rw [tx_len] at this; omega
        have e2 : highT (some (j, n)) l = some l := by
          show (if l.length ≤ n then some l else if j = 0 then some (l.take n) else bey (l.take n)) = _
          rw [if_pos h3]
        rw [e2] at k
        exact ⟨_, rfl, k⟩
      · have h3 : ¬ l.length ≤ n := by
          have : ¬ ((tx l).length : Int) ≤ (n : Int) := fun q => h (decide_eq_true q)
          rw [tx_len] at this
          omega
        have e2 : highT (some (j, n)) l = if j = 0 then some (l.take n) else bey (l.take n) := by
          show (if l.length ≤ n then some l else if j = 0 then some (l.take n) else bey (l.take n)) = _
          rw [if_neg h3]
        rw [e2] at k
        refine ⟨_, rfl, rfl, _, rfl, ?_⟩
        rw [wy_cut hj]
        refine ite2 (fun h => ?_) (fun h => ?_)
        · rw [if_pos (of_decide_eq_true h)] at k
          refine ⟨_, rfl, _, rfl, (n : Int), rfl, tx l, rfl, szt (by omega), ?_⟩
          rw [show cutS (tx l) none (some (n : Int)) = _ from tx_upto l n]
          exact k
        · rw [if_neg (fun q => h (decide_eq_true q))] at k
          refine ⟨_, rfl, _, rfl, (n : Int), rfl, tx l, rfl, szt (by omega), l.take n, ?_⟩
          exact ⟨congrArg (fun x => [V.str x]) (show cutS (tx l) none (some (n : Int)) = _ from tx_upto l n), al.take _, by rw [List.length_take]; omega, k⟩
theorem flat_vs : ∀ (os : List (Option (List Nat))), (os.map vV).all flatV = true
  | [] => rfl
  | none :: os => flat_vs os
  | some l :: os => flat_vs os
theorem count_gone : ∀ (os : List (Option (List Nat))), ((os.map vV).countP fun z => eqV z .non) = gone os
  | [] => rfl
  | o :: os => by
    have ih := count_gone os
    have lt := txs_len os
    unfold gone at ih ⊢
    rw [List.map_cons, List.countP_cons, ih]
    cases o with
    | none =>
      show os.length - (txs os).length + 1 = os.length + 1 - (txs os).length
      omega
    | some l =>
      show os.length - (txs os).length + 0 = os.length + 1 - ((txs os).length + 1)
      omega
/-- the three words of lacks -/
def lackV : Nat → Nat → V
  | 0, m => .int (m : Int)
  | 1, m => .bl (decide ((m : Int) > 0))
  | _, _ => .non
theorem lack_rv {K : PySem.W.Frag} {S : List Addr} {H : Hp} (k m : Nat) : Rv K S H (lackV k m) (lacksD k m) := by
  match k with
  | 0 => exact .int _
  | 1 => exact .bl _
  | _ + 2 => exact .non
theorem lack_at {m k : Nat} (h : k < 3) : valV (mergeK [] [(Sum.inr ("many" : Str), V.int (m : Int)), (Sum.inr ("some" : Str), V.bl (decide ((m : Int) > 0))), (Sum.inr ("hidden" : Str), V.non)]) (Sum.inr (lk k)) = some (lackV k m) := by
  rcases (by omega : k = 0 ∨ k = 1 ∨ k = 2) with rfl | rfl | rfl <;> rfl
def spLNote (K : PySem.W.Frag) : Sp := fun vs H Q _ => ∃ (v : V) (p : Addr) (r : Ru) (os : List (Option (List Nat))), vs = [v, .ref p] ∧ Rv K [] H v (ruD r) ∧ RuOk r ∧ H p = some (.lst (os.map vV)) ∧ Col os ∧ os.length < 3000 ∧
  ∀ u H', Stp [] H H' → Rv K [] H' u (noteD r os) → Q u H'
theorem cl__law_note {f : Addr} {fd : FuncData} (D : Df K mg "_law_note" s__law_note ["line", "leaf"] f fd) (T : Nm mg) (c__law_low : Cl P w K mg base 1 "_law_low" s__law_low ["line", "text"] (spLLow K)) (c__law_high : Cl P w K mg base 2 "_law_high" s__law_high ["line", "text"] (spLHigh K)) :
    Cl P w K mg base 3 "_law_note" s__law_note ["line", "leaf"] (spLNote K) := by
  refine D.cl sc__law_note (fun vs H Q E h => ?_) (fun cdv A outer s H vs Q E hr h => ?_)
  · obtain ⟨v, p, r, os, rfl, _⟩ := h
    rfl
  · obtain ⟨v, p, r, os, rfl, rv, ok, hp, col, few, k⟩ := h
    refine ⟨_, (pss_cons (ps_set (i := 2) sc__law_note.nd rfl (by first | exact Or.inl rfl | exact Or.inr rfl) (pe_sortset hr.hd (by rfl) T.n_sorted (by rfl) T.n_set (pe_lc (own := [("text", 5)]) rfl sc__law_note.nd (pi_list (pv 1)) (blkOk_by (own := [("text", 5)]) (N := N__law_note) (sc := defScope s__law_note) (by decide +kernel)) (fun _ _ _ _ _ => (pg_name (i := 5) sc__law_note.nd rfl (by first | exact Or.inl rfl | exact Or.inr rfl))) (fun _ _ _ _ _ => (pts_one (pt_cmpR op_notN (pv 5) pe_non (by first | exact nomark _ | rfl)))) (fun _ _ _ _ _ => (pv 5)))))
      (pss_cons (ps_set (i := 3) sc__law_note.nd rfl (by first | exact Or.inl rfl | exact Or.inr rfl) (pe_bm PySem.F.plainAttrs_list PySem.F.slot_list_count PySem.F.type_list_count Pv.mt_lcountF (pv 1) (pa_cons pe_non pa_nil)))
      (pss_cons (ps_set (i := 4) sc__law_note.nd rfl (by first | exact Or.inl rfl | exact Or.inr rfl) (pe_dget (hu_of hr) (pe_disp (pps_cons pe_str (pv 3) (pps_cons pe_str (pe_cmpR op_gt (pv 3) pe_int (by first | exact nomark _ | rfl)) (pps_cons pe_str pe_non pps_nil))) (by rfl) (by rfl) (fun z => by cases z) (by decide)) (pe_ix ix_tup (pv 0) pe_int (fun _ _ => rfl)) (fun _ _ => rfl)))
      (pss_cons (ps_if (pt_cmpR (Pv.op_eqNil hr.units) (pv 2) (pe_lst pa_nil) (by first | exact nomark _ | rfl)) (pss_one (ps_ret (pe_tup (pa_cons (pe_callB call_len_seq (by rfl) T.n_len (by decide +kernel) (pa_cons (pv 1) pa_nil)) (pa_cons (pv 4) (pa_cons pe_non (pa_cons pe_non pa_nil))))))) pss_nil)
      (pss_one (ps_ret (pe_tup (pa_cons (pe_callB call_len_seq (by rfl) T.n_len (by decide +kernel) (pa_cons (pv 1) pa_nil)) (pa_cons (pv 4) (pa_cons (pe_cl c__law_low hr (by omega) (pa_cons (pv 0) (pa_cons (pe_ix ix_list (pv 2) pe_int (fun _ _ => rfl)) pa_nil))) (pa_cons (pe_cl c__law_high hr (by omega) (pa_cons (pv 0) (pa_cons (pe_ix ix_list (pv 2) (pe_un un_neg pe_int) (fun _ _ => rfl)) pa_nil))) pa_nil))))))))))), ?_⟩
    have nn : ∀ {x : Addr}, x ∉ ([] : List Addr) := fun m => nomatch m
    refine ⟨_, rfl, p, rfl, ⟨_, SqL.of hp⟩, fun L nL => ?_⟩
    refine lc_list (K := K) (a := p) (xs := os.map vV) (fun i H' => H' L = some (.lst ((txs (os.take i)).map Tx)) ∧ Stp [] H H')
      ⟨upd_same, Stp.new nL _⟩ (fun i H' _ ⟨_, S⟩ => SqL.of (S.kp _ _ nn hp)) ?_ ?_
    · rintro i x H' hi ⟨hL, S'⟩
      rw [List.getElem?_map] at hi
      cases e : os[i]? with
      | none => rw [e] at hi; cases hi
      | some o =>
        rw [e] at hi
        cases hi
        have hil : i < os.length := (List.getElem?_eq_some_iff.mp e).1
        refine ⟨rfl, _, rfl, rfl, _, rfl, ?_⟩
        have tk := txs_take e
        cases o with
        | none =>
          refine ite2 (fun h => absurd h (by decide)) (fun _ => ⟨?_, S'⟩)
          rw [tk, Option.toList_none, List.append_nil]
          exact hL
        | some l =>
          refine ite2 (fun _ => ?_) (fun h => absurd rfl h)
          refine ⟨_, rfl, _, hL, ?_, ?_, S'.mut nL⟩
          · rw [List.length_map]
            have := txs_len (os.take i)
            rw [List.length_take] at this
            exact Nat.lt_of_le_of_lt (show (txs (os.take i)).length ≤ 5000 by omega) (by decide)
          · rw [upd_same, tk, List.map_append]
            rfl
    · rintro H3 ⟨hL, S3⟩
      rw [List.length_map, List.take_length] at hL
      have lt := txs_len os
      refine ⟨L, txs os, rfl, SqL.of hL, by omega, fun zs q pw mem len nq => ?_⟩
      have S4 : Stp [] H3 (upd H3 q (.lst (zs.map Tx))) := Stp.new nq _
      have hq : (upd H3 q (.lst (zs.map Tx))) q = some (.lst (zs.map Tx)) := upd_same
      generalize upd H3 q (.lst (zs.map Tx)) = H4 at *
      have S34 := S3.trans S4
      have hp4 := S34.kp _ _ nn hp
      refine ⟨_, rfl, .inl ⟨rfl, _, SqL.of hp4⟩, p, os.map vV, .non, rfl, rfl, SqL.of hp4, rfl, flat_vs os, ?_⟩
      rw [count_gone]
      -- the dict of the three words
      refine fun d nd => ⟨_, rfl, _, rfl, _, _, rfl, rfl, upd_same, [(Sum.inr ("many" : Str), V.int (gone os : Int)), (Sum.inr ("some" : Str), V.bl (decide ((gone os : Int) > 0))), (Sum.inr ("hidden" : Str), V.non)], rfl, Nat.le_of_ble_eq_true rfl, ?_⟩
      have S5 : Stp [] H4 (upd (upd H4 d (.dK [])) d (.dK (mergeK [] [(Sum.inr ("many" : Str), V.int (gone os : Int)), (Sum.inr ("some" : Str), V.bl (decide ((gone os : Int) > 0))), (Sum.inr ("hidden" : Str), V.non)]))) := (Stp.new nd _).mutO nd
      have hd : (upd (upd H4 d (.dK [])) d (.dK (mergeK [] [(Sum.inr ("many" : Str), V.int (gone os : Int)), (Sum.inr ("some" : Str), V.bl (decide ((gone os : Int) > 0))), (Sum.inr ("hidden" : Str), V.non)]))) d = some (.dK (mergeK [] [(Sum.inr ("many" : Str), V.int (gone os : Int)), (Sum.inr ("some" : Str), V.bl (decide ((gone os : Int) > 0))), (Sum.inr ("hidden" : Str), V.non)])) := upd_same
      generalize upd (upd H4 d (.dK [])) d (.dK (mergeK [] [(Sum.inr ("many" : Str), V.int (gone os : Int)), (Sum.inr ("some" : Str), V.bl (decide ((gone os : Int) > 0))), (Sum.inr ("hidden" : Str), V.non)])) = H5 at *
      have S35 := S34.trans S5
      obtain ⟨t, u2, u3, ev, ht, r2, r3⟩ := ruD_parts (rv.up S35)
      subst ev
      have g := DGet.k (k := Sum.inr (lk r.lacks)) hd
      rw [lack_at ok.lacks] at g
      refine ⟨_, rfl, t, _, 0, .str (lk r.lacks), rfl, rfl, ht, at0, d, lackV r.lacks (gone os), rfl, g, ?_⟩
      have hq5 := S5.kp _ _ nn hq
      refine ⟨_, rfl, Nat.zero_le _, fun e ne => ?_⟩
      have S6 : Stp [] H5 (upd H5 e (.lst [])) := Stp.new ne _
      have he : (upd H5 e (.lst [])) e = some (.lst []) := upd_same
      generalize upd H5 e (.lst []) = H6 at *
      have S36 := S35.trans S6
      have hp6 := S36.kp _ _ nn hp
      have hq6 := S6.kp _ _ nn hq5
      have ht6 := sqt_stp S6 Lsts.nil ht
      refine ⟨q, e, _, rfl, rfl, ne_of_none hq5 ne, SqL.of hq6, SqL.of he, _, rfl, ite2 (fun h => ?_) (fun h => ?_)⟩
      · have z0 : zs = [] := by
          cases zs with
          | nil => rfl
          | cons _ _ => exact absurd h (by simp)
        have t0 : txs os = [] := by
          subst z0
          exact List.eq_nil_iff_forall_not_mem.mpr fun x m => nomatch (mem x).mpr m
        refine ⟨_, rfl, p, _, rfl, .inl (SqL.of hp6), _, rfl, (by show 4 ≤ sizeLine; decide), fun t2 nt2 => k _ _ (S36.new' nt2) ?_⟩
        have e1 : noteD r os = .tup [.int (os.length : Int), lacksD r.lacks (gone os), .non, .non] := by
          unfold noteD lowO highO
          rw [if_pos t0, if_pos t0]
          rfl
        rw [e1]
        refine Rv.newT nt2 (.cons ?_ (.cons (lack_rv _ _) (.cons .non (.cons .non .nil)))) (by simp)
        rw [List.length_map]
        exact .int _
      · have same : ∀ x, x ∈ zs ↔ x ∈ txs os := mem
        have z1 : zs ≠ [] := fun e => h (by rw [e]; rfl)
        have t1 : txs os ≠ [] := fun e => z1 ((nil_same same).mpr e)
        have pw2 : zs.Pairwise (· ≤ ·) := pw.imp fun x => List.le_of_lt x
        have col2 : ∀ l ∈ zs, Abc l ∧ l.length ≤ 1000 := fun l m => col.ok l (mem_txs.mp ((same l).mp m))
        have rv6 := rv.up S36
        obtain ⟨z, zt, ez⟩ : ∃ z zt, zs = z :: zt := by
          cases zs with
          | nil => exact absurd rfl z1
          | cons z zt => exact ⟨z, zt, rfl⟩
        obtain ⟨yi, y, ey⟩ : ∃ yi y, zs = yi ++ [y] := by
          rcases List.eq_nil_or_concat zs with e | ⟨a, b, e⟩
          · exact absurd e z1
          · exact ⟨a, b, by rw [e, List.concat_eq_append]⟩
        have hzm : z = mn (txs os) := by rw [← mn_same same, ez]; exact mn_head (by rw [← ez]; exact pw2)
        have hym : y = mx (txs os) := by rw [← mx_same same, ey]; exact mx_last (by rw [← ey]; exact pw2)
        have hz0 : atI (zs.map Tx) 0 = some (Tx z) := by rw [ez]; exact at0
        have hy0 : atI (zs.map Tx) (-1) = some (Tx y) := by rw [ey, List.map_append]; exact atI_last _ _
        have cz := col2 z (by rw [ez]; exact List.mem_cons_self)
        have cy := col2 y (by rw [ey]; simp)
        refine ⟨_, rfl, p, _, rfl, .inl (SqL.of hp6), _, rfl, _, rfl, _, rfl, q, _, 0, Tx z, rfl, rfl, SqL.of hq6, hz0, .ref t, r, z, rfl, rv6, cz.2, ?_⟩
        refine ⟨_, rfl, _, rfl, 1, rfl, q, _, -1, Tx y, rfl, rfl, SqL.of hq6, hy0, .ref t, r, y, rfl, rv6, ok, cy.1, cy.2, ?_⟩
        refine ⟨(by show 4 ≤ sizeLine; decide), fun t2 nt2 => k _ _ (S36.new' nt2) ?_⟩
        have e1 : noteD r os = .tup [.int (os.length : Int), lacksD r.lacks (gone os), vD (lowT r.low z), vD (highT r.high y)] := by
          unfold noteD lowO highO
          rw [if_neg t1, if_neg t1, hzm, hym]
        rw [e1]
        refine Rv.newT nt2 (.cons ?_ (.cons (lack_rv _ _) (.cons (rv_v fun l e => ?_) (.cons (rv_v fun l e => ?_) .nil)))) (by simp)
        · rw [List.length_map]
          exact .int _
        · rw [hzm] at e
          exact (col_lows col (by unfold lowO; rw [if_neg t1]; exact e)).2
        · rw [hym] at e
          exact (col_highs col (by unfold highO; rw [if_neg t1]; exact e)).2
/-! ### spans: what they are -/
abbrev Txt := List Nat
abbrev Pr := Txt × Option Txt
theorem le_of_nlt {a b : Txt} (h : ¬ b < a) : a ≤ b := List.not_lt.mp h
theorem nlt_of_le {a b : Txt} (h : a ≤ b) : ¬ b < a := List.not_lt.mpr h
theorem lt_le {a b c : Txt} (h : a < b) (g : b ≤ c) : a < c := by
  by_cases q : a < c
  · exact q
  · exact absurd (List.lt_of_le_of_lt (le_of_nlt q) h) (nlt_of_le g)
theorem le_lt {a b c : Txt} (h : a ≤ b) (g : b < c) : a < c := List.lt_of_le_of_lt h g
theorem lt_le' {a b : Txt} (h : a < b) : a ≤ b := List.le_of_lt h
theorem nil_le (a : Txt) : ([] : Txt) ≤ a := le_of_nlt (by intro h; cases h)
def Short (l : Txt) : Prop := Abc l ∧ l.length ≤ 40
def PrOk (p : Pr) : Prop := Short p.1 ∧ ∀ e, p.2 = some e → Short e ∧ p.1 < e
def PrS (p : Pr) : Prop := Short p.1 ∧ ∀ e, p.2 = some e → Short e
theorem PrOk.s {p : Pr} (h : PrOk p) : PrS p := ⟨h.1, fun e q => (h.2 e q).1⟩
def Gap (p q : Pr) : Prop := ∃ e, p.2 = some e ∧ e < q.1
structure SpOk (ps : List Pr) : Prop where
  ok : ∀ p ∈ ps, PrOk p
  gap : ps.Pairwise Gap
theorem SpOk.nil : SpOk [] := ⟨fun _ m => (nomatch m), .nil⟩
theorem SpOk.tail {p : Pr} {ps : List Pr} (h : SpOk (p :: ps)) : SpOk ps := ⟨fun q m => h.ok q (List.mem_cons_of_mem _ m), (List.pairwise_cons.mp h.gap).2⟩
/-- a text stands in a range, in a span -/
def inP (w : Txt) (p : Pr) : Bool := decide (p.1 ≤ w) && (match p.2 with | none => true | some e => decide (w < e))
def inS (ps : List Pr) (w : Txt) : Bool := ps.any (inP w)
theorem inP_low {w : Txt} {p : Pr} (h : w < p.1) : inP w p = false := by
  unfold inP
  rw [decide_eq_false (fun q => nlt_of_le q h)]
  rfl
theorem inS_low {ps : List Pr} {w : Txt} (h : ∀ p ∈ ps, w < p.1) : inS ps w = false := by
  unfold inS
  rw [List.any_eq_false]
  intro p m
  rw [inP_low (h p m)]
  simp
theorem firsts {p : Pr} {ps : List Pr} {w : Txt} (h : SpOk (p :: ps)) (g : w ≤ p.1) : ∀ q ∈ ps, w < q.1 := fun q m => by
  obtain ⟨e, e1, e2⟩ := (List.pairwise_cons.mp h.gap).1 q m
  exact le_lt g (List.lt_trans ((h.ok p List.mem_cons_self).2 e e1).2 e2)
/-- what follows an end -/
def past (e : Option Txt) (g : Txt → List Pr) : List Pr := match e with | none => [] | some e => g e
/-- the gaps behind a start -/
def opps : Txt → List Pr → List Pr
  | a, [] => [(a, none)]
  | a, (f, e) :: ps => (if a < f then [(a, some f)] else []) ++ past e fun e => opps e ps
theorem opps_ok : ∀ (ps : List Pr) (a : Txt), SpOk ps → Short a → (∀ p ∈ ps, a ≤ p.1) → SpOk (opps a ps) ∧ ∀ p ∈ opps a ps, a ≤ p.1
  | [], a, _, sa, _ => ⟨⟨fun p m => by
      rw [List.mem_singleton.mp m]
      exact ⟨sa, fun e q => by cases q⟩, List.pairwise_singleton _ _⟩, fun p m => by
      rw [List.mem_singleton.mp m]
      exact le_of_nlt (List.lt_irrefl _)⟩
  | (f, e) :: ps, a, h, sa, g => by
    have gf : a ≤ f := g (f, e) List.mem_cons_self
    have pf := h.ok (f, e) List.mem_cons_self
    have rest : SpOk (past e fun e => opps e ps) ∧ ∀ p ∈ (past e fun e => opps e ps), f < p.1 := by
      cases e with
      | none => exact ⟨.nil, fun _ m => nomatch m⟩
      | some e =>
        obtain ⟨s1, s2⟩ := pf.2 e rfl
        obtain ⟨r1, r2⟩ := opps_ok ps e h.tail s1 fun q m => by
          obtain ⟨e', q1, q2⟩ := (List.pairwise_cons.mp h.gap).1 q m
          cases q1
          exact lt_le' q2
        exact ⟨r1, fun p m => lt_le s2 (r2 p m)⟩
    unfold opps
    obtain ⟨r1, r2⟩ := rest
    by_cases c : a < f
    · rw [if_pos c]
      refine ⟨⟨fun p m => ?_, List.pairwise_cons.mpr ⟨fun q m => ⟨f, rfl, r2 q m⟩, r1.gap⟩⟩, fun p m => ?_⟩
      · rcases List.mem_cons.mp m with rfl | m
        · exact ⟨sa, fun e q => by cases q; exact ⟨pf.1, c⟩⟩
        · exact r1.ok p m
      · rcases List.mem_cons.mp m with rfl | m
        · exact le_of_nlt (List.lt_irrefl _)
        · exact lt_le' (le_lt gf (r2 p m))
    · rw [if_neg c]
      exact ⟨r1, fun p m => lt_le' (le_lt gf (r2 p m))⟩
theorem opps_in : ∀ (ps : List Pr) (a w : Txt), SpOk ps → Short a → (∀ p ∈ ps, a ≤ p.1) → a ≤ w → inS (opps a ps) w = !inS ps w
  | [], a, w, _, _, _, h => by simp [opps, inS, inP, h]
  | (f, e) :: ps, a, w, h, sa, g, hw => by
    have pf := h.ok (f, e) List.mem_cons_self
    by_cases c : w < f
    · have af : a < f := le_lt hw c
      rw [inS_low (ps := (f, e) :: ps) fun p m => by
        rcases List.mem_cons.mp m with rfl | m
        · exact c
        · exact firsts h (lt_le' c) p m]
      unfold opps inS
      rw [if_pos af, List.any_append]
      simp [inP, hw, c]
    · have fw : f ≤ w := le_of_nlt c
      have e1 : inS (opps a ((f, e) :: ps)) w = inS (past e fun e => opps e ps) w := by
        rw [show opps a ((f, e) :: ps) = (if a < f then [(a, some f)] else []) ++ past e fun e => opps e ps from rfl]
        unfold inS
        rw [List.any_append]
        by_cases q : a < f
        · rw [if_pos q]
          simp [inP, c]
        · rw [if_neg q]
          simp
      rw [e1]
      cases e with
      | none =>
        show false = _
        simp [inS, inP, fw]
      | some e =>
        obtain ⟨s1, s2⟩ := pf.2 e rfl
        have ge : ∀ q ∈ ps, e ≤ q.1 := fun q m => by
          obtain ⟨e', q1, q2⟩ := (List.pairwise_cons.mp h.gap).1 q m
          cases q1
          exact lt_le' q2
        by_cases d : w < e
        · have lo : inS (opps e ps) w = false := inS_low fun p m => lt_le d ((opps_ok ps e h.tail s1 ge).2 p m)
          show inS (opps e ps) w = _
          rw [lo]
          simp [inS, inP, fw, d]
        · show inS (opps e ps) w = _
          rw [opps_in ps e w h.tail s1 ge (le_of_nlt d)]
          simp [inS, inP, fw, d]
theorem opps_len : ∀ (ps : List Pr) (a : Txt), (opps a ps).length ≤ ps.length + 1
  | [], _ => Nat.le_refl _
  | (f, e) :: ps, a => by
    unfold opps
    rw [List.length_append]
    have h1 : (if a < f then [(a, some f)] else [] : List Pr).length ≤ 1 := by split <;> simp
    cases e with
    | none =>
      show _ + 0 ≤ _
      rw [List.length_cons]
      omega
    | some e =>
      have := opps_len ps e
      show _ + (opps e ps).length ≤ _
      rw [List.length_cons]
      omega
theorem le_dec (a b : Txt) : decide (a ≤ b) = !decide (b < a) := by
  by_cases h : b < a
  · rw [decide_eq_true h, decide_eq_false (nlt_of_le · h)]
    rfl
  · rw [decide_eq_false h, decide_eq_true (le_of_nlt h)]
    rfl
/-! ### one normal span for each set of texts -/
theorem le_self (a : Txt) : a ≤ a := le_of_nlt (List.lt_irrefl _)
theorem inP_iff {w : Txt} {p : Pr} : inP w p = true ↔ p.1 ≤ w ∧ ∀ e, p.2 = some e → w < e := by
  obtain ⟨f, e⟩ := p
  unfold inP
  cases e with
  | none => simp
  | some e => simp
theorem inS_cons {p : Pr} {ps : List Pr} {w : Txt} : inS (p :: ps) w = (inP w p || inS ps w) := List.any_cons
theorem inS_app {ps qs : List Pr} {w : Txt} : inS (ps ++ qs) w = (inS ps w || inS qs w) := List.any_append
theorem inS_mem {ps : List Pr} {w : Txt} : inS ps w = true ↔ ∃ p ∈ ps, inP w p = true := by
  unfold inS
  rw [List.any_eq_true]
theorem end_out {p : Pr} {ps : List Pr} (h : SpOk (p :: ps)) {e : Txt} (he : p.2 = some e) : inS (p :: ps) e = false := by
  rw [inS_cons, inS_low (ps := ps) fun q m => by
    obtain ⟨e', e1, e2⟩ := (List.pairwise_cons.mp h.gap).1 q m
    rw [he] at e1
    cases e1
    exact e2]
  rw [Bool.or_false, Bool.eq_false_iff]
  intro c
  exact List.lt_irrefl _ ((inP_iff.mp c).2 e he)
theorem span_uniq : ∀ (as bs : List Pr), SpOk as → SpOk bs → (∀ w, inS as w = inS bs w) → as = bs
  | [], [], _, _, _ => rfl
  | [], q :: qs, _, hb, h => by
    have a := h q.1
    rw [inS_cons, inP_iff.mpr ⟨le_self _, fun e he => ((hb.ok q List.mem_cons_self).2 e he).2⟩] at a
    cases a
  | p :: ps, [], ha, _, h => by
    have a := h p.1
    rw [inS_cons, inP_iff.mpr ⟨le_self _, fun e he => ((ha.ok p List.mem_cons_self).2 e he).2⟩] at a
    cases a
  | p :: ps, q :: qs, ha, hb, h => by
    have pin : inS (p :: ps) p.1 = true := by rw [inS_cons, inP_iff.mpr ⟨le_self _, fun e he => ((ha.ok p List.mem_cons_self).2 e he).2⟩]; rfl
    have qin : inS (q :: qs) q.1 = true := by rw [inS_cons, inP_iff.mpr ⟨le_self _, fun e he => ((hb.ok q List.mem_cons_self).2 e he).2⟩]; rfl
    have low : ∀ {p : Pr} {ps : List Pr} {w : Txt}, SpOk (p :: ps) → w < p.1 → inS (p :: ps) w = false := fun {p ps w} hp l => inS_low fun r m => by
      rcases List.mem_cons.mp m with rfl | m
      · exact l
      · exact firsts hp (lt_le' l) r m
    have f1 : p.1 = q.1 := by
      refine List.le_antisymm (le_of_nlt fun l => ?_) (le_of_nlt fun l => ?_)
      · rw [h, ] at *
        have := low ha l
        rw [h, qin] at this
        cases this
      · have := low hb l
        rw [← h, pin] at this
        cases this
    have f2 : p.2 = q.2 := by
      cases hp : p.2 with
      | none =>
        cases hq : q.2 with
        | none => rfl
        | some d =>
          have a := end_out hb hq
          rw [← h, inS_cons, inP_iff.mpr ⟨by rw [f1]; exact lt_le' ((hb.ok q List.mem_cons_self).2 d hq).2, fun e he => by rw [hp] at he; cases he⟩] at a
          cases a
      | some e =>
        cases hq : q.2 with
        | none =>
          have a := end_out ha hp
          rw [h, inS_cons, inP_iff.mpr ⟨by rw [← f1]; exact lt_le' ((ha.ok p List.mem_cons_self).2 e hp).2, fun d hd => by rw [hq] at hd; cases hd⟩] at a
          cases a
        | some d =>
          congr 1
          refine List.le_antisymm (le_of_nlt fun l => ?_) (le_of_nlt fun l => ?_)
          · have a := end_out hb hq
            rw [← h, inS_cons, inP_iff.mpr ⟨by rw [f1]; exact lt_le' ((hb.ok q List.mem_cons_self).2 d hq).2, fun e' he => by rw [hp] at he; cases he; exact l⟩] at a
            cases a
          · have a := end_out ha hp
            rw [h, inS_cons, inP_iff.mpr ⟨by rw [← f1]; exact lt_le' ((ha.ok p List.mem_cons_self).2 e hp).2, fun d' hd => by rw [hq] at hd; cases hd; exact l⟩] at a
            cases a
    have pq : p = q := Prod.ext f1 f2
    subst pq
    congr 1
    refine span_uniq ps qs ha.tail hb.tail fun w => ?_
    cases hp : p.2 with
    | none =>
      have no : ∀ {ps : List Pr}, SpOk (p :: ps) → ps = [] := fun {ps} hh => by
        cases ps with
        | nil => rfl
        | cons r rs =>
          obtain ⟨e, e1, _⟩ := (List.pairwise_cons.mp hh.gap).1 r List.mem_cons_self
          rw [hp] at e1
          cases e1
      rw [no ha, no hb]
    | some e =>
      have lo : ∀ {ps : List Pr}, SpOk (p :: ps) → w ≤ e → inS ps w = false := fun {ps} hh l => inS_low fun r m => by
        obtain ⟨e', e1, e2⟩ := (List.pairwise_cons.mp hh.gap).1 r m
        rw [hp] at e1
        cases e1
        exact le_lt l e2
      by_cases c : e < w
      · have no : inP w p = false := Bool.eq_false_iff.mpr fun q => List.lt_irrefl _ (List.lt_trans c ((inP_iff.mp q).2 e hp))
        have a := h w
        rw [inS_cons, inS_cons, no] at a
        exact a
      · rw [lo ha (le_of_nlt c), lo hb (le_of_nlt c)]
/-- each range of the normal span begins where one of the ranges does -/
theorem first_of {ds ps : List Pr} (hd : SpOk ds) (h : ∀ w, inS ds w = inS ps w) {d : Pr} (m : d ∈ ds) : ∃ p ∈ ps, p.1 = d.1 := by
  have din : inP d.1 d = true := inP_iff.mpr ⟨le_self _, fun e he => ((hd.ok d m).2 e he).2⟩
  obtain ⟨p, mp, hp⟩ := inS_mem.mp ((h d.1).symm.trans (inS_mem.mpr ⟨d, m, din⟩))
  obtain ⟨p1, p2⟩ := inP_iff.mp hp
  refine ⟨p, mp, List.le_antisymm p1 (le_of_nlt fun lt => ?_)⟩
  have pin : inP p.1 p = true := inP_iff.mpr ⟨le_self _, fun e he => List.lt_trans lt (p2 e he)⟩
  obtain ⟨d', m', hd'⟩ := inS_mem.mp ((h p.1).trans (inS_mem.mpr ⟨p, mp, pin⟩))
  obtain ⟨q1, q2⟩ := inP_iff.mp hd'
  have lt' : d'.1 < d.1 := le_lt q1 lt
  obtain ⟨e, e1, e2⟩ : Gap d' d := by
    obtain ⟨i, hi, ei⟩ := List.mem_iff_getElem.mp m'
    obtain ⟨j, hj, ej⟩ := List.mem_iff_getElem.mp m
    rcases Nat.lt_trichotomy i j with c | c | c
    · have := List.pairwise_iff_getElem.mp hd.gap i j hi hj c
      rwa [ei, ej] at this
    · subst c
      rw [ei] at ej
      subst ej
      exact absurd lt' (List.lt_irrefl _)
    · have := List.pairwise_iff_getElem.mp hd.gap j i hj hi c
      rw [ei, ej] at this
      obtain ⟨e, e1, e2⟩ := this
      exact absurd (List.lt_trans (List.lt_trans ((hd.ok d m).2 e e1).2 e2) lt') (List.lt_irrefl _)
  have ein : inP e p = true := inP_iff.mpr ⟨lt_le' (q2 e e1), fun e' he => List.lt_trans e2 (p2 e' he)⟩
  obtain ⟨c, mc, hc⟩ := inS_mem.mp ((h e).trans (inS_mem.mpr ⟨p, mp, ein⟩))
  obtain ⟨c1, c2⟩ := inP_iff.mp hc
  obtain ⟨i, hi, ei⟩ := List.mem_iff_getElem.mp m'
  obtain ⟨j, hj, ej⟩ := List.mem_iff_getElem.mp mc
  rcases Nat.lt_trichotomy i j with q | q | q
  · have := List.pairwise_iff_getElem.mp hd.gap i j hi hj q
    rw [ei, ej] at this
    obtain ⟨e', f1, f2⟩ := this
    rw [e1] at f1
    cases f1
    exact nlt_of_le c1 f2
  · subst q
    rw [ei] at ej
    subst ej
    exact List.lt_irrefl _ (c2 e e1)
  · have := List.pairwise_iff_getElem.mp hd.gap j i hj hi q
    rw [ei, ej] at this
    obtain ⟨e', f1, f2⟩ := this
    exact List.lt_irrefl _ (List.lt_trans (c2 e' f1) (List.lt_trans f2 (lt_le ((hd.ok d' m').2 e e1).2 (le_self e))))
theorem asc_len : ∀ (xs L : List Txt), xs.Pairwise (· < ·) → (∀ x ∈ xs, x ∈ L) → xs.length ≤ L.length
  | [], _, _, _ => Nat.zero_le _
  | x :: xs, L, pw, h => by
    obtain ⟨p1, p2⟩ := List.pairwise_cons.mp pw
    have mx := h x List.mem_cons_self
    have ih := asc_len xs (L.erase x) p2 fun y m => (List.mem_erase_of_ne fun e => List.lt_irrefl _ (e ▸ p1 y m)).mpr (h y (List.mem_cons_of_mem _ m))
    rw [List.length_erase_of_mem mx] at ih
    have := List.length_pos_of_mem mx
    rw [List.length_cons]
    omega
theorem SpOk.asc {ps : List Pr} (h : SpOk ps) : (ps.map Prod.fst).Pairwise (· < ·) := by
  rw [List.pairwise_map]
  exact h.gap.imp_of_mem fun {p q} mp _ ⟨e, e1, e2⟩ => List.lt_trans ((h.ok p mp).2 e e1).2 e2
theorem norm_len {ds ps : List Pr} (hd : SpOk ds) (h : ∀ w, inS ds w = inS ps w) : ds.length ≤ ps.length := by
  have := asc_len (ds.map Prod.fst) (ps.map Prod.fst) hd.asc fun x m => by
    obtain ⟨d, md, rfl⟩ := List.mem_map.mp m
    obtain ⟨p, mp, e⟩ := first_of hd h md
    exact List.mem_map.mpr ⟨p, mp, e⟩
  rwa [List.length_map, List.length_map] at this
theorem short_nil0 : Short [] := ⟨Abc.nil, Nat.zero_le _⟩
theorem opps_opps {ps : List Pr} (h : SpOk ps) : opps [] (opps [] ps) = ps := by
  have o := opps_ok ps [] h short_nil0 fun p _ => nil_le _
  have oo := opps_ok (opps [] ps) [] o.1 short_nil0 fun p _ => nil_le _
  refine span_uniq _ _ oo.1 h fun w => ?_
  rw [opps_in _ _ _ o.1 short_nil0 (fun p _ => nil_le _) (nil_le _), opps_in _ _ _ h short_nil0 (fun p _ => nil_le _) (nil_le _), Bool.not_not]
/-! ### the text beyond -/
def beyR : Txt → Option Txt
  | [] => none
  | a :: y => match beyR y with | some e => some (a :: e) | none => if a < 99 then some [a + 1] else none
theorem beyR_c : ∀ m : Txt, beyR (m ++ [99]) = beyR m
  | [] => rfl
  | a :: m => by
    show (match beyR (m ++ [99]) with | some e => some (a :: e) | none => if a < 99 then some [a + 1] else none) = _
    rw [beyR_c m]
    rfl
theorem beyR_id {c : Nat} (h : c < 99) : ∀ m : Txt, beyR (m ++ [c]) = some (m ++ [c + 1])
  | [] => if_pos h
  | a :: m => by
    show (match beyR (m ++ [c]) with | some e => some (a :: e) | none => if a < 99 then some [a + 1] else none) = _
    rw [beyR_id h m]
    rfl
theorem beyR_ok : ∀ {y e : Txt}, Abc y → beyR y = some e → Abc e ∧ e.length ≤ y.length ∧ y < e
  | [], e, _, h => by cases h
  | a :: y, e, ab, h => by
    have ha := ab a List.mem_cons_self
    have hy : Abc y := fun c m => ab c (List.mem_cons_of_mem _ m)
    have h : (match beyR y with | some e => some (a :: e) | none => if a < 99 then some [a + 1] else none) = some e := h
    cases q : beyR y with
    | some e' =>
      rw [q] at h
      cases h
      obtain ⟨h1, h2, h3⟩ := beyR_ok hy q
      refine ⟨fun c m => ?_, by simp; omega, List.cons_lt_cons_iff.mpr (.inr ⟨rfl, h3⟩)⟩
      rcases List.mem_cons.mp m with rfl | m
      · exact ha
      · exact h1 c m
    | none =>
      rw [q] at h
      by_cases c : a < 99
      · rw [if_pos c] at h
        cases h
        refine ⟨fun x m => ?_, by simp, List.cons_lt_cons_iff.mpr (.inl (Nat.lt_succ_self a))⟩
        rw [List.mem_singleton.mp m]
        omega
      · rw [if_neg c] at h
        cases h
theorem cOff_c (m : List Nat) : cOff (m ++ [99]) = cOff m := by
  rw [cOff_rev, cOff_rev, List.reverse_append]
  rfl
theorem cOff_id {m : List Nat} {c : Nat} (h : c ≠ 99) : cOff (m ++ [c]) = m ++ [c] := by
  rw [cOff_rev, List.reverse_append]
  show (List.dropWhile _ (c :: m.reverse)).reverse = _
  rw [List.dropWhile_cons, if_neg (by simpa using h), List.reverse_cons, List.reverse_reverse]
theorem bey_eq : ∀ (n : Nat) (l : Txt), l.length ≤ n → Abc l → bey l = beyR l
  | 0, l, h, _ => by
    rw [List.length_eq_zero_iff.mp (Nat.le_zero.mp h)]
    rfl
  | n + 1, l, h, al => by
    rcases List.eq_nil_or_concat l with rfl | ⟨m, c, rfl⟩
    · rfl
    rw [List.concat_eq_append] at *
    have am : Abc m := fun x q => al x (List.mem_append_left _ q)
    have hm : m.length ≤ n := by rw [List.length_append, List.length_singleton] at h; omega
    by_cases e : c = 99
    · subst e
      rw [beyR_c, ← bey_eq n m hm am]
      unfold bey
      rw [cOff_c]
    · have hc : c < 99 := by rcases al c (by simp) with q | q | q <;> omega
      rw [beyR_id hc]
      unfold bey
      rw [cOff_id e, if_neg (by simp)]
      simp
/-! ### ranges of one text -/
theorem abc_tl {c : Nat} {t : Txt} (h : Abc (c :: t)) : Abc t := fun x m => h x (List.mem_cons_of_mem _ m)
theorem snoc_le : ∀ (y w : Txt), Abc w → (y ++ [97] ≤ w ↔ y < w)
  | [], [], _ => by
    constructor
    · intro h
      exact absurd (List.nil_lt_cons 97 []) (nlt_of_le h)
    · intro h
      exact absurd h (List.lt_irrefl _)
  | [], c :: t, h => by
    refine ⟨fun _ => List.nil_lt_cons _ _, fun _ => le_of_nlt fun q => ?_⟩
    have hc := h c List.mem_cons_self
    rcases List.cons_lt_cons_iff.mp q with q | ⟨_, q⟩
    · omega
    · cases q
  | a :: y, [], _ => by
    constructor
    · intro h
      exact absurd (List.nil_lt_cons a (y ++ [97])) (nlt_of_le (show a :: (y ++ [97]) ≤ [] from h))
    · intro h
      cases h
  | a :: y, c :: t, h => by
    have ih := snoc_le y t (abc_tl h)
    constructor
    · intro g
      by_cases e : a < c
      · exact List.cons_lt_cons_iff.mpr (.inl e)
      · by_cases e2 : c < a
        · exact absurd (List.cons_lt_cons_iff.mpr (.inl e2)) (nlt_of_le g)
        · have e3 : a = c := by omega
          subst e3
          refine List.cons_lt_cons_iff.mpr (.inr ⟨rfl, ih.mp (le_of_nlt fun q => ?_)⟩)
          exact absurd (List.cons_lt_cons_iff.mpr (.inr ⟨rfl, q⟩)) (nlt_of_le g)
    · intro g
      refine le_of_nlt fun q => ?_
      rcases List.cons_lt_cons_iff.mp g with g | ⟨g1, g2⟩
      · rcases List.cons_lt_cons_iff.mp q with q | ⟨q, _⟩
        · omega
        · omega
      · subst g1
        rcases List.cons_lt_cons_iff.mp q with q | ⟨_, q⟩
        · omega
        · exact nlt_of_le (ih.mpr g2) q
theorem in_is {w y : Txt} (h : Abc w) : inP w (y, some (y ++ [97])) = decide (w = y) := by
  rw [Bool.eq_iff_iff, inP_iff, decide_eq_true_iff]
  constructor
  · rintro ⟨h1, h2⟩
    have h3 := h2 _ rfl
    refine List.le_antisymm (le_of_nlt fun q => ?_) h1
    exact nlt_of_le ((snoc_le y w h).mpr q) h3
  · rintro rfl
    refine ⟨le_self _, fun e q => ?_⟩
    cases q
    by_cases c : w < w ++ [97]
    · exact c
    · exact absurd ((snoc_le w w h).mp (le_of_nlt c)) (List.lt_irrefl _)
theorem in_above {w y : Txt} (h : Abc w) : inP w (y ++ [97], none) = decide (y < w) := by
  rw [Bool.eq_iff_iff, inP_iff, decide_eq_true_iff, ← snoc_le y w h]
  exact ⟨fun h => h.1, fun h => ⟨h, fun e q => by cases q⟩⟩
theorem cons_le {a c : Nat} {y t : Txt} : a :: y ≤ c :: t ↔ a < c ∨ (a = c ∧ y ≤ t) := by
  constructor
  · intro h
    by_cases e : a < c
    · exact .inl e
    · by_cases e2 : c < a
      · exact absurd (List.cons_lt_cons_iff.mpr (.inl e2)) (nlt_of_le h)
      · have e3 : a = c := by omega
        subst e3
        exact .inr ⟨rfl, le_of_nlt fun q => nlt_of_le h (List.cons_lt_cons_iff.mpr (.inr ⟨rfl, q⟩))⟩
  · rintro (h | ⟨rfl, h⟩)
    · exact lt_le' (List.cons_lt_cons_iff.mpr (.inl h))
    · exact le_of_nlt fun q => by
        rcases List.cons_lt_cons_iff.mp q with q | ⟨_, q⟩
        · omega
        · exact nlt_of_le h q
theorem in_begins : ∀ (y w : Txt), Abc y → Abc w → inP w (y, beyR y) = decide (w.take y.length = y)
  | [], w, _, _ => by
    rw [Bool.eq_iff_iff, inP_iff, decide_eq_true_iff]
    exact ⟨fun _ => rfl, fun _ => ⟨nil_le _, fun e q => by cases q⟩⟩
  | a :: y, [], _, _ => by
    rw [Bool.eq_iff_iff, inP_iff, decide_eq_true_iff]
    constructor
    · rintro ⟨h, _⟩
      exact absurd (List.nil_lt_cons a y) (nlt_of_le h)
    · intro h
      cases h
  | a :: y, c :: t, hy, hw => by
    have ih := in_begins y t (abc_tl hy) (abc_tl hw)
    rw [Bool.eq_iff_iff, inP_iff, decide_eq_true_iff] at ih ⊢
    have et : (c :: t).take (a :: y).length = a :: y ↔ c = a ∧ t.take y.length = y := by
      rw [List.length_cons, List.take_succ_cons]
      exact ⟨fun h => ⟨(List.cons.inj h).1, (List.cons.inj h).2⟩, fun ⟨h1, h2⟩ => by rw [h1, h2]⟩
    rw [et, ← ih]
    have ha := hy a List.mem_cons_self
    have hc := hw c List.mem_cons_self
    have eb : beyR (a :: y) = (match beyR y with | some e => some (a :: e) | none => if a < 99 then some [a + 1] else none) := rfl
    show (a :: y ≤ c :: t ∧ ∀ e, beyR (a :: y) = some e → c :: t < e) ↔ c = a ∧ y ≤ t ∧ ∀ e, beyR y = some e → t < e
    rw [cons_le, eb]
    cases q : beyR y with
    | some e =>
      constructor
      · rintro ⟨h1, h2⟩
        rcases List.cons_lt_cons_iff.mp (h2 _ rfl) with h2 | ⟨h2, h3⟩
        · exact absurd h1 (by omega)
        · subst h2
          refine ⟨rfl, ?_, fun e' he => by cases he; exact h3⟩
          rcases h1 with h1 | ⟨_, h1⟩
          · exact absurd h1 (by omega)
          · exact h1
      · rintro ⟨rfl, h1, h2⟩
        exact ⟨.inr ⟨rfl, h1⟩, fun e' he => by cases he; exact List.cons_lt_cons_iff.mpr (.inr ⟨rfl, h2 e rfl⟩)⟩
    | none =>
      by_cases l : a < 99
      · simp only [if_pos l]
        constructor
        · rintro ⟨h1, h2⟩
          rcases List.cons_lt_cons_iff.mp (h2 _ rfl) with h2 | ⟨h2, h3⟩
          · rcases h1 with h1 | ⟨h1, h3⟩
            · omega
            · exact ⟨h1.symm, h3, fun e he => by cases he⟩
          · cases h3
        · rintro ⟨rfl, h1, _⟩
          exact ⟨.inr ⟨rfl, h1⟩, fun e he => by cases he; exact List.cons_lt_cons_iff.mpr (.inl (Nat.lt_succ_self _))⟩
      · simp only [if_neg l]
        constructor
        · rintro ⟨h1, _⟩
          rcases h1 with h1 | ⟨h1, h3⟩
          · omega
          · exact ⟨h1.symm, h3, fun e he => by cases he⟩
        · rintro ⟨rfl, h1, _⟩
          exact ⟨.inr ⟨rfl, h1⟩, fun e he => by cases he⟩
/-! ### what a note tells of the texts: ranges -/
theorem beyR_bey {l : Txt} (h : Abc l) : bey l = beyR l := bey_eq _ l (Nat.le_refl _) h
theorem beyR_pad {c : Nat} (h : c < 99) (m : Txt) : ∀ k, beyR (m ++ [c] ++ List.replicate k 99) = some (m ++ [c + 1])
  | 0 => by
    rw [List.replicate_zero, List.append_nil]
    exact beyR_id h m
  | k + 1 => by
    rw [List.replicate_succ', ← List.append_assoc, beyR_c]
    exact beyR_pad h m k
theorem beyR_inv : ∀ (n : Nat) (x : Txt), x.length = n → Abc x → (beyR x = none ∧ x = List.replicate n 99) ∨ ∃ m c k, c < 99 ∧ x = m ++ [c] ++ List.replicate k 99 ∧ beyR x = some (m ++ [c + 1])
  | 0, x, h, _ => .inl (by rw [List.length_eq_zero_iff.mp h]; exact ⟨rfl, rfl⟩)
  | n + 1, x, h, a => by
    rcases List.eq_nil_or_concat x with rfl | ⟨y, c, rfl⟩
    · cases h
    rw [List.concat_eq_append] at *
    have ay : Abc y := fun z q => a z (List.mem_append_left _ q)
    have hy : y.length = n := by rw [List.length_append, List.length_singleton] at h; omega
    by_cases e : c = 99
    · subst e
      rw [beyR_c]
      rcases beyR_inv n y hy ay with ⟨h1, h2⟩ | ⟨m, c, k, h1, h2, h3⟩
      · exact .inl ⟨h1, by rw [h2, ← List.replicate_succ']⟩
      · exact .inr ⟨m, c, k + 1, h1, by rw [h2, List.replicate_succ', ← List.append_assoc], h3⟩
    · have hc : c < 99 := by rcases a c (by simp) with q | q | q <;> omega
      exact .inr ⟨y, c, 0, hc, by simp, beyR_id hc y⟩
theorem lt_snoc {w l : Txt} (h : Abc w) : w < l ++ [97] ↔ w ≤ l := by
  constructor
  · intro q
    exact le_of_nlt fun z => nlt_of_le ((snoc_le l w h).mpr z) q
  · intro q
    by_cases c : w < l ++ [97]
    · exact c
    · exact absurd ((snoc_le l w h).mp (le_of_nlt c)) (nlt_of_le q)
theorem le_lt_ne {a b : Txt} : a < b ↔ a ≤ b ∧ a ≠ b := by
  constructor
  · intro h
    exact ⟨lt_le' h, fun e => by rw [e] at h; exact List.lt_irrefl _ h⟩
  · rintro ⟨h, n⟩
    by_cases c : a < b
    · exact c
    · exact absurd (List.le_antisymm h (le_of_nlt c)) n
def cutD (d : D) (n : Nat) : Option Pr := match d with
  | .str l => if abcB l = true ∧ l.length ≤ n then some (l, if l.length = n then bey l else some (l ++ [97])) else none
  | _ => none
def anyD (d : D) : Option Pr := match d with
  | .non => some ([], none)
  | _ => none
/-- the range of the texts that lead to a low -/
def leastR (lo : Option Nat) (d : D) : Option Pr := match lo with
  | none => anyD d
  | some n => cutD d n
def ledF (l : Txt) (n : Nat) : Txt := match l.getLast? with
  | some c => if c = 98 ∨ c = 99 then l.dropLast ++ [c - 1] ++ List.replicate (n - l.length) 99 ++ [97] else l
  | none => l
def ledD (d : D) (n : Nat) : Option Pr := match d with
  | .non => some (List.replicate n 99 ++ [97], none)
  | .str l => if abcB l = true ∧ l.length ≤ n then some (ledF l n, some (l ++ [97])) else none
  | _ => none
/-- the range of the texts that lead to a high -/
def greatR (hi : Option (Nat × Nat)) (d : D) : Option Pr := match hi with
  | none => anyD d
  | some (k, n) => if k = 0 then cutD d n else ledD d n
theorem take_short {w l : Txt} {n : Nat} (h : l.length < n) : w.take n = l ↔ w = l := by
  constructor
  · intro e
    have q := congrArg List.length e
    rw [List.length_take] at q
    rw [← e, List.take_of_length_le (by omega)]
  · rintro rfl
    exact List.take_of_length_le (by omega)
theorem cut_in {d : D} {n : Nat} {p : Pr} (h : cutD d n = some p) {w : Txt} (a : Abc w) : inP w p = true ↔ d = .str (w.take n) := by
  unfold cutD at h
  split at h
  · rename_i l
    by_cases c : abcB l = true ∧ l.length ≤ n
    · rw [if_pos c] at h
      cases h
      have al := abcB_iff.mp c.1
      by_cases e : l.length = n
      · rw [if_pos e, beyR_bey al, in_begins l w al a, decide_eq_true_iff, e]
        exact ⟨fun h => by rw [h], fun h => by injection h with h; exact h.symm⟩
      · rw [if_neg e, in_is a, decide_eq_true_iff, ← take_short (w := w) (l := l) (n := n) (by omega)]
        exact ⟨fun h => by rw [h], fun h => by injection h with h; exact h.symm⟩
    · rw [if_neg c] at h
      cases h
  · cases h
theorem cut_no {d : D} {n : Nat} (h : cutD d n = none) {w : Txt} (a : Abc w) : d ≠ .str (w.take n) := fun e => by
  subst e
  unfold cutD at h
  dsimp only at h
  rw [if_pos ⟨abcB_iff.mpr (fun c m => a c (List.mem_of_mem_take m)), by rw [List.length_take]; omega⟩] at h
  cases h
theorem least_in {lo : Option Nat} {d : D} {p : Pr} (h : leastR lo d = some p) {w : Txt} (a : Abc w) : inP w p = true ↔ d = vD (lowT lo w) := by
  cases lo with
  | none =>
    have h : anyD d = some p := h
    unfold anyD at h
    split at h
    · cases h
      exact ⟨fun _ => rfl, fun _ => inP_iff.mpr ⟨nil_le _, fun e q => by cases q⟩⟩
    · cases h
  | some n => exact cut_in h a
theorem least_no {lo : Option Nat} {d : D} (h : leastR lo d = none) {w : Txt} (a : Abc w) : d ≠ vD (lowT lo w) := by
  cases lo with
  | none =>
    intro e
    subst e
    cases h
  | some n => exact cut_no h a
theorem led_in {d : D} {n : Nat} {p : Pr} (h : ledD d n = some p) {w : Txt} (a : Abc w) : inP w p = true ↔ d = vD (if w.length ≤ n then some w else bey (w.take n)) := by
  have at_ : Abc (w.take n) := fun c m => a c (List.mem_of_mem_take m)
  have lt : ¬ w.length ≤ n → (w.take n).length = n := fun q => by rw [List.length_take]; omega
  unfold ledD at h
  split at h
  · -- beyond all
    cases h
    have aC : Abc (List.replicate n 99) := fun c m => .inr (.inr (List.eq_of_mem_replicate m))
    have bC : beyR (List.replicate n 99) = none := by
      rcases beyR_inv n _ (List.length_replicate) aC with ⟨q, _⟩ | ⟨m, c, k, q1, q2, _⟩
      · exact q
      · have mc : c ∈ List.replicate n 99 := by rw [q2]; simp
        have := List.eq_of_mem_replicate mc
        omega
    have ib := in_begins (List.replicate n 99) w aC a
    rw [bC, List.length_replicate] at ib
    have e1 : inP w (List.replicate n 99 ++ [97], none) = true ↔ List.replicate n 99 < w := by rw [in_above a, decide_eq_true_iff]
    have e2 : List.replicate n 99 ≤ w ↔ w.take n = List.replicate n 99 := by
      have : inP w (List.replicate n 99, none) = true ↔ w.take n = List.replicate n 99 := by rw [ib, decide_eq_true_iff]
      rw [inP_iff] at this
      rw [← this]
      exact ⟨fun q => ⟨q, fun e z => by cases z⟩, fun q => q.1⟩
    rw [e1, le_lt_ne, e2]
    by_cases c : w.length ≤ n
    · rw [if_pos c, List.take_of_length_le c]
      exact ⟨fun q => absurd q.1.symm q.2, fun q => by cases q⟩
    · rw [if_neg c, beyR_bey at_]
      constructor
      · rintro ⟨q, _⟩
        rw [q, bC]
        rfl
      · intro q
        rcases beyR_inv n _ (lt c) at_ with ⟨z, z2⟩ | ⟨m, c', k, _, _, z⟩
        · refine ⟨z2, fun e => c ?_⟩
          rw [← e, List.length_replicate]
          exact Nat.le_refl _
        · rw [z] at q
          cases q
  · rename_i l
    by_cases c : abcB l = true ∧ l.length ≤ n
    · rw [if_pos c] at h
      cases h
      have al := abcB_iff.mp c.1
      rw [inP_iff]
      have lts : (∀ e, some (l ++ [97]) = some e → w < e) ↔ w ≤ l := by
        rw [← lt_snoc (l := l) a]
        exact ⟨fun q => q _ rfl, fun q e z => by cases z; exact q⟩
      show ledF l n ≤ w ∧ (∀ e, some (l ++ [97]) = some e → w < e) ↔ _
      rw [lts]
      have never : (∀ m c, l = m ++ [c + 1] → c = 97 ∨ c = 98 → False) → ledF l n = l → (ledF l n ≤ w ∧ w ≤ l ↔ D.str l = vD (if w.length ≤ n then some w else bey (w.take n))) := fun no el => by
        rw [el]
        constructor
        · rintro ⟨q1, q2⟩
          have e := List.le_antisymm q1 q2
          subst e
          rw [if_pos c.2]
          rfl
        · intro q
          by_cases cw : w.length ≤ n
          · rw [if_pos cw] at q
            injection q with q
            subst q
            exact ⟨le_self _, le_self _⟩
          · rw [if_neg cw, beyR_bey at_] at q
            rcases beyR_inv n _ (lt cw) at_ with ⟨z, _⟩ | ⟨m, c', k, z1, z2, z⟩
            · rw [z] at q
              cases q
            · rw [z] at q
              injection q with q
              have ac := at_ c' (by rw [z2]; simp)
              exact absurd (no m c' q (by omega)) id
      rcases List.eq_nil_or_concat l with rfl | ⟨m, x, rfl⟩
      · exact never (fun m c e _ => by simp at e) rfl
      rw [List.concat_eq_append] at *
      have ax := al x (by simp)
      by_cases hx : x = 98 ∨ x = 99
      · obtain ⟨y, rfl⟩ : ∃ y, x = y + 1 := ⟨x - 1, by omega⟩
        have hy : y < 99 := by omega
        have eF : ledF (m ++ [y + 1]) n = m ++ [y] ++ List.replicate (n - (m ++ [y + 1]).length) 99 ++ [97] := by
          unfold ledF
          simp only [List.getLast?_append, List.getLast?_singleton, Option.some_or, List.dropLast_concat]
          rw [if_pos hx, Nat.add_sub_cancel]
        rw [eF]
        generalize hs : m ++ [y] ++ List.replicate (n - (m ++ [y + 1]).length) 99 = st
        have as : Abc st := fun z q => by
          rw [← hs] at q
          rcases List.mem_append.mp q with q | q
          · rcases List.mem_append.mp q with q | q
            · exact al z (List.mem_append_left _ q)
            · rw [List.mem_singleton.mp q]; omega
          · exact .inr (.inr (List.eq_of_mem_replicate q))
        have bs : beyR st = some (m ++ [y + 1]) := by rw [← hs]; exact beyR_pad hy m _
        have ls : st.length = n := by
          have := c.2
          rw [← hs]
          simp at this ⊢
          omega
        rw [snoc_le st w a]
        have ib := in_begins st w as a
        rw [bs, ls] at ib
        have e2 : (st ≤ w ∧ w < m ++ [y + 1]) ↔ w.take n = st := by
          have : inP w (st, some (m ++ [y + 1])) = true ↔ w.take n = st := by rw [ib, decide_eq_true_iff]
          rw [inP_iff] at this
          rw [← this]
          exact ⟨fun q => ⟨q.1, fun e z => by cases z; exact q.2⟩, fun q => ⟨q.1, q.2 _ rfl⟩⟩
        have sl : st < m ++ [y + 1] := (beyR_ok as bs).2.2
        have key : (st < w ∧ w ≤ m ++ [y + 1]) ↔ w = m ++ [y + 1] ∨ (w.take n = st ∧ w ≠ st) := by
          rw [← e2]
          constructor
          · rintro ⟨q1, q2⟩
            by_cases e : w = m ++ [y + 1]
            · exact .inl e
            · exact .inr ⟨⟨lt_le' q1, le_lt_ne.mpr ⟨q2, e⟩⟩, fun z => by rw [z] at q1; exact List.lt_irrefl _ q1⟩
          · rintro (rfl | ⟨⟨q1, q2⟩, q3⟩)
            · exact ⟨sl, le_self _⟩
            · exact ⟨le_lt_ne.mpr ⟨q1, fun z => q3 z.symm⟩, lt_le' q2⟩
        rw [key]
        by_cases cw : w.length ≤ n
        · rw [if_pos cw, List.take_of_length_le cw]
          constructor
          · rintro (rfl | ⟨q1, q2⟩)
            · rfl
            · exact absurd q1 q2
          · intro q
            injection q with q
            exact .inl q.symm
        · rw [if_neg cw, beyR_bey at_]
          constructor
          · rintro (rfl | ⟨q1, q2⟩)
            · exact absurd c.2 cw
            · rw [q1, bs]
              rfl
          · intro q
            rcases beyR_inv n _ (lt cw) at_ with ⟨z, _⟩ | ⟨m', c', k, z1, z2, z⟩
            · rw [z] at q
              cases q
            · rw [z] at q
              injection q with q
              obtain ⟨e1, e3⟩ := List.append_inj' q rfl
              injection e3 with e3 _
              obtain rfl : y = c' := by omega
              subst e1
              have lz := lt cw
              rw [z2] at lz
              have tk : w.take n = st := by
                rw [z2, ← hs]
                congr 2
                simp at lz ⊢
                omega
              exact .inr ⟨tk, fun e => by rw [e, ls] at cw; exact cw (Nat.le_refl _)⟩
      · refine never (fun m' c' e hc' => ?_) ?_
        · obtain ⟨_, e2⟩ := List.append_inj' e rfl
          injection e2 with e2 _
          omega
        · unfold ledF
          simp only [List.getLast?_append, List.getLast?_singleton, Option.some_or]
          rw [if_neg hx]
    · rw [if_neg c] at h
      cases h
  · cases h
theorem led_no {d : D} {n : Nat} (h : ledD d n = none) {w : Txt} (a : Abc w) : d ≠ vD (if w.length ≤ n then some w else bey (w.take n)) := fun e => by
  have at_ : Abc (w.take n) := fun c m => a c (List.mem_of_mem_take m)
  by_cases c : w.length ≤ n
  · rw [if_pos c] at e
    subst e
    unfold ledD vD at h
    dsimp only at h
    rw [if_pos ⟨abcB_iff.mpr a, c⟩] at h
    cases h
  · rw [if_neg c, beyR_bey at_] at e
    cases q : beyR (w.take n) with
    | none =>
      rw [q] at e
      subst e
      cases h
    | some x =>
      rw [q] at e
      subst e
      obtain ⟨x1, x2, _⟩ := beyR_ok at_ q
      unfold ledD vD at h
      dsimp only at h
      rw [if_pos ⟨abcB_iff.mpr x1, by rw [List.length_take] at x2; omega⟩] at h
      cases h
theorem great_in {hi : Option (Nat × Nat)} {d : D} {p : Pr} (h : greatR hi d = some p) {w : Txt} (a : Abc w) : inP w p = true ↔ d = vD (highT hi w) := by
  match hi, h with
  | none, h => exact least_in (lo := none) h a
  | some (k, n), h =>
    unfold greatR at h
    dsimp only at h
    unfold highT
    by_cases e : k = 0
    · rw [if_pos e] at h
      rw [cut_in h a]
      by_cases c : w.length ≤ n
      · simp only [if_pos c, List.take_of_length_le c]
        rfl
      · simp only [if_neg c, if_pos e]
        rfl
    · rw [if_neg e] at h
      rw [led_in h a]
      simp only [if_neg e]
theorem great_no {hi : Option (Nat × Nat)} {d : D} (h : greatR hi d = none) {w : Txt} (a : Abc w) : d ≠ vD (highT hi w) := by
  match hi, h with
  | none, h => exact least_no (lo := none) h a
  | some (k, n), h =>
    unfold greatR at h
    dsimp only at h
    unfold highT
    by_cases e : k = 0
    · rw [if_pos e] at h
      have := cut_no h a
      by_cases c : w.length ≤ n
      · simp only [if_pos c]
        rw [List.take_of_length_le c] at this
        exact this
      · simp only [if_neg c, if_pos e]
        exact this
    · rw [if_neg e] at h
      have := led_no h a
      simp only [if_neg e]
      exact this
/-! ### numbers of texts that a note leaves -/
def minE : Option Txt → Option Txt → Option Txt
  | none, e => e
  | some a, none => some a
  | some a, some b => some (if b < a then b else a)
def maxT (a b : Txt) : Txt := if b < a then a else b
def interR (p q : Pr) : List Pr := match minE p.2 q.2 with
  | none => [(maxT p.1 q.1, none)]
  | some e => if maxT p.1 q.1 < e then [(maxT p.1 q.1, some e)] else []
theorem maxT_le {a b w : Txt} : maxT a b ≤ w ↔ a ≤ w ∧ b ≤ w := by
  unfold maxT
  by_cases h : b < a
  · rw [if_pos h]
    exact ⟨fun q => ⟨q, List.le_trans (lt_le' h) q⟩, fun q => q.1⟩
  · rw [if_neg h]
    exact ⟨fun q => ⟨List.le_trans (le_of_nlt h) q, q⟩, fun q => q.2⟩
theorem maxT_or (a b : Txt) : maxT a b = a ∨ maxT a b = b := by
  unfold maxT
  by_cases h : b < a
  · rw [if_pos h]; exact .inl rfl
  · rw [if_neg h]; exact .inr rfl
theorem minE_lt {o o' : Option Txt} {w : Txt} : (∀ e, minE o o' = some e → w < e) ↔ (∀ e, o = some e → w < e) ∧ ∀ e, o' = some e → w < e := by
  match o, o' with
  | none, e => exact ⟨fun h => ⟨fun _ q => (by cases q), h⟩, fun h => h.2⟩
  | some a, none => exact ⟨fun h => ⟨h, fun _ q => (by cases q)⟩, fun h => h.1⟩
  | some a, some b =>
    unfold minE
    dsimp only
    by_cases c : b < a
    · rw [if_pos c]
      exact ⟨fun h => ⟨fun e q => (by cases q; exact List.lt_trans (h _ rfl) c), h⟩, fun h => h.2⟩
    · rw [if_neg c]
      exact ⟨fun h => ⟨h, fun e q => (by cases q; exact lt_le (h _ rfl) (le_of_nlt c))⟩, fun h => h.1⟩
theorem inter_in (p q : Pr) (w : Txt) : inS (interR p q) w = true ↔ inP w p = true ∧ inP w q = true := by
  have key : (maxT p.1 q.1 ≤ w ∧ ∀ e, minE p.2 q.2 = some e → w < e) ↔ inP w p = true ∧ inP w q = true := by
    rw [inP_iff, inP_iff, maxT_le, minE_lt]
    constructor
    · rintro ⟨⟨a, b⟩, c, d⟩; exact ⟨⟨a, c⟩, b, d⟩
    · rintro ⟨⟨a, c⟩, b, d⟩; exact ⟨⟨a, b⟩, c, d⟩
  rw [← key]
  unfold interR
  cases e : minE p.2 q.2 with
  | none =>
    rw [inS_mem]
    constructor
    · rintro ⟨x, m, h⟩
      rw [List.mem_singleton.mp m, inP_iff] at h
      exact h
    · intro h
      exact ⟨_, List.mem_singleton.mpr rfl, inP_iff.mpr h⟩
  | some z =>
    by_cases c : maxT p.1 q.1 < z
    · simp only [if_pos c]
      rw [inS_mem]
      constructor
      · rintro ⟨x, m, h⟩
        rw [List.mem_singleton.mp m, inP_iff] at h
        exact h
      · intro h
        exact ⟨_, List.mem_singleton.mpr rfl, inP_iff.mpr h⟩
    · simp only [if_neg c]
      constructor
      · intro h
        cases h
      · rintro ⟨h1, h2⟩
        exact absurd (le_lt h1 (h2 _ rfl)) c
theorem inter_first {p q : Pr} (h : interR p q ≠ []) : inP (maxT p.1 q.1) p = true ∧ inP (maxT p.1 q.1) q = true := by
  rw [← inter_in]
  unfold interR at h ⊢
  cases e : minE p.2 q.2 with
  | none => exact inS_mem.mpr ⟨_, List.mem_singleton.mpr rfl, inP_iff.mpr ⟨le_self _, fun e q => by cases q⟩⟩
  | some z =>
    rw [e] at h
    by_cases c : maxT p.1 q.1 < z
    · simp only [if_pos c]
      exact inS_mem.mpr ⟨_, List.mem_singleton.mpr rfl, inP_iff.mpr ⟨le_self _, fun e q => by cases q; exact c⟩⟩
    · simp only [if_neg c] at h
      exact absurd rfl h
theorem inter_ne {p q : Pr} : interR p q ≠ [] ↔ ∃ w, inP w p = true ∧ inP w q = true := by
  constructor
  · intro h
    exact ⟨_, inter_first h⟩
  · rintro ⟨w, h⟩ e
    have := (inter_in p q w).mpr h
    rw [e] at this
    cases this
def rangesR (r : Ru) (d2 d3 : D) (n : Int) : List Pr := match leastR r.low d2, greatR r.high d3 with
  | some p, some q => if n = 0 then [] else if n = 1 then interR p q else if n = 2 then interR p ([], q.2) ++ interR (p.1, none) q else interR (p.1, none) ([], q.2)
  | _, _ => []
def isNonD : D → Bool
  | .non => true
  | _ => false
def canH (r : Ru) (d2 d3 : D) (n : Int) : Bool := if n = 0 then isNonD d2 && isNonD d3 else !(rangesR r d2 d3 n).isEmpty
/-- the least text of the low is below the end of the high's -/
def Reach (r : Ru) (d2 d3 : D) : Prop := ∃ p q, leastR r.low d2 = some p ∧ greatR r.high d3 = some q ∧ ∀ e, q.2 = some e → p.1 < e
theorem cut_ok {d : D} {n : Nat} {p : Pr} (h : cutD d n = some p) : Abc p.1 ∧ p.1.length ≤ n ∧ inP p.1 p = true := by
  have h0 := h
  unfold cutD at h
  split at h
  · rename_i l
    by_cases c : abcB l = true ∧ l.length ≤ n
    · rw [if_pos c] at h
      cases h
      have al := abcB_iff.mp c.1
      exact ⟨al, c.2, (cut_in h0 al).mpr (by rw [List.take_of_length_le c.2])⟩
    · rw [if_neg c] at h
      cases h
  · cases h
theorem least_ok {lo : Option Nat} {d : D} {p : Pr} (h : leastR lo d = some p) : Abc p.1 ∧ inP p.1 p = true := by
  cases lo with
  | none =>
    have h : anyD d = some p := h
    unfold anyD at h
    split at h
    · cases h
      exact ⟨Abc.nil, inP_iff.mpr ⟨le_self _, fun e q => by cases q⟩⟩
    · cases h
  | some n => exact ⟨(cut_ok h).1, (cut_ok h).2.2⟩
theorem ledF_abc {l : Txt} {n : Nat} (h : Abc l) : Abc (ledF l n) := by
  unfold ledF
  cases e : l.getLast? with
  | none => exact h
  | some c =>
    have mc := List.mem_of_getLast? e
    have hc := h c mc
    by_cases q : c = 98 ∨ c = 99
    · simp only [if_pos q]
      intro x m
      rcases List.mem_append.mp m with m | m
      · rcases List.mem_append.mp m with m | m
        · rcases List.mem_append.mp m with m | m
          · exact h x (List.dropLast_subset _ m)
          · rw [List.mem_singleton.mp m]; omega
        · exact .inr (.inr (List.eq_of_mem_replicate m))
      · rw [List.mem_singleton.mp m]; exact .inl rfl
    · simp only [if_neg q]
      exact h
theorem great_ok {hi : Option (Nat × Nat)} {d : D} {p : Pr} (h : greatR hi d = some p) : Abc p.1 := by
  match hi, h with
  | none, h => exact (least_ok (lo := none) h).1
  | some (k, n), h =>
    unfold greatR at h
    dsimp only at h
    by_cases e : k = 0
    · rw [if_pos e] at h
      exact (cut_ok h).1
    · rw [if_neg e] at h
      unfold ledD at h
      split at h
      · cases h
        intro x m
        rcases List.mem_append.mp m with m | m
        · exact .inr (.inr (List.eq_of_mem_replicate m))
        · rw [List.mem_singleton.mp m]; exact .inl rfl
      · rename_i l _
        by_cases c : abcB l = true ∧ l.length ≤ n
        · rw [if_pos c] at h
          cases h
          exact ledF_abc (abcB_iff.mp c.1)
        · rw [if_neg c] at h
          cases h
      · cases h
theorem canH_ne {r : Ru} {d2 d3 : D} {n : Int} (h : n ≠ 0) : canH r d2 d3 n = true ↔ rangesR r d2 d3 n ≠ [] := by
  unfold canH
  rw [if_neg h]
  cases rangesR r d2 d3 n <;> simp
theorem can_many {r : Ru} {d2 d3 : D} {n : Int} (h0 : n ≠ 0) (h1 : n ≠ 1) : canH r d2 d3 n = true ↔ Reach r d2 d3 := by
  rw [canH_ne h0]
  unfold rangesR Reach
  cases e1 : leastR r.low d2 with
  | none => simp
  | some p =>
    cases e2 : greatR r.high d3 with
    | none => simp
    | some q =>
      obtain ⟨ap, ip⟩ := least_ok e1
      have far : interR (p.1, none) ([], q.2) ≠ [] ↔ ∀ e, q.2 = some e → p.1 < e := by
        rw [inter_ne]
        constructor
        · rintro ⟨w, h1, h2⟩ e he
          exact le_lt (inP_iff.mp h1).1 ((inP_iff.mp h2).2 e he)
        · intro h
          exact ⟨p.1, inP_iff.mpr ⟨le_self _, fun e q => by cases q⟩, inP_iff.mpr ⟨nil_le _, h⟩⟩
      have one : interR p ([], q.2) ≠ [] ↔ ∀ e, q.2 = some e → p.1 < e := by
        rw [inter_ne]
        constructor
        · rintro ⟨w, h1, h2⟩ e he
          exact le_lt (inP_iff.mp h1).1 ((inP_iff.mp h2).2 e he)
        · intro h
          exact ⟨p.1, ip, inP_iff.mpr ⟨nil_le _, h⟩⟩
      have two : interR (p.1, none) q ≠ [] → ∀ e, q.2 = some e → p.1 < e := by
        rw [inter_ne]
        rintro ⟨w, h1, h2⟩ e he
        exact le_lt (inP_iff.mp h1).1 ((inP_iff.mp h2).2 e he)
      simp only [if_neg h0, if_neg h1]
      have fin : (∃ p' q', some p = some p' ∧ some q = some q' ∧ ∀ e, q'.2 = some e → p'.1 < e) ↔ ∀ e, q.2 = some e → p.1 < e :=
        ⟨fun ⟨_, _, a, b, c⟩ => by cases a; cases b; exact c, fun c => ⟨p, q, rfl, rfl, c⟩⟩
      rw [fin]
      by_cases h2 : n = 2
      · rw [if_pos h2, Ne, List.append_eq_nil_iff]
        constructor
        · intro h
          by_cases z : interR p ([], q.2) = []
          · exact two fun y => h ⟨z, y⟩
          · exact one.mp z
        · intro h z
          exact one.mpr h z.1
      · rw [if_neg h2]
        exact far
theorem can_one {r : Ru} {d2 d3 : D} : canH r d2 d3 1 = true ↔ ∃ w, Abc w ∧ d2 = vD (lowT r.low w) ∧ d3 = vD (highT r.high w) := by
  rw [canH_ne (by decide)]
  unfold rangesR
  cases e1 : leastR r.low d2 with
  | none =>
    simp only [ne_eq, not_true_eq_false, false_iff]
    rintro ⟨w, a, h, _⟩
    exact least_no e1 a h
  | some p =>
    cases e2 : greatR r.high d3 with
    | none =>
      simp only [ne_eq, not_true_eq_false, false_iff]
      rintro ⟨w, a, _, h⟩
      exact great_no e2 a h
    | some q =>
      simp only [if_neg (show ¬ (1 : Int) = 0 by decide), if_pos rfl]
      have ap := (least_ok e1).1
      have aq := great_ok e2
      constructor
      · intro h
        obtain ⟨i1, i2⟩ := inter_first h
        have am : Abc (maxT p.1 q.1) := by
          rcases maxT_or p.1 q.1 with e | e <;> rw [e] <;> assumption
        exact ⟨_, am, (least_in e1 am).mp i1, (great_in e2 am).mp i2⟩
      · rintro ⟨w, a, h1, h2⟩
        exact inter_ne.mpr ⟨w, (least_in e1 a).mpr h1, (great_in e2 a).mpr h2⟩
theorem one_reach {r : Ru} {d2 d3 : D} (h : canH r d2 d3 1 = true) : Reach r d2 d3 := by
  obtain ⟨w, a, h1, h2⟩ := can_one.mp h
  cases e1 : leastR r.low d2 with
  | none => exact absurd h1 (least_no e1 a)
  | some p =>
    cases e2 : greatR r.high d3 with
    | none => exact absurd h2 (great_no e2 a)
    | some q =>
      have i1 := inP_iff.mp ((least_in e1 a).mpr h1)
      have i2 := inP_iff.mp ((great_in e2 a).mpr h2)
      exact ⟨p, q, e1, e2, fun e he => le_lt i1.1 (i2.2 e he)⟩
/-! ### the law's own words of it -/
/-- bounds that a rule can note -/
structure WfB (r : Ru) (low high : Option Txt) : Prop where
  low : ∀ l, low = some l → Abc l ∧ ∃ n, r.low = some n ∧ l.length ≤ n
  high : ∀ l, high = some l → Abc l ∧ ∃ k n, r.high = some (k, n) ∧ l.length ≤ n
def firstL (r : Ru) (low : Option Txt) : Option Txt := match r.low with
  | none => some []
  | some _ => low
def reachL (r : Ru) (high : Option Txt) (t : Txt) : Bool := match r.high with
  | none => true
  | some (k, n) => match high with
    | none => decide (k = 1)
    | some h => decide (t ≤ h) || decide (highT r.high t = some h)
theorem first_least {r : Ru} {low high : Option Txt} (W : WfB r low high) : (firstL r low = none ∧ leastR r.low (vD low) = none) ∨ ∃ p, firstL r low = some p.1 ∧ leastR r.low (vD low) = some p := by
  unfold firstL leastR
  cases e : r.low with
  | none =>
    cases low with
    | none => exact .inr ⟨([], none), rfl, rfl⟩
    | some l =>
      obtain ⟨_, n, q, _⟩ := W.low l rfl
      rw [e] at q
      cases q
  | some n =>
    cases low with
    | none => exact .inl ⟨rfl, rfl⟩
    | some l =>
      obtain ⟨a, m, q, hl⟩ := W.low l rfl
      rw [e] at q
      cases q
      refine .inr ⟨(l, if l.length = n then bey l else some (l ++ [97])), rfl, ?_⟩
      show cutD (.str l) n = _
      unfold cutD
      dsimp only
      rw [if_pos ⟨abcB_iff.mpr a, hl⟩]
theorem reach_eq {r : Ru} {low high : Option Txt} (W : WfB r low high) (hk : ∀ k n, r.high = some (k, n) → k < 2) {p : Pr} (hp : leastR r.low (vD low) = some p) : reachL r high p.1 = true ↔ Reach r (vD low) (vD high) := by
  have ap := (least_ok hp).1
  have red : Reach r (vD low) (vD high) ↔ ∃ q, greatR r.high (vD high) = some q ∧ ∀ e, q.2 = some e → p.1 < e :=
    ⟨fun ⟨p', q, a, b, c⟩ => by rw [hp] at a; cases a; exact ⟨q, b, c⟩, fun ⟨q, b, c⟩ => ⟨p, q, hp, b, c⟩⟩
  rw [red]
  unfold reachL
  cases e : r.high with
  | none =>
    cases high with
    | none => exact ⟨fun _ => ⟨([], none), rfl, fun e q => by cases q⟩, fun _ => rfl⟩
    | some l =>
      obtain ⟨_, k, n, q, _⟩ := W.high l rfl
      rw [e] at q
      cases q
  | some kn =>
    obtain ⟨k, n⟩ := kn
    have k2 := hk k n e
    dsimp only
    cases high with
    | none =>
      dsimp only
      by_cases k0 : k = 0
      · subst k0
        exact ⟨fun h => absurd h (by decide), fun ⟨q, h, _⟩ => (by cases h)⟩
      · have k1 : k = 1 := by omega
        subst k1
        exact ⟨fun _ => ⟨(List.replicate n 99 ++ [97], none), rfl, fun e q => by cases q⟩, fun _ => rfl⟩
    | some h =>
      obtain ⟨ah, k', n', q, hl⟩ := W.high h rfl
      rw [e] at q
      cases q
      have hq : ∃ q, greatR (some (k, n)) (vD (some h)) = some q := by
        unfold greatR
        dsimp only
        by_cases k0 : k = 0
        · rw [if_pos k0]
          refine ⟨(h, if h.length = n then bey h else some (h ++ [97])), ?_⟩
          show cutD (.str h) n = _
          unfold cutD
          dsimp only
          rw [if_pos ⟨abcB_iff.mpr ah, hl⟩]
        · rw [if_neg k0]
          refine ⟨(ledF h n, some (h ++ [97])), ?_⟩
          show ledD (.str h) n = _
          unfold ledD
          dsimp only
          rw [if_pos ⟨abcB_iff.mpr ah, hl⟩]
      obtain ⟨q, hq⟩ := hq
      have hh : inP h q = true := (great_in hq ah).mpr (by
        unfold highT
        dsimp only
        rw [if_pos hl])
      rw [Bool.or_eq_true, decide_eq_true_iff, decide_eq_true_iff, hq]
      constructor
      · rintro (z | z)
        · exact ⟨q, rfl, fun e he => le_lt z ((inP_iff.mp hh).2 e he)⟩
        · have := (great_in hq ap).mpr (by rw [z])
          exact ⟨q, rfl, (inP_iff.mp this).2⟩
      · rintro ⟨q', e1, c⟩
        cases e1
        by_cases z : p.1 ≤ h
        · exact .inl z
        · right
          have lt : h < p.1 := by
            by_cases y : h < p.1
            · exact y
            · exact absurd (le_of_nlt y) z
          have i : inP p.1 q = true := inP_iff.mpr ⟨List.le_trans (inP_iff.mp hh).1 (lt_le' lt), c⟩
          have := (great_in hq ap).mp i
          cases y : highT (some (k, n)) p.1 with
          | none => rw [y] at this; cases this
          | some w => rw [y] at this; injection this with this; rw [this]
/-- texts among which those stand at which a range begins -/
structure EdgOk (r : Ru) (low high : Option Txt) (es : List Txt) : Prop where
  abc : ∀ l ∈ es, Abc l ∧ l.length ≤ 20
  lo : ∀ p, leastR r.low (vD low) = some p → p.1 ∈ es
  hi : ∀ p, greatR r.high (vD high) = some p → p.1 ∈ es
  ne : [] ∈ es
def jointL (r : Ru) (low high : Option Txt) (es : List Txt) : Bool := es.any fun l => decide (lowT r.low l = low) && decide (highT r.high l = high)
theorem vD_inj {a b : Option Txt} (h : vD a = vD b) : a = b := by
  cases a <;> cases b <;> first | rfl | (injection h with h; rw [h]) | (cases h)
theorem joint_eq {r : Ru} {low high : Option Txt} {es : List Txt} (E : EdgOk r low high es) : jointL r low high es = true ↔ canH r (vD low) (vD high) 1 = true := by
  unfold jointL
  rw [List.any_eq_true]
  constructor
  · rintro ⟨l, m, h⟩
    rw [Bool.and_eq_true, decide_eq_true_iff, decide_eq_true_iff] at h
    exact can_one.mpr ⟨l, (E.abc l m).1, by rw [h.1], by rw [h.2]⟩
  · intro h
    obtain ⟨p, q, e1, e2, _⟩ := one_reach h
    have h2 := (canH_ne (by decide)).mp h
    unfold rangesR at h2
    rw [e1, e2] at h2
    simp only [if_neg (show ¬ (1 : Int) = 0 by decide), if_pos rfl] at h2
    obtain ⟨i1, i2⟩ := inter_first h2
    have m : maxT p.1 q.1 ∈ es := by
      rcases maxT_or p.1 q.1 with e | e <;> rw [e]
      · exact E.lo p e1
      · exact E.hi q e2
    have am := (E.abc _ m).1
    refine ⟨_, m, ?_⟩
    rw [Bool.and_eq_true, decide_eq_true_iff, decide_eq_true_iff]
    exact ⟨(vD_inj ((least_in e1 am).mp i1)).symm, (vD_inj ((great_in e2 am).mp i2)).symm⟩
def fitsL (r : Ru) (low high : Option Txt) (es : List Txt) (n : Int) : Bool :=
  if n = 0 then decide (low = none) && decide (high = none)
  else match firstL r low with
    | none => false
    | some f => reachL r high f && (decide (n > 1) || jointL r low high es)
theorem fits_eq {r : Ru} {low high : Option Txt} {es : List Txt} (W : WfB r low high) (hk : ∀ k n, r.high = some (k, n) → k < 2) (E : EdgOk r low high es) {n : Int} (h0 : 0 ≤ n) : fitsL r low high es n = canH r (vD low) (vD high) n := by
  unfold fitsL
  by_cases n0 : n = 0
  · subst n0
    rw [if_pos rfl]
    unfold canH
    rw [if_pos rfl]
    cases low <;> cases high <;> rfl
  rw [if_neg n0]
  rcases first_least W with ⟨e1, e2⟩ | ⟨p, e1, e2⟩
  · rw [e1]
    symm
    rw [Bool.eq_false_iff]
    intro h
    have h2 := (canH_ne n0).mp h
    unfold rangesR at h2
    rw [e2] at h2
    exact h2 rfl
  · rw [e1]
    dsimp only
    rw [Bool.eq_iff_iff, Bool.and_eq_true, reach_eq W hk e2, Bool.or_eq_true, decide_eq_true_iff]
    by_cases n1 : n = 1
    · subst n1
      rw [joint_eq E]
      constructor
      · rintro ⟨_, h | h⟩
        · exact absurd h (by decide)
        · exact h
      · intro h
        exact ⟨one_reach h, .inr h⟩
    · rw [can_many n0 n1]
      exact ⟨fun h => h.1, fun h => ⟨h, .inl (by omega)⟩⟩
/-! ### the numbers of texts, all together -/
def leftI (m : Int) : D → Int × Int
  | .non => (0, m)
  | .bl true => (0, m - 1)
  | .bl false => (m, m)
  | .int x => (m - x, m - x)
  | _ => (0, m)
def inrI (fs : Int × Int) (n : Int) : Bool := decide (fs.1 ≤ n) && decide (n ≤ fs.2)
def numI (r : Ru) (fs : Int × Int) (d2 d3 : D) : List Int := ([fs.1, 1, 2, fs.2].filter (inrI fs)).filter (canH r d2 d3)
def numR (r : Ru) (m : Int) (d1 d2 d3 : D) : List Int := numI r (leftI m d1) d2 d3
theorem inrI_iff {fs : Int × Int} {n : Int} : inrI fs n = true ↔ fs.1 ≤ n ∧ n ≤ fs.2 := by
  unfold inrI
  rw [Bool.and_eq_true, decide_eq_true_iff, decide_eq_true_iff]
theorem num_mem {r : Ru} {fs : Int × Int} {d2 d3 : D} {x : Int} : x ∈ numI r fs d2 d3 ↔ (x = fs.1 ∨ x = 1 ∨ x = 2 ∨ x = fs.2) ∧ fs.1 ≤ x ∧ x ≤ fs.2 ∧ canH r d2 d3 x = true := by
  unfold numI
  rw [List.mem_filter, List.mem_filter, inrI_iff]
  simp only [List.mem_cons, List.not_mem_nil, or_false]
  exact ⟨fun ⟨⟨a, b, c⟩, d⟩ => ⟨a, b, c, d⟩, fun ⟨a, b, c, d⟩ => ⟨⟨a, b, c⟩, d⟩⟩
theorem num_asc (r : Ru) (fs : Int × Int) (d2 d3 : D) : (numI r fs d2 d3).Pairwise (· ≤ ·) := by
  unfold numI
  refine List.Pairwise.filter _ ?_
  rw [List.pairwise_filter]
  have k : ∀ {x y : Int}, (x = fs.1 ∨ y = fs.2 ∨ x ≤ y) → inrI fs x = true → inrI fs y = true → x ≤ y := fun h a b => by
    have a := inrI_iff.mp a
    have b := inrI_iff.mp b
    rcases h with rfl | rfl | h
    · exact b.1
    · exact a.2
    · exact h
  simp only [List.pairwise_cons, List.mem_cons, List.not_mem_nil, or_false, forall_eq_or_imp, forall_eq, false_implies, implies_true, List.Pairwise.nil, and_true]
  exact ⟨⟨k (.inl rfl), k (.inl rfl), k (.inl rfl)⟩, ⟨k (.inr (.inr (by decide))), k (.inr (.inl rfl))⟩, k (.inr (.inl rfl))⟩
theorem asc_ends : ∀ {xs : List Int}, xs.Pairwise (· ≤ ·) → xs ≠ [] → ∃ a b, xs[0]? = some a ∧ xs[xs.length - 1]? = some b ∧ a ∈ xs ∧ b ∈ xs ∧ ∀ x ∈ xs, a ≤ x ∧ x ≤ b
  | [], _, h => absurd rfl h
  | x :: xs, h, _ => by
    have h0 := List.pairwise_cons.mp h
    by_cases e : xs = []
    · subst e
      exact ⟨x, x, rfl, rfl, by simp, by simp, fun y m => by rw [List.mem_singleton.mp m]; exact ⟨Int.le_refl _, Int.le_refl _⟩⟩
    · obtain ⟨a, b, _, hb, _, mb, hall⟩ := asc_ends h0.2 e
      have l0 : 0 < xs.length := List.length_pos_iff.mpr e
      refine ⟨x, b, rfl, ?_, by simp, List.mem_cons_of_mem _ mb, fun y m => ?_⟩
      · rw [List.length_cons, Nat.add_sub_cancel]
        obtain ⟨k, hk⟩ : ∃ k, xs.length = k + 1 := ⟨xs.length - 1, by omega⟩
        rw [hk, List.getElem?_cons_succ, ← hb, hk]
        rfl
      · rcases List.mem_cons.mp m with rfl | m
        · exact ⟨Int.le_refl _, h0.1 _ mb⟩
        · exact ⟨h0.1 _ m, (hall y m).2⟩
/-- a number of texts that some page has -/
structure CanN (r : Ru) (d2 d3 : D) (n : Int) : Prop where
  p : 0 ≤ n
  z : n = 0 → canH r d2 d3 0 = true
  o : n = 1 → canH r d2 d3 1 = true
  m : 1 ≤ n → Reach r d2 d3
theorem num_around {r : Ru} {fs : Int × Int} {d2 d3 : D} {n : Int} (h : CanN r d2 d3 n) (h0 : 0 ≤ fs.1) (h1 : fs.1 ≤ n) (h2 : n ≤ fs.2) : (∃ x ∈ numI r fs d2 d3, x ≤ n) ∧ ∃ y ∈ numI r fs d2 d3, n ≤ y := by
  have many : ∀ k : Int, 2 ≤ k → 1 ≤ n → canH r d2 d3 k = true := fun k hk hn => (can_many (by omega) (by omega)).mpr (h.m hn)
  rcases (by have := h.p; omega : n = 0 ∨ n = 1 ∨ 2 ≤ n) with e | e | e
  · subst e
    have m : (0 : Int) ∈ numI r fs d2 d3 := num_mem.mpr ⟨.inl (by omega), h1, h2, h.z rfl⟩
    exact ⟨⟨0, m, Int.le_refl _⟩, 0, m, Int.le_refl _⟩
  · subst e
    have m : (1 : Int) ∈ numI r fs d2 d3 := num_mem.mpr ⟨.inr (.inl rfl), h1, h2, h.o rfl⟩
    exact ⟨⟨1, m, Int.le_refl _⟩, 1, m, Int.le_refl _⟩
  · refine ⟨?_, fs.2, num_mem.mpr ⟨.inr (.inr (.inr rfl)), by omega, Int.le_refl _, many _ (by omega) (by omega)⟩, h2⟩
    by_cases c : fs.1 ≤ 2
    · exact ⟨2, num_mem.mpr ⟨.inr (.inr (.inl rfl)), c, by omega, many _ (by omega) (by omega)⟩, e⟩
    · exact ⟨fs.1, num_mem.mpr ⟨.inl rfl, Int.le_refl _, by omega, many _ (by omega) (by omega)⟩, h1⟩
theorem highT_len {hi : Option (Nat × Nat)} {w m : Txt} (a : Abc w) (h : highT hi w = some m) : Abc m ∧ ∃ k n, hi = some (k, n) ∧ m.length ≤ n := by
  match hi, h with
  | none, h => cases h
  | some (k, n), h =>
    have at_ : Abc (w.take n) := fun c m => a c (List.mem_of_mem_take m)
    unfold highT at h
    dsimp only at h
    by_cases c : w.length ≤ n
    · rw [if_pos c] at h
      cases h
      exact ⟨a, k, n, rfl, c⟩
    · rw [if_neg c] at h
      by_cases e : k = 0
      · rw [if_pos e] at h
        cases h
        exact ⟨at_, k, n, rfl, by rw [List.length_take]; omega⟩
      · rw [if_neg e, beyR_bey at_] at h
        obtain ⟨x1, x2, _⟩ := beyR_ok at_ h
        exact ⟨x1, k, n, rfl, by rw [List.length_take] at x2; omega⟩
theorem made_wf {r : Ru} {os : List (Option Txt)} (c : Col os) : WfB r (lowO r.low (txs os)) (highO r.high (txs os)) := by
  constructor
  · intro l h
    unfold lowO at h
    by_cases e : txs os = []
    · rw [if_pos e] at h; cases h
    · rw [if_neg e] at h
      have am := (c.ok _ (mem_txs.mp (mn_mem e))).1
      unfold lowT at h
      cases q : r.low with
      | none => rw [q] at h; cases h
      | some n =>
        rw [q] at h
        cases h
        exact ⟨fun x m => am x (List.mem_of_mem_take m), n, rfl, by rw [List.length_take]; omega⟩
  · intro l h
    unfold highO at h
    by_cases e : txs os = []
    · rw [if_pos e] at h; cases h
    · rw [if_neg e] at h
      exact highT_len (c.ok _ (mem_txs.mp (mx_mem e))).1 h
theorem made_can {r : Ru} {os : List (Option Txt)} (c : Col os) : CanN r (vD (lowO r.low (txs os))) (vD (highO r.high (txs os))) ((txs os).length : Nat) := by
  have ab : ∀ l ∈ txs os, Abc l := fun l m => (c.ok _ (mem_txs.mp m)).1
  have two : txs os ≠ [] → lowO r.low (txs os) = lowT r.low (mn (txs os)) ∧ highO r.high (txs os) = highT r.high (mx (txs os)) := fun e => by
    unfold lowO highO
    rw [if_neg e, if_neg e]
    exact ⟨rfl, rfl⟩
  refine ⟨by omega, fun h => ?_, fun h => ?_, fun h => ?_⟩
  · have e : txs os = [] := List.length_eq_zero_iff.mp (by omega)
    unfold lowO highO canH
    rw [if_pos e, if_pos e]
    rfl
  · obtain ⟨t, e⟩ := List.length_eq_one_iff.mp (show (txs os).length = 1 by omega)
    obtain ⟨e1, e2⟩ := two (by rw [e]; simp)
    rw [e1, e2, e]
    exact can_one.mpr ⟨t, ab t (by rw [e]; simp), rfl, rfl⟩
  · have e : txs os ≠ [] := fun z => by rw [z] at h; exact absurd h (by decide)
    obtain ⟨e1, e2⟩ := two e
    rw [e1, e2]
    have a1 := ab _ (mn_mem e)
    have a2 := ab _ (mx_mem e)
    cases q1 : leastR r.low (vD (lowT r.low (mn (txs os)))) with
    | none => exact absurd rfl (least_no q1 a1)
    | some p =>
      cases q2 : greatR r.high (vD (highT r.high (mx (txs os)))) with
      | none => exact absurd rfl (great_no q2 a2)
      | some q =>
        have i1 := inP_iff.mp ((least_in q1 a1).mpr rfl)
        have i2 := inP_iff.mp ((great_in q2 a2).mpr rfl)
        exact ⟨p, q, q1, q2, fun z hz => le_lt (List.le_trans i1.1 (mn_le (mx_mem e))) (i2.2 z hz)⟩
/-- what lacks part a note with a greater count has -/
def grownD (k g m more : Nat) (more_ : Bool) : D := match k with
  | 0 => .int ((g + (if more_ = true then more else 0) : Nat) : Int)
  | 1 => .bl (decide ((g : Int) > 0))
  | _ => .non
theorem CanN.more {r : Ru} {d2 d3 : D} {n : Int} (h : CanN r d2 d3 n) (h1 : 1 ≤ n) (k : Nat) : CanN r d2 d3 (n + k) :=
  ⟨by omega, fun e => by omega, fun e => h.o (by omega), fun _ => h.m h1⟩
theorem grown_can {r : Ru} {os : List (Option Txt)} (c : Col os) (h0 : 0 < os.length) {more : Nat} {b : Bool} (hb : gone os = os.length → b = true) :
    0 ≤ (leftI ((os.length + more : Nat) : Int) (grownD r.lacks (gone os) os.length more b)).1 ∧ ∃ n, CanN r (vD (lowO r.low (txs os))) (vD (highO r.high (txs os))) n ∧ (leftI ((os.length + more : Nat) : Int) (grownD r.lacks (gone os) os.length more b)).1 ≤ n ∧ n ≤ (leftI ((os.length + more : Nat) : Int) (grownD r.lacks (gone os) os.length more b)).2 ∧ (more = 0 → n = ((txs os).length : Nat)) := by
  have cn := made_can (r := r) c
  have tl := txs_len os
  have gl : gone os = os.length - (txs os).length := rfl
  unfold grownD
  split
  · -- many
    cases b with
    | true =>
      rw [if_pos rfl]
      show (0 : Int) ≤ ((os.length + more : Nat) : Int) - ((gone os + more : Nat) : Int) ∧ ∃ n, _ ∧ ((os.length + more : Nat) : Int) - ((gone os + more : Nat) : Int) ≤ n ∧ n ≤ ((os.length + more : Nat) : Int) - ((gone os + more : Nat) : Int) ∧ _
      exact ⟨by omega, _, cn, by omega, by omega, fun _ => rfl⟩
    | false =>
      rw [if_neg (by decide)]
      have ng : gone os ≠ os.length := fun e => by have := hb e; cases this
      have n1 : (1 : Int) ≤ ((txs os).length : Nat) := by omega
      show (0 : Int) ≤ ((os.length + more : Nat) : Int) - ((gone os + 0 : Nat) : Int) ∧ ∃ n, _ ∧ ((os.length + more : Nat) : Int) - ((gone os + 0 : Nat) : Int) ≤ n ∧ n ≤ ((os.length + more : Nat) : Int) - ((gone os + 0 : Nat) : Int) ∧ _
      exact ⟨by omega, _, cn.more n1 more, by omega, by omega, fun e => by rw [e]; omega⟩
  · -- some
    by_cases g0 : (gone os : Int) > 0
    · rw [decide_eq_true g0]
      show (0 : Int) ≤ 0 ∧ ∃ n, _ ∧ (0 : Int) ≤ n ∧ n ≤ ((os.length + more : Nat) : Int) - 1 ∧ _
      exact ⟨by omega, _, cn, by omega, by omega, fun _ => rfl⟩
    · rw [decide_eq_false g0]
      have n1 : (1 : Int) ≤ ((txs os).length : Nat) := by omega
      show (0 : Int) ≤ ((os.length + more : Nat) : Int) ∧ ∃ n, _ ∧ ((os.length + more : Nat) : Int) ≤ n ∧ n ≤ ((os.length + more : Nat) : Int) ∧ _
      exact ⟨by omega, _, cn.more n1 more, by omega, by omega, fun e => by rw [e]; omega⟩
  · show (0 : Int) ≤ 0 ∧ ∃ n, _ ∧ (0 : Int) ≤ n ∧ n ≤ ((os.length + more : Nat) : Int) ∧ _
    exact ⟨by omega, _, cn, by omega, by omega, fun _ => rfl⟩
abbrev s_behind : Stmt := topS 18
abbrev N_behind : List Str := ["text"]
theorem sc_behind : FnScope ["text"] ["text"] (defScope s_behind) := ⟨rfl, rfl, rfl, by decide +kernel, rfl, by decide +kernel, by decide +kernel⟩

abbrev s_texts_cut_to : Stmt := topS 62
abbrev N_texts_cut_to : List Str := ["noted", "letters", "end"]
theorem sc_texts_cut_to : FnScope ["noted", "letters", "end"] ["noted", "letters"] (defScope s_texts_cut_to) := ⟨rfl, rfl, rfl, by decide +kernel, rfl, by decide +kernel, by decide +kernel⟩

abbrev s_texts_led_beyond : Stmt := topS 63
abbrev N_texts_led_beyond : List Str := ["noted", "letters", "start"]
theorem sc_texts_led_beyond : FnScope ["noted", "letters", "start"] ["noted", "letters"] (defScope s_texts_led_beyond) := ⟨rfl, rfl, rfl, by decide +kernel, rfl, by decide +kernel, by decide +kernel⟩

abbrev s_least_texts : Stmt := topS 60
abbrev N_least_texts : List Str := ["low", "noted"]
theorem sc_least_texts : FnScope ["low", "noted"] ["low", "noted"] (defScope s_least_texts) := ⟨rfl, rfl, rfl, by decide +kernel, rfl, by decide +kernel, by decide +kernel⟩

abbrev s_greatest_texts : Stmt := topS 61
abbrev N_greatest_texts : List Str := ["high", "noted", "way", "letters"]
theorem sc_greatest_texts : FnScope ["high", "noted", "way", "letters"] ["high", "noted"] (defScope s_greatest_texts) := ⟨rfl, rfl, rfl, by decide +kernel, rfl, by decide +kernel, by decide +kernel⟩

/-! ### the ranges of a note, in the program -/
def rgD (p : Pr) : D := .tup [.str p.1, vD p.2]
def opD : Option Pr → D
  | none => .non
  | some p => rgD p
def spBehd (K : PySem.W.Frag) : Sp := fun vs H Q _ => ∃ l : Txt, vs = [Tx l] ∧ Abc l ∧ l.length ≤ 1000 ∧ ∀ H', Stp [] H H' → Q (Tx (l ++ [97])) H'
theorem cl_behind {f : Addr} {fd : FuncData} (D : Df K mg "behind" s_behind ["text"] f fd) (T : Nm mg) (c_check_text : Cl P w K mg base 2 "check_text" s_check_text ["text"] (spCk K isTxt)) : Cl P w K mg base 3 "behind" s_behind ["text"] (spBehd K) := by
  refine D.cl sc_behind (fun vs H Q E h => ?_) (fun cdv A outer s H vs Q E hr h => ?_)
  · obtain ⟨l, rfl, _⟩ := h
    rfl
  · obtain ⟨l, rfl, al, ll, k⟩ := h
    refine ⟨_, (pss_cons (ps_expr (pe_cl c_check_text hr (by omega) (pa_cons (pv 0) pa_nil)))
      (pss_one (ps_ret (pe_op op_add_str (pv 0) pe_str)))), ?_⟩
    refine ⟨_, rfl, [], Tx l, .str l, rfl, .str l (by omega), abcB_iff.mpr al, trivial, fun H1 S1 => ?_⟩
    refine ⟨_, rfl, tx l, tx [97], rfl, congrArg V.str a_lit, by rw [tx_len, tx_len]; exact sz (by simp; omega), ?_⟩
    rw [tx_app]
    exact k H1 S1
def spCutTo (K : PySem.W.Frag) : Sp := fun vs H Q _ => ∃ (S : List Addr) (u : V) (d : D) (n : Nat), vs = [u, .int (n : Int)] ∧ Rv K S H u d ∧ n ≤ 900 ∧ ∀ v H', Stp [] H H' → Rv K [] H' v (opD (cutD d n)) → Q v H'
theorem cut_none {d : D} {n : Nat} (h : isTxt d = false) : cutD d n = none := by
  unfold cutD
  cases d with
  | str l =>
    dsimp only
    rw [if_neg fun c => by
      rw [show isTxt (.str l) = abcB l from rfl] at h
      rw [h] at c
      cases c.1]
  | _ => rfl
theorem rv_bey {K : PySem.W.Frag} {S : List Addr} {H : Hp} {l : Txt} (a : Abc l) (hl : l.length ≤ 1000) : Rv K S H (vV (bey l)) (vD (bey l)) := rv_v fun m e => by have := (abc_bey a e).2; omega
theorem cl_texts_cut_to {f : Addr} {fd : FuncData} (D : Df K mg "texts_cut_to" s_texts_cut_to ["noted", "letters"] f fd) (T : Nm mg) (c_is_text : Cl P w K mg base 1 "is_text" s_is_text ["value"] (spTell K isTxt)) (c_beyond : Cl P w K mg base 3 "beyond" s_beyond ["text"] (spBey K)) (c_behind : Cl P w K mg base 3 "behind" s_behind ["text"] (spBehd K)) :
    Cl P w K mg base 4 "texts_cut_to" s_texts_cut_to ["noted", "letters"] (spCutTo K) := by
  refine D.cl sc_texts_cut_to (fun vs H Q E h => ?_) (fun cdv A outer s H vs Q E hr h => ?_)
  · obtain ⟨S, u, d, n, rfl, _⟩ := h
    rfl
  · obtain ⟨S, u, d, n, rfl, ru, hn, k⟩ := h
    refine ⟨_, (pss_cons (ps_if (PW.pt (pw_or (pt_not (pt_val (pe_cl c_is_text hr (by omega) (pa_cons (pv 0) pa_nil)))) (pw_or1 (pt_cmpR op_gt (pe_callB call_len_str (by rfl) T.n_len (by decide +kernel) (pa_cons (pv 0) pa_nil)) (pv 1) (by first | exact nomark _ | rfl))))) (pss_one (ps_ret pe_non)) pss_nil)
      (pss_cons (ps_set (i := 2) sc_texts_cut_to.nd rfl (by first | exact Or.inl rfl | exact Or.inr rfl) (pe_ifExp (pt_cmpR op_eq (pe_callB call_len_str (by rfl) T.n_len (by decide +kernel) (pa_cons (pv 0) pa_nil)) (pv 1) (by first | exact nomark _ | rfl)) (pe_cl c_beyond hr (by omega) (pa_cons (pv 0) pa_nil)) (pe_cl c_behind hr (by omega) (pa_cons (pv 0) pa_nil))))
      (pss_one (ps_ret (pe_tup (pa_cons (pv 0) (pa_cons (pv 2) pa_nil))))))), ?_⟩
    refine ⟨_, rfl, S, u, d, rfl, ru, fun H1 b S1 eb => ?_⟩
    refine ⟨_, rfl, ite2 (fun h => ?_) (fun h => ?_)⟩
    · rw [cut_none (by rw [← eb]; simpa using h)] at k
      exact k _ _ S1 .non
    · have ht : isTxt d = true := by rw [← eb]; simpa using h
      obtain ⟨l, rfl⟩ : ∃ l, d = .str l := by
        cases d <;> first | exact ⟨_, rfl⟩ | cases ht
      have al : Abc l := abcB_iff.mp ht
      cases ru with
      | str _ hl =>
      refine ⟨_, rfl, _, rfl, szt (by omega), _, rfl, _, _, rfl, rfl, _, rfl, ?_⟩
      rw [tx_len]
      refine ite2 (fun h => ?_) (fun h => ?_)
      · have h := of_decide_eq_true h
        have e : cutD (.str l) n = none := by
          unfold cutD
          dsimp only
          rw [if_neg fun c => by omega]
        rw [e] at k
        exact k _ _ S1 .non
      · have h : l.length ≤ n := by
          have : ¬ ((l.length : Int) > (n : Int)) := fun q => h (decide_eq_true q)
          omega
        have e : cutD (.str l) n = some (l, if l.length = n then bey l else some (l ++ [97])) := by
          unfold cutD
          dsimp only
          rw [if_pos ⟨ht, h⟩]
        rw [e] at k
        dsimp only [tNext]
        refine seq_end (fun σ H' => σ = [some (Tx l), some (.int (n : Int)), some (vV (if l.length = n then bey l else some (l ++ [97])))] ∧ Stp [] H1 H') ?_ (fun fin => ?_)
        rotate_left
        · refine ⟨_, rfl, _, rfl, szt (by omega), _, rfl, rfl, _, rfl, ?_⟩
          rw [tx_len]
          refine ite2 (fun h2 => ?_) (fun h2 => ?_)
          · have h2 : l.length = n := by have := V.int.inj (of_decide_eq_true h2); omega
            refine ⟨_, rfl, l, rfl, al, by omega, fun H2 S2 => ?_⟩
            exact fin _ _ ⟨by rw [if_pos h2]; rfl, S2⟩
          · have h2 : l.length ≠ n := fun e => h2 (by rw [e]; exact decide_eq_true rfl)
            refine ⟨_, rfl, l, rfl, al, by omega, fun H2 S2 => ?_⟩
            exact fin _ _ ⟨by rw [if_neg h2]; rfl, S2⟩
        rintro σ H2 ⟨rfl, S2⟩
        refine ⟨_, rfl, _, rfl, (by show 2 ≤ sizeLine; decide), fun p np => ?_⟩
        refine k _ _ ((S1.trans S2).new' np) (Rv.newT np (.cons (.str l (by omega)) (.cons ?_ .nil)) (by simp))
        refine rv_v fun m e => ?_
        by_cases h2 : l.length = n
        · rw [if_pos h2] at e
          have := (abc_bey al e).2
          omega
        · rw [if_neg h2] at e
          cases e
          simp
          omega
theorem last1 (l : Txt) : cutS (tx l) (some (-1)) none = tx (l.drop (l.length - 1)) := by
  rw [tx_cut, HT.sIx_none]
  have e : HT.sIx l.length 0 (some (-1)) = l.length - 1 := by
    show HT.sIx l.length 0 (some (-1 : Int)) = _
    unfold HT.sIx
    simp
    omega
  rw [e, List.take_of_length_le (by rw [List.length_drop]; omega)]
def spLed (K : PySem.W.Frag) : Sp := fun vs H Q _ => ∃ (S : List Addr) (u : V) (d : D) (n : Nat), vs = [u, .int (n : Int)] ∧ Rv K S H u d ∧ n ≤ 900 ∧ ∀ v H', Stp [] H H' → Rv K [] H' v (opD (ledD d n)) → Q v H'
theorem led_none {d : D} {n : Nat} (h0 : d ≠ .non) (h : isTxt d = false) : ledD d n = none := by
  unfold ledD
  cases d with
  | str l =>
    dsimp only
    rw [if_neg fun c => by
      rw [show isTxt (.str l) = abcB l from rfl] at h
      rw [h] at c
      cases c.1]
  | non => exact absurd rfl h0
  | _ => rfl
theorem padOk {n : Nat} (h : n ≤ 900) : PadOk (n : Int) = true := by
  have k : ∀ n ∈ List.range 901, PadOk ((n : Nat) : Int) = true := by decide +kernel
  exact k n (List.mem_range.mpr (by omega))
theorem ljust_tx (l : Txt) (n c : Nat) : Txt.ljustF (tx l) (n : Int) c = tx (l ++ List.replicate (n - l.length) c) := by
  have e := ljustF_list (tx l) (n : Int) c
  have q : ∀ s : Str, s = tx s.cps.toList := fun s => by cases s; simp [tx]
  rw [q (Txt.ljustF (tx l) (n : Int) c), e, tx_len]
  simp [tx]
theorem cl_texts_led_beyond {f : Addr} {fd : FuncData} (D : Df K mg "texts_led_beyond" s_texts_led_beyond ["noted", "letters"] f fd) (T : Nm mg) (TG : Ng K w mg) (c_is_text : Cl P w K mg base 1 "is_text" s_is_text ["value"] (spTell K isTxt)) (c_behind : Cl P w K mg base 3 "behind" s_behind ["text"] (spBehd K)) :
    Cl P w K mg base 4 "texts_led_beyond" s_texts_led_beyond ["noted", "letters"] (spLed K) := by
  refine D.cl sc_texts_led_beyond (fun vs H Q E h => ?_) (fun cdv A outer s H vs Q E hr h => ?_)
  · obtain ⟨S, u, d, n, rfl, _⟩ := h
    rfl
  · obtain ⟨S, u, d, n, rfl, ru, hn, k⟩ := h
    refine ⟨_, (pss_cons (ps_if (pt_cmpR op_isN (pv 0) pe_non (by first | exact nomark _ | rfl)) (pss_one (ps_ret (pe_tup (pa_cons (pe_op op_add_str (pe_op Pg.op_mul_str pe_str (pv 1)) pe_str) (pa_cons pe_non pa_nil))))) pss_nil)
      (pss_cons (ps_if (PW.pt (pw_or (pt_not (pt_val (pe_cl c_is_text hr (by omega) (pa_cons (pv 0) pa_nil)))) (pw_or1 (pt_cmpR op_gt (pe_callB call_len_str (by rfl) T.n_len (by decide +kernel) (pa_cons (pv 0) pa_nil)) (pv 1) (by first | exact nomark _ | rfl))))) (pss_one (ps_ret pe_non)) pss_nil)
      (pss_cons (ps_if (pt_cmpR op_notInKd (pe_slice sl_str (pv 0) (po_some (pe_un un_neg pe_int)) po_none) (pe_glob (v := .ref TG.LETTERS_BEFORE) rfl TG.g_LETTERS_BEFORE rfl) (by first | exact nomark _ | rfl)) (pss_one (ps_ret (pe_tup (pa_cons (pv 0) (pa_cons (pe_cl c_behind hr (by omega) (pa_cons (pv 0) pa_nil)) pa_nil))))) pss_nil)
      (pss_cons (ps_set (i := 2) sc_texts_led_beyond.nd rfl (by first | exact Or.inl rfl | exact Or.inr rfl) (pe_bm PySem.F.plainAttrs_str PySem.F.slot_str_ljust PySem.F.type_str_ljust Pg.mt_ljustF (pe_op op_add_str (pe_slice sl_str (pv 0) po_none (po_some (pe_un un_neg pe_int))) (pe_ix ix_kdict (pe_glob (v := .ref TG.LETTERS_BEFORE) rfl TG.g_LETTERS_BEFORE rfl) (pe_ix ix_str (pv 0) (pe_un un_neg pe_int) (fun _ _ => rfl)) (fun _ _ => rfl))) (pa_cons (pv 1) (pa_cons pe_str pa_nil))))
      (pss_one (ps_ret (pe_tup (pa_cons (pe_op op_add_str (pv 2) pe_str) (pa_cons (pe_cl c_behind hr (by omega) (pa_cons (pv 0) pa_nil)) pa_nil))))))))), ?_⟩
    refine ⟨_, rfl, rfl, _, rfl, ite2 (fun h => ?_) (fun h => ?_)⟩
    · have e : u = .non := of_decide_eq_true h
      subst e
      obtain rfl : d = .non := by cases ru; rfl
      refine ⟨_, rfl, tx [99], (n : Int), congrArg V.str c_lit9, rfl, mulOk 99 (by omega) (by omega), ?_⟩
      rw [tx_mul, Int.toNat_natCast]
      refine ⟨_, tx [97], rfl, congrArg V.str a_lit, by rw [tx_len, tx_len]; exact sz (by simp; omega), ?_⟩
      rw [tx_app]
      refine ⟨(by show 2 ≤ sizeLine; decide), fun p np => ?_⟩
      exact k _ _ (Stp.new np _) (Rv.newT np (.cons (.str _ (by simp; omega)) (.cons .non .nil)) (by simp))
    have nd : d ≠ .non := fun e => by
      subst e
      cases ru
      exact h (decide_eq_true rfl)
    refine ⟨_, rfl, S, u, d, rfl, ru, fun H1 b S1 eb => ?_⟩
    refine ⟨_, rfl, ite2 (fun h => ?_) (fun h => ?_)⟩
    · rw [led_none nd (by rw [← eb]; simpa using h)] at k
      exact k _ _ S1 .non
    have ht : isTxt d = true := by rw [← eb]; simpa using h
    obtain ⟨l, rfl⟩ : ∃ l, d = .str l := by
      cases d <;> first | exact ⟨_, rfl⟩ | cases ht
    have al : Abc l := abcB_iff.mp ht
    cases ru with
    | str _ hl =>
    refine ⟨_, rfl, _, rfl, szt (by omega), _, rfl, _, _, rfl, rfl, _, rfl, ?_⟩
    rw [tx_len]
    refine ite2 (fun h => ?_) (fun h => ?_)
    · have h := of_decide_eq_true h
      have e : ledD (.str l) n = none := by
        unfold ledD
        dsimp only
        rw [if_neg fun c => by omega]
      rw [e] at k
      exact k _ _ S1 .non
    have h : l.length ≤ n := by
      have : ¬ ((l.length : Int) > (n : Int)) := fun q => h (decide_eq_true q)
      omega
    have e : ledD (.str l) n = some (ledF l n, some (l ++ [97])) := by
      unfold ledD
      dsimp only
      rw [if_pos ⟨ht, h⟩]
    rw [e] at k
    refine ⟨_, rfl, 1, rfl, -1, rfl, tx l, rfl, szt (by omega), ?_⟩
    rw [last1]
    rcases List.eq_nil_or_concat l with rfl | ⟨m, x, rfl⟩
    · have eF : ledF [] n = [] := rfl
      rw [eF] at k
      refine ⟨_, _, false, rfl, rfl, TG.he, _, rfl, ite2 (fun _ => ?_) (fun h => absurd rfl h)⟩
      refine ⟨_, rfl, _, rfl, _, rfl, al, by omega, fun H2 S2 => ?_⟩
      refine ⟨(by show 2 ≤ sizeLine; decide), fun p np => ?_⟩
      exact k _ _ ((S1.trans S2).new' np) (Rv.newT np (.cons (.str _ (by omega)) (.cons (.str _ (by rw [List.length_append, List.length_singleton]; omega)) .nil)) (by simp))
    rw [List.concat_eq_append] at *
    have ed : (m ++ [x]).drop ((m ++ [x]).length - 1) = [x] := by simp
    rw [ed]
    have ax := al x (by simp)
    by_cases hx : x = 97
    · subst hx
      have eF : ledF (m ++ [97]) n = m ++ [97] := by
        unfold ledF
        simp only [List.getLast?_append, List.getLast?_singleton, Option.some_or]
        rw [if_neg (by decide)]
      rw [eF] at k
      refine ⟨_, _, false, rfl, rfl, TG.ha, _, rfl, ite2 (fun _ => ?_) (fun h => absurd rfl h)⟩
      refine ⟨_, rfl, _, rfl, _, rfl, al, by omega, fun H2 S2 => ?_⟩
      refine ⟨(by show 2 ≤ sizeLine; decide), fun p np => ?_⟩
      exact k _ _ ((S1.trans S2).new' np) (Rv.newT np (.cons (.str _ (by omega)) (.cons (.str _ (by rw [List.length_append, List.length_singleton]; omega)) .nil)) (by simp))
    have hx2 : x = 98 ∨ x = 99 := by omega
    have eF : ledF (m ++ [x]) n = m ++ [x - 1] ++ List.replicate (n - (m ++ [x]).length) 99 ++ [97] := by
      unfold ledF
      simp only [List.getLast?_append, List.getLast?_singleton, Option.some_or, List.dropLast_concat]
      rw [if_pos hx2]
    rw [eF] at k
    have hh : KHas K w TG.LETTERS_BEFORE (tx [x]) true := by
      rcases hx2 with rfl | rfl
      · exact TG.hb
      · exact TG.hc
    have hl2 : (m ++ [x]).length = m.length + 1 := by simp
    refine ⟨_, _, true, rfl, rfl, hh, _, rfl, ite2 (fun h => nomatch h) (fun _ => ?_)⟩
    dsimp only [tNext]
    refine ⟨_, rfl, 1, rfl, -1, rfl, tx (m ++ [x]), rfl, szt (by omega), ?_⟩
    rw [show cutS (tx (m ++ [x])) none (some (-1)) = _ from tx_init _, List.dropLast_concat]
    refine ⟨_, rfl, 1, rfl, tx (m ++ [x]), -1, x, rfl, rfl, szt (by omega), atI_last m x, ?_⟩
    have hd : KDct K w TG.LETTERS_BEFORE (tx [x]) (Tx [x - 1]) := by
      rcases hx2 with rfl | rfl
      · have := TG.lb
        rw [a_lit] at this
        exact this
      · have := TG.lc
        rw [b_lit] at this
        exact this
    refine ⟨_, tx [x], _, rfl, rfl, hd, tx m, tx [x - 1], rfl, rfl, (by rw [tx_len, tx_len]; exact sz (by simp; omega)), ?_⟩
    rw [tx_app]
    refine ⟨rfl, _, rfl, _, "c", (n : Int), rfl, rfl, padOk hn, by decide +kernel, ?_⟩
    rw [show (("c" : Str).cps.getD 0 0) = 99 by decide +kernel, ljust_tx]
    have e1 : n - (m ++ [x - 1]).length = n - (m ++ [x]).length := by simp
    rw [e1]
    generalize hst : m ++ [x - 1] ++ List.replicate (n - (m ++ [x]).length) 99 = st at k ⊢
    have ls : st.length ≤ 1000 := by rw [← hst]; simp; omega
    dsimp only [gName]
    refine ⟨_, rfl, tx st, tx [97], rfl, congrArg V.str a_lit, by rw [tx_len, tx_len]; exact sz (by simp; omega), ?_⟩
    rw [tx_app]
    refine ⟨_, rfl, _, rfl, al, by omega, fun H2 S2 => ?_⟩
    refine ⟨(by show 2 ≤ sizeLine; decide), fun p np => ?_⟩
    exact k _ _ ((S1.trans S2).new' np) (Rv.newT np (.cons (.str _ (by simp; omega)) (.cons (.str _ (by simp; omega)) .nil)) (by simp))
def spLeast (K : PySem.W.Frag) : Sp := fun vs H Q _ => ∃ (S : List Addr) (v u : V) (lo : Option Nat) (d : D), vs = [v, u] ∧ Rv K S H v (loD lo) ∧ (∀ n, lo = some n → n ≤ 6) ∧ Rv K S H u d ∧ ∀ v H', Stp [] H H' → Rv K [] H' v (opD (leastR lo d)) → Q v H'
theorem cl_least_texts {f : Addr} {fd : FuncData} (D : Df K mg "least_texts" s_least_texts ["low", "noted"] f fd) (T : Nm mg) (c_texts_cut_to : Cl P w K mg base 4 "texts_cut_to" s_texts_cut_to ["noted", "letters"] (spCutTo K)) : Cl P w K mg base 5 "least_texts" s_least_texts ["low", "noted"] (spLeast K) := by
  refine D.cl sc_least_texts (fun vs H Q E h => ?_) (fun cdv A outer s H vs Q E hr h => ?_)
  · obtain ⟨S, v, u, lo, d, rfl, _⟩ := h
    rfl
  · obtain ⟨S, v, u, lo, d, rfl, rv, hlo, ru, k⟩ := h
    refine ⟨_, (pss_cons (ps_if (pt_cmpR op_eq (pv 0) pe_str (by first | exact nomark _ | rfl)) (pss_one (ps_ret (pe_ifExp (pt_cmpR op_isN (pv 1) pe_non (by first | exact nomark _ | rfl)) (pe_tup (pa_cons pe_str (pa_cons pe_non pa_nil))) pe_non))) pss_nil)
      (pss_one (ps_ret (pe_cl c_texts_cut_to hr (by omega) (pa_cons (pv 1) (pa_cons (pv 0) pa_nil)))))), ?_⟩
    cases lo with
    | none =>
      obtain rfl := lo_lost rv
      refine ⟨_, rfl, rfl, _, rfl, ite2 (fun _ => ?_) (fun h => absurd (by decide +kernel) h)⟩
      by_cases e : u = .non
      · subst e
        obtain rfl : d = .non := by cases ru; rfl
        refine ⟨_, rfl, rfl, _, rfl, ite2 (fun _ => ?_) (fun h => absurd rfl h)⟩
        refine ⟨(by show 2 ≤ sizeLine; decide), fun p np => ?_⟩
        exact k _ _ (Stp.new np _) (Rv.newT np (.cons (by have := Rv.lit (K := K) (S := []) (H := H) ("" : Str); exact this) (.cons .non .nil)) (by simp))
      · have e2 : leastR none d = none := by
          cases d <;> first | rfl | (cases ru; exact absurd rfl e)
        rw [e2] at k
        refine ⟨_, rfl, rfl, _, rfl, ite2 (fun h => absurd (of_decide_eq_true h) e) (fun _ => ?_)⟩
        exact k _ _ (Stp.refl _ _) .non
    | some n =>
      have rv : Rv K S H v (.int (n : Int)) := rv
      cases rv
      refine ⟨_, rfl, rfl, _, rfl, ite2 (fun h => absurd (of_decide_eq_true h) (by simp)) (fun _ => ?_)⟩
      exact ⟨_, rfl, _, rfl, S, u, d, n, rfl, ru, by have := hlo n rfl; omega, k⟩
def spGreat (K : PySem.W.Frag) : Sp := fun vs H Q _ => ∃ (S : List Addr) (v u : V) (hi : Option (Nat × Nat)) (d : D), vs = [v, u] ∧ Rv K S H v (hiD hi) ∧ (∀ k n, hi = some (k, n) → k < 2 ∧ n ≤ 6) ∧ Rv K S H u d ∧ ∀ v H', Stp [] H H' → Rv K [] H' v (opD (greatR hi d)) → Q v H'
theorem wy_cut2 {k : Nat} (h : k < 2) : decide (V.str (wy k) = V.str "cut") = decide (k = 0) := by
  rcases (by omega : k = 0 ∨ k = 1) with rfl | rfl <;> decide +kernel
theorem cl_greatest_texts {f : Addr} {fd : FuncData} (D : Df K mg "greatest_texts" s_greatest_texts ["high", "noted"] f fd) (T : Nm mg) (c_texts_cut_to : Cl P w K mg base 4 "texts_cut_to" s_texts_cut_to ["noted", "letters"] (spCutTo K)) (c_texts_led_beyond : Cl P w K mg base 4 "texts_led_beyond" s_texts_led_beyond ["noted", "letters"] (spLed K)) : Cl P w K mg base 5 "greatest_texts" s_greatest_texts ["high", "noted"] (spGreat K) := by
  refine D.cl sc_greatest_texts (fun vs H Q E h => ?_) (fun cdv A outer s H vs Q E hr h => ?_)
  · obtain ⟨S, v, u, hi, d, rfl, _⟩ := h
    rfl
  · obtain ⟨S, v, u, hi, d, rfl, rv, hhi, ru, k⟩ := h
    refine ⟨_, (pss_cons (ps_if (pt_cmpR (op_eqD hr.units) (pv 0) pe_str (by first | exact nomark _ | rfl)) (pss_one (ps_ret (pe_ifExp (pt_cmpR op_isN (pv 1) pe_non (by first | exact nomark _ | rfl)) (pe_tup (pa_cons pe_str (pa_cons pe_non pa_nil))) pe_non))) pss_nil)
      (pss_cons (ps_asg (pv 0) (pg_tup rfl (pgs_cons (pg_name (i := 2) sc_greatest_texts.nd rfl (by first | exact Or.inl rfl | exact Or.inr rfl)) (pgs_cons (pg_name (i := 3) sc_greatest_texts.nd rfl (by first | exact Or.inl rfl | exact Or.inr rfl)) pgs_nil (by rfl)) (by rfl)) (by rfl) (by rfl)))
      (pss_one (ps_ret (pe_ifExp (pt_cmpR op_eq (pv 2) pe_str (by first | exact nomark _ | rfl)) (pe_cl c_texts_cut_to hr (by omega) (pa_cons (pv 1) (pa_cons (pv 3) pa_nil))) (pe_cl c_texts_led_beyond hr (by omega) (pa_cons (pv 1) (pa_cons (pv 3) pa_nil)))))))), ?_⟩
    cases hi with
    | none =>
      obtain rfl := lo_lost (show Rv K S H v (loD none) from rv)
      refine ⟨_, rfl, _, _, lost_dp, lost_dp, lost_shaped, lost_shaped, _, rfl, ite2 (fun _ => ?_) (fun h => absurd (by decide +kernel) h)⟩
      by_cases e : u = .non
      · subst e
        obtain rfl : d = .non := by cases ru; rfl
        refine ⟨_, rfl, rfl, _, rfl, ite2 (fun _ => ?_) (fun h => absurd rfl h)⟩
        refine ⟨(by show 2 ≤ sizeLine; decide), fun p np => ?_⟩
        exact k _ _ (Stp.new np _) (Rv.newT np (.cons (by have := Rv.lit (K := K) (S := []) (H := H) ("" : Str); exact this) (.cons .non .nil)) (by simp))
      · have e2 : greatR none d = none := by
          cases d <;> first | rfl | (cases ru; exact absurd rfl e)
        rw [e2] at k
        refine ⟨_, rfl, rfl, _, rfl, ite2 (fun h => absurd (of_decide_eq_true h) e) (fun _ => ?_)⟩
        exact k _ _ (Stp.refl _ _) .non
    | some q =>
      obtain ⟨j, n⟩ := q
      obtain ⟨hj, hn⟩ := hhi j n rfl
      refine ⟨_, rfl, _, _, hi_dp rv hj hn, lost_dp, hi_shaped hj, lost_shaped, _, rfl, ite2 (fun h => absurd h (by rw [hi_ne]; decide)) (fun _ => ?_)⟩
      cases rv with
      | tup hs hl rl =>
        rename_i a vs
        obtain ⟨x, y, rfl, rx, ry⟩ := RvL.two rl
        obtain rfl : x = .str (wy j) := by
          have : V.str (tx (wy j).cps.toList) = V.str (wy j) := congrArg V.str (tx_cps _)
          cases rx
          exact this
        cases ry
        refine ⟨_, rfl, a, _, rfl, hs, rfl, _, _, rfl, _, _, rfl, rfl, ?_⟩
        dsimp only [gName]
        refine ⟨_, rfl, rfl, _, rfl, ?_⟩
        rw [wy_cut2 hj]
        have eg : greatR (some (j, n)) d = if j = 0 then cutD d n else ledD d n := rfl
        rw [eg] at k
        by_cases j0 : j = 0
        · rw [if_pos j0] at k
          exact ite2 (fun _ => ⟨_, rfl, _, rfl, S, u, d, n, rfl, ru, by omega, k⟩) (fun h => absurd (decide_eq_true j0) h)
        · rw [if_neg j0] at k
          exact ite2 (fun h => absurd (of_decide_eq_true h) j0) (fun _ => ⟨_, rfl, _, rfl, S, u, d, n, rfl, ru, by omega, k⟩)
abbrev s_in_both : Stmt := topS 68
abbrev N_in_both : List Str := ["one", "other", "first", "ends", "end"]
theorem sc_in_both : FnScope ["one", "other", "first", "ends", "end"] ["one", "other"] (defScope s_in_both) := ⟨rfl, rfl, rfl, by decide +kernel, rfl, by decide +kernel, by decide +kernel⟩

abbrev s_ranges_with : Stmt := topS 67
abbrev N_ranges_with : List Str := ["rule", "note", "number", "least", "greatest", "from_least", "to_greatest"]
theorem sc_ranges_with : FnScope ["rule", "note", "number", "least", "greatest", "from_least", "to_greatest"] ["rule", "note", "number"] (defScope s_ranges_with) := ⟨rfl, rfl, rfl, by decide +kernel, rfl, by decide +kernel, by decide +kernel⟩

abbrev s_can_have : Stmt := topS 66
abbrev N_can_have : List Str := ["rule", "note", "number"]
theorem sc_can_have : FnScope ["rule", "note", "number"] ["rule", "note", "number"] (defScope s_can_have) := ⟨rfl, rfl, rfl, by decide +kernel, rfl, by decide +kernel, by decide +kernel⟩

/-! ### what two ranges have in common -/
structure RgS (p : Pr) : Prop where
  f : p.1.length ≤ 1000
  e : ∀ e, p.2 = some e → e.length ≤ 1000
def spBoth (K : PySem.W.Frag) : Sp := fun vs H Q _ => ∃ (S : List Addr) (v u : V) (p q : Pr), vs = [v, u] ∧ Rv K S H v (rgD p) ∧ Rv K S H u (rgD q) ∧ RgS p ∧ RgS q ∧ ∀ L xs H', H L = none → Stp [] H H' → H' L = some (.lst xs) → RvL K [] H' xs ((interR p q).map rgD) → Q (.ref L) H'
theorem rgD_parts {K : PySem.W.Frag} {S : List Addr} {H : Hp} {v : V} {p : Pr} (r : Rv K S H v (rgD p)) : ∃ a, v = .ref a ∧ SqT K H a [Tx p.1, vV p.2] := by
  cases r with
  | tup hs hl rl =>
    obtain ⟨x, y, rfl, rx, ry⟩ := RvL.two rl
    cases rx
    refine ⟨_, rfl, ?_⟩
    obtain ⟨p1, p2⟩ := p
    cases p2 with
    | none => cases ry; exact hs
    | some e => cases ry; exact hs
theorem cl_in_both {f : Addr} {fd : FuncData} (D : Df K mg "in_both" s_in_both ["one", "other"] f fd) (T : Nm mg) (c_ascending : Cl P w K mg base 1 "ascending" s_ascending ["texts"] (spAsc K)) : Cl P w K mg base 2 "in_both" s_in_both ["one", "other"] (spBoth K) := by
  refine D.cl sc_in_both (fun vs H Q E h => ?_) (fun cdv A outer s H vs Q E hr h => ?_)
  · obtain ⟨S, v, u, p, q, rfl, _⟩ := h
    rfl
  · obtain ⟨S, v, u, p, q, rfl, rv, ru, op, oq, k⟩ := h
    refine ⟨_, (pss_cons (ps_set (i := 2) sc_in_both.nd rfl (by first | exact Or.inl rfl | exact Or.inr rfl) (pe_ifExp (pt_cmpR op_gt_str (pe_ix ix_tup (pv 0) pe_int (fun _ _ => rfl)) (pe_ix ix_tup (pv 1) pe_int (fun _ _ => rfl)) (by first | exact nomark _ | rfl)) (pe_ix ix_tup (pv 0) pe_int (fun _ _ => rfl)) (pe_ix ix_tup (pv 1) pe_int (fun _ _ => rfl))))
      (pss_cons (ps_set (i := 3) sc_in_both.nd rfl (by first | exact Or.inl rfl | exact Or.inr rfl) (pe_cl c_ascending hr (by omega) (pa_cons (pe_lc (own := [("end", 4)]) rfl sc_in_both.nd (pi_tup (pe_tup (pa_cons (pe_ix ix_tup (pv 0) pe_int (fun _ _ => rfl)) (pa_cons (pe_ix ix_tup (pv 1) pe_int (fun _ _ => rfl)) pa_nil)))) (blkOk_by (own := [("end", 4)]) (N := N_in_both) (sc := defScope s_in_both) (by decide +kernel)) (fun _ _ _ _ _ => (pg_name (i := 4) sc_in_both.nd rfl (by first | exact Or.inl rfl | exact Or.inr rfl))) (fun _ _ _ _ _ => (pts_one (pt_cmpR op_notN (pv 4) pe_non (by first | exact nomark _ | rfl)))) (fun _ _ _ _ _ => (pv 4))) pa_nil)))
      (pss_cons (ps_if (pt_not (pt_truth (pv 3) (by intro _; rfl))) (pss_one (ps_ret (pe_lst (pa_cons (pe_tup (pa_cons (pv 2) (pa_cons pe_non pa_nil))) pa_nil)))) pss_nil)
      (pss_one (ps_ret (pe_ifExp (pt_cmpR op_lt_str (pv 2) (pe_ix ix_list (pv 3) pe_int (fun _ _ => rfl)) (by first | exact nomark _ | rfl)) (pe_lst (pa_cons (pe_tup (pa_cons (pv 2) (pa_cons (pe_ix ix_list (pv 3) pe_int (fun _ _ => rfl)) pa_nil))) pa_nil)) (pe_lst pa_nil))))))), ?_⟩
    obtain ⟨a, rfl, ha⟩ := rgD_parts rv
    obtain ⟨b, rfl, hb⟩ := rgD_parts ru
    refine seq_end (fun σ H' => σ = [some (.ref a), some (.ref b), some (Tx (maxT p.1 q.1)), none, none] ∧ H' = H) ?_ (fun fin => ?_)
    rotate_left
    · refine ⟨_, rfl, a, _, 0, _, rfl, rfl, ha, at0, _, rfl, b, _, 0, _, rfl, rfl, hb, at0, tx p.1, tx q.1, rfl, rfl, _, rfl, ?_⟩
      by_cases c : q.1 < p.1
      · have em : maxT p.1 q.1 = p.1 := if_pos c
        rw [em] at fin
        exact ite2 (fun _ => ⟨_, rfl, a, _, 0, _, rfl, rfl, ha, at0, fin _ _ ⟨rfl, rfl⟩⟩) (fun h => absurd (decide_eq_true (by simpa [tx] using c)) h)
      · have em : maxT p.1 q.1 = q.1 := if_neg c
        rw [em] at fin
        exact ite2 (fun h => absurd (by simpa [tx] using of_decide_eq_true h) c) (fun _ => ⟨_, rfl, b, _, 0, _, rfl, rfl, hb, at0, fin _ _ ⟨rfl, rfl⟩⟩)
    rintro σ H' ⟨rfl, rfl⟩
    have nn : ∀ {x : Addr}, x ∉ ([] : List Addr) := fun m => nomatch m
    refine ⟨_, rfl, a, _, 1, _, rfl, rfl, ha, at1, _, rfl, b, _, 1, _, rfl, rfl, hb, at1, (by show 2 ≤ sizeLine; decide), fun t nt => ?_⟩
    have S1 : Stp [] H' (upd H' t (.tup [vV p.2, vV q.2])) := Stp.new nt _
    have ht : SqT K (upd H' t (.tup [vV p.2, vV q.2])) t [vV p.2, vV q.2] := SqT.of upd_same
    generalize upd H' t (.tup [vV p.2, vV q.2]) = H1 at *
    refine ⟨t, rfl, ⟨_, ht⟩, fun L nL => ?_⟩
    refine lc_tup (a := t) (xs := [vV p.2, vV q.2]) (fun i H2 => H2 L = some (.lst ((([p.2, q.2].take i).filterMap id).map Tx)) ∧ Stp [] H1 H2) ⟨upd_same, Stp.new nL _⟩ (fun i H2 _ ⟨_, S⟩ => sqt_stp S Lsts.nil ht) ?_ ?_
    · rintro i x H2 hi ⟨hL, S⟩
      obtain ⟨o, e, et, i2⟩ : ∃ o, x = vV o ∧ ([p.2, q.2].take (i + 1)) = [p.2, q.2].take i ++ [o] ∧ i < 2 := by
        match i, hi with
        | 0, hi => cases hi; exact ⟨p.2, rfl, rfl, by decide⟩
        | 1, hi => cases hi; exact ⟨q.2, rfl, rfl, by decide⟩
        | n + 2, hi => simp at hi
      subst e
      rw [et, List.filterMap_append]
      cases o with
      | none =>
        refine ⟨rfl, _, rfl, rfl, _, rfl, ?_⟩
        refine ite2 (fun h => absurd h (by decide)) (fun _ => ⟨?_, S⟩)
        rw [hL]
        simp
      | some e =>
        refine ⟨rfl, _, rfl, rfl, _, rfl, ?_⟩
        refine ite2 (fun _ => ⟨_, rfl, _, hL, ?_, ?_, S.mut nL⟩) (fun h => absurd (by simp [vV]) h)
        · rw [List.length_map]
          have := List.length_filterMap_le id ([p.2, q.2].take i)
          rw [List.length_take] at this
          exact Nat.lt_of_le_of_lt (show _ ≤ 1000 by omega) (by decide)
        · rw [upd_same]
          simp [vV]
    rintro H2 ⟨hL, S2⟩
    have hL : H2 L = some (.lst (([p.2, q.2].filterMap id).map Tx)) := hL
    refine ⟨L, _, rfl, SqL.of hL, fun l m => ?_, ?_, fun zs z H3 _ S3 pm pw hz => ?_⟩
    · obtain ⟨o, mo, eo⟩ := List.mem_filterMap.mp m
      have eo : o = some l := eo
      subst eo
      simp at mo
      rcases mo with mo | mo
      · exact op.e l mo.symm
      · exact oq.e l mo.symm
    · have := List.length_filterMap_le id [p.2, q.2]
      simp at this ⊢
      omega
    have S03 := (S1.trans S2).trans S3
    dsimp only [gName]
    have ends : (minE p.2 q.2 = none ∧ zs = []) ∨ ∃ e r, minE p.2 q.2 = some e ∧ zs = e :: r ∧ e.length ≤ 1000 := by
      obtain ⟨p1, p2⟩ := p
      obtain ⟨q1, q2⟩ := q
      cases p2 with
      | none =>
        cases q2 with
        | none => exact .inl ⟨rfl, List.Perm.eq_nil pm⟩
        | some e => exact .inr ⟨e, [], rfl, List.perm_singleton.mp pm, oq.e e rfl⟩
      | some x =>
        cases q2 with
        | none => exact .inr ⟨x, [], rfl, List.perm_singleton.mp pm, op.e x rfl⟩
        | some y =>
          have pm : zs.Perm [x, y] := pm
          have l2 : zs.length = 2 := pm.length_eq
          obtain ⟨u, v, rfl⟩ := two l2
          have uv : u ≤ v := (List.pairwise_cons.mp pw).1 v (by simp)
          have mu : u = x ∨ u = y := by simpa using pm.mem_iff.mp (by simp : u ∈ [u, v])
          have mx : x = u ∨ x = v := by simpa using pm.mem_iff.mpr (by simp : x ∈ [x, y])
          have my : y = u ∨ y = v := by simpa using pm.mem_iff.mpr (by simp : y ∈ [x, y])
          refine .inr ⟨u, [v], ?_, rfl, ?_⟩
          · show some (if y < x then y else x) = some u
            have ux : u ≤ x := by
              rcases mx with e | e
              · rw [e]; exact le_self _
              · rw [e]; exact uv
            have uy : u ≤ y := by
              rcases my with e | e
              · rw [e]; exact le_self _
              · rw [e]; exact uv
            by_cases c : y < x
            · rw [if_pos c]
              rcases mu with rfl | rfl
              · exact absurd c (nlt_of_le uy)
              · rfl
            · rw [if_neg c]
              rcases mu with rfl | rfl
              · rfl
              · exact congrArg some (List.le_antisymm (le_of_nlt c) ux)
          · rcases mu with e | e
            · rw [e]; exact op.e x rfl
            · rw [e]; exact oq.e y rfl
    have fl : (maxT p.1 q.1).length ≤ 1000 := by
      rcases maxT_or p.1 q.1 with e | e
      · rw [e]; exact op.f
      · rw [e]; exact oq.f
    rcases ends with ⟨e1, rfl⟩ | ⟨e, r, e1, rfl, el⟩
    · have ei : interR p q = [(maxT p.1 q.1, none)] := by unfold interR; rw [e1]
      rw [ei] at k
      refine ⟨_, rfl, _, .inl ⟨_, SqL.of hz, rfl⟩, ?_⟩
      refine ite2 (fun _ => ?_) (fun h => absurd rfl h)
      refine ⟨_, rfl, (by show 2 ≤ sizeLine; decide), fun a2 na2 => ⟨(by show 1 ≤ sizeLine; decide), fun b2 nb2 => ?_⟩⟩
      have S4 : Stp [] H3 (upd H3 a2 (.tup [Tx (maxT p.1 q.1), .non])) := Stp.new na2 _
      exact k _ _ _ ((S03.trans S4).fresh (fun m => nomatch m) nb2) ((S03.trans S4).new' nb2) upd_same (RvL.up (.cons (Rv.newT na2 (.cons (.str _ (show (maxT p.1 q.1).length ≤ 100000 by omega)) (.cons .non .nil)) (by simp)) .nil) (Stp.new nb2 []))
    · refine ⟨_, rfl, _, .inl ⟨_, SqL.of hz, rfl⟩, ?_⟩
      refine ite2 (fun h => nomatch h) (fun _ => ?_)
      have ei : interR p q = if maxT p.1 q.1 < e then [(maxT p.1 q.1, some e)] else [] := by unfold interR; rw [e1]
      rw [ei] at k
      refine ⟨_, rfl, _, rfl, z, _, 0, Tx e, rfl, rfl, SqL.of hz, at0, tx (maxT p.1 q.1), tx e, rfl, rfl, _, rfl, ?_⟩
      by_cases c : maxT p.1 q.1 < e
      · rw [if_pos c] at k
        refine ite2 (fun _ => ?_) (fun h => absurd (decide_eq_true (by simpa [tx] using c)) h)
        refine ⟨_, rfl, _, rfl, z, _, 0, Tx e, rfl, rfl, SqL.of hz, at0, (by show 2 ≤ sizeLine; decide), fun a2 na2 => ⟨(by show 1 ≤ sizeLine; decide), fun b2 nb2 => ?_⟩⟩
        have S4 : Stp [] H3 (upd H3 a2 (.tup [Tx (maxT p.1 q.1), Tx e])) := Stp.new na2 _
        exact k _ _ _ ((S03.trans S4).fresh (fun m => nomatch m) nb2) ((S03.trans S4).new' nb2) upd_same (RvL.up (.cons (Rv.newT na2 (.cons (.str _ (show (maxT p.1 q.1).length ≤ 100000 by omega)) (.cons (.str _ (by omega)) .nil)) (by simp)) .nil) (Stp.new nb2 []))
      · rw [if_neg c] at k
        refine ite2 (fun h => absurd (by simpa [tx] using of_decide_eq_true h) c) (fun _ => ?_)
        exact ⟨Nat.zero_le _, fun b2 nb2 => k _ _ _ (S03.fresh (fun m => nomatch m) nb2) (S03.new' nb2) upd_same .nil⟩
/-! ### ranges_with, can_have -/
theorem cut_rgs {d : D} {n : Nat} {p : Pr} (h : cutD d n = some p) (hn : n ≤ 900) : RgS p := by
  unfold cutD at h
  split at h
  · rename_i l
    by_cases c : abcB l = true ∧ l.length ≤ n
    · rw [if_pos c] at h
      cases h
      refine ⟨show l.length ≤ 1000 by omega, fun e he => ?_⟩
      have he : (if l.length = n then bey l else some (l ++ [97])) = some e := he
      by_cases z : l.length = n
      · rw [if_pos z] at he
        have := (abc_bey (abcB_iff.mp c.1) he).2
        omega
      · rw [if_neg z] at he
        cases he
        simp
        omega
    · rw [if_neg c] at h
      cases h
  · cases h
theorem any_rgs {d : D} {p : Pr} (h : anyD d = some p) : RgS p := by
  unfold anyD at h
  split at h
  · cases h
    exact ⟨Nat.zero_le _, fun e he => by cases he⟩
  · cases h
theorem least_rgs {lo : Option Nat} {d : D} {p : Pr} (h : leastR lo d = some p) (hl : ∀ n, lo = some n → n ≤ 6) : RgS p := by
  cases lo with
  | none => exact any_rgs h
  | some n => exact cut_rgs h (by have := hl n rfl; omega)
theorem ledF_len {l : Txt} {n : Nat} (h : l.length ≤ n) : (ledF l n).length ≤ n + 1 := by
  unfold ledF
  cases e : l.getLast? with
  | none => show l.length ≤ n + 1; omega
  | some c =>
    have hl : 0 < l.length := by
      cases l with
      | nil => cases e
      | cons x l => simp
    dsimp only
    by_cases q : c = 98 ∨ c = 99
    · rw [if_pos q]
      simp
      omega
    · rw [if_neg q]
      omega
theorem great_rgs {hi : Option (Nat × Nat)} {d : D} {p : Pr} (h : greatR hi d = some p) (hl : ∀ k n, hi = some (k, n) → k < 2 ∧ n ≤ 6) : RgS p := by
  match hi, h, hl with
  | none, h, _ => exact any_rgs h
  | some (k, n), h, hl =>
    have hn := (hl k n rfl).2
    unfold greatR at h
    dsimp only at h
    by_cases e : k = 0
    · rw [if_pos e] at h
      exact cut_rgs h (by omega)
    · rw [if_neg e] at h
      unfold ledD at h
      split at h
      · cases h
        exact ⟨by simp; omega, fun e he => by cases he⟩
      · rename_i l _
        by_cases c : abcB l = true ∧ l.length ≤ n
        · rw [if_pos c] at h
          cases h
          refine ⟨?_, fun e he => ?_⟩
          · have := ledF_len c.2
            show (ledF l n).length ≤ 1000
            omega
          · cases he
            simp
            omega
        · rw [if_neg c] at h
          cases h
      · cases h
theorem ranges_none {r : Ru} {d2 d3 : D} {n : Int} (h : n = 0 ∨ leastR r.low d2 = none ∨ greatR r.high d3 = none) : rangesR r d2 d3 n = [] := by
  unfold rangesR
  cases e1 : leastR r.low d2 with
  | none => rfl
  | some p =>
    cases e2 : greatR r.high d3 with
    | none => rfl
    | some q =>
      rcases h with h | h | h
      · dsimp only
        rw [if_pos h]
      · rw [e1] at h; cases h
      · rw [e2] at h; cases h
theorem ranges_some {r : Ru} {d2 d3 : D} {n : Int} {p q : Pr} (h1 : leastR r.low d2 = some p) (h2 : greatR r.high d3 = some q) (h0 : n ≠ 0) : rangesR r d2 d3 n = if n = 1 then interR p q else if n = 2 then interR p ([], q.2) ++ interR (p.1, none) q else interR (p.1, none) ([], q.2) := by
  unfold rangesR
  rw [h1, h2]
  dsimp only
  rw [if_neg h0]
theorem inter_few (p q : Pr) : (interR p q).length ≤ 1 := by
  unfold interR
  cases minE p.2 q.2 with
  | none => exact Nat.le_refl _
  | some e =>
    by_cases c : maxT p.1 q.1 < e
    · simp only [if_pos c]; exact Nat.le_refl _
    · simp only [if_neg c]; exact Nat.zero_le _
theorem rgD_rv {K : PySem.W.Frag} {H : Hp} {a : Addr} {p : Pr} (h : SqT K H a [Tx p.1, vV p.2]) (s : RgS p) : Rv K [] H (.ref a) (rgD p) := .tup h (by simp) (.cons (.str _ (by have := s.f; omega)) (.cons (rv_v s.e) .nil))
def spRW (K : PySem.W.Frag) : Sp := fun vs H Q _ => ∃ (S : List Addr) (v u : V) (r : Ru) (d0 d1 d2 d3 : D) (n : Int), vs = [v, u, .int n] ∧ Rv K S H v (ruD r) ∧ RuOk r ∧ Rv K S H u (.tup [d0, d1, d2, d3]) ∧ ∀ L xs H', H L = none → Stp [] H H' → H' L = some (.lst xs) → RvL K [] H' xs ((rangesR r d2 d3 n).map rgD) → Q (.ref L) H'
theorem four {K : PySem.W.Frag} {S : List Addr} {H : Hp} {vs : List V} {a b c d : D} (r : RvL K S H vs [a, b, c, d]) : ∃ v0 v1 v2 v3, vs = [v0, v1, v2, v3] ∧ Rv K S H v0 a ∧ Rv K S H v1 b ∧ Rv K S H v2 c ∧ Rv K S H v3 d := by
  cases r with
  | cons r0 r => cases r with
    | cons r1 r => cases r with
      | cons r2 r => cases r with
        | cons r3 r =>
          cases r
          exact ⟨_, _, _, _, rfl, r0, r1, r2, r3⟩
theorem at3 {α : Type} {a b c d : α} {l : List α} : atI (a :: b :: c :: d :: l) 3 = some d := atI_nat (j := 3) rfl
theorem cl_ranges_with {f : Addr} {fd : FuncData} (D : Df K mg "ranges_with" s_ranges_with ["rule", "note", "number"] f fd) (T : Nm mg) (c_least_texts : Cl P w K mg base 5 "least_texts" s_least_texts ["low", "noted"] (spLeast K)) (c_greatest_texts : Cl P w K mg base 5 "greatest_texts" s_greatest_texts ["high", "noted"] (spGreat K)) (c_in_both : Cl P w K mg base 2 "in_both" s_in_both ["one", "other"] (spBoth K)) :
    Cl P w K mg base 6 "ranges_with" s_ranges_with ["rule", "note", "number"] (spRW K) := by
  refine D.cl sc_ranges_with (fun vs H Q E h => ?_) (fun cdv A outer s H vs Q E hr h => ?_)
  · obtain ⟨S, v, u, r, d0, d1, d2, d3, n, rfl, _⟩ := h
    rfl
  · obtain ⟨S, v, u, r, d0, d1, d2, d3, n, rfl, rv, ok, ru, k⟩ := h
    refine ⟨_, (pss_cons (ps_set (i := 3) sc_ranges_with.nd rfl (by first | exact Or.inl rfl | exact Or.inr rfl) (pe_cl c_least_texts hr (by omega) (pa_cons (pe_ix ix_tup (pv 0) pe_int (fun _ _ => rfl)) (pa_cons (pe_ix ix_tup (pv 1) pe_int (fun _ _ => rfl)) pa_nil))))
      (pss_cons (ps_set (i := 4) sc_ranges_with.nd rfl (by first | exact Or.inl rfl | exact Or.inr rfl) (pe_cl c_greatest_texts hr (by omega) (pa_cons (pe_ix ix_tup (pv 0) pe_int (fun _ _ => rfl)) (pa_cons (pe_ix ix_tup (pv 1) pe_int (fun _ _ => rfl)) pa_nil))))
      (pss_cons (ps_if (PW.pt (pw_or (pt_cmpR op_eq (pv 2) pe_int (by first | exact nomark _ | rfl)) (pw_or (pt_cmpR op_isN (pv 3) pe_non (by first | exact nomark _ | rfl)) (pw_or1 (pt_cmpR op_isN (pv 4) pe_non (by first | exact nomark _ | rfl)))))) (pss_one (ps_ret (pe_lst pa_nil))) pss_nil)
      (pss_cons (ps_if (pt_cmpR op_eq (pv 2) pe_int (by first | exact nomark _ | rfl)) (pss_one (ps_ret (pe_cl c_in_both hr (by omega) (pa_cons (pv 3) (pa_cons (pv 4) pa_nil))))) pss_nil)
      (pss_cons (ps_set (i := 5) sc_ranges_with.nd rfl (by first | exact Or.inl rfl | exact Or.inr rfl) (pe_tup (pa_cons (pe_ix ix_tup (pv 3) pe_int (fun _ _ => rfl)) (pa_cons pe_non pa_nil))))
      (pss_cons (ps_set (i := 6) sc_ranges_with.nd rfl (by first | exact Or.inl rfl | exact Or.inr rfl) (pe_tup (pa_cons pe_str (pa_cons (pe_ix ix_tup (pv 4) pe_int (fun _ _ => rfl)) pa_nil))))
      (pss_cons (ps_if (pt_cmpR op_eq (pv 2) pe_int (by first | exact nomark _ | rfl)) (pss_one (ps_ret (pe_op op_cat (pe_cl c_in_both hr (by omega) (pa_cons (pv 3) (pa_cons (pv 6) pa_nil))) (pe_cl c_in_both hr (by omega) (pa_cons (pv 5) (pa_cons (pv 4) pa_nil)))))) pss_nil)
      (pss_one (ps_ret (pe_cl c_in_both hr (by omega) (pa_cons (pv 5) (pa_cons (pv 6) pa_nil)))))))))))), ?_⟩
    have nn : ∀ {x : Addr}, x ∉ ([] : List Addr) := fun m => nomatch m
    obtain ⟨a, v1, v2, rfl, ha, r1, r2⟩ := ruD_parts rv
    obtain ⟨b, us, rfl, hb, _, rus⟩ := ru.tupE
    obtain ⟨u0, u1, u2, u3, rfl, q0, q1, q2, q3⟩ := four rus
    refine ⟨_, rfl, a, _, 1, v1, rfl, rfl, ha, at1, _, rfl, b, _, 2, u2, rfl, rfl, hb, at2, S, v1, u2, r.low, d2, rfl, r1, ok.low, q2, fun x H1 S1 rx => ?_⟩
    dsimp only [gName]
    have ha1 := sqt_stp S1 Lsts.nil ha
    have hb1 := sqt_stp S1 Lsts.nil hb
    refine ⟨_, rfl, a, _, 2, v2, rfl, rfl, ha1, at2, _, rfl, b, _, 3, u3, rfl, rfl, hb1, at3, S, v2, u3, r.high, d3, rfl, r2.up S1, ok.high, q3.up S1, fun y H2 S2 ry => ?_⟩
    dsimp only [gName]
    have rx := rx.up S2
    have S12 := S1.trans S2
    have empty : rangesR r d2 d3 n = [] → ∀ (p : Addr), H2 p = none → Q (.ref p) (upd H2 p (.lst [])) := fun e p np => by
      rw [e] at k
      exact k p [] _ (S12.fresh nn np) (S12.new' np) upd_same .nil
    refine ⟨_, rfl, rfl, _, rfl, ite2 (fun h => ?_) (fun h => ?_)⟩
    · have h : n = 0 := V.int.inj (of_decide_eq_true h)
      exact ⟨Nat.zero_le _, empty (ranges_none (.inl h))⟩
    have n0 : n ≠ 0 := fun e => h (by rw [e]; exact decide_eq_true rfl)
    cases e1 : leastR r.low d2 with
    | none =>
      rw [e1] at rx
      cases rx
      refine ⟨_, rfl, rfl, _, rfl, ite2 (fun _ => ?_) (fun h => absurd rfl h)⟩
      exact ⟨Nat.zero_le _, empty (ranges_none (.inr (.inl e1)))⟩
    | some p =>
      rw [e1] at rx
      obtain ⟨px, rfl, hx⟩ := rgD_parts rx
      refine ⟨_, rfl, rfl, _, rfl, ite2 (fun h => absurd (of_decide_eq_true h) (by simp)) (fun _ => ?_)⟩
      cases e2 : greatR r.high d3 with
      | none =>
        rw [e2] at ry
        cases ry
        refine ⟨_, rfl, rfl, _, rfl, ite2 (fun _ => ?_) (fun h => absurd rfl h)⟩
        exact ⟨Nat.zero_le _, empty (ranges_none (.inr (.inr e2)))⟩
      | some q =>
        rw [e2] at ry
        obtain ⟨py, rfl, hy⟩ := rgD_parts ry
        have sp := least_rgs e1 ok.low
        have sq := great_rgs e2 ok.high
        have er := ranges_some (n := n) e1 e2 n0
        rw [er] at k
        refine ⟨_, rfl, rfl, _, rfl, ite2 (fun h => absurd (of_decide_eq_true h) (by simp)) (fun _ => ?_)⟩
        dsimp only [tNext]
        refine ⟨_, rfl, rfl, _, rfl, ite2 (fun h => ?_) (fun h => ?_)⟩
        · have h : n = 1 := V.int.inj (of_decide_eq_true h)
          rw [if_pos h] at k
          exact ⟨_, rfl, _, rfl, [], _, _, p, q, rfl, rx, ry, sp, sq, fun L xs H' nL S' hL rL => k L xs H' (S12.fresh nn nL) (S12.trans S') hL rL⟩
        have n1 : n ≠ 1 := fun e => h (by rw [e]; exact decide_eq_true rfl)
        rw [if_neg n1] at k
        dsimp only [tNext]
        refine ⟨_, rfl, px, _, 0, _, rfl, rfl, hx, at0, (by show 2 ≤ sizeLine; decide), fun fl nfl => ?_⟩
        have S3 : Stp [] H2 (upd H2 fl (.tup [Tx p.1, .non])) := Stp.new nfl _
        have hfl : SqT K (upd H2 fl (.tup [Tx p.1, .non])) fl [Tx p.1, vV none] := SqT.of upd_same
        generalize upd H2 fl (.tup [Tx p.1, .non]) = H3 at *
        dsimp only [gName]
        refine ⟨_, rfl, py, _, 1, _, rfl, rfl, sqt_stp S3 Lsts.nil hy, at1, (by show 2 ≤ sizeLine; decide), fun tg ntg => ?_⟩
        have S4 : Stp [] H3 (upd H3 tg (.tup [.str "", vV q.2])) := Stp.new ntg _
        have htg : SqT K (upd H3 tg (.tup [.str "", vV q.2])) tg [Tx [], vV q.2] := by
          rw [show Tx [] = V.str "" from congrArg V.str nil_lit.symm]
          exact SqT.of upd_same
        have rfl4 := (rgD_rv (p := (p.1, none)) hfl ⟨sp.f, fun e he => by cases he⟩).up S4
        generalize upd H3 tg (.tup [.str "", vV q.2]) = H4 at *
        have rtg : Rv K [] H4 (.ref tg) (rgD ([], q.2)) := rgD_rv (p := ([], q.2)) htg ⟨Nat.zero_le _, sq.e⟩
        have s1 : RgS ((p.1, none) : Pr) := ⟨sp.f, fun e he => by cases he⟩
        have s2 : RgS (([], q.2) : Pr) := ⟨Nat.zero_le _, sq.e⟩
        have S34 := S3.trans S4
        have S14 := S12.trans S34
        dsimp only [gName]
        refine ⟨_, rfl, rfl, _, rfl, ite2 (fun h => ?_) (fun h => ?_)⟩
        · have h : n = 2 := V.int.inj (of_decide_eq_true h)
          rw [if_pos h, List.map_append] at k
          refine ⟨_, rfl, _, rfl, [], _, _, p, ([], q.2), rfl, rx.up S34, rtg, sp, s2, fun L1 xs1 H5 _ S5 hL1 rL1 => ?_⟩
          refine ⟨_, rfl, _, rfl, [], _, _, (p.1, none), q, rfl, rfl4.up S5, (ry.up S34).up S5, s1, sq, fun L2 xs2 H6 _ S6 hL2 rL2 => ?_⟩
          refine Pv.cat_use (S6.kp _ _ nn hL1) hL2 (rL1.up S6) rL2 ?_ fun L3 n3 H7 vs7 S7 h7 r7 => ?_
          · have f1 := inter_few p ([], q.2)
            have f2 := inter_few (p.1, none) q
            rw [List.length_map, List.length_map]
            omega
          · exact k L3 _ H7 (((S14.trans S5).trans S6).fresh nn n3) (((S14.trans S5).trans S6).trans S7) h7 r7
        · have n2 : n ≠ 2 := fun e => h (by rw [e]; exact decide_eq_true rfl)
          rw [if_neg n2] at k
          exact ⟨_, rfl, _, rfl, [], _, _, (p.1, none), ([], q.2), rfl, rfl4, rtg, s1, s2, fun L xs H' nL S' hL rL => k L xs H' (S14.fresh nn nL) (S14.trans S') hL rL⟩
abbrev s_numbers_left : Stmt := topS 64
abbrev N_numbers_left : List Str := ["many", "lacks"]
theorem sc_numbers_left : FnScope ["many", "lacks"] ["many", "lacks"] (defScope s_numbers_left) := ⟨rfl, rfl, rfl, by decide +kernel, rfl, by decide +kernel, by decide +kernel⟩

abbrev s_possible_numbers : Stmt := topS 65
abbrev N_possible_numbers : List Str := ["rule", "note", "fewest", "most", "numbers", "number"]
theorem sc_possible_numbers : FnScope ["rule", "note", "fewest", "most", "numbers", "number"] ["rule", "note"] (defScope s_possible_numbers) := ⟨rfl, rfl, rfl, by decide +kernel, rfl, by decide +kernel, by decide +kernel⟩

/-! ### can_have, the numbers -/
theorem ne_nilR {K : PySem.W.Frag} {H : Hp} {p q : Addr} {xs : List V} {Q : VK} (hp : H p = some (.lst xs)) (nq : H q = none) (k : Q (.bl (!xs.isEmpty)) (upd H q (.lst []))) : rNeNil K (.ref p) (.ref q) (upd H q (.lst [])) Q :=
  ⟨p, q, xs, rfl, rfl, ne_of_none hp nq, SqL.of (by rw [upd_ne (ne_of_none hp nq)]; exact hp), SqL.of upd_same, k⟩
def spCanH (K : PySem.W.Frag) : Sp := fun vs H Q _ => ∃ (S : List Addr) (v u : V) (r : Ru) (d0 d1 d2 d3 : D) (n : Int), vs = [v, u, .int n] ∧ Rv K S H v (ruD r) ∧ RuOk r ∧ Rv K S H u (.tup [d0, d1, d2, d3]) ∧ ∀ H', Stp [] H H' → Q (.bl (canH r d2 d3 n)) H'
theorem isNon_rv {K : PySem.W.Frag} {S : List Addr} {H : Hp} {v : V} {d : D} (r : Rv K S H v d) : decide (v = .non) = isNonD d := by
  cases r <;> rfl
theorem cl_can_have {f : Addr} {fd : FuncData} (D : Df K mg "can_have" s_can_have ["rule", "note", "number"] f fd) (T : Nm mg) (c_ranges_with : Cl P w K mg base 6 "ranges_with" s_ranges_with ["rule", "note", "number"] (spRW K)) : Cl P w K mg base 7 "can_have" s_can_have ["rule", "note", "number"] (spCanH K) := by
  refine D.cl sc_can_have (fun vs H Q E h => ?_) (fun cdv A outer s H vs Q E hr h => ?_)
  · obtain ⟨S, v, u, r, d0, d1, d2, d3, n, rfl, _⟩ := h
    rfl
  · obtain ⟨S, v, u, r, d0, d1, d2, d3, n, rfl, rv, ok, ru, k⟩ := h
    refine ⟨_, (pss_cons (ps_if (pt_cmpR op_eq (pv 2) pe_int (by first | exact nomark _ | rfl)) (pss_one (ps_ret (pe_and (pe_cmpR op_isN (pe_ix ix_tup (pv 1) pe_int (fun _ _ => rfl)) pe_non (by first | exact nomark _ | rfl)) (pe_one (pe_cmpR op_isN (pe_ix ix_tup (pv 1) pe_int (fun _ _ => rfl)) pe_non (by first | exact nomark _ | rfl)))))) pss_nil)
      (pss_one (ps_ret (pe_cmpR (Pv.op_neNil hr.units) (pe_cl c_ranges_with hr (by omega) (pa_cons (pv 0) (pa_cons (pv 1) (pa_cons (pv 2) pa_nil)))) (pe_lst pa_nil) (by first | exact nomark _ | rfl))))), ?_⟩
    obtain ⟨b, us, rfl, hb, _, rus⟩ := ru.tupE
    obtain ⟨u0, u1, u2, u3, rfl, q0, q1, q2, q3⟩ := four rus
    refine ⟨_, rfl, rfl, _, rfl, ite2 (fun h => ?_) (fun h => ?_)⟩
    · have h : n = 0 := V.int.inj (of_decide_eq_true h)
      have e : canH r d2 d3 n = (isNonD d2 && isNonD d3) := by unfold canH; rw [if_pos h]
      rw [e] at k
      refine ⟨_, rfl, b, _, 2, u2, rfl, rfl, hb, at2, rfl, _, rfl, ?_⟩
      rw [isNon_rv q2]
      cases e2 : isNonD d2 with
      | false =>
        rw [e2] at k
        exact k H (Stp.refl _ _)
      | true =>
        rw [e2] at k
        refine ⟨_, rfl, b, _, 3, u3, rfl, rfl, hb, at3, rfl, ?_⟩
        rw [isNon_rv q3]
        exact k H (Stp.refl _ _)
    · have h : n ≠ 0 := fun e => h (by rw [e]; exact decide_eq_true rfl)
      have e : canH r d2 d3 n = !(rangesR r d2 d3 n).isEmpty := by unfold canH; rw [if_neg h]
      rw [e] at k
      refine ⟨_, rfl, _, rfl, _, rfl, S, v, _, r, d0, d1, d2, d3, n, rfl, rv, ok, ru, fun L xs H1 _ S1 hL rL => ?_⟩
      refine ⟨Nat.zero_le _, fun q nq => ne_nilR hL nq ?_⟩
      have el : xs.isEmpty = (rangesR r d2 d3 n).isEmpty := by
        have := rL.len
        rw [List.length_map] at this
        cases xs <;> cases h3 : rangesR r d2 d3 n <;> first | rfl | (rw [h3] at this; simp at this)
      rw [el]
      exact k _ (S1.new' nq)
/-- what can stand as lacks -/
def LkOk : D → Bool
  | .non => true
  | .bl _ => true
  | .int _ => true
  | _ => false
def spNLeft (K : PySem.W.Frag) : Sp := fun vs H Q _ => ∃ (S : List Addr) (u : V) (d : D) (m : Int), vs = [.int m, u] ∧ Rv K S H u d ∧ LkOk d = true ∧ ∀ t H', Stp [] H H' → SqT K H' t [.int (leftI m d).1, .int (leftI m d).2] → Q (.ref t) H'
theorem cl_numbers_left {f : Addr} {fd : FuncData} (D : Df K mg "numbers_left" s_numbers_left ["many", "lacks"] f fd) (T : Nm mg) : Cl P w K mg base 1 "numbers_left" s_numbers_left ["many", "lacks"] (spNLeft K) := by
  refine D.cl sc_numbers_left (fun vs H Q E h => ?_) (fun cdv A outer s H vs Q E hr h => ?_)
  · obtain ⟨S, u, d, m, rfl, _⟩ := h
    rfl
  · obtain ⟨S, u, d, m, rfl, ru, ok, k⟩ := h
    refine ⟨_, (pss_cons (ps_if (pt_cmpR op_isN (pv 1) pe_non (by first | exact nomark _ | rfl)) (pss_one (ps_ret (pe_tup (pa_cons pe_int (pa_cons (pv 0) pa_nil))))) pss_nil)
      (pss_cons (ps_if (pt_cmpR Pg.op_isBI (pv 1) pe_bl (by first | exact nomark _ | rfl)) (pss_one (ps_ret (pe_tup (pa_cons pe_int (pa_cons (pe_op op_sub (pv 0) pe_int) pa_nil))))) pss_nil)
      (pss_one (ps_ret (pe_ifExp (pt_cmpR Pg.op_isBI (pv 1) pe_bl (by first | exact nomark _ | rfl)) (pe_tup (pa_cons (pv 0) (pa_cons (pv 0) pa_nil))) (pe_tup (pa_cons (pe_op op_sub (pv 0) (pv 1)) (pa_cons (pe_op op_sub (pv 0) (pv 1)) pa_nil)))))))), ?_⟩
    have fin : ∀ a b : Int, leftI m d = (a, b) → ∀ p, H p = none → Q (.ref p) (upd H p (.tup [.int a, .int b])) := fun a b e p np => by
      rw [e] at k
      exact k p _ (Stp.new np _) (SqT.of upd_same)
    have l2 : (2 : Nat) ≤ sizeLine := by decide
    cases ru with
    | non =>
      refine ⟨_, rfl, rfl, _, rfl, ite2 (fun _ => ?_) (fun h => absurd rfl h)⟩
      exact ⟨_, rfl, l2, fin _ _ rfl⟩
    | bl t =>
      refine ⟨_, rfl, rfl, _, rfl, ite2 (fun h => absurd (of_decide_eq_true h) (by simp)) (fun _ => ?_)⟩
      cases t with
      | true =>
        refine ⟨_, rfl, true, rfl, .inl ⟨true, rfl, _, rfl, ite2 (fun _ => ?_) (fun h => absurd rfl h)⟩⟩
        exact ⟨_, rfl, _, _, rfl, rfl, l2, fin _ _ rfl⟩
      | false =>
        refine ⟨_, rfl, true, rfl, .inl ⟨false, rfl, _, rfl, ite2 (fun h => nomatch h) (fun _ => ?_)⟩⟩
        refine ⟨_, rfl, false, rfl, .inl ⟨false, rfl, _, rfl, ite2 (fun _ => ?_) (fun h => absurd rfl h)⟩⟩
        exact ⟨_, rfl, _, rfl, l2, fin _ _ rfl⟩
    | int x =>
      refine ⟨_, rfl, rfl, _, rfl, ite2 (fun h => absurd (of_decide_eq_true h) (by simp)) (fun _ => ?_)⟩
      refine ⟨_, rfl, true, rfl, .inr ⟨x, rfl, _, rfl, ite2 (fun h => nomatch h) (fun _ => ?_)⟩⟩
      refine ⟨_, rfl, false, rfl, .inr ⟨x, rfl, _, rfl, ite2 (fun h => nomatch h) (fun _ => ?_)⟩⟩
      exact ⟨_, rfl, _, rfl, _, _, rfl, rfl, _, rfl, _, rfl, _, _, rfl, rfl, l2, fin _ _ rfl⟩
    | _ => cases ok
theorem take_filt {α : Type} {p : α → Bool} {xs : List α} {i : Nat} {x : α} (h : xs[i]? = some x) : (xs.take (i + 1)).filter p = (xs.take i).filter p ++ if p x = true then [x] else [] := by
  rw [List.take_add_one, h, List.filter_append]
  cases e : p x <;> simp [e]
def spPNum (K : PySem.W.Frag) : Sp := fun vs H Q _ => ∃ (S : List Addr) (v u : V) (r : Ru) (m : Int) (d1 d2 d3 : D), vs = [v, u] ∧ Rv K S H v (ruD r) ∧ RuOk r ∧ Rv K S H u (.tup [.int m, d1, d2, d3]) ∧ LkOk d1 = true ∧ ∀ L H', Stp [] H H' → H' L = some (.lst ((numR r m d1 d2 d3).map V.int)) → Q (.ref L) H'
theorem cl_possible_numbers {f : Addr} {fd : FuncData} (D : Df K mg "possible_numbers" s_possible_numbers ["rule", "note"] f fd) (T : Nm mg) (c_numbers_left : Cl P w K mg base 1 "numbers_left" s_numbers_left ["many", "lacks"] (spNLeft K)) (c_can_have : Cl P w K mg base 7 "can_have" s_can_have ["rule", "note", "number"] (spCanH K)) : Cl P w K mg base 8 "possible_numbers" s_possible_numbers ["rule", "note"] (spPNum K) := by
  refine D.cl sc_possible_numbers (fun vs H Q E h => ?_) (fun cdv A outer s H vs Q E hr h => ?_)
  · obtain ⟨S, v, u, r, m, d1, d2, d3, rfl, _⟩ := h
    rfl
  · obtain ⟨S, v, u, r, m, d1, d2, d3, rfl, rv, ok, ru, lk1, k⟩ := h
    refine ⟨_, (pss_cons (ps_asg (pe_cl c_numbers_left hr (by omega) (pa_cons (pe_ix ix_tup (pv 1) pe_int (fun _ _ => rfl)) (pa_cons (pe_ix ix_tup (pv 1) pe_int (fun _ _ => rfl)) pa_nil))) (pg_tup rfl (pgs_cons (pg_name (i := 2) sc_possible_numbers.nd rfl (by first | exact Or.inl rfl | exact Or.inr rfl)) (pgs_cons (pg_name (i := 3) sc_possible_numbers.nd rfl (by first | exact Or.inl rfl | exact Or.inr rfl)) pgs_nil (by rfl)) (by rfl)) (by rfl) (by rfl)))
      (pss_cons (ps_setLc (i := 4) (own := [("number", 5)]) rfl sc_possible_numbers.nd rfl rfl (sw_true rfl rfl rfl (by decide +kernel)) (pi_tup (pe_tup (pa_cons (pv 2) (pa_cons pe_int (pa_cons pe_int (pa_cons (pv 3) pa_nil)))))) (blkOk_by (own := [("number", 5)]) (N := N_possible_numbers) (sc := defScope s_possible_numbers) (by decide +kernel)) (fun _ _ _ _ _ => (pg_name (i := 5) sc_possible_numbers.nd rfl (by first | exact Or.inl rfl | exact Or.inr rfl))) (fun _ _ _ _ _ => (pts_one (pt_chain op_le op_le (pv 2) (pv 5) (pv 3)))) (fun _ _ _ _ _ => (pv 5)))
      (pss_one (ps_ret (pe_lc (own := [("number", 5)]) rfl sc_possible_numbers.nd (pi_list (pv 4)) (blkOk_by (own := [("number", 5)]) (N := N_possible_numbers) (sc := defScope s_possible_numbers) (by decide +kernel)) (fun _ _ _ _ _ => (pg_name (i := 5) sc_possible_numbers.nd rfl (by first | exact Or.inl rfl | exact Or.inr rfl))) (fun _ _ _ _ _ => (pts_one (pt_val (pe_cl c_can_have hr (by omega) (pa_cons (pv 0) (pa_cons (pv 1) (pa_cons (pv 5) pa_nil))))))) (fun _ _ _ _ _ => (pv 5))))))), ?_⟩
    have nn : ∀ {x : Addr}, x ∉ ([] : List Addr) := fun m => nomatch m
    obtain ⟨b, us, rfl, hb, _, rus⟩ := ru.tupE
    obtain ⟨u0, u1, u2, u3, rfl, q0, q1, q2, q3⟩ := four rus
    cases q0
    refine ⟨_, rfl, b, _, 0, _, rfl, rfl, hb, at0, _, rfl, b, _, 1, u1, rfl, rfl, hb, at1, S, u1, d1, m, rfl, q1, lk1, fun t H1 S1 ht => ?_⟩
    refine ⟨t, _, rfl, ht, rfl, _, _, rfl, _, _, rfl, rfl, ?_⟩
    dsimp only [gName]
    obtain ⟨fs, efs⟩ : ∃ fs : Int × Int, fs = leftI m d1 := ⟨_, rfl⟩
    have eN : numR r m d1 d2 d3 = (([fs.1, 1, 2, fs.2].filter (inrI fs)).filter (canH r d2 d3)) := by rw [efs]; rfl
    rw [← efs] at ht ⊢
    rw [eN] at k
    refine ⟨_, rfl, _, rfl, (by show 4 ≤ sizeLine; decide), fun t2 nt2 => ?_⟩
    have S2 : Stp [] H1 (upd H1 t2 (.tup [V.int fs.1, V.int 1, V.int 2, V.int fs.2])) := Stp.new nt2 _
    have ht2 : SqT K (upd H1 t2 (.tup [V.int fs.1, V.int 1, V.int 2, V.int fs.2])) t2 (([fs.1, 1, 2, fs.2] : List Int).map V.int) := SqT.of upd_same
    show ∃ _, _
    refine ⟨t2, rfl, ⟨_, ht2⟩, fun L nL => ?_⟩
    generalize upd H1 t2 (.tup [V.int fs.1, V.int 1, V.int 2, V.int fs.2]) = H2 at *
    generalize hxs : ([fs.1, 1, 2, fs.2] : List Int) = xs at *
    refine lc_tup (a := t2) (xs := xs.map V.int) (fun i H' => H' L = some (.lst (((xs.take i).filter (inrI fs)).map V.int)) ∧ Stp [] H2 H') ⟨upd_same, Stp.new nL _⟩ (fun i H' _ ⟨_, S⟩ => sqt_stp S Lsts.nil ht2) ?_ ?_
    · rintro i y H' hi ⟨hL, S'⟩
      obtain ⟨x, hx, rfl⟩ : ∃ x, xs[i]? = some x ∧ y = V.int x := by
        rw [List.getElem?_map] at hi
        cases e : xs[i]? with
        | none => rw [e] at hi; cases hi
        | some u => rw [e] at hi; exact ⟨u, rfl, (Option.some.inj hi).symm⟩
      have ef := take_filt (p := inrI fs) hx
      have lf : ((xs.take i).filter (inrI fs)).length ≤ 4 := by
        have h1 := List.length_filter_le (inrI fs) (xs.take i)
        rw [List.length_take, ← hxs] at h1
        rw [← hxs]
        simp at h1 ⊢
        omega
      refine ⟨rfl, _, rfl, _, rfl, _, _, rfl, rfl, _, rfl, ite2 (fun h => ?_) (fun h => ?_)⟩
      · refine ⟨_, rfl, _, _, rfl, rfl, _, rfl, ite2 (fun h2 => ?_) (fun h2 => ?_)⟩
        · have e : inrI fs x = true := inrI_iff.mpr ⟨of_decide_eq_true h, of_decide_eq_true h2⟩
          rw [if_pos e] at ef
          refine ⟨_, rfl, _, hL, ?_, ?_, S'.mut nL⟩
          · rw [List.length_map]
            exact Nat.lt_of_le_of_lt lf (by decide)
          · rw [upd_same, ef, List.map_append]
            rfl
        · have e : ¬ inrI fs x = true := fun q => h2 (decide_eq_true (inrI_iff.mp q).2)
          rw [if_neg e, List.append_nil] at ef
          rw [ef]
          exact ⟨hL, S'⟩
      · have e : ¬ inrI fs x = true := fun q => h (decide_eq_true (inrI_iff.mp q).1)
        rw [if_neg e, List.append_nil] at ef
        refine ⟨_, rfl, ite2 (fun h => nomatch h) (fun _ => ?_)⟩
        rw [ef]
        exact ⟨hL, S'⟩
    rintro H3 ⟨hL, S3⟩
    rw [List.length_map, List.take_length] at hL
    have few : (xs.filter (inrI fs)).length ≤ 4 := by
      have := List.length_filter_le (inrI fs) xs
      rw [← hxs] at this ⊢
      simpa using this
    generalize xs.filter (inrI fs) = ys at *
    have S13 := (S1.trans S2).trans S3
    dsimp only [gName]
    refine ⟨_, rfl, L, rfl, ⟨_, SqL.of hL⟩, fun M nM => ?_⟩
    refine lc_list (a := L) (xs := ys.map V.int) (fun i H' => H' M = some (.lst (((ys.take i).filter (canH r d2 d3)).map V.int)) ∧ Stp [] H3 H') ⟨upd_same, Stp.new nM _⟩ (fun i H' _ ⟨_, S⟩ => SqL.of (S.kp _ _ nn hL)) ?_ ?_
    · rintro i y H' hi ⟨hM, S'⟩
      obtain ⟨x, hx, rfl⟩ : ∃ x, ys[i]? = some x ∧ y = V.int x := by
        rw [List.getElem?_map] at hi
        cases e : ys[i]? with
        | none => rw [e] at hi; cases hi
        | some u => rw [e] at hi; exact ⟨u, rfl, (Option.some.inj hi).symm⟩
      have ef := take_filt (p := canH r d2 d3) hx
      have lf : ((ys.take i).filter (canH r d2 d3)).length ≤ 4 := by
        have h1 := List.length_filter_le (canH r d2 d3) (ys.take i)
        rw [List.length_take] at h1
        omega
      have SS := S13.trans S'
      refine ⟨rfl, _, rfl, _, rfl, _, rfl, S, v, _, r, _, d1, d2, d3, x, rfl, rv.up SS, ok, ru.up SS, fun H5 S5 => ?_⟩
      have hM5 := S5.kp _ _ nn hM
      refine ⟨_, rfl, ?_⟩
      cases e : canH r d2 d3 x with
      | true =>
        rw [if_pos e] at ef
        refine ite2 (fun _ => ⟨_, rfl, _, hM5, ?_, ?_, (S'.trans S5).mut nM⟩) (fun h => absurd rfl h)
        · rw [List.length_map]
          exact Nat.lt_of_le_of_lt lf (by decide)
        · rw [upd_same, ef, List.map_append]
          rfl
      | false =>
        rw [if_neg (by rw [e]; decide), List.append_nil] at ef
        refine ite2 (fun h => nomatch h) (fun _ => ⟨?_, S'.trans S5⟩)
        rw [ef]
        exact hM5
    rintro H4 ⟨hM, S4⟩
    rw [List.length_map, List.take_length] at hM
    exact k M H4 (S13.trans S4) hM
abbrev s_are_counts : Stmt := topS 52
abbrev N_are_counts : List Str := ["word", "many", "lacks"]
theorem sc_are_counts : FnScope ["word", "many", "lacks"] ["word", "many", "lacks"] (defScope s_are_counts) := ⟨rfl, rfl, rfl, by decide +kernel, rfl, by decide +kernel, by decide +kernel⟩

abbrev s_is_note : Stmt := topS 51
abbrev N_is_note : List Str := ["rule", "value"]
theorem sc_is_note : FnScope ["rule", "value"] ["rule", "value"] (defScope s_is_note) := ⟨rfl, rfl, rfl, by decide +kernel, rfl, by decide +kernel, by decide +kernel⟩

abbrev s_check_note : Stmt := topS 55
abbrev N_check_note : List Str := ["rule", "note"]
theorem sc_check_note : FnScope ["rule", "note"] ["rule", "note"] (defScope s_check_note) := ⟨rfl, rfl, rfl, by decide +kernel, rfl, by decide +kernel, by decide +kernel⟩

/-! ### what is a note -/
def cntL (k : Nat) (m : Int) (d1 : D) : Bool := match k, d1 with
  | 0, .int x => decide (0 ≤ x) && decide (x ≤ m)
  | 0, _ => false
  | 1, .bl _ => true
  | 1, _ => false
  | _, .non => true
  | _, _ => false
def cntB (k : Nat) (d0 d1 : D) : Bool := match d0 with
  | .int m => decide (1 ≤ m) && cntL k m d1
  | _ => false
theorem lk_many {k : Nat} (h : k < 3) : decide (V.str (lk k) = V.str "many") = decide (k = 0) := by
  rcases (by omega : k = 0 ∨ k = 1 ∨ k = 2) with rfl | rfl | rfl <;> decide +kernel
theorem lk_some {k : Nat} (h : k < 3) : decide (V.str (lk k) = V.str "some") = decide (k = 1) := by
  rcases (by omega : k = 0 ∨ k = 1 ∨ k = 2) with rfl | rfl | rfl <;> decide +kernel
def spCnts (K : PySem.W.Frag) : Sp := fun vs H Q _ => ∃ (S : List Addr) (k : Nat) (u0 u1 : V) (d0 d1 : D), vs = [.str (lk k), u0, u1] ∧ k < 3 ∧ Rv K S H u0 d0 ∧ Rv K S H u1 d1 ∧ Q (.bl (cntB k d0 d1)) H
theorem cl_are_counts {f : Addr} {fd : FuncData} (D : Df K mg "are_counts" s_are_counts ["word", "many", "lacks"] f fd) (T : Nm mg) : Cl P w K mg base 1 "are_counts" s_are_counts ["word", "many", "lacks"] (spCnts K) := by
  refine D.cl sc_are_counts (fun vs H Q E h => ?_) (fun cdv A outer s H vs Q E hr h => ?_)
  · obtain ⟨S, k, u0, u1, d0, d1, rfl, _⟩ := h
    rfl
  · obtain ⟨S, k, u0, u1, d0, d1, rfl, hk, r0, r1, q⟩ := h
    refine ⟨_, (pss_cons (ps_if (PW.pt (pw_or (pt_tyNot (T := "int") Mono.var (pv 1) T.n_type T.n_int (by decide +kernel)) (pw_or1 (pt_cmpR op_lt (pv 1) pe_int (by first | exact nomark _ | rfl))))) (pss_one (ps_ret pe_bl)) pss_nil)
      (pss_cons (ps_if (pt_cmpR op_eq (pv 0) pe_str (by first | exact nomark _ | rfl)) (pss_one (ps_ret (pe_and (pe_tyIs (T := "int") Mono.var (pv 2) T.n_type T.n_int (by decide +kernel)) (pe_one (pe_chain op_le op_le pe_int (pv 2) (pv 1)))))) pss_nil)
      (pss_one (ps_ret (pe_ifExp (pt_cmpR op_eq (pv 0) pe_str (by first | exact nomark _ | rfl)) (pe_tyIs (T := "bool") Mono.var (pv 2) T.n_type T.n_bool (by decide +kernel)) (pe_cmpR op_isN (pv 2) pe_non (by first | exact nomark _ | rfl))))))), ?_⟩
    refine ⟨_, rfl, d0.old, r0.old, ?_⟩
    refine ite2 (fun h => ?_) (fun h => ?_)
    · have e : cntB k d0 d1 = false := by
        cases d0 <;> first | rfl | exact absurd h (by simp [Pv.D.old, Dt.ty])
      rw [e] at q
      exact q
    have h2 := Bool.eq_false_iff.mpr h
    obtain ⟨m, rfl⟩ : ∃ m, d0 = .int m := Pv.D.int_of (by simpa [Pv.D.ty] using h2)
    cases r0
    refine ⟨_, rfl, _, _, rfl, rfl, _, rfl, ite2 (fun h => ?_) (fun h => ?_)⟩
    · have h : m < 1 := of_decide_eq_true h
      have e : cntB k (.int m) d1 = false := by
        unfold cntB
        dsimp only
        rw [decide_eq_false (by omega)]
        rfl
      rw [e] at q
      exact q
    have h : 1 ≤ m := by
      have : ¬ m < 1 := fun z => h (decide_eq_true z)
      omega
    refine ⟨_, rfl, rfl, _, rfl, ?_⟩
    rw [lk_many hk]
    have e0 : ∀ b, cntL k m d1 = b → Q (.bl b) H := fun b e => by
      have : cntB k (.int m) d1 = b := by
        unfold cntB
        dsimp only
        rw [decide_eq_true h, Bool.true_and]
        exact e
      rw [this] at q
      exact q
    refine ite2 (fun hk0 => ?_) (fun hk0 => ?_)
    · have hk0 : k = 0 := of_decide_eq_true hk0
      subst hk0
      refine ⟨_, rfl, d1.old, r1.old, _, rfl, ?_⟩
      cases r1 with
      | int x =>
        refine ite2 (fun _ => ?_) (fun h => absurd rfl h)
        refine ⟨_, rfl, _, _, rfl, rfl, _, rfl, ite2 (fun h0 => ?_) (fun h0 => ?_)⟩
        · have h0 : (0 : Int) ≤ x := of_decide_eq_true h0
          refine ⟨_, rfl, _, _, rfl, rfl, e0 _ ?_⟩
          show (decide (0 ≤ x) && decide (x ≤ m)) = _
          rw [decide_eq_true h0, Bool.true_and]
        · refine e0 false ?_
          show (decide (0 ≤ x) && decide (x ≤ m)) = false
          rw [Bool.eq_false_iff.mpr h0]
          rfl
      | _ => exact e0 false rfl
    have hk0 : k ≠ 0 := fun e => hk0 (decide_eq_true e)
    refine ⟨_, rfl, rfl, _, rfl, ?_⟩
    rw [lk_some hk]
    refine ite2 (fun hk1 => ?_) (fun hk1 => ?_)
    · have hk1 : k = 1 := of_decide_eq_true hk1
      subst hk1
      refine ⟨_, rfl, d1.old, r1.old, ?_⟩
      refine e0 _ ?_
      cases d1 <;> rfl
    · have hk1 : k = 2 := by
        have : k ≠ 1 := fun e => hk1 (decide_eq_true e)
        omega
      subst hk1
      refine ⟨_, rfl, rfl, ?_⟩
      rw [isNon_rv r1]
      refine e0 _ ?_
      cases d1 <;> rfl
def isNote (r : Ru) : D → Bool
  | .tup [.int m, d1, d2, d3] => cntB r.lacks (.int m) d1 && !(numR r m d1 d2 d3).isEmpty
  | _ => false
theorem cnt_lk {k : Nat} {m : Int} {d1 : D} (h : cntB k (.int m) d1 = true) : LkOk d1 = true := by
  unfold cntB at h
  dsimp only at h
  have h := (Bool.and_eq_true_iff.mp h).2
  unfold cntL at h
  split at h <;> first | rfl | cases h
theorem four_len {α : Type} {l : List α} (h : l.length = 4) : ∃ a b c d, l = [a, b, c, d] := by
  match l, h with
  | [a, b, c, d], _ => exact ⟨a, b, c, d, rfl⟩
def spIsNote (K : PySem.W.Frag) : Sp := fun vs H Q _ => ∃ (S : List Addr) (v u : V) (r : Ru) (d : D), vs = [v, u] ∧ Rv K S H v (ruD r) ∧ RuOk r ∧ Rv K S H u d ∧ ∀ H', Stp [] H H' → Q (.bl (isNote r d)) H'
theorem isNote_no {r : Ru} {d : D} (h : ∀ ds, d = .tup ds → ds.length ≠ 4) : isNote r d = false := by
  unfold isNote
  split
  · exact absurd rfl (h _ rfl)
  · rfl
theorem cl_is_note {f : Addr} {fd : FuncData} (D : Df K mg "is_note" s_is_note ["rule", "value"] f fd) (T : Nm mg) (c_check_rule : Cl P w K mg base 4 "check_rule" s_check_rule ["rule"] (spCk K isRule)) (c_are_counts : Cl P w K mg base 1 "are_counts" s_are_counts ["word", "many", "lacks"] (spCnts K)) (c_possible_numbers : Cl P w K mg base 8 "possible_numbers" s_possible_numbers ["rule", "note"] (spPNum K)) : Cl P w K mg base 9 "is_note" s_is_note ["rule", "value"] (spIsNote K) := by
  refine D.cl sc_is_note (fun vs H Q E h => ?_) (fun cdv A outer s H vs Q E hr h => ?_)
  · obtain ⟨S, v, u, r, d, rfl, _⟩ := h
    rfl
  · obtain ⟨S, v, u, r, d, rfl, rv, ok, ru, k⟩ := h
    refine ⟨_, (pss_cons (ps_expr (pe_cl c_check_rule hr (by omega) (pa_cons (pv 0) pa_nil)))
      (pss_cons (ps_if (PW.pt (pw_or (pt_tyNot (T := "tuple") Mono.var (pv 1) T.n_type T.n_tuple (by decide +kernel)) (pw_or (pt_cmpR op_ne (pe_callB call_len_seq (by rfl) T.n_len (by decide +kernel) (pa_cons (pv 1) pa_nil)) pe_int (by first | exact nomark _ | rfl)) (pw_or1 (pt_not (pt_val (pe_cl c_are_counts hr (by omega) (pa_cons (pe_ix ix_tup (pv 0) pe_int (fun _ _ => rfl)) (pa_cons (pe_ix ix_tup (pv 1) pe_int (fun _ _ => rfl)) (pa_cons (pe_ix ix_tup (pv 1) pe_int (fun _ _ => rfl)) pa_nil)))))))))) (pss_one (ps_ret pe_bl)) pss_nil)
      (pss_one (ps_ret (pe_cmpR (Pv.op_neNil hr.units) (pe_cl c_possible_numbers hr (by omega) (pa_cons (pv 0) (pa_cons (pv 1) pa_nil))) (pe_lst pa_nil) (by first | exact nomark _ | rfl)))))), ?_⟩
    refine ⟨_, rfl, S, v, _, rfl, rv, isRule_ru ok, trivial, fun H1 S1 => ?_⟩
    have rv := rv.up S1
    have ru := ru.up S1
    refine ⟨_, rfl, d.old, ru.old, ?_⟩
    refine ite2 (fun h => ?_) (fun h => ?_)
    · rw [isNote_no fun ds e => by
        subst e
        exact absurd h (by simp [Pv.D.old, Dt.ty])] at k
      exact k H1 S1
    have h2 := Bool.eq_false_iff.mpr h
    obtain ⟨ds, rfl⟩ : ∃ ds, d = .tup ds := Pv.D.tup_of (by simpa [Pv.D.ty] using h2)
    obtain ⟨b, us, rfl, hb, hl, rus⟩ := ru.tupE
    refine ⟨_, rfl, b, us, rfl, .inr hb, rfl, _, rfl, ite2 (fun h => ?_) (fun h => ?_)⟩
    · rw [isNote_no fun ds e => by
        injection e with e
        subst e
        intro e4
        rw [rus.len, e4] at h
        exact absurd h (by simp)] at k
      exact k H1 S1
    have h4 : ds.length = 4 := by
      rw [rus.len] at h
      have h2 := Bool.eq_false_iff.mpr h
      simp at h2
      omega
    obtain ⟨d0, d1, d2, d3, rfl⟩ := four_len h4
    obtain ⟨u0, u1, u2, u3, rfl, q0, q1, q2, q3⟩ := four rus
    obtain ⟨a, v1, v2, rfl, ha, r1, r2⟩ := ruD_parts rv
    refine ⟨_, rfl, a, _, 0, _, rfl, rfl, ha, at0, _, rfl, b, _, 0, u0, rfl, rfl, hb, at0, _, rfl, b, _, 1, u1, rfl, rfl, hb, at1, S, r.lacks, u0, u1, d0, d1, rfl, ok.lacks, q0, q1, _, rfl, ?_⟩
    cases ec : cntB r.lacks d0 d1 with
    | false =>
      have e : isNote r (.tup [d0, d1, d2, d3]) = false := by
        unfold isNote
        split
        · rename_i m d1' d2' d3' e
          injection e with e
          injection e with e1 e
          injection e with e2 e
          subst e1
          subst e2
          rw [ec]
          rfl
        · rfl
      rw [e] at k
      exact ite2 (fun _ => k H1 S1) (fun h => absurd rfl h)
    | true =>
      obtain ⟨m, rfl⟩ : ∃ m, d0 = .int m := by
        cases d0 <;> first | exact ⟨_, rfl⟩ | cases ec
      have e : isNote r (.tup [.int m, d1, d2, d3]) = !(numR r m d1 d2 d3).isEmpty := by
        show (cntB r.lacks (.int m) d1 && _) = _
        rw [ec, Bool.true_and]
      rw [e] at k
      refine ite2 (fun h => nomatch h) (fun _ => ?_)
      refine ⟨_, rfl, _, rfl, S, _, _, r, m, d1, d2, d3, rfl, rv, ok, ru, cnt_lk ec, fun L H2 S2 hL => ?_⟩
      refine ⟨Nat.zero_le _, fun q nq => ne_nilR hL nq ?_⟩
      rw [show ((numR r m d1 d2 d3).map V.int).isEmpty = (numR r m d1 d2 d3).isEmpty by cases numR r m d1 d2 d3 <;> rfl]
      exact k _ ((S1.trans S2).new' nq)
def spCkNote (K : PySem.W.Frag) : Sp := fun vs H Q _ => ∃ (S : List Addr) (v u : V) (r : Ru) (d : D), vs = [v, u] ∧ Rv K S H v (ruD r) ∧ RuOk r ∧ Rv K S H u d ∧ isNote r d = true ∧ ∀ H', Stp [] H H' → Q .non H'
theorem cl_check_note {f : Addr} {fd : FuncData} (D : Df K mg "check_note" s_check_note ["rule", "note"] f fd) (T : Nm mg) (c_is_note : Cl P w K mg base 9 "is_note" s_is_note ["rule", "value"] (spIsNote K)) : Cl P w K mg base 10 "check_note" s_check_note ["rule", "note"] (spCkNote K) := by
  refine D.cl sc_check_note (fun vs H Q E h => ?_) (fun cdv A outer s H vs Q E hr h => ?_)
  · obtain ⟨S, v, u, r, d, rfl, _⟩ := h
    rfl
  · obtain ⟨S, v, u, r, d, rfl, rv, ok, ru, hd, k⟩ := h
    refine ⟨_, (pss_one (ps_if (pt_not (pt_val (pe_cl c_is_note hr (by omega) (pa_cons (pv 0) (pa_cons (pv 1) pa_nil))))) (pss_one ps_never) pss_nil)), ?_⟩
    refine ⟨_, rfl, _, rfl, S, v, u, r, d, rfl, rv, ok, ru, fun H1 S1 => ?_⟩
    rw [hd]
    exact ⟨_, rfl, ite2 (fun h => nomatch h) (fun _ => k H1 S1)⟩
theorem atI_neg {xs : List V} {b : V} (h0 : 0 < xs.length) (h : xs[xs.length - 1]? = some b) : atI xs (-1) = some b := by
  obtain ⟨i, c, e⟩ : ∃ i c, xs = i ++ [c] := by
    rcases List.eq_nil_or_concat xs with rfl | ⟨i, c, e⟩
    · cases h0
    · exact ⟨i, c, by rw [e, List.concat_eq_append]⟩
  rw [e, List.length_append, List.length_singleton, Nat.add_sub_cancel, List.getElem?_concat_length] at h
  cases h
  rw [e]
  exact atI_last i b
/-! ### told notes -/
/-- a told note: count, lacks, bounds -/
def tellD (m : Int) (dl : D) (low high : Option Txt) : D := .tup [.int m, dl, vD low, vD high]
theorem vV_rv {K : PySem.W.Frag} {S : List Addr} {H : Hp} {u : V} {o : Option Txt} (r : Rv K S H u (vD o)) : u = vV o := by
  cases o with
  | none => cases r; rfl
  | some l => cases r; rfl
theorem tell_parts {K : PySem.W.Frag} {S : List Addr} {H : Hp} {v : V} {m : Int} {dl : D} {low high : Option Txt} (r : Rv K S H v (tellD m dl low high)) : ∃ t u1, v = .ref t ∧ SqT K H t [.int m, u1, vV low, vV high] ∧ Rv K S H u1 dl := by
  obtain ⟨t, us, rfl, ht, _, rus⟩ := Pv.Rv.tupE r
  obtain ⟨u0, u1, u2, u3, rfl, q0, q1, q2, q3⟩ := four rus
  cases q0
  obtain rfl := vV_rv q2
  obtain rfl := vV_rv q3
  exact ⟨t, u1, rfl, ht, q1⟩
theorem vV_eq {a b : Option Txt} : decide (vV a = vV b) = decide (a = b) := by
  refine decide_eq_decide.mpr ⟨fun q => ?_, fun q => by rw [q]⟩
  cases a <;> cases b <;> first | rfl | (injection q with q; rw [tx_inj q]) | cases q
theorem vV_scal (a b : Option Txt) : scal (vV a) (vV b) = true := by cases a <;> cases b <;> rfl
/-! ### values with no list stand for any list set -/
mutual
def noL : D → Bool
  | .lst _ => false
  | .tup ds => noLs ds
  | _ => true
def noLs : List D → Bool
  | [] => true
  | d :: ds => noL d && noLs ds
end
mutual
theorem Rv.any {K : PySem.W.Frag} {S S' : List Addr} {H : Hp} : ∀ {v : V} {d : D}, Rv K S H v d → noL d = true → Rv K S' H v d
  | _, .non, .non, _ => .non
  | _, .bl _, .bl b, _ => .bl b
  | _, .int _, .int i, _ => .int i
  | _, .str _, .str x h, _ => .str x h
  | _, .tup ds, .tup h n r, q => .tup h n (RvL.any r (by unfold noL at q; exact q))
  | _, .lst _, .lst _ _ _ _, q => by unfold noL at q; cases q
  | _, .obj _, .obj h k, _ => .obj h k
theorem RvL.any {K : PySem.W.Frag} {S S' : List Addr} {H : Hp} : ∀ {vs : List V} {ds : List D}, RvL K S H vs ds → noLs ds = true → RvL K S' H vs ds
  | _, [], .nil, _ => .nil
  | _, _ :: _, .cons h r, q => by
    unfold noLs at q
    obtain ⟨q1, q2⟩ := Bool.and_eq_true_iff.mp q
    exact .cons (Rv.any h q1) (RvL.any r q2)
end
theorem noL_ru (r : Ru) : noL (ruD r) = true := by
  obtain ⟨k, lo, hi⟩ := r
  cases lo <;> cases hi <;> rfl
theorem noL_v (o : Option (List Nat)) : noL (vD o) = true := by cases o <;> rfl
/-! ### the grown note -/
theorem noL_lacks (k g : Nat) : noL (lacksD k g) = true := by
  unfold lacksD
  split <;> rfl
/-! ### the texts that can stand -/
theorem reach_w {r : Ru} {low high : Option Txt} (W : WfB r low high) (hk : ∀ k n, r.high = some (k, n) → k < 2) {w : Txt} (ap : Abc w) : reachL r high w = true ↔ ∃ q, greatR r.high (vD high) = some q ∧ ∀ e, q.2 = some e → w < e := by
  unfold reachL
  cases e : r.high with
  | none =>
    cases high with
    | none => exact ⟨fun _ => ⟨([], none), rfl, fun e q => by cases q⟩, fun _ => rfl⟩
    | some l =>
      obtain ⟨_, k, n, q, _⟩ := W.high l rfl
      rw [e] at q
      cases q
  | some kn =>
    obtain ⟨k, n⟩ := kn
    have k2 := hk k n e
    dsimp only
    cases high with
    | none =>
      dsimp only
      by_cases k0 : k = 0
      · subst k0
        exact ⟨fun h => absurd h (by decide), fun ⟨q, h, _⟩ => (by cases h)⟩
      · have k1 : k = 1 := by omega
        subst k1
        exact ⟨fun _ => ⟨(List.replicate n 99 ++ [97], none), rfl, fun e q => by cases q⟩, fun _ => rfl⟩
    | some h =>
      obtain ⟨ah, k', n', q, hl⟩ := W.high h rfl
      rw [e] at q
      cases q
      have hq : ∃ q, greatR (some (k, n)) (vD (some h)) = some q := by
        unfold greatR
        dsimp only
        by_cases k0 : k = 0
        · rw [if_pos k0]
          refine ⟨(h, if h.length = n then bey h else some (h ++ [97])), ?_⟩
          show cutD (.str h) n = _
          unfold cutD
          dsimp only
          rw [if_pos ⟨abcB_iff.mpr ah, hl⟩]
        · rw [if_neg k0]
          refine ⟨(ledF h n, some (h ++ [97])), ?_⟩
          show ledD (.str h) n = _
          unfold ledD
          dsimp only
          rw [if_pos ⟨abcB_iff.mpr ah, hl⟩]
      obtain ⟨q, hq⟩ := hq
      have hh : inP h q = true := (great_in hq ah).mpr (by
        unfold highT
        dsimp only
        rw [if_pos hl])
      rw [Bool.or_eq_true, decide_eq_true_iff, decide_eq_true_iff, hq]
      constructor
      · rintro (z | z)
        · exact ⟨q, rfl, fun e he => le_lt z ((inP_iff.mp hh).2 e he)⟩
        · have := (great_in hq ap).mpr (by rw [z])
          exact ⟨q, rfl, (inP_iff.mp this).2⟩
      · rintro ⟨q', e1, c⟩
        cases e1
        by_cases z : w ≤ h
        · exact .inl z
        · right
          have lt : h < w := by
            by_cases y : h < w
            · exact y
            · exact absurd (le_of_nlt y) z
          have i : inP w q = true := inP_iff.mpr ⟨List.le_trans (inP_iff.mp hh).1 (lt_le' lt), c⟩
          have := (great_in hq ap).mp i
          cases y : highT (some (k, n)) w with
          | none => rw [y] at this; cases this
          | some z => rw [y] at this; injection this with this; rw [this]
def standsL (r : Ru) (pk : Int) (low high : Option Txt) (w : Txt) : Bool := match firstL r low with
  | none => false
  | some f => if pk = 0 then false else if pk = 1 then decide (lowT r.low w = low) && decide (highT r.high w = high)
    else if pk = 2 then (decide (lowT r.low w = low) && reachL r high w) || (decide (highT r.high w = high) && decide (f ≤ w))
    else decide (f ≤ w) && reachL r high w
theorem stands_eq {r : Ru} {low high : Option Txt} (W : WfB r low high) (hk : ∀ k n, r.high = some (k, n) → k < 2) {fs : Int × Int} (h0 : 0 ≤ fs.1) (h1 : fs.1 ≤ fs.2) {w : Txt} (aw : Abc w) :
    standsL r fs.2 low high w = true ↔ ∃ n ∈ numI r fs (vD low) (vD high), inS (rangesR r (vD low) (vD high) n) w = true := by
  have rw_ := reach_w W hk aw
  rcases first_least W with ⟨e1, e2⟩ | ⟨p, e1, e2⟩
  · unfold standsL
    rw [e1]
    refine ⟨fun h => (by cases h), fun ⟨n, _, h⟩ => ?_⟩
    unfold rangesR at h
    rw [e2] at h
    cases h
  have lo : decide (lowT r.low w = low) = inP w p := by
    rw [Bool.eq_iff_iff, decide_eq_true_iff, least_in e2 aw]
    exact ⟨fun q => by rw [q], fun q => (vD_inj q).symm⟩
  unfold standsL
  rw [e1]
  dsimp only
  cases eg : greatR r.high (vD high) with
  | none =>
    have nr : reachL r high w = false := by
      rw [Bool.eq_false_iff]
      intro h
      obtain ⟨q, h, _⟩ := rw_.mp h
      rw [eg] at h
      cases h
    have nh : decide (highT r.high w = high) = false := decide_eq_false fun q => great_no eg aw (by rw [q])
    rw [nr, nh]
    simp only [Bool.and_false, Bool.false_and, Bool.or_false, ite_self]
    refine ⟨fun h => (by cases h), fun ⟨n, _, h⟩ => ?_⟩
    unfold rangesR at h
    rw [e2, eg] at h
    cases h
  | some q =>
    have hi : decide (highT r.high w = high) = inP w q := by
      rw [Bool.eq_iff_iff, decide_eq_true_iff, great_in eg aw]
      exact ⟨fun q => by rw [q], fun q => (vD_inj q).symm⟩
    have re : reachL r high w = true ↔ ∀ e, q.2 = some e → w < e := by
      rw [rw_, eg]
      exact ⟨fun ⟨q', h, c⟩ => by cases h; exact c, fun h => ⟨q, rfl, h⟩⟩
    have r1 : ∀ x : Txt, inP x ([], q.2) = true ↔ ∀ e, q.2 = some e → x < e := fun x => by
      rw [inP_iff]
      exact ⟨fun h => h.2, fun h => ⟨nil_le x, h⟩⟩
    have r2 : ∀ x : Txt, inP x (p.1, none) = true ↔ p.1 ≤ x := fun x => by
      rw [inP_iff]
      exact ⟨fun h => h.1, fun h => ⟨h, fun e q => by cases q⟩⟩
    have rn : ∀ n : Int, rangesR r (vD low) (vD high) n = if n = 0 then [] else if n = 1 then interR p q else if n = 2 then interR p ([], q.2) ++ interR (p.1, none) q else interR (p.1, none) ([], q.2) := fun n => by
      unfold rangesR
      rw [e2, eg]
    have i1 : inS (rangesR r (vD low) (vD high) 1) w = true ↔ inP w p = true ∧ inP w q = true := by
      rw [rn, if_neg (by decide), if_pos rfl, inter_in]
    have i2 : inS (rangesR r (vD low) (vD high) 2) w = true ↔ (inP w p = true ∧ reachL r high w = true) ∨ (p.1 ≤ w ∧ inP w q = true) := by
      rw [rn, if_neg (by decide), if_neg (by decide), if_pos rfl, inS_app, Bool.or_eq_true, inter_in, inter_in, r1, r2, re]
    have i3 : ∀ n : Int, n ≠ 0 → n ≠ 1 → n ≠ 2 → (inS (rangesR r (vD low) (vD high) n) w = true ↔ p.1 ≤ w ∧ reachL r high w = true) := fun n a b c => by
      rw [rn, if_neg a, if_neg b, if_neg c, inter_in, r1, r2, re]
    have can : ∀ n : Int, n ≠ 0 → inS (rangesR r (vD low) (vD high) n) w = true → canH r (vD low) (vD high) n = true := fun n a h => by
      rw [canH_ne a]
      intro e
      rw [e] at h
      cases h
    have pl : inP w p = true → p.1 ≤ w := fun h => (inP_iff.mp h).1
    have ql : inP w q = true → reachL r high w = true := fun h => re.mpr (inP_iff.mp h).2
    have none0 : ∀ n : Int, n = 0 → ¬ inS (rangesR r (vD low) (vD high) n) w = true := fun n a h => by
      rw [rn, if_pos a] at h
      cases h
    rw [lo, hi]
    constructor
    · intro h
      by_cases z : fs.2 = 0
      · rw [if_pos z] at h
        cases h
      rw [if_neg z] at h
      have go : inS (rangesR r (vD low) (vD high) fs.2) w = true := by
        by_cases z1 : fs.2 = 1
        · rw [if_pos z1, Bool.and_eq_true] at h
          rw [z1]
          exact i1.mpr h
        rw [if_neg z1] at h
        by_cases z2 : fs.2 = 2
        · rw [if_pos z2, Bool.or_eq_true, Bool.and_eq_true, Bool.and_eq_true, decide_eq_true_iff] at h
          rw [z2]
          exact i2.mpr (h.imp id fun h => ⟨h.2, h.1⟩)
        rw [if_neg z2, Bool.and_eq_true, decide_eq_true_iff] at h
        exact (i3 _ z z1 z2).mpr h
      exact ⟨fs.2, num_mem.mpr ⟨.inr (.inr (.inr rfl)), h1, Int.le_refl _, can _ z go⟩, go⟩
    · rintro ⟨n, m, h⟩
      obtain ⟨m1, m2, m3, m4⟩ := num_mem.mp m
      have n0 : n ≠ 0 := fun e => none0 n e h
      have z : fs.2 ≠ 0 := by omega
      rw [if_neg z]
      by_cases z1 : fs.2 = 1
      · rw [if_pos z1, Bool.and_eq_true]
        have : n = 1 := by omega
        rw [this] at h
        exact i1.mp h
      rw [if_neg z1]
      have weak : p.1 ≤ w ∧ reachL r high w = true := by
        by_cases a : n = 1
        · rw [a] at h
          have := i1.mp h
          exact ⟨pl this.1, ql this.2⟩
        by_cases b : n = 2
        · rw [b] at h
          rcases i2.mp h with c | c
          · exact ⟨pl c.1, c.2⟩
          · exact ⟨c.1, ql c.2⟩
        exact (i3 n n0 a b).mp h
      by_cases z2 : fs.2 = 2
      · rw [if_pos z2, Bool.or_eq_true, Bool.and_eq_true, Bool.and_eq_true, decide_eq_true_iff]
        by_cases a : n = 1
        · rw [a] at h
          have := i1.mp h
          exact .inl ⟨this.1, ql this.2⟩
        have b : n = 2 := by omega
        rw [b] at h
        exact (i2.mp h).imp id fun h => ⟨h.2, h.1⟩
      rw [if_neg z2, Bool.and_eq_true, decide_eq_true_iff]
      exact weak
theorem inter_ok {p q : Pr} (hp : PrS p) (hq : PrS q) : ∀ x ∈ interR p q, PrOk x := fun x m => by
  have sm : Short (maxT p.1 q.1) := by
    rcases maxT_or p.1 q.1 with e | e <;> rw [e]
    · exact hp.1
    · exact hq.1
  unfold interR at m
  cases e : minE p.2 q.2 with
  | none =>
    rw [e] at m
    rw [List.mem_singleton.mp m]
    exact ⟨sm, fun e q => by cases q⟩
  | some z =>
    rw [e] at m
    have sz : Short z := by
      revert e
      cases e1 : p.2 with
      | none => exact fun e => hq.2 z e
      | some a =>
        cases e2 : q.2 with
        | none => exact fun e => by cases e; exact hp.2 _ e1
        | some b =>
          unfold minE
          intro e
          injection e with e
          rw [← e]
          split
          · exact hq.2 _ e2
          · exact hp.2 _ e1
    by_cases c : maxT p.1 q.1 < z
    · simp only [if_pos c] at m
      rw [List.mem_singleton.mp m]
      exact ⟨sm, fun e q => by cases q; exact ⟨sz, c⟩⟩
    · simp only [if_neg c] at m
      cases m
theorem short_snoc {l : Txt} (h : Abc l) (n : l.length ≤ 6) : Short (l ++ [97]) := ⟨h.app (Abc.one (.inl rfl)), by simp; omega⟩
theorem cut_s {d : D} {n : Nat} {p : Pr} (h : cutD d n = some p) (hn : n ≤ 6) : PrS p := by
  unfold cutD at h
  split at h
  · rename_i l
    by_cases c : abcB l = true ∧ l.length ≤ n
    · rw [if_pos c] at h
      cases h
      have al := abcB_iff.mp c.1
      refine ⟨⟨al, show l.length ≤ 40 by omega⟩, fun e q => ?_⟩
      have q : (if l.length = n then bey l else some (l ++ [97])) = some e := q
      by_cases z : l.length = n
      · rw [if_pos z] at q
        obtain ⟨a, b⟩ := abc_bey al q
        exact ⟨a, by omega⟩
      · rw [if_neg z] at q
        cases q
        exact short_snoc al (by omega)
    · rw [if_neg c] at h
      cases h
  · cases h
theorem any_s {d : D} {p : Pr} (h : anyD d = some p) : PrS p := by
  unfold anyD at h
  split at h
  · cases h
    exact ⟨⟨Abc.nil, Nat.zero_le _⟩, fun e q => by cases q⟩
  · cases h
theorem rng_ok {r : Ru} (ok : RuOk r) {d2 d3 : D} {n : Int} : ∀ x ∈ rangesR r d2 d3 n, PrOk x := fun x m => by
  unfold rangesR at m
  cases e1 : leastR r.low d2 with
  | none => rw [e1] at m; cases m
  | some p =>
    cases e2 : greatR r.high d3 with
    | none => rw [e1, e2] at m; cases m
    | some q =>
      rw [e1, e2] at m
      have sp : PrS p := by
        revert e1
        cases e : r.low with
        | none => exact fun h => any_s h
        | some k => exact fun h => cut_s h (ok.low k e)
      have sq : PrS q := by
        revert e2
        cases e : r.high with
        | none => exact fun h => any_s h
        | some kn =>
          obtain ⟨k, n⟩ := kn
          have hn := (ok.high k n e).2
          intro h
          unfold greatR at h
          dsimp only at h
          by_cases k0 : k = 0
          · rw [if_pos k0] at h
            exact cut_s h hn
          · rw [if_neg k0] at h
            unfold ledD at h
            split at h
            · cases h
              refine ⟨⟨Abc.app (fun c q => .inr (.inr (List.eq_of_mem_replicate q))) (Abc.one (.inl rfl)), ?_⟩, fun e q => by cases q⟩
              show (List.replicate n 99 ++ [97]).length ≤ 40
              simp
              omega
            · rename_i l
              by_cases c : abcB l = true ∧ l.length ≤ n
              · rw [if_pos c] at h
                cases h
                have al := abcB_iff.mp c.1
                refine ⟨⟨ledF_abc al, ?_⟩, fun e q => ?_⟩
                · have := ledF_len c.2
                  show (ledF l n).length ≤ 40
                  omega
                · have q : some (l ++ [97]) = some e := q
                  cases q
                  exact short_snoc al (by omega)
              · rw [if_neg c] at h
                cases h
            · cases h
      have sn : Short ([] : Txt) := ⟨Abc.nil, Nat.zero_le _⟩
      have s1 : PrS (([], q.2) : Pr) := ⟨sn, sq.2⟩
      have s2 : PrS ((p.1, none) : Pr) := ⟨sp.1, fun e q => by cases q⟩
      have m : x ∈ (if n = 0 then [] else if n = 1 then interR p q else if n = 2 then interR p ([], q.2) ++ interR (p.1, none) q else interR (p.1, none) ([], q.2)) := m
      by_cases a : n = 0
      · rw [if_pos a] at m; cases m
      rw [if_neg a] at m
      by_cases b : n = 1
      · rw [if_pos b] at m; exact inter_ok sp sq x m
      rw [if_neg b] at m
      by_cases c : n = 2
      · rw [if_pos c] at m
        rcases List.mem_append.mp m with m | m
        · exact inter_ok sp s1 x m
        · exact inter_ok s2 sq x m
      rw [if_neg c] at m
      exact inter_ok s2 s1 x m
/-! ### what a grown note gives -/
theorem two_shown {a b : Int} (ha : a.natAbs ≤ 10 ^ 31) (hb : b.natAbs ≤ 10 ^ 31) : (PyData.tuple [.int a, .int b]).showable = true ∧ (PyData.tuple [.int a, .int b]).depth ≤ 100 ∧ (PyData.tuple [.int a, .int b]).shown.length ≤ 1000 := by
  have lg : ∀ {x : Int}, x.natAbs ≤ 10 ^ 31 → x.natAbs.log2 < 1920 := fun {x} h => by
    by_cases z : x.natAbs = 0
    · rw [z]
      decide
    · exact (Nat.log2_lt z).mpr (Nat.lt_of_le_of_lt h (Nat.lt_of_lt_of_le (show (10 : Nat) ^ 31 < 2 ^ 128 by decide) (Nat.pow_le_pow_right (by decide) (by decide))))
  have ln : ∀ {x : Int}, x.natAbs ≤ 10 ^ 31 → (PyData.shown (.int x)).length ≤ 33 := fun {x} h => by
    have e := int_text_length_le10 (a := x) (k := 32) (by decide) (Nat.lt_of_le_of_lt h (Nat.pow_lt_pow_right (by decide) (by decide)))
    show (Str.ofString (toString x)).length ≤ 33
    rw [PySem.ofString_length]
    exact e
  refine ⟨?_, ?_, ?_⟩
  · simp only [PyData.showable, PyData.showableAll, Bool.and_true, Bool.and_eq_true]
    exact ⟨decide_eq_true (lg ha), decide_eq_true (lg hb)⟩
  · simp only [PyData.depth, PyData.depthAll]
    decide
  · have q := tupleText_le (PyData.shownAll [.int a, .int b])
    have e : (PyData.tuple [.int a, .int b]).shown = tupleText (PyData.shownAll [.int a, .int b]) := by simp only [PyData.shown]
    rw [e]
    have e2 : ((PyData.shownAll [.int a, .int b]).map fun t => t.length + 2).sum ≤ 70 := by
      simp only [PyData.shownAll, List.map_cons, List.map_nil, List.sum_cons, List.sum_nil]
      have := ln ha
      have := ln hb
      omega
    omega
theorem left_le {k : Nat} {m : Int} {d : D} (h : cntB k (.int m) d = true) : (leftI m d).2 ≤ m := by
  unfold cntB at h
  rw [Bool.and_eq_true, decide_eq_true_iff] at h
  obtain ⟨m1, h⟩ := h
  unfold cntL at h
  split at h
  · rw [Bool.and_eq_true, decide_eq_true_iff] at h
    show m - _ ≤ m
    omega
  · cases h
  · rename_i b
    cases b
    · show m ≤ m
      omega
    · show m - 1 ≤ m
      omega
  · cases h
  · show m ≤ m
    omega
  · cases h
structure Grw (r : Ru) (m : Nat) (d1 d2 d3 : D) (g : Nat) (more : Nat) where
  ok : isNote r (.tup [.int (m : Int), d1, d2, d3]) = true
  cnt : cntL r.lacks (m : Int) d1 = true
  pos : 0 ≤ (leftI (m : Int) d1).1
  a : Int
  z : Int
  ha : (numR r (m : Int) d1 d2 d3)[0]? = some a
  hz : (numR r (m : Int) d1 d2 d3)[(numR r (m : Int) d1 d2 d3).length - 1]? = some z
  a0 : 0 ≤ a ∧ a ≤ m
  z0 : 0 ≤ z ∧ z ≤ m
  btw : more = 0 → (m : Int) - z ≤ g ∧ (g : Int) ≤ m - a
theorem grown_cnt {r : Ru} (ok : RuOk r) {os : List (Option Txt)} (h0 : 0 < os.length) {more : Nat} {b : Bool} : cntB r.lacks (.int ((os.length + more : Nat) : Int)) (grownD r.lacks (gone os) os.length more b) = true := by
  have gl : gone os ≤ os.length := by unfold gone; omega
  unfold cntB
  rw [Bool.and_eq_true, decide_eq_true_iff]
  refine ⟨by omega, ?_⟩
  rcases (by have := ok.lacks; omega : r.lacks = 0 ∨ r.lacks = 1 ∨ r.lacks = 2) with e | e | e
  · rw [e]
    show (decide ((0 : Int) ≤ ((gone os + (if b = true then more else 0) : Nat) : Int)) && decide (((gone os + (if b = true then more else 0) : Nat) : Int) ≤ ((os.length + more : Nat) : Int))) = true
    rw [Bool.and_eq_true, decide_eq_true_iff, decide_eq_true_iff]
    constructor
    · omega
    · split <;> omega
  · rw [e]
    rfl
  · rw [e]
    rfl
theorem grown_grw {r : Ru} (ok : RuOk r) {os : List (Option Txt)} (c : Col os) (h0 : 0 < os.length) {more : Nat} {b : Bool} (hb : gone os = os.length → b = true) :
    Nonempty (Grw r (os.length + more) (grownD r.lacks (gone os) os.length more b) (vD (lowO r.low (txs os))) (vD (highO r.high (txs os))) (gone os) more) := by
  have cb := grown_cnt ok h0 (more := more) (b := b)
  obtain ⟨p0, n, cn, n1, n2, n3⟩ := grown_can (r := r) c h0 hb
  have l2 := left_le cb
  have cl : cntL r.lacks ((os.length + more : Nat) : Int) (grownD r.lacks (gone os) os.length more b) = true := by
    have q := cb
    unfold cntB at q
    rw [Bool.and_eq_true] at q
    exact q.2
  generalize grownD r.lacks (gone os) os.length more b = d1 at *
  obtain ⟨⟨x, mx, xn⟩, y, my, ny⟩ := num_around cn p0 n1 n2
  have mx' : x ∈ numR r ((os.length + more : Nat) : Int) d1 (vD (lowO r.low (txs os))) (vD (highO r.high (txs os))) := mx
  have my' : y ∈ numR r ((os.length + more : Nat) : Int) d1 (vD (lowO r.low (txs os))) (vD (highO r.high (txs os))) := my
  have ne : numR r ((os.length + more : Nat) : Int) d1 (vD (lowO r.low (txs os))) (vD (highO r.high (txs os))) ≠ [] := fun e => by rw [e] at mx'; exact nomatch mx'
  obtain ⟨a, z, ha, hz, ma, mz, all⟩ := asc_ends (num_asc r (leftI ((os.length + more : Nat) : Int) d1) (vD (lowO r.low (txs os))) (vD (highO r.high (txs os)))) ne
  have ra := num_mem.mp ma
  have rz := num_mem.mp mz
  refine ⟨⟨?_, cl, p0, a, z, ha, hz, ⟨by omega, by omega⟩, ⟨by omega, by omega⟩, fun e => ?_⟩⟩
  · show (cntB r.lacks (.int _) d1 && !(numR _ _ _ _ _).isEmpty) = true
    rw [cb]
    cases e : numR r ((os.length + more : Nat) : Int) d1 (vD (lowO r.low (txs os))) (vD (highO r.high (txs os))) with
    | nil => exact absurd e ne
    | cons _ _ => rfl
  · have e1 := n3 e
    have h1 := all x mx
    have h2 := all y my
    have tl := txs_len os
    have gl : gone os = os.length - (txs os).length := rfl
    omega
theorem grown0 (k g m : Nat) : grownD k g m 0 true = lacksD k g := by
  match k with
  | 0 => rfl
  | 1 => rfl
  | _ + 2 => rfl
theorem noL_tell {m : Int} {dl : D} {low high : Option Txt} (h : noL dl = true) : noL (tellD m dl low high) = true := by
  show (true && (noL dl && (noL (vD _) && (noL (vD _) && true)))) = true
  rw [noL_v, noL_v, h]
  rfl
theorem noL_grown (k g m more : Nat) (b : Bool) : noL (grownD k g m more b) = true := by
  unfold grownD
  split <;> rfl
theorem rv_two {K : PySem.W.Frag} {H : Hp} {s : Str} (h : s.length ≤ 1000) : RvL K [] H [.str s, .str s] [.str s.cps.toList, .str s.cps.toList] := by
  have l : s.cps.toList.length ≤ 100000 := by
    have e : s.cps.toList.length = s.length := by rw [← tx_len, tx_cps]
    omega
  have r : Rv K [] H (.str s) (.str s.cps.toList) := by
    have q : Rv K [] H (Tx s.cps.toList) (.str s.cps.toList) := .str _ l
    rwa [show Tx s.cps.toList = V.str s from congrArg V.str (tx_cps s)] at q
  exact .cons r (.cons r .nil)
abbrev s_is_range : Stmt := topS 12
abbrev N_is_range : List Str := ["value"]
theorem sc_is_range : FnScope ["value"] ["value"] (defScope s_is_range) := ⟨rfl, rfl, rfl, by decide +kernel, rfl, by decide +kernel, by decide +kernel⟩

abbrev s_reaches : Stmt := topS 14
abbrev N_reaches : List Str := ["end", "first"]
theorem sc_reaches : FnScope ["end", "first"] ["end", "first"] (defScope s_reaches) := ⟨rfl, rfl, rfl, by decide +kernel, rfl, by decide +kernel, by decide +kernel⟩

/-! ### ranges as values -/
theorem pg_tupK {X : Cx} {K : PySem.W.Frag} {pos : Pos} {es : List Expr} {k : Nat} {t : TGs} {n : Nat} (hK : X.K = K) (hc : X.calm = true) (h : PGs X es t) (hn : (assignEach es X.env).length = n) (hst : (assignEach es X.env).findIdx? (·.1) = none) : PG X (.Tuple es k pos) (gTup K n t) := by
  subst hK
  exact pg_tup hc h hn hst
theorem ix_tupK {X : Cx} {K : PySem.W.Frag} (hK : X.K = K) : IxR X (rIxT K) := by
  subst hK
  exact ix_tup

def oD : Option Txt → Dt
  | none => .non
  | some l => .str l
def oV : Option Txt → V
  | none => .non
  | some l => Tx l
def prD (p : Pr) : Dt := .tup [.str p.1, oD p.2]
theorem rp_pr {K : PySem.W.Frag} {H : Hp} {v : V} {p : Pr} (r : Rp K H v (prD p)) : ∃ a, v = .ref a ∧ SqT K H a [Tx p.1, oV p.2] := by
  obtain ⟨f, e⟩ := p
  cases r with
  | tup h _ rl =>
    refine ⟨_, rfl, ?_⟩
    cases rl with
    | cons r1 rl =>
      cases rl with
      | cons r2 rl =>
        cases rl
        cases r1
        cases e with
        | none =>
          cases r2
          exact h
        | some e =>
          cases r2
          exact h
theorem pr_rp {K : PySem.W.Frag} {H : Hp} {a : Addr} {p : Pr} (h : SqT K H a [Tx p.1, oV p.2]) (hf : p.1.length ≤ 40) (he : ∀ e, p.2 = some e → e.length ≤ 40) : Rp K H (.ref a) (prD p) := by
  obtain ⟨f, e⟩ := p
  refine .tup h (by simp) (.cons (.str f (by have : f.length ≤ 40 := hf; omega)) (.cons ?_ .nil))
  cases e with
  | none => exact .non
  | some e => exact .str e (by have := he e rfl; omega)
/-! ### spans as values -/
structure Spn (K : PySem.W.Frag) (H : Hp) (a : Addr) (ps : List Pr) : Prop where
  ex : ∃ vs, SqT K H a vs ∧ RpL K H vs (ps.map prD)
  ok : SpOk ps
  few : ps.length ≤ 3000
theorem Spn.stp {K : PySem.W.Frag} {H H' : Hp} {S : List Addr} {a : Addr} {ps : List Pr} (h : Spn K H a ps) (s : Stp S H H') (l : Lsts H S) : Spn K H' a ps := by
  obtain ⟨vs, h1, h2⟩ := h.ex
  exact ⟨⟨vs, sqt_stp s l h1, h2.stp s l⟩, h.ok, h.few⟩
theorem prs_get {K : PySem.W.Frag} {H : Hp} {vs : List V} {ps : List Pr} {i : Nat} {v : V} (r : RpL K H vs (ps.map prD)) (h : vs[i]? = some v) : ∃ p, ps[i]? = some p ∧ ∃ a, v = .ref a ∧ SqT K H a [Tx p.1, oV p.2] := by
  obtain ⟨d, e, rd⟩ := r.get h
  rw [List.getElem?_map] at e
  cases q : ps[i]? with
  | none =>
    rw [q] at e
    cases e
  | some p =>
    rw [q] at e
    cases e
    exact ⟨p, rfl, rp_pr rd⟩
theorem short_nil : Short [] := ⟨Abc.nil, Nat.zero_le _⟩
theorem prs_one {K : PySem.W.Frag} {H : Hp} {vs : List V} {ds : List Pr} {v : V} {p : Pr} (r : RpL K H vs (ds.map prD)) (h : Rp K H v (prD p)) : RpL K H (vs ++ [v]) ((ds ++ [p]).map prD) := by
  rw [List.map_append]
  exact r.app (.cons h .nil)
def endD : Option Txt → D
  | none => .non
  | some e => .str e
def prV (p : Pr) : D := .tup [.str p.1, endD p.2]
def spanD (ps : List Pr) : D := .tup (ps.map prV)
theorem rp_rv {K : PySem.W.Frag} {S : List Addr} {H : Hp} {v : V} {p : Pr} (r : Rp K H v (prD p)) (h : p.1.length ≤ 40) (g : ∀ e, p.2 = some e → e.length ≤ 40) : Rv K S H v (prV p) := by
  obtain ⟨a, rfl, ha⟩ := rp_pr r
  refine .tup ha (by simp) (.cons (.str _ (by omega)) (.cons ?_ .nil))
  obtain ⟨f, e⟩ := p
  cases e with
  | none => exact .non
  | some e => exact .str _ (by have := g e rfl; omega)
theorem rps_rv {K : PySem.W.Frag} {S : List Addr} {H : Hp} : ∀ {ps : List Pr} {vs : List V}, RpL K H vs (ps.map prD) → (∀ p ∈ ps, PrS p) → RvL K S H vs (ps.map prV)
  | [], _, .nil, _ => .nil
  | p :: ps, _, .cons h r, ok => .cons (rp_rv h (ok p List.mem_cons_self).1.2 fun e q => ((ok p List.mem_cons_self).2 e q).2) (rps_rv r fun q m => ok q (List.mem_cons_of_mem _ m))
theorem Spn.rv {K : PySem.W.Frag} {S : List Addr} {H : Hp} {a : Addr} {ps : List Pr} (h : Spn K H a ps) : Rv K S H (.ref a) (spanD ps) := by
  obtain ⟨⟨vs, hs, rl⟩, ok, few⟩ := h
  exact .tup hs (by rw [rl.len, List.length_map]; omega) (rps_rv rl fun p m => (ok.ok p m).s)
/-! ### what is a range, a span -/
def strD : D → List Nat
  | .str l => l
  | _ => []
def endOk (f : List Nat) : D → Bool
  | .non => true
  | .str e => abcB e && decide (f < e)
  | _ => false
def isRng : D → Bool
  | .tup [a, b] => isTxt a && endOk (strD a) b
  | _ => false
def gapD : D → D → Bool
  | .tup [_, .str e], .tup (.str f :: _) => decide (e < f)
  | _, _ => false
def adj : List D → Bool
  | a :: b :: r => gapD a b && adj (b :: r)
  | _ => true
def isSpn : D → Bool
  | .tup ds => ds.all isRng && adj ds
  | _ => false
theorem isTxt_str {d : D} (h : isTxt d = true) : ∃ l, d = .str l ∧ Abc l := by
  cases d with
  | str l => exact ⟨l, rfl, abcB_iff.mp h⟩
  | _ => cases h
/-- a range of any texts -/
def PrL (p : Pr) : Prop := Abc p.1 ∧ ∀ e, p.2 = some e → Abc e ∧ p.1 < e
theorem isRng_pr {d : D} (h : isRng d = true) : ∃ p : Pr, d = prV p ∧ PrL p := by
  cases d with
  | tup ds => match ds, h with
    | [a, b], h =>
      obtain ⟨h1, h2⟩ := Bool.and_eq_true_iff.mp (h : (isTxt a && endOk (strD a) b) = true)
      obtain ⟨f, rfl, af⟩ := isTxt_str h1
      cases b with
      | non => exact ⟨(f, none), rfl, af, fun e q => nomatch q⟩
      | str e =>
        obtain ⟨h3, h4⟩ := Bool.and_eq_true_iff.mp (h2 : (abcB e && decide (f < e)) = true)
        exact ⟨(f, some e), rfl, af, fun e' q => by cases q; exact ⟨abcB_iff.mp h3, of_decide_eq_true h4⟩⟩
      | _ => cases h2
  | _ => cases h
theorem pr_isRng {p : Pr} (h : PrL p) : isRng (prV p) = true := by
  obtain ⟨f, e⟩ := p
  obtain ⟨h1, h2⟩ := h
  show (abcB f && endOk f (endD e)) = true
  rw [abcB_iff.mpr h1]
  cases e with
  | none => rfl
  | some e =>
    obtain ⟨h3, h4⟩ := h2 e rfl
    show (abcB e && decide (f < e)) = true
    rw [abcB_iff.mpr h3, decide_eq_true (show f < e from h4)]
    rfl
theorem isRng_no {d : D} (h : ∀ a b, d ≠ .tup [a, b]) : isRng d = false := by
  cases d with
  | tup ds => match ds, h with
    | [], _ => rfl
    | [_], _ => rfl
    | [a, b], h => exact absurd rfl (h a b)
    | _ :: _ :: _ :: _, _ => rfl
  | _ => rfl
theorem cl_is_range {f : Addr} {fd : FuncData} (D : Df K mg "is_range" s_is_range ["value"] f fd) (T : Nm mg) (c_is_text : Cl P w K mg base 1 "is_text" s_is_text ["value"] (spTell K isTxt)) : Cl P w K mg base 2 "is_range" s_is_range ["value"] (spTell K isRng) := by
  refine D.cl sc_is_range (fun vs H Q E h => h.len) (fun cdv A outer s H vs Q E hr h => ?_)
  obtain ⟨S, v, d, rfl, r, k⟩ := h
  refine ⟨_, (pss_cons (ps_if (PW.pt (pw_or (pt_tyNot (T := "tuple") Mono.var (pv 0) T.n_type T.n_tuple (by decide +kernel)) (pw_or (pt_cmpR op_ne (pe_callB call_len_seq (by rfl) T.n_len (by decide +kernel) (pa_cons (pv 0) pa_nil)) pe_int (by first | exact nomark _ | rfl)) (pw_or1 (pt_not (pt_val (pe_cl c_is_text hr (by omega) (pa_cons (pe_ix ix_tup (pv 0) pe_int (fun _ _ => rfl)) pa_nil)))))))) (pss_one (ps_ret pe_bl)) pss_nil)
      (pss_one (ps_ret (pe_or (pe_cmpR op_isN (pe_ix ix_tup (pv 0) pe_int (fun _ _ => rfl)) pe_non (by first | exact nomark _ | rfl)) (pe_one (pe_and (pe_cl c_is_text hr (by omega) (pa_cons (pe_ix ix_tup (pv 0) pe_int (fun _ _ => rfl)) pa_nil)) (pe_one (pe_cmpR op_lt_str (pe_ix ix_tup (pv 0) pe_int (fun _ _ => rfl)) (pe_ix ix_tup (pv 0) pe_int (fun _ _ => rfl)) (by first | exact nomark _ | rfl))))))))), ?_⟩
  refine ⟨_, rfl, d.old, r.old, ite2 (fun h => ?_) (fun h => ?_)⟩
  · exact k H _ (Stp.refl _ _) (isRng_no fun a b e => by rw [e] at h; exact absurd h (by simp [Pv.D.old, Dt.ty])).symm
  · obtain ⟨ds, rfl⟩ : ∃ ds, d = .tup ds := Pv.D.tup_of (by
      have h2 := Bool.eq_false_iff.mpr h
      simpa [Pv.D.ty] using h2)
    cases r with
    | tup hs hl rl =>
      rename_i a vs
      refine ⟨_, rfl, a, _, rfl, .inr hs, rfl, _, rfl, ite2 (fun h3 => ?_) (fun h3 => ?_)⟩
      · exact k H _ (Stp.refl _ _) (isRng_no fun x y e => by
          cases e
          rw [rl.len] at h3
          exact absurd h3 (by simp)).symm
      · obtain ⟨x, y, rfl⟩ := two (l := ds) (by
          rw [rl.len] at h3
          have h2 := Bool.eq_false_iff.mpr h3
          simp at h2
          omega)
        obtain ⟨u1, u2, rfl, r1, r2⟩ := RvL.two rl
        have e0 : isRng (.tup [x, y]) = (isTxt x && endOk (strD x) y) := rfl
        refine ⟨_, rfl, a, _, 0, u1, rfl, rfl, hs, at0, S, u1, x, rfl, r1, fun H1 b1 S1 e1 => ?_⟩
        have hs1 := sqt_stp S1 Lsts.nil hs
        refine ⟨_, rfl, ite2 (fun h4 => ?_) (fun h4 => ?_)⟩
        · refine k H1 _ S1 ?_
          rw [e0, ← e1, show b1 = false by simpa using h4]
          rfl
        · have hb : isTxt x = true := by rw [← e1]; simpa using h4
          obtain ⟨g, rfl, ag⟩ := isTxt_str hb
          obtain rfl : u1 = Tx g := by cases r1; rfl
          refine ⟨_, rfl, a, _, 1, u2, rfl, rfl, hs1, at1, rfl, _, rfl, ?_⟩
          have e3 : isRng (.tup [.str g, y]) = endOk g y := by rw [e0, hb]; rfl
          refine ite2 (fun h5 => ?_) (fun h5 => ?_)
          · have e : u2 = .non := of_decide_eq_true h5
            subst e
            cases r2
            exact k H1 _ S1 (by rw [e3]; rfl)
          · have ny : y ≠ .non := fun e => by
              subst e
              cases r2
              exact h5 rfl
            refine ⟨_, rfl, a, _, 1, u2, rfl, rfl, hs1, at1, S, u2, y, rfl, r2.up S1, fun H2 b2 S2 e2 => ?_⟩
            have S12 := S1.trans S2
            refine ⟨_, rfl, ite2 (fun h6 => ?_) (fun h6 => ?_)⟩
            · have hy : isTxt y = true := by rw [← e2]; exact h6
              obtain ⟨e, rfl, ae⟩ := isTxt_str hy
              obtain rfl : u2 = Tx e := by cases r2; rfl
              have hs2 := sqt_stp S2 Lsts.nil hs1
              refine ⟨_, rfl, a, _, 0, Tx g, rfl, rfl, hs2, at0, _, rfl, a, _, 1, Tx e, rfl, rfl, hs2, at1, tx g, tx e, rfl, rfl, k H2 _ S12 ?_⟩
              rw [e3]
              show _ = (abcB e && decide (g < e))
              rw [show abcB e = true from hy, Bool.true_and]
            · refine k H2 _ S12 ?_
              rw [e3]
              have hy : isTxt y = false := by rw [← e2]; exact Bool.eq_false_iff.mpr h6
              cases y with
              | non => exact absurd rfl ny
              | str e =>
                show false = (abcB e && _)
                rw [show abcB e = false from hy]
                rfl
              | _ => rfl
def reachB : Option Txt → Txt → Bool
  | none, _ => true
  | some e, f => !decide (e < f)
def spReachesG : Sp := fun vs H Q _ => ∃ (e : Option Txt) (f : Txt), vs = [oV e, Tx f] ∧ ∀ b, b = reachB e f → Q (.bl b) H
theorem cl_reachesG {f : Addr} {fd : FuncData} (D : Df K mg "reaches" s_reaches ["end", "first"] f fd) (T : Nm mg) : Cl P w K mg base 1 "reaches" s_reaches ["end", "first"] spReachesG := by
  refine D.cl sc_reaches (fun vs H Q E h => ?_) (fun cdv A outer s H vs Q E hr h => ?_)
  · obtain ⟨e, f, rfl, _⟩ := h
    rfl
  · obtain ⟨e, f, rfl, k⟩ := h
    refine ⟨_, (pss_one (ps_ret (pe_or (pe_cmpR op_isN (pv 0) pe_non (by first | exact nomark _ | rfl)) (pe_one (pe_cmpR op_ge_str (pv 0) (pv 1) (by first | exact nomark _ | rfl)))))), ?_⟩
    cases e with
    | none => exact ⟨_, rfl, rfl, _, rfl, k _ rfl⟩
    | some e => exact ⟨_, rfl, rfl, _, rfl, _, rfl, _, rfl, tx e, tx f, rfl, rfl, k _ rfl⟩
def spIsRangeU (K : PySem.W.Frag) : Sp := fun vs H Q _ => ∃ (a : Addr) (p : Pr), vs = [.ref a] ∧ SqT K H a [Tx p.1, oV p.2] ∧ PrOk p ∧ ∀ H', Stp [] H H' → Q (.bl true) H'
theorem imp_cl {k : Nat} {x : Str} {st : Stmt} {ps : List Str} {sp sp' : Sp} (c : Cl P w K mg base k x st ps sp) (h : ∀ vs H Q E, sp' vs H Q E → sp vs H Q E) : Cl P w K mg base k x st ps sp' := by
  obtain ⟨f, fd, D, F⟩ := c.ex
  exact ⟨f, fd, D, F.imp h⟩
theorem range_of (c : Cl P w K mg base 2 "is_range" s_is_range ["value"] (spTell K isRng)) : Cl P w K mg base 2 "is_range" s_is_range ["value"] (spIsRangeU K) :=
  imp_cl c fun vs H Q E h => by
    obtain ⟨a, p, rfl, hs, ok, k⟩ := h
    have r : Rv K [] H (.ref a) (prV p) := rp_rv (pr_rp hs ok.1.2 fun e q => (ok.2 e q).1.2) ok.1.2 fun e q => (ok.2 e q).1.2
    exact ⟨[], .ref a, prV p, rfl, r, fun H' b S e => by rw [e, pr_isRng ⟨ok.1.1, fun e q => ⟨(ok.2 e q).1.1, (ok.2 e q).2⟩⟩]; exact k H' S⟩
abbrev s_check_ranges : Stmt := topS 17
abbrev N_check_ranges : List Str := ["ranges", "part"]
theorem sc_check_ranges : FnScope ["ranges", "part"] ["ranges"] (defScope s_check_ranges) := ⟨rfl, rfl, rfl, by decide +kernel, rfl, by decide +kernel, by decide +kernel⟩

abbrev s_later_end : Stmt := topS 20
abbrev N_later_end : List Str := ["end", "other_end"]
theorem sc_later_end : FnScope ["end", "other_end"] ["end", "other_end"] (defScope s_later_end) := ⟨rfl, rfl, rfl, by decide +kernel, rfl, by decide +kernel, by decide +kernel⟩

abbrev s_span_of : Stmt := topS 22
abbrev N_span_of : List Str := ["ranges", "ends", "first", "end", "parts"]
theorem sc_span_of : FnScope ["ranges", "ends", "first", "end", "parts"] ["ranges"] (defScope s_span_of) := ⟨rfl, rfl, rfl, by decide +kernel, rfl, by decide +kernel, by decide +kernel⟩

/-! ### the span of some ranges -/
def laterM : Option Txt → Option Txt → Option Txt
  | some a, some b => if b < a then some a else some b
  | _, _ => none
def spLater : Sp := fun vs H Q _ => ∃ (a b : Option Txt), vs = [oV a, oV b] ∧ Q (oV (laterM a b)) H
theorem cl_later_end {f : Addr} {fd : FuncData} (D : Df K mg "later_end" s_later_end ["end", "other_end"] f fd) (T : Nm mg) : Cl P w K mg base 1 "later_end" s_later_end ["end", "other_end"] spLater := by
  refine D.cl sc_later_end (fun vs H Q E h => ?_) (fun cdv A outer s H vs Q E hr h => ?_)
  · obtain ⟨e, f, rfl, _⟩ := h
    rfl
  · obtain ⟨a, b, rfl, k⟩ := h
    refine ⟨_, (pss_cons (ps_if (PW.pt (pw_or (pt_cmpR op_isN (pv 0) pe_non (by first | exact nomark _ | rfl)) (pw_or1 (pt_cmpR op_isN (pv 1) pe_non (by first | exact nomark _ | rfl))))) (pss_one (ps_ret pe_non)) pss_nil)
      (pss_one (ps_ret (pe_ifExp (pt_cmpR op_gt_str (pv 0) (pv 1) (by first | exact nomark _ | rfl)) (pv 0) (pv 1))))), ?_⟩
    refine ⟨_, rfl, rfl, _, rfl, ?_⟩
    cases a with
    | none => exact k
    | some a =>
      refine ⟨_, rfl, rfl, _, rfl, ?_⟩
      cases b with
      | none => exact k
      | some b =>
        refine ⟨_, rfl, _, rfl, tx a, tx b, rfl, rfl, _, rfl, ?_⟩
        have k' : Q (oV (if b < a then some a else some b)) H := k
        refine ite2 (fun h => ?_) (fun h => ?_)
        · rw [if_pos (show b < a from of_decide_eq_true h)] at k'
          exact ⟨_, rfl, k'⟩
        · rw [if_neg (show ¬ b < a from fun q => h (decide_eq_true q))] at k'
          exact ⟨_, rfl, k'⟩
def spAscS (K : PySem.W.Frag) : Sp := fun vs H Q _ => ∃ (a : Addr) (ls : List Txt), vs = [.ref a] ∧ SqL K H a (ls.map Tx) ∧ (∀ l ∈ ls, Short l) ∧ ls.length ≤ 3000 ∧
  ∀ (zs : List Txt) p H', H p = none → Stp [] H H' → zs.Perm ls → zs.Pairwise (· ≤ ·) → H' p = some (.lst (zs.map Tx)) → Q (.ref p) H'
theorem cl_ascendingS {f : Addr} {fd : FuncData} (D : Df K mg "ascending" s_ascending ["texts"] f fd) (T : Nm mg) : Cl P w K mg base 1 "ascending" s_ascending ["texts"] (spAscS K) := by
  refine D.cl sc_ascending (fun vs H Q E h => ?_) (fun cdv A outer s H vs Q E hr h => ?_)
  · obtain ⟨a, ls, rfl, _⟩ := h
    rfl
  · obtain ⟨a, ls, rfl, hs, sh, few, k⟩ := h
    refine ⟨_, (pss_one (ps_ret (pe_callB Pg.cr_sortedSA (by rfl) T.n_sorted (by decide +kernel) (pa_cons (pe_lc (own := [("text", 1)]) rfl sc_ascending.nd (pi_list (pv 0)) (blkOk_by (own := [("text", 1)]) (N := N_ascending) (sc := defScope s_ascending) (by decide +kernel)) (fun _ _ _ _ _ => (pg_name (i := 1) sc_ascending.nd rfl (by first | exact Or.inl rfl | exact Or.inr rfl))) (fun _ _ _ _ _ => pts_nil) (fun _ _ _ _ _ => (pe_callTy SkE.call_str_str (by rfl) T.n_str (by decide +kernel) (pa_cons (pv 1) pa_nil)))) pa_nil)))), ?_⟩
    refine ⟨_, rfl, a, rfl, ⟨_, hs⟩, fun L nL => ?_⟩
    refine lc_mapL (ds := ls.map Dt.str) nL hs (by simp) (by rw [List.length_map]; omega) (fun j x d H3 hx hd S3 Q2 q => ?_) fun ws H3 S3 h3 r3 => ?_
    · rw [List.getElem?_map] at hx hd
      cases e : ls[j]? with
      | none => rw [e] at hx; cases hx
      | some l =>
        rw [e] at hx hd
        cases hx
        cases hd
        exact ⟨rfl, _, rfl, tx l, rfl, q _ _ (Stp.refl _ _) (.str l (by have := (sh l (List.mem_of_getElem? e)).2; omega))⟩
    · have e3 := rpl_strs r3
      subst e3
      exact ⟨L, ls, rfl, SqL.of h3, fun zs p pm pw np => k zs p _ (S3.fresh (fun m => nomatch m) np) (S3.new' np) pm pw upd_same⟩
def spCkR (K : PySem.W.Frag) : Sp := fun vs H Q _ => ∃ (a : Addr) (xs : List V) (ps : List Pr), vs = [.ref a] ∧ H a = some (.lst xs) ∧ RpL K H xs (ps.map prD) ∧ (∀ p ∈ ps, PrOk p) ∧ ps.length ≤ 3000 ∧ ∀ H', Stp [] H H' → Q .non H'
theorem cl_check_ranges {f : Addr} {fd : FuncData} (D : Df K mg "check_ranges" s_check_ranges ["ranges"] f fd) (T : Nm mg) (c_is_range : Cl P w K mg base 2 "is_range" s_is_range ["value"] (spIsRangeU K)) : Cl P w K mg base 3 "check_ranges" s_check_ranges ["ranges"] (spCkR K) := by
  refine D.cl sc_check_ranges (fun vs H Q E h => ?_) (fun cdv A outer s H vs Q E hr h => ?_)
  · obtain ⟨a, xs, ps, rfl, _⟩ := h
    rfl
  · obtain ⟨a, xs, ps, rfl, hs, rl, ok, few, k⟩ := h
    refine ⟨_, (pss_one (ps_if (PW.pt (pw_or (pt_tyNot (T := "list") Mono.var (pv 0) T.n_type T.n_list (by decide +kernel)) (pw_or1 (pt_not (pt_val (pe_callB (cr_all rfl) (by rfl) T.n_all (by decide +kernel) (pa_cons (pe_lc (own := [("part", 1)]) rfl sc_check_ranges.nd (pi_list (pv 0)) (blkOk_by (own := [("part", 1)]) (N := N_check_ranges) (sc := defScope s_check_ranges) (by decide +kernel)) (fun _ _ _ _ _ => (pg_name (i := 1) sc_check_ranges.nd rfl (by first | exact Or.inl rfl | exact Or.inr rfl))) (fun _ _ _ _ _ => pts_nil) (fun _ _ _ _ _ => (pe_cl c_is_range hr (by omega) (pa_cons (pv 1) pa_nil)))) pa_nil))))))) (pss_one ps_never) pss_nil)), ?_⟩
    have lx : xs.length = ps.length := by rw [rl.len, List.length_map]
    refine ⟨_, rfl, .lst, .lst hs, ?_⟩
    refine ite2 (fun h => absurd h (by simp [Dt.ty])) (fun _ => ?_)
    refine ⟨_, rfl, a, rfl, ⟨_, SqL.of hs⟩, fun L nL => ?_⟩
    refine lc_mapL (ds := (ps.map fun _ => true).map Dt.bl) nL (SqL.of hs) (by simp [lx]) (by omega) (fun j x d H3 hx hd S3 Q2 q => ?_) fun ws H3 S3 h3 r3 => ?_
    · obtain ⟨p, hp, t, rfl, ht⟩ := prs_get rl hx
      rw [List.getElem?_map, List.getElem?_map, hp] at hd
      cases hd
      exact ⟨rfl, _, rfl, t, p, rfl, sqt_stp S3 Lsts.nil ht, ok p (List.mem_of_getElem? hp), fun H' S' => q _ _ S' (.bl _)⟩
    · have e3 := rpl_bls r3
      subst e3
      refine ⟨L, _, rfl, SqL.of h3, ?_⟩
      have e : ((ps.map fun _ => true).all id) = true := by
        rw [List.all_eq_true]
        intro x m
        obtain ⟨_, _, rfl⟩ := List.mem_map.mp m
        rfl
      rw [e]
      exact ⟨_, rfl, k _ S3⟩
theorem inP_later {w g : Txt} {a b : Option Txt} : inP w (g, laterM a b) = (inP w (g, a) || inP w (g, b)) := by
  rw [Bool.eq_iff_iff, Bool.or_eq_true, inP_iff, inP_iff, inP_iff]
  cases a with
  | none =>
    show (g ≤ w ∧ ∀ e, none = some e → w < e) ↔ _
    exact ⟨fun h => .inl h, fun h => h.elim id fun h => ⟨h.1, fun e he => by cases he⟩⟩
  | some a =>
    cases b with
    | none =>
      show (g ≤ w ∧ ∀ e, none = some e → w < e) ↔ _
      exact ⟨fun h => .inr h, fun h => h.elim (fun h => ⟨h.1, fun e he => by cases he⟩) id⟩
    | some b =>
      show (g ≤ w ∧ ∀ e, (if b < a then some a else some b) = some e → w < e) ↔ _
      by_cases c : b < a
      · rw [if_pos c]
        constructor
        · exact fun h => .inl ⟨h.1, fun e he => h.2 e he⟩
        · rintro (h | h)
          · exact h
          · exact ⟨h.1, fun e he => by cases he; exact List.lt_trans (h.2 b rfl) c⟩
      · rw [if_neg c]
        constructor
        · exact fun h => .inr ⟨h.1, fun e he => h.2 e he⟩
        · rintro (h | h)
          · exact ⟨h.1, fun e he => by cases he; exact lt_le (h.2 a rfl) (le_of_nlt c)⟩
          · exact h
theorem later_ok {g : Txt} {a b : Option Txt} (ha : PrOk (g, a)) (hb : PrOk (g, b)) : PrOk (g, laterM a b) := by
  refine ⟨ha.1, fun e he => ?_⟩
  cases a with
  | none => cases he
  | some a =>
    cases b with
    | none => cases he
    | some b =>
      have he : (if b < a then some a else some b) = some e := he
      by_cases c : b < a
      · rw [if_pos c] at he
        exact ha.2 e he
      · rw [if_neg c] at he
        exact hb.2 e he
/-! the ends by first texts -/
def kvE (E : List Pr) : List (Key × V) := E.map fun p => (Sum.inr (tx p.1), oV p.2)
def lkE (E : List Pr) (g : Txt) : Option (Option Txt) := (E.find? fun p => decide (p.1 = g)).map Prod.snd
def putE (E : List Pr) (g : Txt) (e : Option Txt) : List Pr := if (E.any fun p => decide (p.1 = g)) = true then E.map (fun p => if p.1 = g then (p.1, e) else p) else E ++ [(g, e)]
theorem key_eq {a b : Txt} : ((Sum.inr (tx a) : Key) = Sum.inr (tx b)) ↔ a = b := ⟨fun h => tx_inj (Sum.inr.inj h), fun h => by rw [h]⟩
theorem valV_kvE : ∀ (E : List Pr) (g : Txt), valV (kvE E) (Sum.inr (tx g) : Key) = (lkE E g).map oV
  | [], _ => rfl
  | p :: E, g => by
    show valV ((Sum.inr (tx p.1), oV p.2) :: kvE E) _ = _
    by_cases c : p.1 = g
    · rw [valV_pos (show (Sum.inr (tx p.1) : Key) = _ from key_eq.mpr c)]
      unfold lkE
      rw [List.find?_cons_of_pos (by simp [c])]
      rfl
    · rw [valV_neg (fun q => c (key_eq.mp q)), valV_kvE E g]
      unfold lkE
      rw [List.find?_cons_of_neg (by simp [c])]
theorem putK_kvE (E : List Pr) (g : Txt) (e : Option Txt) : putK (kvE E) (Sum.inr (tx g) : Key) (oV e) = kvE (putE E g e) := by
  have a : ((kvE E).any fun kv => decide (kv.1 = (Sum.inr (tx g) : Key))) = E.any fun p => decide (p.1 = g) := by
    unfold kvE
    rw [List.any_map]
    congr 1
    funext p
    show decide ((Sum.inr (tx p.1) : Key) = _) = _
    exact decide_eq_decide.mpr key_eq
  unfold putK putE
  rw [a]
  split
  · unfold kvE
    rw [List.map_map, List.map_map]
    refine List.map_congr_left fun p _ => ?_
    show (if (Sum.inr (tx p.1) : Key) = Sum.inr (tx g) then ((Sum.inr (tx p.1) : Key), oV e) else (Sum.inr (tx p.1), oV p.2)) = (fun p : Pr => ((Sum.inr (tx p.1) : Key), oV p.2)) (if p.1 = g then (p.1, e) else p)
    by_cases c : p.1 = g
    · rw [if_pos (key_eq.mpr c), if_pos c]
    · rw [if_neg (fun q => c (key_eq.mp q)), if_neg c]
  · unfold kvE
    rw [List.map_append]
    rfl
theorem putE_keys (E : List Pr) (g : Txt) (e : Option Txt) : (putE E g e).map Prod.fst = if (E.any fun p => decide (p.1 = g)) = true then E.map Prod.fst else E.map Prod.fst ++ [g] := by
  unfold putE
  split
  · rw [List.map_map]
    refine List.map_congr_left fun p _ => ?_
    show (if p.1 = g then (p.1, e) else p).1 = p.1
    split <;> rfl
  · rw [List.map_append]
    rfl
theorem any_key {E : List Pr} {g : Txt} : (E.any fun p => decide (p.1 = g)) = true ↔ g ∈ E.map Prod.fst := by
  rw [List.any_eq_true, List.mem_map]
  constructor
  · rintro ⟨p, m, h⟩
    exact ⟨p, m, of_decide_eq_true h⟩
  · rintro ⟨p, m, h⟩
    exact ⟨p, m, decide_eq_true h⟩
theorem putE_nd {E : List Pr} {g : Txt} {e : Option Txt} (nd : (E.map Prod.fst).Nodup) : ((putE E g e).map Prod.fst).Nodup := by
  rw [putE_keys]
  split
  · exact nd
  · rename_i c
    rw [any_key] at c
    rw [List.nodup_append]
    exact ⟨nd, List.nodup_cons.mpr ⟨List.not_mem_nil, List.nodup_nil⟩, fun a ma b mb => by rw [List.mem_singleton.mp mb]; exact fun q => c (q ▸ ma)⟩
theorem putE_len {E : List Pr} {g : Txt} {e : Option Txt} : (putE E g e).length ≤ E.length + 1 := by
  unfold putE
  split <;> simp
theorem lkE_some {E : List Pr} (nd : (E.map Prod.fst).Nodup) {p : Pr} (m : p ∈ E) : lkE E p.1 = some p.2 := by
  unfold lkE
  induction E with
  | nil => cases m
  | cons q E ih =>
    rw [List.map_cons, List.nodup_cons] at nd
    rcases List.mem_cons.mp m with rfl | m
    · rw [List.find?_cons_of_pos (by simp)]
      rfl
    · rw [List.find?_cons_of_neg, ih nd.2 m]
      simp only [decide_eq_true_eq]
      exact fun h => nd.1 (h ▸ List.mem_map.mpr ⟨p, m, rfl⟩)
theorem lkE_mem {E : List Pr} {g : Txt} {e : Option Txt} (h : lkE E g = some e) : (g, e) ∈ E := by
  unfold lkE at h
  cases q : E.find? fun p => decide (p.1 = g) with
  | none => rw [q] at h; cases h
  | some p =>
    rw [q] at h
    cases h
    have a := List.find?_some q
    have b := of_decide_eq_true a
    rw [← b]
    exact List.mem_of_find?_eq_some q
theorem lkE_none {E : List Pr} {g : Txt} (h : lkE E g = none) : ¬ (E.any fun p => decide (p.1 = g)) = true := by
  unfold lkE at h
  have a : E.find? (fun p => decide (p.1 = g)) = none := by simpa using h
  rw [List.find?_eq_none] at a
  rw [List.any_eq_true]
  rintro ⟨p, m, q⟩
  exact a p m q
theorem put_new {E : List Pr} {g : Txt} {e : Option Txt} (h : lkE E g = none) (w : Txt) : inS (putE E g e) w = (inS E w || inP w (g, e)) := by
  unfold putE
  rw [if_neg (lkE_none h), inS_app, inS_cons]
  show (inS E w || (inP w (g, e) || false)) = _
  rw [Bool.or_false]
theorem put_old {E : List Pr} (nd : (E.map Prod.fst).Nodup) {g : Txt} {e e0 : Option Txt} (h : lkE E g = some e0) (w : Txt) : inS (putE E g (laterM e e0)) w = (inS E w || inP w (g, e)) := by
  have m := lkE_mem h
  have an : (E.any fun p => decide (p.1 = g)) = true := any_key.mpr (List.mem_map.mpr ⟨_, m, rfl⟩)
  unfold putE
  rw [if_pos an, Bool.eq_iff_iff, Bool.or_eq_true]
  constructor
  · intro hh
    obtain ⟨q, mq, hq⟩ := inS_mem.mp hh
    obtain ⟨p, mp, rfl⟩ := List.mem_map.mp mq
    by_cases c : p.1 = g
    · rw [if_pos c, c, inP_later, Bool.or_eq_true] at hq
      rcases hq with hq | hq
      · exact .inr hq
      · exact .inl (inS_mem.mpr ⟨_, m, hq⟩)
    · rw [if_neg c] at hq
      exact .inl (inS_mem.mpr ⟨p, mp, hq⟩)
  · rintro (hh | hh)
    · obtain ⟨p, mp, hp⟩ := inS_mem.mp hh
      refine inS_mem.mpr ⟨_, List.mem_map.mpr ⟨p, mp, rfl⟩, ?_⟩
      by_cases c : p.1 = g
      · rw [if_pos c, c, inP_later, Bool.or_eq_true]
        have e2 := lkE_some nd mp
        rw [c, h] at e2
        have pe : p = (g, e0) := Prod.ext c (Option.some.inj e2).symm
        rw [pe] at hp
        exact .inr hp
      · rw [if_neg c]
        exact hp
    · refine inS_mem.mpr ⟨_, List.mem_map.mpr ⟨_, m, rfl⟩, ?_⟩
      rw [if_pos rfl, inP_later, Bool.or_eq_true]
      exact .inl hh
theorem putE_ok {E : List Pr} {g : Txt} {e : Option Txt} (ok : ∀ p ∈ E, PrOk p) (h : PrOk (g, e)) : ∀ p ∈ putE E g e, PrOk p := fun p m => by
  unfold putE at m
  split at m
  · obtain ⟨q, mq, rfl⟩ := List.mem_map.mp m
    by_cases c : q.1 = g
    · rw [if_pos c, c]
      exact h
    · rw [if_neg c]
      exact ok q mq
  · rcases List.mem_append.mp m with m | m
    · exact ok p m
    · rw [List.mem_singleton.mp m]
      exact h
theorem take_in {ps : List Pr} {i : Nat} {p : Pr} (h : ps[i]? = some p) (w : Txt) : inS (ps.take (i + 1)) w = (inS (ps.take i) w || inP w p) := by
  rw [List.take_add_one, h, inS_app]
  show (inS (ps.take i) w || inS [p] w) = _
  rw [inS_cons]
  show (inS (ps.take i) w || (inP w p || false)) = _
  rw [Bool.or_false]
/-- the entry of a first text -/
def ent (E : List Pr) (z : Txt) : Pr := (z, (lkE E z).getD none)
theorem ent_in {E : List Pr} (nd : (E.map Prod.fst).Nodup) {zs : List Txt} (pm : zs.Perm (E.map Prod.fst)) (w : Txt) : inS (zs.map (ent E)) w = inS E w := by
  rw [Bool.eq_iff_iff]
  constructor
  · intro h
    obtain ⟨q, mq, hq⟩ := inS_mem.mp h
    obtain ⟨z, mz, rfl⟩ := List.mem_map.mp mq
    obtain ⟨p, mp, rfl⟩ := List.mem_map.mp (pm.mem_iff.mp mz)
    have : ent E p.1 = p := by unfold ent; rw [lkE_some nd mp]; rfl
    rw [this] at hq
    exact inS_mem.mpr ⟨p, mp, hq⟩
  · intro h
    obtain ⟨p, mp, hp⟩ := inS_mem.mp h
    have : ent E p.1 = p := by unfold ent; rw [lkE_some nd mp]; rfl
    exact inS_mem.mpr ⟨p, List.mem_map.mpr ⟨p.1, pm.mem_iff.mpr (List.mem_map.mpr ⟨p, mp, rfl⟩), this⟩, hp⟩
/-- the last part takes the next range in -/
theorem ext_in {d0 : List Pr} {d : Pr} {z : Txt} {e : Option Txt} (le : d.1 ≤ z) (r : reachB d.2 z = true) (w : Txt) : inS (d0 ++ [(d.1, laterM d.2 e)]) w = (inS (d0 ++ [d]) w || inP w (z, e)) := by
  have key : (inP w d || inP w (d.1, e)) = (inP w d || inP w (z, e)) := by
    rw [Bool.eq_iff_iff, Bool.or_eq_true, Bool.or_eq_true]
    constructor
    · rintro (h | h)
      · exact .inl h
      · obtain ⟨h1, h2⟩ := inP_iff.mp h
        by_cases c : z ≤ w
        · exact .inr (inP_iff.mpr ⟨c, h2⟩)
        · refine .inl (inP_iff.mpr ⟨h1, fun e' he => ?_⟩)
          rw [he] at r
          have r' : ¬ e' < z := by simpa [reachB] using r
          have wz : w < z := by
            by_cases q : w < z
            · exact q
            · exact absurd (le_of_nlt q) c
          exact lt_le wz (le_of_nlt r')
    · rintro (h | h)
      · exact .inl h
      · obtain ⟨h1, h2⟩ := inP_iff.mp h
        exact .inr (inP_iff.mpr ⟨List.le_trans le h1, h2⟩)
  have k2 : (inP w (d.1, d.2) || inP w (d.1, e)) = (inP w d || inP w (z, e)) := key
  rw [inS_app, inS_app, inS_cons, inS_cons, inP_later, k2]
  show (inS d0 w || ((inP w d || inP w (z, e)) || false)) = ((inS d0 w || (inP w d || false)) || inP w (z, e))
  cases inS d0 w <;> cases inP w d <;> cases inP w (z, e) <;> rfl
theorem ext_ok {d0 : List Pr} {d : Pr} {z : Txt} {e : Option Txt} (ok : SpOk (d0 ++ [d])) (h : PrOk (z, e)) (lt : d.1 ≤ z) : SpOk (d0 ++ [(d.1, laterM d.2 e)]) := by
  have od := ok.ok d (by simp)
  refine ⟨fun p m => ?_, List.pairwise_append.mpr ⟨(List.pairwise_append.mp ok.gap).1, List.pairwise_singleton _ _, fun p mp q mq => ?_⟩⟩
  · rcases List.mem_append.mp m with m | m
    · exact ok.ok p (List.mem_append_left _ m)
    · rw [List.mem_singleton.mp m]
      exact later_ok (g := d.1) od ⟨od.1, fun e' he => ⟨(h.2 e' he).1, le_lt lt (h.2 e' he).2⟩⟩
  · rw [List.mem_singleton.mp mq]
    obtain ⟨e', f1, f2⟩ := (List.pairwise_append.mp ok.gap).2.2 p mp d List.mem_cons_self
    exact ⟨e', f1, f2⟩
theorem new_ok {ds : List Pr} {z : Txt} {e : Option Txt} (ok : SpOk ds) (h : PrOk (z, e)) (g : ∀ d, ds.getLast? = some d → reachB d.2 z = false) : SpOk (ds ++ [(z, e)]) := by
  refine ⟨fun p m => ?_, List.pairwise_append.mpr ⟨ok.gap, List.pairwise_singleton _ _, fun p mp q mq => ?_⟩⟩
  · rcases List.mem_append.mp m with m | m
    · exact ok.ok p m
    · rw [List.mem_singleton.mp m]
      exact h
  · rw [List.mem_singleton.mp mq]
    rcases List.eq_nil_or_concat ds with rfl | ⟨d0, d, rfl⟩
    · cases mp
    rw [List.concat_eq_append] at *
    have r := g d (by rw [List.getLast?_append, List.getLast?_singleton]; rfl)
    obtain ⟨e1, f1, f2⟩ : Gap d (z, e) := by
      cases q : d.2 with
      | none => rw [q] at r; cases r
      | some e1 =>
        rw [q] at r
        have r' : e1 < z := by simpa [reachB] using r
        exact ⟨e1, q, r'⟩
    rcases List.mem_append.mp mp with mp | mp
    · obtain ⟨e', g1, g2⟩ := (List.pairwise_append.mp ok.gap).2.2 p mp d List.mem_cons_self
      exact ⟨e', g1, List.lt_trans g2 (List.lt_trans ((ok.ok d (by simp)).2 e1 f1).2 f2)⟩
    · rw [List.mem_singleton.mp mp]
      exact ⟨e1, f1, f2⟩
theorem rpl_set {K : PySem.W.Frag} {H : Hp} : ∀ {vs : List V} {ds : List Dt} {j : Nat} {v : V} {d : Dt}, RpL K H vs ds → Rp K H v d → RpL K H (vs.set j v) (ds.set j d)
  | _, [], _, _, _, .nil, _ => .nil
  | _, _ :: _, 0, _, _, .cons _ r, h => .cons h r
  | _, _ :: _, j + 1, _, _, .cons a r, h => .cons a (rpl_set (j := j) r h)
def spSpanOf (K : PySem.W.Frag) : Sp := fun vs H Q _ => ∃ (a : Addr) (xs : List V) (ps : List Pr), vs = [.ref a] ∧ H a = some (.lst xs) ∧ RpL K H xs (ps.map prD) ∧ (∀ p ∈ ps, PrOk p) ∧ ps.length ≤ 3000 ∧
  ∀ b ds H', Stp [] H H' → Spn K H' b ds → (∀ w, inS ds w = inS ps w) → Q (.ref b) H'
theorem atL {α : Type} {xs : List α} {v : α} (h : xs ≠ []) (e : xs[xs.length - 1]? = some v) : atI xs (-1) = some v := by
  obtain ⟨ys, y, hy⟩ : ∃ ys y, xs = ys ++ [y] := ⟨_, _, (List.dropLast_concat_getLast h).symm⟩
  subst hy
  rw [List.length_append, List.length_singleton, Nat.add_sub_cancel, List.getElem?_append_right (Nat.le_refl _), Nat.sub_self] at e
  cases e
  exact atI_last ys _
theorem cl_span_of {f : Addr} {fd : FuncData} (D : Df K mg "span_of" s_span_of ["ranges"] f fd) (T : Nm mg) (c_check_ranges : Cl P w K mg base 3 "check_ranges" s_check_ranges ["ranges"] (spCkR K)) (c_later_end : Cl P w K mg base 1 "later_end" s_later_end ["end", "other_end"] spLater)
    (c_ascending : Cl P w K mg base 1 "ascending" s_ascending ["texts"] (spAscS K)) (c_reaches : Cl P w K mg base 1 "reaches" s_reaches ["end", "first"] spReachesG) : Cl P w K mg base 4 "span_of" s_span_of ["ranges"] (spSpanOf K) := by
  refine D.cl sc_span_of (fun vs H Q E h => ?_) (fun cdv A outer s H vs Q E hr h => ?_)
  · obtain ⟨a, xs, ps, rfl, _⟩ := h
    rfl
  · obtain ⟨a, xs, ps, rfl, hs, rl, ok, few, k⟩ := h
    refine ⟨_, (pss_cons (ps_expr (pe_cl c_check_ranges hr (by omega) (pa_cons (pv 0) pa_nil)))
      (pss_cons (ps_set (i := 1) sc_span_of.nd rfl (by first | exact Or.inl rfl | exact Or.inr rfl) pe_dnewK)
      (pss_cons (ps_for PassesOwn.never rfl (pi_list (pv 0)) (pg_tup rfl (pgs_cons (pg_name (i := 2) sc_span_of.nd rfl (by first | exact Or.inl rfl | exact Or.inr rfl)) (pgs_cons (pg_name (i := 3) sc_span_of.nd rfl (by first | exact Or.inl rfl | exact Or.inr rfl)) pgs_nil (by rfl)) (by rfl)) (by rfl) (by rfl)) (pss_one (ps_dput (hu_of hr) (pv 1) (pv 2) (pe_ifExp (pt_cmp (pc_din (hu_of hr) (pv 2) (pv 1))) (pe_cl c_later_end hr (by omega) (pa_cons (pv 3) (pa_cons (pe_dget (hu_of hr) (pv 1) (pv 2) (fun _ _ => rfl)) pa_nil))) (pv 3)) rfl)))
      (pss_cons (ps_set (i := 4) sc_span_of.nd rfl (by first | exact Or.inl rfl | exact Or.inr rfl) (pe_lst pa_nil))
      (pss_cons (ps_for PassesOwn.never rfl (pi_list (pe_cl c_ascending hr (by omega) (pa_cons (pe_callTy (call_list_dK rfl) (by rfl) T.n_list (by decide +kernel) (pa_cons (pv 1) pa_nil)) pa_nil))) (pg_name (i := 2) sc_span_of.nd rfl (by first | exact Or.inl rfl | exact Or.inr rfl)) (pss_one (ps_if (PW.pt (pw_and (pt_truth (pv 4) (by intro _; rfl)) (pw_and1 (pt_val (pe_cl c_reaches hr (by omega) (pa_cons (pe_ix ix_tup (pe_ix ix_list (pv 4) (pe_un un_neg pe_int) (fun _ _ => rfl)) pe_int (fun _ _ => rfl)) (pa_cons (pv 2) pa_nil))))))) (pss_one (ps_asg (pe_tup (pa_cons (pe_ix ix_tup (pe_ix ix_list (pv 4) (pe_un un_neg pe_int) (fun _ _ => rfl)) pe_int (fun _ _ => rfl)) (pa_cons (pe_cl c_later_end hr (by omega) (pa_cons (pe_ix ix_tup (pe_ix ix_list (pv 4) (pe_un un_neg pe_int) (fun _ _ => rfl)) pe_int (fun _ _ => rfl)) (pa_cons (pe_dget (hu_of hr) (pv 1) (pv 2) (fun _ _ => rfl)) pa_nil))) pa_nil))) (pg_sub (pv 4) (pe_un un_neg pe_int) set_list))) (pss_one (ps_expr (pe_bm PySem.F.plainAttrs_list PySem.F.slot_list_append PySem.F.type_list_append mt_append (pv 4) (pa_cons (pe_tup (pa_cons (pv 2) (pa_cons (pe_dget (hu_of hr) (pv 1) (pv 2) (fun _ _ => rfl)) pa_nil))) pa_nil)))))))
      (pss_one (ps_ret (pe_callTy call_tuple_of (by rfl) T.n_tuple (by decide +kernel) (pa_cons (pv 4) pa_nil))))))))), ?_⟩
    have lx : xs.length = ps.length := by rw [rl.len, List.length_map]
    refine ⟨_, rfl, a, xs, ps, rfl, hs, rl, ok, few, fun H1 S1 => ?_⟩
    have hs1 := S1.kp _ _ (fun m => nomatch m) hs
    have rl1 := rl.stp S1 Lsts.nil
    refine fun d nd => ?_
    have S0 : Stp [] H1 (upd H1 d (.dK [])) := Stp.new nd _
    refine ⟨_, rfl, a, rfl, ⟨_, SqL.of (S0.kp _ _ (fun m => nomatch m) hs1)⟩, for_list (a := a) (xs := xs) (fun i σ H2 => ∃ (E : List Pr) (x2 x3 x4 : Option V), σ = [some (.ref a), some (.ref d), x2, x3, x4] ∧ H2 d = some (.dK (kvE E)) ∧ (E.map Prod.fst).Nodup ∧ (∀ p ∈ E, PrOk p) ∧ E.length ≤ i ∧ (∀ w, inS E w = inS (ps.take i) w) ∧ Stp [] H1 H2)
      ⟨[], _, _, _, rfl, upd_same, List.nodup_nil, fun _ m => (nomatch m), Nat.le_refl _, fun _ => rfl, S0⟩ (fun i σ H2 _ ⟨_, _, _, _, _, _, _, _, _, _, S⟩ => SqL.of (S.kp _ _ (fun m => nomatch m) hs1)) ?_ ?_⟩
    · rintro i x σ H2 hi ⟨E, x2, x3, x4, rfl, hd, nD, okE, lE, eq, S⟩
      obtain ⟨⟨g, e⟩, hp, t, rfl, ht⟩ := prs_get rl1 hi
      have op := ok _ (List.mem_of_getElem? hp)
      have il : i < ps.length := (List.getElem?_eq_some_iff.mp hp).1
      have big : (kvE E).length < sizeLine := by
        unfold kvE
        rw [List.length_map]
        exact Nat.lt_of_le_of_lt (show E.length ≤ 3000 by omega) (by decide)
      refine ⟨t, _, rfl, sqt_stp S Lsts.nil ht, rfl, _, _, rfl, _, _, rfl, rfl, ?_⟩
      have fin : ∀ e' : Option Txt, PrOk (g, e') → (∀ w, inS (putE E g e') w = (inS E w || inP w (g, e))) → ∃ (E' : List Pr) (x2 x3 x4' : Option V), [some (V.ref a), some (V.ref d), some (Tx g), some (oV e), x4] = [some (.ref a), some (.ref d), x2, x3, x4'] ∧ (upd H2 d (.dK (putK (kvE E) (Sum.inr (tx g) : Key) (oV e')))) d = some (.dK (kvE E')) ∧ (E'.map Prod.fst).Nodup ∧ (∀ p ∈ E', PrOk p) ∧ E'.length ≤ i + 1 ∧ (∀ w, inS E' w = inS (ps.take (i + 1)) w) ∧ Stp [] H1 (upd H2 d (.dK (putK (kvE E) (Sum.inr (tx g) : Key) (oV e')))) := fun e' oe he => by
        refine ⟨putE E g e', _, _, _, rfl, by rw [upd_same, putK_kvE], putE_nd nD, putE_ok okE oe, Nat.le_trans putE_len (by omega), fun w => ?_, S.mutO nd⟩
        rw [he, eq, take_in hp]
      refine ⟨_, rfl, _, rfl, d, _, rfl, DGet.k (k := (Sum.inr (tx g) : Key)) hd, ?_⟩
      rw [valV_kvE]
      cases q : lkE E g with
      | none =>
        refine ⟨_, rfl, ite2 (fun h => absurd h (by simp)) (fun _ => ?_)⟩
        exact ⟨_, rfl, _, rfl, _, rfl, d, _, rfl, DPut.k (k := (Sum.inr (tx g) : Key)) hd big, fin e op (put_new q)⟩
      | some e0 =>
        refine ⟨_, rfl, ite2 (fun _ => ?_) (fun h => absurd (show true = true from rfl) h)⟩
        refine ⟨_, rfl, _, rfl, _, rfl, d, oV e0, rfl, by have := DGet.k (k := (Sum.inr (tx g) : Key)) hd; rwa [valV_kvE, q] at this, e, e0, rfl, ?_⟩
        exact ⟨_, rfl, _, rfl, d, _, rfl, DPut.k (k := (Sum.inr (tx g) : Key)) hd big, fin _ (later_ok op (okE _ (lkE_mem q))) (put_old nD q)⟩
    · rintro σ H2 ⟨E, x2, x3, x4, rfl, hd, nD, okE, lE, eq, S⟩
      rw [lx, List.take_length] at eq
      refine ⟨Nat.zero_le _, fun G nG => ?_⟩
      have S2 : Stp [] H2 (upd H2 G (.lst [])) := Stp.new nG _
      have hd2 := S2.kp _ _ (fun m => nomatch m) hd
      refine ⟨_, rfl, d, _, rfl, hd2, fun q nq => ?_⟩
      have ek : (kvE E).map (fun kv => kV kv.1) = (E.map Prod.fst).map Tx := by
        unfold kvE
        rw [List.map_map, List.map_map]
        rfl
      rw [ek]
      have S3 : Stp [] (upd H2 G (.lst [])) (upd (upd H2 G (.lst [])) q (.lst ((E.map Prod.fst).map Tx))) := Stp.new nq _
      refine ⟨q, E.map Prod.fst, rfl, SqL.of upd_same, fun l m => ?_, by rw [List.length_map]; omega, fun zs z H4 nz0 S4 pm pw hz => ?_⟩
      · obtain ⟨p, mp, rfl⟩ := List.mem_map.mp m
        exact (okE p mp).1
      have hG : H4 G = some (.lst []) := S4.kp _ _ (fun m => nomatch m) (S3.kp _ _ (fun m => nomatch m) upd_same)
      have hd4 : H4 d = some (.dK (kvE E)) := S4.kp _ _ (fun m => nomatch m) (S3.kp _ _ (fun m => nomatch m) hd2)
      have S14 := ((S.trans S2).trans S3).trans S4
      have nz : zs.Nodup := pm.nodup_iff.mpr nD
      have lz : zs.length ≤ 3000 := by rw [pm.length_eq, List.length_map]; omega
      have asc' : zs.Pairwise (· < ·) := pw.imp₂ (fun a b h1 h2 => by
        by_cases c : a < b
        · exact c
        · exact absurd (List.le_antisymm h1 (le_of_nlt c)) h2) nz
      have zG : z ∉ [G] := fun m => by
        rw [List.mem_singleton.mp m] at nz0
        rw [S3.kp G _ (fun m => nomatch m) upd_same] at nz0
        cases nz0
      have dG : d ∉ [G] := fun m => by
        rw [List.mem_singleton.mp m] at hd4
        rw [hG] at hd4
        cases hd4
      refine ⟨z, rfl, ⟨_, SqL.of hz⟩, for_list (a := z) (xs := zs.map Tx) (fun i σ H5 => ∃ (ds : List Pr) (vs : List V) (x2 x3 : Option V), σ = [some (.ref a), some (.ref d), x2, x3, some (.ref G)] ∧ H5 G = some (.lst vs) ∧ RpL K H5 vs (ds.map prD) ∧ SpOk ds ∧ ds.length ≤ i ∧ (∀ p ∈ ds, p.1 ∈ zs.take i) ∧ (∀ w, inS ds w = inS ((zs.take i).map (ent E)) w) ∧ Stp [G] H4 H5)
        ⟨[], [], _, _, rfl, hG, .nil, .nil, Nat.le_refl _, fun _ m => (nomatch m), fun _ => rfl, Stp.refl _ _⟩ (fun i σ H5 _ ⟨_, _, _, _, _, _, _, _, _, _, _, S5⟩ => SqL.of (S5.kp _ _ zG hz)) ?_ ?_⟩
      · rintro i x σ H5 hi ⟨ds, vs, x2, x3, rfl, hG5, rd, okd, ld, fs, eqd, S5⟩
        rw [List.getElem?_map] at hi
        cases ez : zs[i]? with
        | none => rw [ez] at hi; cases hi
        | some y =>
        rw [ez] at hi
        cases hi
        have il : i < zs.length := (List.getElem?_eq_some_iff.mp ez).1
        have hd5 := S5.kp _ _ dG hd4
        obtain ⟨p, mp, py⟩ := List.mem_map.mp (pm.mem_iff.mp (List.mem_of_getElem? ez))
        have lky : lkE E y = some p.2 := by rw [← py]; exact lkE_some nD mp
        have oky : PrOk (y, p.2) := by rw [← py]; exact okE p mp
        have entY : ent E y = (y, p.2) := by unfold ent; rw [lky]; rfl
        have dg : ∀ {H6 : Hp}, H6 d = some (.dK (kvE E)) → DGet H6 d (Tx y) (some (oV p.2)) := fun h6 => by
          have := DGet.k (k := (Sum.inr (tx y) : Key)) h6
          rwa [valV_kvE, lky] at this
        have tk : ∀ w, inS ((zs.take (i + 1)).map (ent E)) w = (inS ds w || inP w (y, p.2)) := fun w => by
          rw [List.take_add_one, ez, List.map_append, inS_app, eqd, ← entY]
          show (_ || inS [ent E y] w) = _
          rw [inS_cons]
          show (_ || (inP w (ent E y) || false)) = _
          rw [Bool.or_false]
        have lv : vs.length < sizeLine := by
          rw [rd.len, List.length_map]
          exact Nat.lt_of_le_of_lt (show ds.length ≤ 3000 by omega) (by decide)
        have len2 : (2 : Nat) ≤ sizeLine := by decide
        have fs' : ∀ q ∈ ds, q.1 ∈ zs.take (i + 1) := fun q m => by
          rw [List.take_add_one, ez]
          exact List.mem_append_left _ (fs q m)
        have yin : y ∈ zs.take (i + 1) := by
          rw [List.take_add_one, ez]
          exact List.mem_append_right _ (by simp)
        have app : (∀ q, ds.getLast? = some q → reachB q.2 y = false) → ∀ (D : Ends), D.nx = (fun σ' H6 => ∃ (ds : List Pr) (vs : List V) (x2 x3 : Option V), σ' = [some (.ref a), some (.ref d), x2, x3, some (.ref G)] ∧ H6 G = some (.lst vs) ∧ RpL K H6 vs (ds.map prD) ∧ SpOk ds ∧ ds.length ≤ i + 1 ∧ (∀ p ∈ ds, p.1 ∈ zs.take (i + 1)) ∧ (∀ w, inS ds w = inS ((zs.take (i + 1)).map (ent E)) w) ∧ Stp [G] H4 H6) →
            ∀ t2, H5 t2 = none → D.nx [some (.ref a), some (.ref d), some (Tx y), x3, some (.ref G)] (upd (upd H5 t2 (.tup [Tx y, oV p.2])) G (.lst (vs ++ [.ref t2]))) := fun last D eD t2 nt2 => by
          rw [eD]
          have nG2 : G ≠ t2 := ne_of_none hG5 nt2
          have hG6 : (upd H5 t2 (.tup [Tx y, oV p.2])) G = some (.lst vs) := by rw [upd_ne nG2]; exact hG5
          have s3 : Stp [] H5 (upd H5 t2 (.tup [Tx y, oV p.2])) := Stp.new nt2 _
          have s4 : Stp [G] (upd H5 t2 (.tup [Tx y, oV p.2])) (upd (upd H5 t2 (.tup [Tx y, oV p.2])) G (.lst (vs ++ [.ref t2]))) := Stp.put (by simp)
          refine ⟨ds ++ [(y, p.2)], vs ++ [.ref t2], _, _, rfl, upd_same, ?_, new_ok okd oky last, by simp; omega, fun q m => ?_, fun w => ?_, (S5.trans s3.nil).trans s4⟩
          · refine prs_one ((rd.stp s3 Lsts.nil).stp s4 (.one hG6)) (pr_rp (p := (y, p.2)) (SqT.of ?_) oky.1.2 fun e q => (oky.2 e q).1.2)
            rw [upd_ne nG2.symm]
            exact upd_same
          · rcases List.mem_append.mp m with m | m
            · exact fs' q m
            · rw [List.mem_singleton.mp m]
              exact yin
          · rw [tk, inS_app]
            congr 1
            rw [inS_cons]
            show (inP w (y, p.2) || false) = _
            rw [Bool.or_false]
        refine ⟨_, rfl, _, .inl ⟨vs, SqL.of hG5, rfl⟩, ?_⟩
        rcases List.eq_nil_or_concat ds with rfl | ⟨d0, q, rfl⟩
        · have ev : vs = [] := List.length_eq_zero_iff.mp (by rw [rd.len]; rfl)
          subst ev
          refine ite2 (fun h => absurd h (by simp)) (fun _ => ?_)
          refine ⟨_, rfl, .inl ⟨rfl, _, SqL.of hG5⟩, _, rfl, _, rfl, _, rfl, d, _, rfl, dg hd5, len2, fun t2 nt2 => ?_⟩
          exact ⟨G, _, _, rfl, rfl, by rw [upd_ne (ne_of_none hG5 nt2)]; exact hG5, lv, app (fun q h => by cases h) _ rfl t2 nt2⟩
        · rw [List.concat_eq_append] at *
          have gl : (d0 ++ [q]).getLast? = some q := by rw [List.getLast?_append, List.getLast?_singleton]; rfl
          have lvs : vs.length = d0.length + 1 := by rw [rd.len, List.length_map, List.length_append]; rfl
          have vne : vs ≠ [] := by intro e; rw [e] at lvs; simp at lvs
          obtain ⟨v, hv0⟩ : ∃ v, vs[d0.length]? = some v := ⟨vs[d0.length]'(by omega), List.getElem?_eq_getElem _⟩
          obtain ⟨q', hq', t, rfl, ht⟩ := prs_get rd hv0
          obtain rfl : q = q' := by
            rw [List.getElem?_append_right (Nat.le_refl _), Nat.sub_self] at hq'
            exact Option.some.inj hq'
          have al : atI vs (-1) = some (.ref t) := atL vne (by rw [lvs, Nat.add_sub_cancel]; exact hv0)
          have qlt : q.1 ≤ y := by
            have m := fs q (by simp)
            obtain ⟨j, hj, ej⟩ := List.mem_iff_getElem.mp m
            rw [List.length_take] at hj
            rw [List.getElem_take] at ej
            have := List.pairwise_iff_getElem.mp asc' j i (by omega) il (by omega)
            rw [ej, (List.getElem?_eq_some_iff.mp ez).2] at this
            exact lt_le' this
          refine ite2 (fun _ => ?_) (fun h => absurd (by cases vs with | nil => exact absurd rfl vne | cons _ _ => rfl) h)
          refine ⟨_, rfl, 1, rfl, G, _, _, .ref t, rfl, rfl, SqL.of hG5, al, t, _, 1, oV q.2, rfl, rfl, ht, at1, _, rfl, q.2, y, rfl, fun b eb => ⟨_, rfl, ite2 (fun h => ?_) (fun h => ?_)⟩⟩
          · have rt : reachB q.2 y = true := by rw [← eb]; exact h
            refine ⟨_, rfl, 1, rfl, G, _, _, .ref t, rfl, rfl, SqL.of hG5, al, t, _, 0, Tx q.1, rfl, rfl, ht, at0, ?_⟩
            refine ⟨_, rfl, 1, rfl, G, _, _, .ref t, rfl, rfl, SqL.of hG5, al, t, _, 1, oV q.2, rfl, rfl, ht, at1, _, rfl, _, rfl, d, _, rfl, dg hd5, q.2, p.2, rfl, len2, fun t2 nt2 => ?_⟩
            have nG2 : G ≠ t2 := ne_of_none hG5 nt2
            have hG6 : (upd H5 t2 (.tup [Tx q.1, oV (laterM q.2 p.2)])) G = some (.lst vs) := by rw [upd_ne nG2]; exact hG5
            have s3 : Stp [] H5 (upd H5 t2 (.tup [Tx q.1, oV (laterM q.2 p.2)])) := Stp.new nt2 _
            have s4 : Stp [G] (upd H5 t2 (.tup [Tx q.1, oV (laterM q.2 p.2)])) (upd (upd H5 t2 (.tup [Tx q.1, oV (laterM q.2 p.2)])) G (.lst (vs.set d0.length (.ref t2)))) := Stp.put (by simp)
            have ixn : ixN vs.length (-1) = some d0.length := by
              unfold ixN
              rw [if_neg (by decide), if_pos (by omega), lvs]
              simp
              omega
            have ok2 := ext_ok okd oky qlt
            have o2 := ok2.ok (q.1, laterM q.2 p.2) (by simp)
            refine ⟨_, rfl, 1, rfl, G, _, _, d0.length, rfl, rfl, hG6, ixn, ?_⟩
            refine ⟨d0 ++ [(q.1, laterM q.2 p.2)], vs.set d0.length (.ref t2), _, _, rfl, upd_same, ?_, ok2, by simp at ld ⊢; omega, fun r m => ?_, fun w => ?_, (S5.trans s3.nil).trans s4⟩
            · have e5 : ((d0 ++ [(q.1, laterM q.2 p.2)]).map prD) = (((d0 ++ [q]).map prD).set d0.length (prD (q.1, laterM q.2 p.2))) := by
                rw [List.map_append, List.map_append, List.set_append_right _ _ (by simp)]
                simp
              rw [e5]
              refine rpl_set ((rd.stp s3 Lsts.nil).stp s4 (.one hG6)) (pr_rp (p := (q.1, laterM q.2 p.2)) (SqT.of ?_) o2.1.2 fun e h => (o2.2 e h).1.2)
              rw [upd_ne nG2.symm]
              exact upd_same
            · rcases List.mem_append.mp m with m | m
              · exact fs' r (List.mem_append_left _ m)
              · rw [List.mem_singleton.mp m]
                exact fs' q (by simp)
            · rw [ext_in qlt rt, tk]
          · refine ⟨_, rfl, .inl ⟨rfl, _, SqL.of hG5⟩, _, rfl, _, rfl, _, rfl, d, _, rfl, dg hd5, len2, fun t2 nt2 => ?_⟩
            exact ⟨G, _, _, rfl, rfl, by rw [upd_ne (ne_of_none hG5 nt2)]; exact hG5, lv, app (fun r hr' => by rw [gl] at hr'; cases hr'; rw [← eb]; exact Bool.eq_false_iff.mpr h) _ rfl t2 nt2⟩
      · rintro σ H5 ⟨ds, vs, x2, x3, rfl, hG5, rd, okd, ld, fs, eqd, S5⟩
        rw [List.length_map] at ld eqd
        rw [List.take_length] at eqd
        refine ⟨_, rfl, G, _, rfl, .inl ⟨SqL.of hG5, fun b nb => ?_⟩⟩
        have SS : Stp [] H (upd H5 b (.tup vs)) := (S1.trans ((S.trans (Stp.loc nG ((S2.trans S3).trans S4 |>.nil.trans S5)))|>.new' nb))
        exact k b ds _ SS ⟨⟨vs, SqT.of upd_same, rd.stp (Stp.new nb _) Lsts.nil⟩, okd, by omega⟩ fun w => by rw [eqd, ent_in nD pm, eq]
/-! ### two loops in one list -/
theorem pi_tupK {X : Cx} {K : PySem.W.Frag} (hK : X.K = K) {tg l : Expr} {tl : TE} (hl : PE X l tl) : PI X tg l (iTup K tl) := by
  subst hK
  exact pi_tup hl
theorem pi_listK {X : Cx} {K : PySem.W.Frag} (hK : X.K = K) {tg l : Expr} {tl : TE} (hl : PE X l tl) : PI X tg l (iList K tl) := by
  subst hK
  exact pi_list hl
theorem lcg_tup {K : PySem.W.Frag} {a : Addr} {xs : List V} {step : V → Hp → (Hp → Prop) → Prop} {H0 : Hp} {Qd : Hp → Prop} (Pv : Nat → Hp → Prop) (h0 : Pv 0 H0) (hl : ∀ i H, i ≤ xs.length → Pv i H → SqT K H a xs)
    (hs : ∀ i x H, xs[i]? = some x → Pv i H → step x H (Pv (i + 1))) (hd : ∀ H, Pv xs.length H → Qd H) :
    ∃ W : Nat → Nat → Hp → Prop, (∃ m, W 0 m H0) ∧ ∀ i m H, W i m H → ((Itt K a).stop i H ∧ Qd H) ∨ ((Itt K a).go i H ∧ ∃ Nx : Hp → Prop, (∀ H', Nx H' → ∃ m', m' < m ∧ W (i + 1) m' H') ∧ ∀ x H', (Itt K a).yld i H x H' → step x H' Nx) := by
  refine ⟨fun i m H => m = xs.length - i ∧ i ≤ xs.length ∧ Pv i H, ⟨xs.length, by simp, Nat.zero_le _, h0⟩, ?_⟩
  rintro i m H ⟨rfl, hi, p⟩
  have q := hl i H hi p
  by_cases hlt : i < xs.length
  · refine .inr ⟨⟨xs, xs[i], q, by simp [hlt]⟩, Pv (i + 1), fun H' p' => ⟨xs.length - (i + 1), by omega, rfl, hlt, p'⟩, fun x H' y => ?_⟩
    obtain ⟨e, y⟩ := y
    subst e
    exact hs i x _ (y xs q) p
  · have e : i = xs.length := by omega
    subst e
    exact .inl ⟨⟨xs, q, Nat.le_refl _⟩, hd H p⟩
theorem lcg_list {K : PySem.W.Frag} {a : Addr} {xs : List V} {step : V → Hp → (Hp → Prop) → Prop} {H0 : Hp} {Qd : Hp → Prop} (Pv : Nat → Hp → Prop) (h0 : Pv 0 H0) (hl : ∀ i H, i ≤ xs.length → Pv i H → SqL K H a xs)
    (hs : ∀ i x H, xs[i]? = some x → Pv i H → step x H (Pv (i + 1))) (hd : ∀ H, Pv xs.length H → Qd H) :
    ∃ W : Nat → Nat → Hp → Prop, (∃ m, W 0 m H0) ∧ ∀ i m H, W i m H → ((Itl K a).stop i H ∧ Qd H) ∨ ((Itl K a).go i H ∧ ∃ Nx : Hp → Prop, (∀ H', Nx H' → ∃ m', m' < m ∧ W (i + 1) m' H') ∧ ∀ x H', (Itl K a).yld i H x H' → step x H' Nx) := by
  refine ⟨fun i m H => m = xs.length - i ∧ i ≤ xs.length ∧ Pv i H, ⟨xs.length, by simp, Nat.zero_le _, h0⟩, ?_⟩
  rintro i m H ⟨rfl, hi, p⟩
  have q := hl i H hi p
  by_cases hlt : i < xs.length
  · refine .inr ⟨⟨xs, xs[i], q, by simp [hlt]⟩, Pv (i + 1), fun H' p' => ⟨xs.length - (i + 1), by omega, rfl, hlt, p'⟩, fun x H' y => ?_⟩
    obtain ⟨e, y⟩ := y
    subst e
    exact hs i x _ (y xs q) p
  · have e : i = xs.length := by omega
    subst e
    exact .inl ⟨⟨xs, q, Nat.le_refl _⟩, hd H p⟩
theorem flat_take {α β : Type} (f : α → List β) {ds : List α} {i : Nat} {d : α} (h : ds[i]? = some d) : (ds.take (i + 1)).flatMap f = (ds.take i).flatMap f ++ f d := by
  rw [List.take_add_one, h, List.flatMap_append]
  simp
theorem flat_len {α β : Type} (f : α → List β) (ds : List α) (i : Nat) : ((ds.take i).flatMap f).length ≤ (ds.flatMap f).length := by
  conv => rhs; rw [← List.take_append_drop i ds, List.flatMap_append, List.length_append]
  omega
abbrev s_possible_texts : Stmt := topS 69
abbrev N_possible_texts : List Str := ["rule", "note", "numbers", "number", "part"]
theorem sc_possible_texts : FnScope ["rule", "note", "numbers", "number", "part"] ["rule", "note"] (defScope s_possible_texts) := ⟨rfl, rfl, rfl, by decide +kernel, rfl, by decide +kernel, by decide +kernel⟩

/-! ### the texts that pages with a note can have -/
def stdR (r : Ru) (m : Int) (d1 d2 d3 : D) (w : Txt) : Bool := inS ((numR r m d1 d2 d3).flatMap (rangesR r d2 d3)) w
theorem old_prs : ∀ (ps : List Pr), D.olds (ps.map rgD) = ps.map prD
  | [] => rfl
  | (f, none) :: ps => by
    show (rgD (f, none)).old :: D.olds (ps.map rgD) = prD (f, none) :: ps.map prD
    rw [old_prs ps]
    rfl
  | (f, some e) :: ps => by
    show (rgD (f, some e)).old :: D.olds (ps.map rgD) = prD (f, some e) :: ps.map prD
    rw [old_prs ps]
    rfl
theorem rng_few (r : Ru) (d2 d3 : D) (n : Int) : (rangesR r d2 d3 n).length ≤ 2 := by
  unfold rangesR
  cases leastR r.low d2 with
  | none => exact Nat.zero_le _
  | some p =>
    cases greatR r.high d3 with
    | none => exact Nat.zero_le _
    | some q =>
      show (if n = 0 then [] else if n = 1 then interR p q else if n = 2 then interR p ([], q.2) ++ interR (p.1, none) q else interR (p.1, none) ([], q.2)).length ≤ 2
      have f : ∀ a b, (interR a b).length ≤ 1 := inter_few
      split
      · exact Nat.zero_le _
      · split
        · exact Nat.le_trans (f _ _) (by decide)
        · split
          · rw [List.length_append]
            have := f p ([], q.2)
            have := f (p.1, none) q
            omega
          · exact Nat.le_trans (f _ _) (by decide)
theorem num_few (r : Ru) (fs : Int × Int) (d2 d3 : D) : (numI r fs d2 d3).length ≤ 4 := Nat.le_trans (List.length_filter_le _ _) (Nat.le_trans (List.length_filter_le _ _) (Nat.le_refl _))
theorem flat_few {α β : Type} {f : α → List β} {k : Nat} (h : ∀ x, (f x).length ≤ k) : ∀ xs : List α, (xs.flatMap f).length ≤ k * xs.length
  | [] => Nat.zero_le _
  | x :: xs => by
    rw [List.flatMap_cons, List.length_append, List.length_cons, Nat.mul_add]
    have := h x
    have := flat_few h xs
    omega
def spPTx (K : PySem.W.Frag) : Sp := fun vs H Q _ => ∃ (v u : V) (r : Ru) (m : Int) (d1 d2 d3 : D), vs = [v, u] ∧ Rv K [] H v (ruD r) ∧ RuOk r ∧ Rv K [] H u (.tup [.int m, d1, d2, d3]) ∧ LkOk d1 = true ∧
  ∀ b ds H', Stp [] H H' → Spn K H' b ds → (∀ w, inS ds w = stdR r m d1 d2 d3 w) → Q (.ref b) H'
theorem cl_possible_texts {f : Addr} {fd : FuncData} (D : Df K mg "possible_texts" s_possible_texts ["rule", "note"] f fd) (T : Nm mg) (c_possible_numbers : Cl P w K mg base 8 "possible_numbers" s_possible_numbers ["rule", "note"] (spPNum K)) (c_ranges_with : Cl P w K mg base 6 "ranges_with" s_ranges_with ["rule", "note", "number"] (spRW K)) (c_span_of : Cl P w K mg base 4 "span_of" s_span_of ["ranges"] (spSpanOf K)) :
    Cl P w K mg base 9 "possible_texts" s_possible_texts ["rule", "note"] (spPTx K) := by
  refine D.cl sc_possible_texts (fun vs H Q E h => ?_) (fun cdv A outer s H vs Q E hr h => ?_)
  · obtain ⟨v, u, r, m, d1, d2, d3, rfl, _⟩ := h
    rfl
  · obtain ⟨v, u, r, m, d1, d2, d3, rfl, rv, ok, ru, lk1, k⟩ := h
    refine ⟨_, (pss_cons (ps_set (i := 2) sc_possible_texts.nd rfl (by first | exact Or.inl rfl | exact Or.inr rfl) (pe_cl c_possible_numbers hr (by omega) (pa_cons (pv 0) (pa_cons (pv 1) pa_nil))))
      (pss_one (ps_ret (pe_cl c_span_of hr (by omega) (pa_cons (pe_lc2 (own := [("number", 3), ("part", 4)]) (vs1 := [4]) rfl sc_possible_texts.nd (pi_list (pv 2)) (blkOk_by (own := [("number", 3), ("part", 4)]) (N := N_possible_texts) (sc := defScope s_possible_texts) (by decide +kernel)) (by decide) (fun _ _ _ _ _ => (pg_name (i := 3) sc_possible_texts.nd rfl (by first | exact Or.inl rfl | exact Or.inr rfl))) (fun _ _ _ _ _ => pts_nil) (fun _ _ _ _ _ => (pi_listK (K := K) (tl := Pg.tCl (spRW K) (L2.tCons (L2.tVar 0) (L2.tCons (L2.tVar 1) (L2.tCons (L2.tVar 3) L2.tNil)))) rfl (pe_cl c_ranges_with hr (by omega) (pa_cons (pv 0) (pa_cons (pv 1) (pa_cons (pv 3) pa_nil)))))) (fun _ _ _ _ _ => (pg_name (i := 4) sc_possible_texts.nd rfl (by first | exact Or.inl rfl | exact Or.inr rfl))) (fun _ _ _ _ _ => pts_nil) (fun _ _ _ _ _ => (pv 4))) pa_nil))))), ?_⟩
    have nn : ∀ {x : Addr}, x ∉ ([] : List Addr) := fun m => nomatch m
    refine ⟨_, rfl, _, rfl, [], v, u, r, m, d1, d2, d3, rfl, rv, ok, ru, lk1, fun N H1 S1 hN => ?_⟩
    dsimp only [gName]
    have nf : (numR r m d1 d2 d3).length ≤ 4 := num_few _ _ _ _
    have ff := flat_few (f := rangesR r d2 d3) (rng_few r d2 d3) (numR r m d1 d2 d3)
    have es : ∀ w, inS ((numR r m d1 d2 d3).flatMap (rangesR r d2 d3)) w = stdR r m d1 d2 d3 w := fun _ => rfl
    have oks : ∀ p ∈ (numR r m d1 d2 d3).flatMap (rangesR r d2 d3), PrOk p := fun p q => by
      obtain ⟨n, _, q⟩ := List.mem_flatMap.mp q
      exact rng_ok ok p q
    generalize hns : numR r m d1 d2 d3 = ns at *
    refine ⟨_, rfl, N, rfl, ⟨_, SqL.of hN⟩, fun L nL => ?_⟩
    refine lcg_list (a := N) (xs := ns.map V.int) (fun i H' => ∃ vs, H' L = some (.lst vs) ∧ RpL K H' vs (((ns.take i).flatMap (rangesR r d2 d3)).map prD) ∧ Stp [] H1 H') ⟨[], upd_same, .nil, Stp.new nL _⟩ (fun i H' _ ⟨_, _, _, S⟩ => SqL.of (S.kp _ _ nn hN)) ?_ ?_
    · rintro i x H' hi ⟨vs, hL, rL, S⟩
      obtain ⟨n, hn, rfl⟩ : ∃ n, ns[i]? = some n ∧ x = V.int n := by
        rw [List.getElem?_map] at hi
        cases e : ns[i]? with
        | none => rw [e] at hi; cases hi
        | some u => rw [e] at hi; exact ⟨u, rfl, (Option.some.inj hi).symm⟩
      have ft := flat_take (rangesR r d2 d3) hn
      have fl1 := flat_len (rangesR r d2 d3) ns (i + 1)
      rw [ft, List.length_append] at fl1
      have SS := S1.trans S
      refine ⟨rfl, _, rfl, _, rfl, _, rfl, [], v, u, r, _, d1, d2, d3, n, rfl, rv.up SS, ok, ru.up SS, fun M xs H2 nM S2 hM rM => ?_⟩
      have ML : M ≠ L := (ne_of_none hL nM).symm
      have rM' : RpL K H2 xs ((rangesR r d2 d3 n).map prD) := by
        have := RvL.old rM
        rwa [old_prs] at this
      have lxs : xs.length = (rangesR r d2 d3 n).length := by rw [rM.len, List.length_map]
      refine ⟨M, rfl, ⟨_, SqL.of hM⟩, ?_⟩
      refine lcg_list (a := M) (xs := xs) (fun j H3 => ∃ vs, H3 L = some (.lst vs) ∧ RpL K H3 vs (((ns.take i).flatMap (rangesR r d2 d3) ++ (rangesR r d2 d3 n).take j).map prD) ∧ H3 M = some (.lst xs) ∧ RpL K H3 xs ((rangesR r d2 d3 n).map prD) ∧ Stp [] H1 H3) ⟨vs, S2.kp _ _ nn hL, by rw [List.take_zero, List.append_nil]; exact rL.stp S2 Lsts.nil, hM, rM', S.trans S2⟩ (fun j H3 _ ⟨_, _, _, h, _⟩ => SqL.of h) ?_ ?_
      · rintro j y H3 hj ⟨vs3, hL3, rL3, hM3, rM3, S3⟩
        obtain ⟨d, hd, ry⟩ := rM3.get hj
        rw [List.getElem?_map] at hd
        cases ep : (rangesR r d2 d3 n)[j]? with
        | none => rw [ep] at hd; cases hd
        | some p =>
          rw [ep] at hd
          cases hd
          have SL : Stp [L] H3 (upd H3 L (.lst (vs3 ++ [y]))) := Stp.put (List.mem_singleton.mpr rfl)
          have lsL : Lsts H3 [L] := .one hL3
          refine ⟨rfl, _, rfl, vs3, hL3, ?_, vs3 ++ [y], upd_same, ?_, ?_, rM3.stp SL lsL, S3.mut nL⟩
          · rw [rL3.len, List.length_map, List.length_append, List.length_take]
            exact Nat.lt_of_le_of_lt (show _ ≤ 100 by omega) (by decide)
          · rw [List.take_add_one, ep]
            have q : RpL K (upd H3 L (.lst (vs3 ++ [y]))) (vs3 ++ [y]) (((ns.take i).flatMap (rangesR r d2 d3) ++ (rangesR r d2 d3 n).take j ++ [p]).map prD) := prs_one (rL3.stp SL lsL) (ry.stp SL lsL)
            rw [List.append_assoc] at q
            exact q
          · rw [upd_ne ML]
            exact hM3
      · rintro H3 ⟨vs3, hL3, rL3, _, _, S3⟩
        rw [lxs, List.take_length] at rL3
        exact ⟨vs3, hL3, by rw [ft]; exact rL3, S3⟩
    rintro H2 ⟨vs, hL, rL, S2⟩
    rw [List.length_map, List.take_length] at rL
    exact ⟨L, vs, _, rfl, hL, rL, oks, by omega, fun b ds H3 S3 sp e => k b ds H3 ((S1.trans S2).trans S3) sp fun w => (e w).trans (es w)⟩
abbrev s_can_lack : Stmt := topS 70
abbrev N_can_lack : List Str := ["rule", "note"]
theorem sc_can_lack : FnScope ["rule", "note"] ["rule", "note"] (defScope s_can_lack) := ⟨rfl, rfl, rfl, by decide +kernel, rfl, by decide +kernel, by decide +kernel⟩

/-! ### whether a page with a note can lack values -/
def spCLk (K : PySem.W.Frag) : Sp := fun vs H Q _ => ∃ (v u : V) (r : Ru) (m : Int) (d1 d2 d3 : D), vs = [v, u] ∧ Rv K [] H v (ruD r) ∧ RuOk r ∧ Rv K [] H u (.tup [.int m, d1, d2, d3]) ∧ LkOk d1 = true ∧
  ∃ a, (numR r m d1 d2 d3)[0]? = some a ∧ ∀ H', Stp [] H H' → Q (.bl (decide (a < m))) H'
theorem cl_can_lack {f : Addr} {fd : FuncData} (D : Df K mg "can_lack" s_can_lack ["rule", "note"] f fd) (T : Nm mg) (c_possible_numbers : Cl P w K mg base 8 "possible_numbers" s_possible_numbers ["rule", "note"] (spPNum K)) :
    Cl P w K mg base 9 "can_lack" s_can_lack ["rule", "note"] (spCLk K) := by
  refine D.cl sc_can_lack (fun vs H Q E h => ?_) (fun cdv A outer s H vs Q E hr h => ?_)
  · obtain ⟨v, u, r, m, d1, d2, d3, rfl, _⟩ := h
    rfl
  · obtain ⟨v, u, r, m, d1, d2, d3, rfl, rv, ok, ru, lk1, a, ha, k⟩ := h
    refine ⟨_, (pss_one (ps_ret (pe_cmpR op_lt (pe_ix ix_list (pe_cl c_possible_numbers hr (by omega) (pa_cons (pv 0) (pa_cons (pv 1) pa_nil))) pe_int (fun _ _ => rfl)) (pe_ix ix_tup (pv 1) pe_int (fun _ _ => rfl)) (by first | exact nomark _ | rfl)))), ?_⟩
    refine ⟨_, rfl, _, rfl, [], v, u, r, m, d1, d2, d3, rfl, rv, ok, ru, lk1, fun N H1 S1 hN => ?_⟩
    obtain ⟨b, us, rfl, hb, _, rus⟩ := (ru.up S1).tupE
    obtain ⟨u0, u1, u2, u3, rfl, q0, q1, q2, q3⟩ := four rus
    cases q0
    have at' : atI ((numR r m d1 d2 d3).map V.int) 0 = some (.int a) := atI_nat (j := 0) (by rw [List.getElem?_map, ha]; rfl)
    refine ⟨N, _, 0, _, rfl, rfl, SqL.of hN, at', _, rfl, b, _, 0, _, rfl, rfl, hb, at0, ?_⟩
    exact ⟨_, _, rfl, rfl, k H1 S1⟩
abbrev s_is_filter : Stmt := topS 31
abbrev N_is_filter : List Str := ["value"]
theorem sc_is_filter : FnScope ["value"] ["value"] (defScope s_is_filter) := ⟨rfl, rfl, rfl, by decide +kernel, rfl, by decide +kernel, by decide +kernel⟩

abbrev s_can_follow : Stmt := topS 32
abbrev N_can_follow : List Str := ["word", "part", "text", "inner"]
theorem sc_can_follow : FnScope ["word", "part", "text", "inner"] ["word", "part"] (defScope s_can_follow) := ⟨rfl, rfl, rfl, by decide +kernel, rfl, by decide +kernel, by decide +kernel⟩

/-! ### is_text, is_filter -/
def IsTx (d : Dt) : Prop := ∃ l, d = .str l ∧ Abc l
def spIsText (K : PySem.W.Frag) : Sp := fun vs H Q _ => ∃ v d, vs = [v] ∧ Rp K H v d ∧ ∀ b : Bool, (b = true ↔ IsTx d) → Q (.bl b) H
theorem cl_is_textF {f : Addr} {fd : FuncData} (D : Df K mg "is_text" s_is_text ["value"] f fd) (T : Nm mg) : Cl P w K mg base 1 "is_text" s_is_text ["value"] (spIsText K) := by
  refine D.cl sc_is_text (fun vs H Q E h => ?_) (fun cdv A outer s H vs Q E hr h => ?_)
  · obtain ⟨v, d, rfl, _⟩ := h
    rfl
  · obtain ⟨v, d, rfl, r, k⟩ := h
    refine ⟨_, (pss_one (ps_ret (pe_and (pe_tyIs (T := "str") Mono.var (pv 0) T.n_type T.n_str (by decide +kernel)) (pe_one (pe_cmpR op_eq (pe_bm PySem.F.plainAttrs_str PySem.F.slot_str_strip PySem.F.type_str_strip mt_stripChars (pv 0) (pa_cons pe_str pa_nil)) pe_str (by first | exact nomark _ | rfl)))))), ?_⟩
    have no : (∀ l, d ≠ .str l) → Q (.bl false) H := fun n => k false ⟨fun e => (nomatch e), fun ⟨l, e, _⟩ => absurd e (n l)⟩
    refine ⟨_, rfl, d, r, _, rfl, ?_⟩
    cases r with
    | str l hl =>
      refine ⟨_, rfl, rfl, tx l, ("abc" : Str), rfl, rfl, szt hl, rfl, ?_⟩
      refine k _ ?_
      rw [abc_lit, nil_lit]
      constructor
      · intro h
        exact ⟨l, rfl, (strip_abc l).mp (V.str.inj (of_decide_eq_true h))⟩
      · rintro ⟨l', e, ha⟩
        cases e
        exact decide_eq_true (congrArg V.str ((strip_abc l).mpr ha))
    | _ => exact no (fun l e => nomatch e)
/-- the filters of the document -/
inductive Flt : Dt → Prop
  | tx {wd : Str} {l : List Nat} (hw : wd = "is" ∨ wd = "below" ∨ wd = "above" ∨ wd = "begins") (h : Abc l) : Flt (.tup [.str wd.cps.toList, .str l])
  | none : Flt (.tup [.str ("none" : Str).cps.toList])
  | say (b : Bool) : Flt (.tup [.str ("say" : Str).cps.toList, .bl b])
  | not {d : Dt} : Flt d → Flt (.tup [.str ("not" : Str).cps.toList, d])
  | among {ds : List Dt} : (∀ d ∈ ds, IsTx d) → Flt (.tup [.str ("among" : Str).cps.toList, .tup ds])
  | many {wd : Str} {ds : List Dt} (hw : wd = "and" ∨ wd = "or") : (∀ d ∈ ds, Flt d) → Flt (.tup [.str wd.cps.toList, .tup ds])
/-! ### what a filter is, by its first part -/
def CanF (wd : Str) (d : Dt) : Prop :=
  ((wd = "is" ∨ wd = "below" ∨ wd = "above" ∨ wd = "begins") ∧ IsTx d) ∨ (wd = "say" ∧ ∃ b, d = .bl b) ∨ (wd = "not" ∧ Flt d) ∨
  (wd = "among" ∧ ∃ ds, d = .tup ds ∧ ∀ e ∈ ds, IsTx e) ∨ ((wd = "and" ∨ wd = "or") ∧ ∃ ds, d = .tup ds ∧ ∀ e ∈ ds, Flt e)
theorem lit_tx (wd : Str) : tx wd.cps.toList = wd := by cases wd <;> simp [tx]
theorem tx_lit {l : List Nat} {wd : Str} (h : tx l = wd) : l = wd.cps.toList := by rw [← h]
theorem flt_two {l : List Nat} {d : Dt} : Flt (.tup [.str l, d]) ↔ CanF (tx l) d := by
  constructor
  · intro h
    cases h with
    | tx hw ha => exact .inl ⟨by rw [lit_tx]; exact hw, _, rfl, ha⟩
    | say b => exact .inr (.inl ⟨lit_tx _, b, rfl⟩)
    | not h => exact .inr (.inr (.inl ⟨lit_tx _, h⟩))
    | among h => exact .inr (.inr (.inr (.inl ⟨lit_tx _, _, rfl, h⟩)))
    | many hw h => exact .inr (.inr (.inr (.inr ⟨by rw [lit_tx]; exact hw, _, rfl, h⟩)))
  · rintro (⟨hw, l', rfl, ha⟩ | ⟨hw, b, rfl⟩ | ⟨hw, h⟩ | ⟨hw, ds, rfl, h⟩ | ⟨hw, ds, rfl, h⟩)
    · have := Flt.tx (wd := tx l) hw ha
      simpa [tx] using this
    · rw [tx_lit hw]
      exact .say b
    · rw [tx_lit hw]
      exact .not h
    · rw [tx_lit hw]
      exact .among h
    · have := Flt.many (wd := tx l) hw h
      simpa [tx] using this
theorem flt_one {l : List Nat} : Flt (.tup [.str l]) ↔ tx l = "none" := by
  constructor
  · intro h
    cases h
    exact lit_tx _
  · intro h
    rw [tx_lit h]
    exact .none
theorem flt_head {d : Dt} (h : Flt d) : ∃ l rest, d = .tup (.str l :: rest) ∧ rest.length ≤ 1 := by
  cases h <;> exact ⟨_, _, rfl, by simp⟩
theorem not_none {d : Dt} : ¬ CanF "none" d := by
  rintro (⟨h | h | h | h, _⟩ | ⟨h, _⟩ | ⟨h, _⟩ | ⟨h, _⟩ | ⟨h | h, _⟩) <;> exact absurd h (by decide +kernel)
theorem flt_none {rest : List Dt} {l : List Nat} (h : tx l = "none") : Flt (.tup (.str l :: rest)) ↔ rest.length = 0 := by
  constructor
  · intro f
    obtain ⟨l', r', e, hl⟩ := flt_head f
    cases e
    cases rest with
    | nil => rfl
    | cons d rest =>
      cases rest with
      | nil =>
        rw [flt_two, h] at f
        exact (not_none f).elim
      | cons _ _ => simp at hl
  · intro e
    rw [List.length_eq_zero_iff.mp e]
    exact flt_one.mpr h
theorem flt_not_none {rest : List Dt} {l : List Nat} (h : tx l ≠ "none") : Flt (.tup (.str l :: rest)) ↔ ∃ p, rest = [p] ∧ CanF (tx l) p := by
  constructor
  · intro f
    obtain ⟨l', r', e, hl⟩ := flt_head f
    cases e
    cases rest with
    | nil => exact absurd (flt_one.mp f) h
    | cons d rest =>
      cases rest with
      | nil => exact ⟨d, rfl, flt_two.mp f⟩
      | cons _ _ => simp at hl
  · rintro ⟨p, rfl, c⟩
    exact flt_two.mpr c
def spIsF (K : PySem.W.Frag) (n : Nat) : Sp := fun vs H Q _ => ∃ v d, vs = [v] ∧ Rp K H v d ∧ d.dep < n ∧ ∀ (b : Bool) H', (b = true ↔ Flt d) → Stp [] H H' → Q (.bl b) H'
def spCan (K : PySem.W.Frag) (n : Nat) : Sp := fun vs H Q _ => ∃ l v d, vs = [Tx l, v] ∧ Rp K H v d ∧ d.dep < n ∧ ∀ (b : Bool) H', (b = true ↔ CanF (tx l) d) → Stp [] H H' → Q (.bl b) H'
theorem isf_step {f : Addr} {fd : FuncData} (D : Df K mg "is_filter" s_is_filter ["value"] f fd) (T : Nm mg) {n m : Nat} (hm : 1 ≤ m) (c_can_follow : Cl P w K mg base m "can_follow" s_can_follow ["word", "part"] (spCan K n)) :
    Cl P w K mg base (m + 1) "is_filter" s_is_filter ["value"] (spIsF K (n + 1)) := by
  refine D.cl sc_is_filter (fun vs H Q E h => ?_) (fun cdv A outer s H vs Q E hr h => ?_)
  · obtain ⟨v, d, rfl, _⟩ := h
    rfl
  · obtain ⟨v, d, rfl, r, hd, k⟩ := h
    refine ⟨_, (pss_cons (ps_if (PW.pt (pw_or (pt_tyNot (T := "tuple") Mono.var (pv 0) T.n_type T.n_tuple (by decide +kernel)) (pw_or (pt_not (pt_truth (pv 0) (by intro _; rfl))) (pw_or1 (pt_tyNot (T := "str") (Mono.ixT Mono.var Mono.c) (pe_ix ix_tup (pv 0) pe_int (fun _ _ => rfl)) T.n_type T.n_str (by decide +kernel)))))) (pss_one (ps_ret pe_bl)) pss_nil)
      (pss_cons (ps_if (pt_cmpR op_eq (pe_ix ix_tup (pv 0) pe_int (fun _ _ => rfl)) pe_str (by first | exact nomark _ | rfl)) (pss_one (ps_ret (pe_cmpR op_eq (pe_callB call_len_seq (by rfl) T.n_len (by decide +kernel) (pa_cons (pv 0) pa_nil)) pe_int (by first | exact nomark _ | rfl)))) pss_nil)
      (pss_one (ps_ret (pe_and (pe_cmpR op_eq (pe_callB call_len_seq (by rfl) T.n_len (by decide +kernel) (pa_cons (pv 0) pa_nil)) pe_int (by first | exact nomark _ | rfl)) (pe_one (pe_cl c_can_follow hr (by omega) (pa_cons (pe_ix ix_tup (pv 0) pe_int (fun _ _ => rfl)) (pa_cons (pe_ix ix_tup (pv 0) pe_int (fun _ _ => rfl)) pa_nil))))))))), ?_⟩
    have no : ¬ Flt d → Q (.bl false) H := fun n => k false H ⟨fun e => (nomatch e), fun f => absurd f n⟩ (Stp.refl _ _)
    refine ⟨_, rfl, d, r, ?_⟩
    cases r with
    | tup hs hn rl =>
      rename_i a xs ds
      rw [if_neg (by simp [Dt.ty])]
      refine ⟨_, rfl, _, .inr (.inl ⟨_, hs, rfl⟩), ?_⟩
      cases rl with
      | nil =>
        refine no fun f => ?_
        obtain ⟨l, rest, e, _⟩ := flt_head f
        cases e
      | cons r0 rr =>
        rename_i v0 vr d0 dr
        refine ⟨_, rfl, a, _, 0, v0, rfl, rfl, hs, at0, d0, r0, ?_⟩
        cases r0 with
        | str l hl =>
          rw [if_neg (by simp [Dt.ty])]
          refine ⟨_, rfl, a, _, 0, Tx l, rfl, rfl, hs, at0, rfl, _, rfl, ite2 (fun h1 => ?_) (fun h1 => ?_)⟩
          · have h1 : tx l = "none" := V.str.inj (of_decide_eq_true h1)
            refine ⟨_, rfl, a, _, rfl, .inr hs, rfl, ?_⟩
            refine k _ H ?_ (Stp.refl _ _)
            rw [flt_none h1, decide_eq_true_iff]
            constructor
            · intro e
              have e := V.int.inj e
              rw [List.length_cons, rr.len] at e
              omega
            · intro e
              rw [List.length_cons, rr.len, e]
              rfl
          · have h1 : tx l ≠ "none" := fun e => h1 (decide_eq_true (congrArg V.str e))
            refine ⟨_, rfl, a, _, rfl, .inr hs, rfl, _, rfl, ite2 (fun h2 => ?_) (fun h2 => ?_)⟩
            · have hlen : vr.length = 1 := by
                have := V.int.inj (of_decide_eq_true h2)
                rw [List.length_cons] at this
                omega
              obtain ⟨v1, d1, rfl, rfl, r1⟩ := rr.one hlen
              refine ⟨_, rfl, a, _, 0, Tx l, rfl, rfl, hs, at0, _, rfl, a, _, 1, v1, rfl, rfl, hs, at1, l, v1, d1, rfl, r1, ?_, fun b H' hb S => ?_⟩
              · have := Dt.dep_mem (ds := [Dt.str l, d1]) (d := d1) (by simp)
                have e : (Dt.tup [Dt.str l, d1]).dep = Dt.depL [Dt.str l, d1] + 1 := rfl
                omega
              · refine k b H' ?_ S
                rw [hb, flt_two]
            · refine k false H ⟨fun e => (nomatch e), fun f => ?_⟩ (Stp.refl _ _)
              rw [flt_not_none h1] at f
              obtain ⟨p, rfl, _⟩ := f
              refine absurd (decide_eq_true ?_) h2
              rw [List.length_cons, rr.len]
              rfl
        | _ =>
          rw [if_pos (by simp [Dt.ty])]
          refine no fun f => ?_
          obtain ⟨l, rest, e, _⟩ := flt_head f
          cases e
    | _ =>
      rw [if_pos (by simp [Dt.ty])]
      refine no fun f => ?_
      obtain ⟨l, rest, e, _⟩ := flt_head f
      cases e
/-- all of them: the truths of a list, one for each part -/
theorem all_iff {P : Dt → Prop} : ∀ {bs : List Bool} {ds : List Dt}, bs.length = ds.length → (∀ (j : Nat) b d, bs[j]? = some b → ds[j]? = some d → (b = true ↔ P d)) → (bs.all id = true ↔ ∀ d ∈ ds, P d)
  | [], [], _, _ => by simp
  | b :: bs, d :: ds, hl, h => by
    have ih := all_iff (P := P) (bs := bs) (ds := ds) (by simpa using hl) fun j b d e1 e2 => h (j + 1) b d (by simpa using e1) (by simpa using e2)
    have h0 := h 0 b d rfl rfl
    rw [List.all_cons, Bool.and_eq_true, ih]
    simp only [id]
    rw [h0]
    simp
/-- one truth more -/
theorem more_iff {P : Dt → Prop} {bs : List Bool} {ds : List Dt} {b : Bool} {d : Dt} (h : ∀ (j : Nat) b d, bs[j]? = some b → ds[j]? = some d → (b = true ↔ P d)) (e : ds[bs.length]? = some d) (hb : b = true ↔ P d) :
    ∀ (j : Nat) b' d', (bs ++ [b])[j]? = some b' → ds[j]? = some d' → (b' = true ↔ P d') := fun j b' d' e1 e2 => by
  by_cases hj : j < bs.length
  · rw [List.getElem?_append_left hj] at e1
    exact h j b' d' e1 e2
  · rw [List.getElem?_append_right (by omega)] at e1
    have hj2 : j - bs.length = 0 := by
      have := (List.getElem?_eq_some_iff.mp e1).1
      simp at this
      omega
    have e3 : j = bs.length := by omega
    subst e3
    rw [e] at e2
    cases e2
    simp at e1
    subst e1
    exact hb
theorem can_is {wd : Str} {d : Dt} (h : wd = "is" ∨ wd = "below" ∨ wd = "above" ∨ wd = "begins") : CanF wd d ↔ IsTx d := by
  refine ⟨fun q => ?_, fun q => .inl ⟨h, q⟩⟩
  rcases q with ⟨_, q⟩ | ⟨e, _⟩ | ⟨e, _⟩ | ⟨e, _⟩ | ⟨e | e, _⟩
  · exact q
  all_goals (subst e; exact absurd h (by decide +kernel))
theorem can_say {d : Dt} : CanF "say" d ↔ ∃ b, d = .bl b := by
  refine ⟨fun q => ?_, fun q => .inr (.inl ⟨rfl, q⟩)⟩
  rcases q with ⟨e, _⟩ | ⟨_, q⟩ | ⟨e, _⟩ | ⟨e, _⟩ | ⟨e, _⟩
  · exact absurd e (by decide +kernel)
  · exact q
  all_goals exact absurd e (by decide +kernel)
theorem can_not {d : Dt} : CanF "not" d ↔ Flt d := by
  refine ⟨fun q => ?_, fun q => .inr (.inr (.inl ⟨rfl, q⟩))⟩
  rcases q with ⟨e, _⟩ | ⟨e, _⟩ | ⟨_, q⟩ | ⟨e, _⟩ | ⟨e, _⟩
  · exact absurd e (by decide +kernel)
  · exact absurd e (by decide +kernel)
  · exact q
  all_goals exact absurd e (by decide +kernel)
theorem can_among {d : Dt} : CanF "among" d ↔ ∃ ds, d = .tup ds ∧ ∀ e ∈ ds, IsTx e := by
  refine ⟨fun q => ?_, fun q => .inr (.inr (.inr (.inl ⟨rfl, q⟩)))⟩
  rcases q with ⟨e, _⟩ | ⟨e, _⟩ | ⟨e, _⟩ | ⟨_, q⟩ | ⟨e, _⟩
  · exact absurd e (by decide +kernel)
  · exact absurd e (by decide +kernel)
  · exact absurd e (by decide +kernel)
  · exact q
  · exact absurd e (by decide +kernel)
theorem canF_many {wd : Str} {d : Dt} (h : wd = "and" ∨ wd = "or") : CanF wd d ↔ ∃ ds, d = .tup ds ∧ ∀ e ∈ ds, Flt e := by
  refine ⟨fun q => ?_, fun q => .inr (.inr (.inr (.inr ⟨h, q⟩)))⟩
  rcases q with ⟨e | e | e | e, _⟩ | ⟨e, _⟩ | ⟨e, _⟩ | ⟨e, _⟩ | ⟨_, q⟩
  all_goals first | exact q | (subst e; exact absurd h (by decide +kernel))
theorem can_other {wd : Str} {d : Dt} (h : wd ∉ (["is", "below", "above", "begins"] : List Str)) (h2 : wd ≠ "say") (h3 : wd ≠ "not") (h4 : wd ≠ "among") (h5 : wd ∉ (["and", "or"] : List Str)) : ¬ CanF wd d := by
  rintro (⟨e, _⟩ | ⟨e, _⟩ | ⟨e, _⟩ | ⟨e, _⟩ | ⟨e, _⟩)
  · exact h (by simpa using e)
  · exact h2 e
  · exact h3 e
  · exact h4 e
  · exact h5 (by simpa using e)
theorem can_step {f : Addr} {fd : FuncData} (D : Df K mg "can_follow" s_can_follow ["word", "part"] f fd) (T : Nm mg) {n m : Nat} (hm : 1 ≤ m) (c_is_text : Cl P w K mg base 1 "is_text" s_is_text ["value"] (spIsText K))
    (c_is_filter : Cl P w K mg base m "is_filter" s_is_filter ["value"] (spIsF K n)) : Cl P w K mg base (m + 1) "can_follow" s_can_follow ["word", "part"] (spCan K n) := by
  refine D.cl sc_can_follow (fun vs H Q E h => ?_) (fun cdv A outer s H vs Q E hr h => ?_)
  · obtain ⟨l, v, d, rfl, _⟩ := h
    rfl
  · obtain ⟨l, v, d, rfl, r, hd, k⟩ := h
    refine ⟨_, (pss_cons (ps_if (pt_cmpR op_in_seq (pv 0) (pe_tup (pa_cons pe_str (pa_cons pe_str (pa_cons pe_str (pa_cons pe_str pa_nil))))) (by first | exact nomark _ | rfl)) (pss_one (ps_ret (pe_cl c_is_text hr (by omega) (pa_cons (pv 1) pa_nil)))) pss_nil)
      (pss_cons (ps_if (pt_cmpR op_eq (pv 0) pe_str (by first | exact nomark _ | rfl)) (pss_one (ps_ret (pe_tyIs (T := "bool") Mono.var (pv 1) T.n_type T.n_bool (by decide +kernel)))) pss_nil)
      (pss_cons (ps_if (pt_cmpR op_eq (pv 0) pe_str (by first | exact nomark _ | rfl)) (pss_one (ps_ret (pe_cl c_is_filter hr (by omega) (pa_cons (pv 1) pa_nil)))) pss_nil)
      (pss_cons (ps_if (pt_cmpR op_eq (pv 0) pe_str (by first | exact nomark _ | rfl)) (pss_one (ps_ret (pe_and (pe_tyIs (T := "tuple") Mono.var (pv 1) T.n_type T.n_tuple (by decide +kernel)) (pe_one (pe_callB (cr_all rfl) (by rfl) T.n_all (by decide +kernel) (pa_cons (pe_lc (own := [("text", 2)]) rfl sc_can_follow.nd (pi_tup (pv 1)) (blkOk_by (own := [("text", 2)]) (N := N_can_follow) (sc := defScope s_can_follow) (by decide +kernel)) (fun _ _ _ _ _ => (pg_name (i := 2) sc_can_follow.nd rfl (by first | exact Or.inl rfl | exact Or.inr rfl))) (fun _ _ _ _ _ => pts_nil) (fun _ _ _ _ _ => (pe_cl c_is_text hr (by omega) (pa_cons (pv 2) pa_nil)))) pa_nil)))))) pss_nil)
      (pss_cons (ps_if (pt_cmpR op_in_seq (pv 0) (pe_tup (pa_cons pe_str (pa_cons pe_str pa_nil))) (by first | exact nomark _ | rfl)) (pss_one (ps_ret (pe_and (pe_tyIs (T := "tuple") Mono.var (pv 1) T.n_type T.n_tuple (by decide +kernel)) (pe_one (pe_callB (cr_all rfl) (by rfl) T.n_all (by decide +kernel) (pa_cons (pe_lc (own := [("inner", 3)]) rfl sc_can_follow.nd (pi_tup (pv 1)) (blkOk_by (own := [("inner", 3)]) (N := N_can_follow) (sc := defScope s_can_follow) (by decide +kernel)) (fun _ _ _ _ _ => (pg_name (i := 3) sc_can_follow.nd rfl (by first | exact Or.inl rfl | exact Or.inr rfl))) (fun _ _ _ _ _ => pts_nil) (fun _ _ _ _ _ => (pe_cl c_is_filter hr (by omega) (pa_cons (pv 3) pa_nil)))) pa_nil)))))) pss_nil)
      (pss_one (ps_ret pe_bl))))))), ?_⟩
    refine ⟨_, rfl, (by show 4 ≤ sizeLine; decide), fun t nt => ?_⟩
    have S1 : Stp [] H (upd H t (.tup [.str "is", .str "below", .str "above", .str "begins"])) := Stp.new nt _
    refine ⟨t, _, rfl, .inr (SqT.of upd_same), rfl, rfl, _, rfl, ?_⟩
    generalize upd H t (.tup [.str "is", .str "below", .str "above", .str "begins"]) = H1 at *
    have r1 : Rp K H1 v d := r.stp S1 Lsts.nil
    have i1 := inV_str (tx l) (["is", "below", "above", "begins"] : List Str)
    refine ite2 (fun h1 => ?_) (fun h1 => ?_)
    · refine ⟨_, rfl, v, d, rfl, r1, fun b hb => ?_⟩
      refine k b _ ?_ S1
      have h2 : inV (Tx l) ((["is", "below", "above", "begins"] : List Str).map V.str) = true := h1
      rw [i1] at h2
      rw [hb, can_is (by simpa using of_decide_eq_true h2)]
    have g1 : tx l ∉ (["is", "below", "above", "begins"] : List Str) := fun q => h1 (i1.trans (decide_eq_true q))
    refine ⟨_, rfl, rfl, _, rfl, ite2 (fun h2 => ?_) (fun h2 => ?_)⟩
    · have h2 : tx l = "say" := V.str.inj (of_decide_eq_true h2)
      refine ⟨_, rfl, d, r1, k _ _ ?_ S1⟩
      rw [h2, can_say, Bool.false_xor, decide_eq_true_iff]
      constructor
      · intro e
        cases d <;> simp [Dt.ty] at e
        exact ⟨_, rfl⟩
      · rintro ⟨b, rfl⟩
        rfl
    have g2 : tx l ≠ "say" := fun e => h2 (decide_eq_true (congrArg V.str e))
    refine ⟨_, rfl, rfl, _, rfl, ite2 (fun h3 => ?_) (fun h3 => ?_)⟩
    · have h3 : tx l = "not" := V.str.inj (of_decide_eq_true h3)
      refine ⟨_, rfl, v, d, rfl, r1, hd, fun b H' hb S => k b H' ?_ (S1.trans S)⟩
      rw [hb, h3, can_not]
    have g3 : tx l ≠ "not" := fun e => h3 (decide_eq_true (congrArg V.str e))
    refine ⟨_, rfl, rfl, _, rfl, ite2 (fun h4 => ?_) (fun h4 => ?_)⟩
    · have h4 : tx l = "among" := V.str.inj (of_decide_eq_true h4)
      refine ⟨_, rfl, d, r1, _, rfl, ?_⟩
      cases r1 with
      | tup hs hn rl =>
        rename_i a xs ds
        rw [if_pos (by simp [Dt.ty])]
        refine ⟨_, rfl, a, rfl, ⟨_, hs⟩, fun L nL => ?_⟩
        refine lc_tup (a := a) (xs := xs) (fun i H2 => ∃ bs : List Bool, bs.length = i ∧ H2 L = some (.lst (bs.map V.bl)) ∧ Stp [] H1 H2 ∧ ∀ (j : Nat) b d, bs[j]? = some b → ds[j]? = some d → (b = true ↔ IsTx d))
          ⟨[], rfl, upd_same, Stp.new nL _, fun j b d e => by simp at e⟩ (fun i H2 _ ⟨bs, _, _, S, _⟩ => sqt_stp S Lsts.nil hs) ?_ ?_
        · rintro i x H2 hi ⟨bs, hl, hL, S, hb⟩
          obtain ⟨e, he, re⟩ := rl.get hi
          refine ⟨rfl, _, rfl, x, e, rfl, re.stp S Lsts.nil, fun b hbe => ?_⟩
          refine ⟨bs.map V.bl, hL, ?_, bs ++ [b], by simp [hl], ?_, S.mut nL, more_iff hb (by rw [hl]; exact he) hbe⟩
          · have h1 := (List.getElem?_eq_some_iff.mp hi).1
            rw [List.length_map, hl]
            exact Nat.lt_of_lt_of_le (show i < 100000 by omega) (by decide)
          · rw [List.map_append]
            exact upd_same
        · rintro H2 ⟨bs, hl, hL, S, hb⟩
          refine ⟨L, bs, rfl, SqL.of hL, k _ _ ?_ (S1.trans S)⟩
          rw [all_iff (by rw [hl, rl.len]) hb, h4, can_among]
          exact ⟨fun q => ⟨ds, rfl, q⟩, fun ⟨ds', e, q⟩ => by cases e; exact q⟩
      | _ =>
        rw [if_neg (by simp [Dt.ty])]
        refine k _ _ ⟨fun e => (nomatch e), fun q => ?_⟩ S1
        rw [h4, can_among] at q
        obtain ⟨ds, e, _⟩ := q
        cases e
    have g4 : tx l ≠ "among" := fun e => h4 (decide_eq_true (congrArg V.str e))
    refine ⟨_, rfl, (by show 2 ≤ sizeLine; decide), fun t2 nt2 => ?_⟩
    have S2 : Stp [] H1 (upd H1 t2 (.tup [.str "and", .str "or"])) := Stp.new nt2 _
    refine ⟨t2, _, rfl, .inr (SqT.of upd_same), rfl, rfl, _, rfl, ?_⟩
    generalize upd H1 t2 (.tup [.str "and", .str "or"]) = H2 at *
    have r2 : Rp K H2 v d := r1.stp S2 Lsts.nil
    have i2 := inV_str (tx l) (["and", "or"] : List Str)
    have SS := S1.trans S2
    refine ite2 (fun h5 => ?_) (fun h5 => ?_)
    · have h6 : inV (Tx l) ((["and", "or"] : List Str).map V.str) = true := h5
      rw [i2] at h6
      have h7 : tx l = "and" ∨ tx l = "or" := by simpa using of_decide_eq_true h6
      refine ⟨_, rfl, d, r2, _, rfl, ?_⟩
      cases r2 with
      | tup hs hn rl =>
        rename_i a xs ds
        rw [if_pos (by simp [Dt.ty])]
        refine ⟨_, rfl, a, rfl, ⟨_, hs⟩, fun L nL => ?_⟩
        refine lc_tup (a := a) (xs := xs) (fun i H3 => ∃ bs : List Bool, bs.length = i ∧ H3 L = some (.lst (bs.map V.bl)) ∧ Stp [] H2 H3 ∧ ∀ (j : Nat) b d, bs[j]? = some b → ds[j]? = some d → (b = true ↔ Flt d))
          ⟨[], rfl, upd_same, Stp.new nL _, fun j b d e => by simp at e⟩ (fun i H3 _ ⟨bs, _, _, S, _⟩ => sqt_stp S Lsts.nil hs) ?_ ?_
        · rintro i x H3 hi ⟨bs, hl, hL, S, hb⟩
          obtain ⟨e, he, re⟩ := rl.get hi
          refine ⟨rfl, _, rfl, x, e, rfl, re.stp S Lsts.nil, ?_, fun b H4 hbe S4 => ?_⟩
          · have h1 := Dt.dep_mem (List.mem_of_getElem? he)
            have h2 : (Dt.tup ds).dep = Dt.depL ds + 1 := rfl
            omega
          refine ⟨bs.map V.bl, S4.kp _ _ (fun m => nomatch m) hL, ?_, bs ++ [b], by simp [hl], ?_, (S.trans S4).mut nL, more_iff hb (by rw [hl]; exact he) hbe⟩
          · have h1 := (List.getElem?_eq_some_iff.mp hi).1
            rw [List.length_map, hl]
            exact Nat.lt_of_lt_of_le (show i < 100000 by omega) (by decide)
          · rw [List.map_append]
            exact upd_same
        · rintro H3 ⟨bs, hl, hL, S, hb⟩
          refine ⟨L, bs, rfl, SqL.of hL, k _ _ ?_ (SS.trans S)⟩
          rw [all_iff (by rw [hl, rl.len]) hb, canF_many h7]
          exact ⟨fun q => ⟨ds, rfl, q⟩, fun ⟨ds', e, q⟩ => by cases e; exact q⟩
      | _ =>
        rw [if_neg (by simp [Dt.ty])]
        refine k _ _ ⟨fun e => (nomatch e), fun q => ?_⟩ SS
        rw [canF_many h7] at q
        obtain ⟨ds, e, _⟩ := q
        cases e
    have g5 : tx l ∉ (["and", "or"] : List Str) := fun q => h5 (i2.trans (decide_eq_true q))
    exact k _ _ ⟨fun e => (nomatch e), fun q => absurd q (can_other g1 g2 g3 g4 g5)⟩ SS
/-- a promise that asks for nothing -/
theorem cl_never {x : Str} {st : Stmt} {ps : List Str} {f : Addr} {fd : FuncData} (D : Df K mg x st ps f fd) {sp : Sp} (h : ∀ vs H Q E, ¬ sp vs H Q E) (k : Nat) : Cl P w K mg base k x st ps sp :=
  ⟨f, fd, D, ⟨fun vs H Q E q => absurd q (h vs H Q E), fun A outer s H args us vs Q E _ _ _ _ q => absurd q (h vs H Q E)⟩⟩
theorem both_filter {f1 f2 f3 : Addr} {fd1 fd2 fd3 : FuncData} (D1 : Df K mg "is_text" s_is_text ["value"] f1 fd1) (D2 : Df K mg "is_filter" s_is_filter ["value"] f2 fd2) (D3 : Df K mg "can_follow" s_can_follow ["word", "part"] f3 fd3) (T : Nm mg) :
    ∀ n : Nat, Cl P w K mg base (2 * n + 1) "is_filter" s_is_filter ["value"] (spIsF K n) ∧ Cl P w K mg base (2 * n + 2) "can_follow" s_can_follow ["word", "part"] (spCan K n)
  | 0 => by
    have h1 : Cl P w K mg base 1 "is_filter" s_is_filter ["value"] (spIsF K 0) := cl_never D2 (fun vs H Q E ⟨v, d, _, _, hd, _⟩ => Nat.not_lt_zero _ hd) 1
    exact ⟨h1, can_step D3 T (Nat.le_refl _) (cl_is_textF D1 T) h1⟩
  | n + 1 => by
    obtain ⟨h1, h2⟩ := both_filter D1 D2 D3 T n
    have h3 : Cl P w K mg base (2 * (n + 1) + 1) "is_filter" s_is_filter ["value"] (spIsF K (n + 1)) := (isf_step D2 T (by omega) h2).mono (by omega)
    exact ⟨h3, can_step D3 T (by omega) (cl_is_textF D1 T) h3⟩
/-! ### ranges, spans again, as data -/
def spIsRange (K : PySem.W.Frag) : Sp := fun vs H Q _ => ∃ (a : Addr) (p : Pr), vs = [.ref a] ∧ SqT K H a [Tx p.1, oV p.2] ∧ PrOk p ∧ Q (.bl true) H
theorem cl_is_rangeF {f : Addr} {fd : FuncData} (D : Df K mg "is_range" s_is_range ["value"] f fd) (T : Nm mg) (c_is_text : Cl P w K mg base 1 "is_text" s_is_text ["value"] (spIsText K)) : Cl P w K mg base 2 "is_range" s_is_range ["value"] (spIsRange K) := by
  refine D.cl sc_is_range (fun vs H Q E h => ?_) (fun cdv A outer s H vs Q E hr h => ?_)
  · obtain ⟨a, p, rfl, _⟩ := h
    rfl
  · obtain ⟨a, ⟨g, e⟩, rfl, hs, ⟨⟨ag, lg⟩, he⟩, k⟩ := h
    refine ⟨_, (pss_cons (ps_if (PW.pt (pw_or (pt_tyNot (T := "tuple") Mono.var (pv 0) T.n_type T.n_tuple (by decide +kernel)) (pw_or (pt_cmpR op_ne (pe_callB call_len_seq (by rfl) T.n_len (by decide +kernel) (pa_cons (pv 0) pa_nil)) pe_int (by first | exact nomark _ | rfl)) (pw_or1 (pt_not (pt_val (pe_cl c_is_text hr (by omega) (pa_cons (pe_ix ix_tup (pv 0) pe_int (fun _ _ => rfl)) pa_nil)))))))) (pss_one (ps_ret pe_bl)) pss_nil)
      (pss_one (ps_ret (pe_or (pe_cmpR op_isN (pe_ix ix_tup (pv 0) pe_int (fun _ _ => rfl)) pe_non (by first | exact nomark _ | rfl)) (pe_one (pe_and (pe_cl c_is_text hr (by omega) (pa_cons (pe_ix ix_tup (pv 0) pe_int (fun _ _ => rfl)) pa_nil)) (pe_one (pe_cmpR op_lt_str (pe_ix ix_tup (pv 0) pe_int (fun _ _ => rfl)) (pe_ix ix_tup (pv 0) pe_int (fun _ _ => rfl)) (by first | exact nomark _ | rfl))))))))), ?_⟩
    have lg : g.length ≤ 40 := lg
    have isT : ∀ (l : Txt) (b : Bool), Abc l → (b = true ↔ IsTx (.str l)) → b = true := fun l b al hb => hb.mpr ⟨l, rfl, al⟩
    refine ⟨_, rfl, .tup [.str g, oD e], pr_rp (p := (g, e)) hs lg (fun e' q => (he e' q).1.2), ?_⟩
    refine ite2 (fun h => absurd h (by simp [Dt.ty])) (fun _ => ?_)
    refine ⟨_, rfl, a, _, rfl, .inr hs, rfl, _, rfl, ite2 (fun h => (by simp at h)) (fun _ => ?_)⟩
    refine ⟨_, rfl, a, _, 0, Tx g, rfl, rfl, hs, at0, Tx g, .str g, rfl, .str g (by omega), fun b hb => ?_⟩
    obtain rfl := isT g b ag hb
    refine ⟨_, rfl, ?_⟩
    refine ⟨_, rfl, a, _, 1, oV e, rfl, rfl, hs, at1, rfl, ?_⟩
    cases e with
    | none => exact ⟨_, rfl, k⟩
    | some e =>
      obtain ⟨⟨ae, le⟩, lt⟩ := he e rfl
      refine ⟨_, rfl, _, rfl, a, _, 1, Tx e, rfl, rfl, hs, at1, Tx e, .str e, rfl, .str e (by omega), fun b hb => ?_⟩
      obtain rfl := isT e b ae hb
      refine ⟨_, rfl, _, rfl, a, _, 0, Tx g, rfl, rfl, hs, at0, _, rfl, a, _, 1, Tx e, rfl, rfl, hs, at1, tx g, tx e, rfl, rfl, ?_⟩
      rw [decide_eq_true (show (tx g).cps.toList < (tx e).cps.toList from lt)]
      exact k
def spReaches : Sp := fun vs H Q _ => ∃ (e f : Txt), vs = [Tx e, Tx f] ∧ e.length ≤ 40 ∧ f.length ≤ 40 ∧ e < f ∧ Q (.bl false) H
theorem cl_reaches {f : Addr} {fd : FuncData} (D : Df K mg "reaches" s_reaches ["end", "first"] f fd) (T : Nm mg) : Cl P w K mg base 1 "reaches" s_reaches ["end", "first"] spReaches := by
  refine D.cl sc_reaches (fun vs H Q E h => ?_) (fun cdv A outer s H vs Q E hr h => ?_)
  · obtain ⟨e, f, rfl, _⟩ := h
    rfl
  · obtain ⟨e, f, rfl, le, lf, lt, k⟩ := h
    refine ⟨_, (pss_one (ps_ret (pe_or (pe_cmpR op_isN (pv 0) pe_non (by first | exact nomark _ | rfl)) (pe_one (pe_cmpR op_ge_str (pv 0) (pv 1) (by first | exact nomark _ | rfl)))))), ?_⟩
    refine ⟨_, rfl, rfl, ?_⟩
    refine ⟨_, rfl, _, rfl, _, rfl, tx e, tx f, rfl, rfl, ?_⟩
    rw [decide_eq_true (show (tx e).cps.toList < (tx f).cps.toList from lt)]
    exact k
abbrev s_is_span : Stmt := topS 13
abbrev N_is_span : List Str := ["value", "part", "ahead"]
theorem sc_is_span : FnScope ["value", "part", "ahead"] ["value"] (defScope s_is_span) := ⟨rfl, rfl, rfl, by decide +kernel, rfl, by decide +kernel, by decide +kernel⟩

abbrev s_check_span : Stmt := topS 16
abbrev N_check_span : List Str := ["span"]
theorem sc_check_span : FnScope ["span"] ["span"] (defScope s_check_span) := ⟨rfl, rfl, rfl, by decide +kernel, rfl, by decide +kernel, by decide +kernel⟩

theorem lc_zipT {K : PySem.W.Frag} {a b : Addr} {xs ys : List V} {g : TG} {tt : TT} {te : TE} {vs : List Nat} {σ : L2.St} {H1 : Hp} {D : Addr} {Qd : Hp → Prop} (Pv : Nat → Hp → Prop) (h0 : Pv 0 (upd H1 D (.lst []))) (hl : ∀ i H, Pv i H → SqT K H a xs ∧ SqT K H b ys) (le : ys.length ≤ xs.length)
    (hs : ∀ i x y T H, xs[i]? = some x → ys[i]? = some y → Pv i H → H T = none → g (.ref T) (wipe σ vs) (upd H T (.tup [x, y])) fun σ2 H2 => wipe σ2 vs = wipe σ vs ∧ tt σ2 H2 fun b H3 =>
      if b = true then te σ2 H3 fun y H4 => ∃ acc, H4 D = some (.lst acc) ∧ acc.length < sizeLine ∧ Pv (i + 1) (upd H4 D (.lst (acc ++ [y]))) else Pv (i + 1) H3) (hd : ∀ H, Pv ys.length H → Qd H) :
    ∃ W : Nat → Nat → Hp → Prop, (∃ m, W 0 m (upd H1 D (.lst []))) ∧ ∀ i m H, W i m H →
      ((RZ.ItzT K a b).stop i H ∧ Qd H) ∨ ((RZ.ItzT K a b).go i H ∧ ∃ Nx : Hp → Prop, (∀ H', Nx H' → ∃ m', m' < m ∧ W (i + 1) m' H') ∧ ∀ x H', (RZ.ItzT K a b).yld i H x H' → g x (wipe σ vs) H' fun σ2 H2 => wipe σ2 vs = wipe σ vs ∧ tt σ2 H2 fun b H3 =>
        if b = true then te σ2 H3 fun y H4 => ∃ acc, H4 D = some (.lst acc) ∧ acc.length < sizeLine ∧ Nx (upd H4 D (.lst (acc ++ [y]))) else Nx H3) := by
  refine ⟨fun i m H => m = ys.length - i ∧ i ≤ ys.length ∧ Pv i H, ⟨ys.length, by simp, Nat.zero_le _, h0⟩, ?_⟩
  rintro i m H ⟨rfl, hi, p⟩
  obtain ⟨qa, qb⟩ := hl i H p
  by_cases hlt : i < ys.length
  · refine .inr ⟨⟨xs, ys, xs[i], ys[i], qa, qb, by simp, by simp⟩, Pv (i + 1), fun H' p' => ⟨ys.length - (i + 1), by omega, rfl, hlt, p'⟩, fun v H' yy => ?_⟩
    obtain ⟨T, x, y, rfl, nT, rfl, hx, hy⟩ := yy
    exact hs i x y T H (hx xs qa) (hy ys qb) p nT
  · have e : i = ys.length := by omega
    subst e
    exact .inl ⟨⟨xs, ys, qa, qb, .inr (Nat.le_refl _)⟩, hd H p⟩
def spIsSpan (K : PySem.W.Frag) : Sp := fun vs H Q _ => ∃ (a : Addr) (ps : List Pr), vs = [.ref a] ∧ Spn K H a ps ∧ ∀ H', Stp [] H H' → Q (.bl true) H'
theorem all_true {bs : List Bool} (h : ∀ b ∈ bs, b = true) : bs.all id = true := by
  rw [List.all_eq_true]
  exact h
theorem cl_is_span {f : Addr} {fd : FuncData} (D : Df K mg "is_span" s_is_span ["value"] f fd) (T : Nm mg) (c_is_range : Cl P w K mg base 2 "is_range" s_is_range ["value"] (spIsRange K)) (c_reaches : Cl P w K mg base 1 "reaches" s_reaches ["end", "first"] spReaches) :
    Cl P w K mg base 3 "is_span" s_is_span ["value"] (spIsSpan K) := by
  refine D.cl sc_is_span (fun vs H Q E h => ?_) (fun cdv A outer s H vs Q E hr h => ?_)
  · obtain ⟨a, ps, rfl, _⟩ := h
    rfl
  · obtain ⟨a, ps, rfl, ⟨⟨xs, hs, rl⟩, ok, few⟩, k⟩ := h
    have lx : xs.length = ps.length := by rw [rl.len, List.length_map]
    refine ⟨_, (pss_cons (ps_if (PW.pt (pw_or (pt_tyNot (T := "tuple") Mono.var (pv 0) T.n_type T.n_tuple (by decide +kernel)) (pw_or1 (pt_not (pt_val (pe_callB (cr_all rfl) (by rfl) T.n_all (by decide +kernel) (pa_cons (pe_lc (own := [("part", 1)]) rfl sc_is_span.nd (pi_tup (pv 0)) (blkOk_by (own := [("part", 1)]) (N := N_is_span) (sc := defScope s_is_span) (by decide +kernel)) (fun _ _ _ _ _ => (pg_name (i := 1) sc_is_span.nd rfl (by first | exact Or.inl rfl | exact Or.inr rfl))) (fun _ _ _ _ _ => pts_nil) (fun _ _ _ _ _ => (pe_cl c_is_range hr (by omega) (pa_cons (pv 1) pa_nil)))) pa_nil))))))) (pss_one (ps_ret pe_bl)) pss_nil)
      (pss_one (ps_ret (pe_callB (cr_all rfl) (by rfl) T.n_all (by decide +kernel) (pa_cons (pe_lc (own := [("ahead", 2), ("part", 1)]) rfl sc_is_span.nd (RZ.pi_zipA (by rfl) T.n_zip (pa_cons (pv 0) (pa_cons (pe_slice sl_tupA (pv 0) (po_some pe_int) po_none) pa_nil))) (blkOk_by (own := [("ahead", 2), ("part", 1)]) (N := N_is_span) (sc := defScope s_is_span) (by decide +kernel)) (fun _ _ _ _ _ => (pg_tupK (n := 2) rfl rfl (pgs_cons (pg_name (i := 2) sc_is_span.nd rfl (by first | exact Or.inl rfl | exact Or.inr rfl)) (pgs_cons (pg_name (i := 1) sc_is_span.nd rfl (by first | exact Or.inl rfl | exact Or.inr rfl)) pgs_nil (by rfl)) (by rfl)) (by rfl) (by rfl))) (fun _ _ _ _ _ => pts_nil) (fun _ _ _ _ _ => (pe_not (pe_cl c_reaches hr (by omega) (pa_cons (pe_ix (ix_tupK rfl) (pv 2) pe_int (fun _ _ => rfl)) (pa_cons (pe_ix (ix_tupK rfl) (pv 1) pe_int (fun _ _ => rfl)) pa_nil)))))) pa_nil))))), ?_⟩
    refine ⟨_, rfl, .tup (ps.map prD), .tup hs (by omega) rl, ?_⟩
    refine ite2 (fun h => absurd h (by simp [Dt.ty])) (fun _ => ?_)
    refine ⟨_, rfl, a, rfl, ⟨_, hs⟩, fun L nL => ?_⟩
    refine lc_tup (a := a) (xs := xs) (fun i H2 => ∃ bs : List Bool, bs.length = i ∧ H2 L = some (.lst (bs.map V.bl)) ∧ Stp [] H H2 ∧ ∀ b ∈ bs, b = true)
      ⟨[], rfl, upd_same, Stp.new nL _, fun b m => nomatch m⟩ (fun i H2 _ ⟨bs, _, _, S, _⟩ => sqt_stp S Lsts.nil hs) ?_ ?_
    · rintro i x H2 hi ⟨bs, hl, hL, S, hb⟩
      obtain ⟨p, hp, t, rfl, ht⟩ := prs_get rl hi
      refine ⟨rfl, _, rfl, t, p, rfl, sqt_stp S Lsts.nil ht, ok.ok p (List.mem_of_getElem? hp), bs.map V.bl, hL, ?_, bs ++ [true], by simp [hl], ?_, S.mut nL, fun b m => ?_⟩
      · have h1 := (List.getElem?_eq_some_iff.mp hi).1
        rw [List.length_map, hl]
        exact Nat.lt_of_lt_of_le (show i < 100000 by omega) (by decide)
      · rw [List.map_append]
        exact upd_same
      · rcases List.mem_append.mp m with m | m
        · exact hb b m
        · exact List.mem_singleton.mp m
    · rintro H2 ⟨bs, hl, hL, S, hb⟩
      refine ⟨L, bs, rfl, SqL.of hL, ?_⟩
      rw [all_true hb]
      refine ⟨_, rfl, _, rfl, _, rfl, 1, rfl, ?_⟩
      dsimp only
      refine nopart (slA_use (sqt_stp S Lsts.nil hs) fun p H3 S3 hp => ?_)
      have SS := S.trans S3
      have e1 : cutV xs (some (1 : Int)) none = xs.drop 1 := cut_from 1
      rw [e1] at hp
      refine ⟨a, p, xs, _, rfl, .inr ⟨sqt_stp SS Lsts.nil hs, hp, fun L2 nL2 => ?_⟩⟩
      refine lc_zipT (a := a) (b := p) (xs := xs) (ys := xs.drop 1) (fun i H4 => ∃ bs : List Bool, bs.length = i ∧ H4 L2 = some (.lst (bs.map V.bl)) ∧ Stp [] H3 H4 ∧ ∀ b ∈ bs, b = true)
        ⟨[], rfl, upd_same, Stp.new nL2 _, fun b m => nomatch m⟩ (fun i H4 ⟨bs, _, _, S4, _⟩ => ⟨sqt_stp (SS.trans S4) Lsts.nil hs, sqt_stp S4 Lsts.nil hp⟩) (by rw [List.length_drop]; omega) ?_ ?_
      · rintro i x y t H4 hx hy ⟨bs, hl, hL, S4, hb⟩ nt
        rw [List.getElem?_drop, Nat.add_comm] at hy
        obtain ⟨q1, hq1, t1, rfl, ht1⟩ := prs_get rl hx
        obtain ⟨q2, hq2, t2, rfl, ht2⟩ := prs_get rl hy
        obtain ⟨e, ee, lt⟩ : Gap q1 q2 := by
          obtain ⟨i1, g1⟩ := List.getElem?_eq_some_iff.mp hq1
          obtain ⟨i2, g2⟩ := List.getElem?_eq_some_iff.mp hq2
          have := List.pairwise_iff_getElem.mp ok.gap i (i + 1) i1 i2 (by omega)
          rwa [g1, g2] at this
        have S5 : Stp [] H (upd H4 t (.tup [.ref t1, .ref t2])) := SS.trans (S4.new' nt)
        have o1 := ok.ok q1 (List.mem_of_getElem? hq1)
        have o2 := ok.ok q2 (List.mem_of_getElem? hq2)
        have oe : oV q1.2 = Tx e := by rw [ee]; rfl
        refine ⟨t, _, rfl, SqT.of upd_same, rfl, _, _, rfl, _, _, rfl, rfl, ?_⟩
        have h1 : SqT K (upd H4 t (.tup [.ref t1, .ref t2])) t1 [Tx q1.1, Tx e] := by
          rw [← oe]
          exact sqt_stp S5 Lsts.nil ht1
        have nL2t : L2 ≠ t := ne_of_none hL nt
        have hL5 : (upd H4 t (.tup [.ref t1, .ref t2])) L2 = some (.lst (bs.map V.bl)) := by
          rw [upd_ne nL2t]
          exact hL
        refine ⟨rfl, _, rfl, t1, _, 1, Tx e, rfl, rfl, h1, at1, _, rfl, t2, _, 0, Tx q2.1, rfl, rfl, sqt_stp S5 Lsts.nil ht2, at0, e, q2.1, rfl, (o1.2 e ee).1.2, o2.1.2, lt, _, rfl, bs.map V.bl, hL5, ?_, bs ++ [true], by simp [hl], ?_, (S4.new' nt).mut nL2, fun b m => ?_⟩
        · have h1 := (List.getElem?_eq_some_iff.mp hx).1
          rw [List.length_map, hl]
          exact Nat.lt_of_lt_of_le (show i < 100000 by omega) (by decide)
        · rw [List.map_append]
          exact upd_same
        · rcases List.mem_append.mp m with m | m
          · exact hb b m
          · exact List.mem_singleton.mp m
      · rintro H4 ⟨bs, hl, hL, S4, hb⟩
        refine ⟨L2, bs, rfl, SqL.of hL, ?_⟩
        rw [all_true hb]
        exact k _ (SS.trans S4)

def spCkSpan (K : PySem.W.Frag) : Sp := fun vs H Q _ => ∃ (a : Addr) (ps : List Pr), vs = [.ref a] ∧ Spn K H a ps ∧ ∀ H', Stp [] H H' → Q .non H'
theorem cl_check_span {f : Addr} {fd : FuncData} (D : Df K mg "check_span" s_check_span ["span"] f fd) (T : Nm mg) (c_is_span : Cl P w K mg base 3 "is_span" s_is_span ["value"] (spIsSpan K)) : Cl P w K mg base 4 "check_span" s_check_span ["span"] (spCkSpan K) := by
  refine D.cl sc_check_span (fun vs H Q E h => ?_) (fun cdv A outer s H vs Q E hr h => ?_)
  · obtain ⟨a, ps, rfl, _⟩ := h
    rfl
  · obtain ⟨a, ps, rfl, S, k⟩ := h
    refine ⟨_, (pss_one (ps_if (pt_not (pt_val (pe_cl c_is_span hr (by omega) (pa_cons (pv 0) pa_nil)))) (pss_one ps_never) pss_nil)), ?_⟩
    exact ⟨_, rfl, a, ps, rfl, S, fun H' S' => ⟨_, rfl, k H' S'⟩⟩
abbrev s_opposite : Stmt := topS 24
abbrev N_opposite : List Str := ["span", "gaps", "start", "first", "end"]
theorem sc_opposite : FnScope ["span", "gaps", "start", "first", "end"] ["span"] (defScope s_opposite) := ⟨rfl, rfl, rfl, by decide +kernel, rfl, by decide +kernel, by decide +kernel⟩

/-- the end of the range before -/
def endAt (ps : List Pr) : Nat → Option Txt
  | 0 => some []
  | i + 1 => (ps[i]?).bind Prod.snd
theorem end_at {ps : List Pr} (h : SpOk ps) {i : Nat} {p : Pr} (hp : ps[i]? = some p) : ∃ st, endAt ps i = some st ∧ Short st ∧ st ≤ p.1 := by
  cases i with
  | zero => exact ⟨[], rfl, short_nil, nil_le _⟩
  | succ i =>
    obtain ⟨i2, g2⟩ := List.getElem?_eq_some_iff.mp hp
    have i1 : i < ps.length := by omega
    have g := List.pairwise_iff_getElem.mp h.gap i (i + 1) i1 i2 (by omega)
    rw [g2] at g
    obtain ⟨e, e1, e2⟩ := g
    refine ⟨e, ?_, ((h.ok _ (List.getElem_mem i1)).2 e e1).1, lt_le' e2⟩
    show (ps[i]?).bind Prod.snd = _
    rw [List.getElem?_eq_getElem i1]
    exact e1
theorem end_fin {ps : List Pr} (h : SpOk ps) {st : Txt} (e : endAt ps ps.length = some st) : Short st := by
  cases hl : ps.length with
  | zero =>
    rw [hl] at e
    cases e
    exact short_nil
  | succ n =>
    rw [hl] at e
    have i1 : n < ps.length := by omega
    have e' : (ps[n]?).bind Prod.snd = some st := e
    rw [List.getElem?_eq_getElem i1] at e'
    exact ((h.ok _ (List.getElem_mem i1)).2 st e').1
def todo (ps : List Pr) (i : Nat) : List Pr := past (endAt ps i) fun st => opps st (ps.drop i)
theorem todo_step {ps : List Pr} {i : Nat} {p : Pr} {st : Txt} (hp : ps[i]? = some p) (e : endAt ps i = some st) : todo ps i = (if st < p.1 then [(st, some p.1)] else []) ++ todo ps (i + 1) := by
  obtain ⟨i2, g2⟩ := List.getElem?_eq_some_iff.mp hp
  unfold todo
  rw [e, List.drop_eq_getElem_cons i2, g2]
  have e2 : endAt ps (i + 1) = p.2 := by
    show (ps[i]?).bind Prod.snd = _
    rw [hp]
    rfl
  rw [e2]
  rfl
theorem todo_end {ps : List Pr} : todo ps ps.length = past (endAt ps ps.length) fun st => [(st, none)] := by
  unfold todo
  rw [List.drop_length]
  rfl
theorem todo_all {ps : List Pr} : todo ps 0 = opps [] ps := rfl
theorem at2o {α : Type} {xs : List α} {y : α} : (xs ++ [y]) = xs ++ [y] := rfl
def spOpp (K : PySem.W.Frag) : Sp := fun vs H Q _ => ∃ (a : Addr) (ps : List Pr), vs = [.ref a] ∧ Spn K H a ps ∧ ps.length ≤ 2900 ∧ ∀ b H', Stp [] H H' → Spn K H' b (opps [] ps) → Q (.ref b) H'
theorem cl_opposite {f : Addr} {fd : FuncData} (D : Df K mg "opposite" s_opposite ["span"] f fd) (T : Nm mg) (c_check_span : Cl P w K mg base 4 "check_span" s_check_span ["span"] (spCkSpan K)) :
    Cl P w K mg base 5 "opposite" s_opposite ["span"] (spOpp K) := by
  refine D.cl sc_opposite (fun vs H Q E h => ?_) (fun cdv A outer s H vs Q E hr h => ?_)
  · obtain ⟨a, ps, rfl, _⟩ := h
    rfl
  · obtain ⟨a, ps, rfl, sp, few9, k⟩ := h
    refine ⟨_, (pss_cons (ps_expr (pe_cl c_check_span hr (by omega) (pa_cons (pv 0) pa_nil)))
      (pss_cons (ps_set (i := 1) sc_opposite.nd rfl (by first | exact Or.inl rfl | exact Or.inr rfl) (pe_lst pa_nil))
      (pss_cons (ps_set (i := 2) sc_opposite.nd rfl (by first | exact Or.inl rfl | exact Or.inr rfl) pe_str)
      (pss_cons (ps_for PassesOwn.never rfl (pi_tup (pv 0)) (pg_tup rfl (pgs_cons (pg_name (i := 3) sc_opposite.nd rfl (by first | exact Or.inl rfl | exact Or.inr rfl)) (pgs_cons (pg_name (i := 4) sc_opposite.nd rfl (by first | exact Or.inl rfl | exact Or.inr rfl)) pgs_nil (by rfl)) (by rfl)) (by rfl) (by rfl)) (pss_cons (ps_if (pt_cmpR op_lt_str (pv 2) (pv 3) (by first | exact nomark _ | rfl)) (pss_one (ps_expr (pe_bm PySem.F.plainAttrs_list PySem.F.slot_list_append PySem.F.type_list_append mt_append (pv 1) (pa_cons (pe_tup (pa_cons (pv 2) (pa_cons (pv 3) pa_nil))) pa_nil)))) pss_nil)
      (pss_one (ps_set (i := 2) sc_opposite.nd rfl (by first | exact Or.inl rfl | exact Or.inr rfl) (pv 4)))))
      (pss_cons (ps_if (pt_cmpR op_notN (pv 2) pe_non (by first | exact nomark _ | rfl)) (pss_one (ps_expr (pe_bm PySem.F.plainAttrs_list PySem.F.slot_list_append PySem.F.type_list_append mt_append (pv 1) (pa_cons (pe_tup (pa_cons (pv 2) (pa_cons pe_non pa_nil))) pa_nil)))) pss_nil)
      (pss_one (ps_ret (pe_callTy call_tuple_of (by rfl) T.n_tuple (by decide +kernel) (pa_cons (pv 1) pa_nil))))))))), ?_⟩
    refine ⟨_, rfl, a, ps, rfl, sp, fun H1 S1 => ?_⟩
    refine ⟨Nat.zero_le _, fun G nG => ?_⟩
    obtain ⟨⟨xs, hs, rl⟩, ok, few⟩ := sp.stp S1 Lsts.nil
    have lx : xs.length = ps.length := by rw [rl.len, List.length_map]
    have S0 : Stp [] H1 (upd H1 G (.lst [])) := Stp.new nG _
    have ol := opps_len ps []
    refine ⟨_, rfl, a, rfl, ⟨_, sqt_stp S0 Lsts.nil hs⟩, for_tup (a := a) (xs := xs) (fun i σ H2 => ∃ (done : List Pr) (vs : List V) (x3 x4 : Option V), σ = [some (.ref a), some (.ref G), some (oV (endAt ps i)), x3, x4] ∧ H2 G = some (.lst vs) ∧ RpL K H2 vs (done.map prD) ∧ done ++ todo ps i = opps [] ps ∧ Stp [] H1 H2)
      ⟨[], [], _, _, rfl, upd_same, .nil, rfl, S0⟩ (fun i σ H2 _ ⟨_, _, _, _, _, _, _, _, S⟩ => sqt_stp S Lsts.nil hs) ?_ ?_⟩
    · rintro i x σ H2 hi ⟨done, vs, x3, x4, rfl, hG, rd, all, S⟩
      obtain ⟨p, hp, t, rfl, ht⟩ := prs_get rl hi
      obtain ⟨g, e⟩ := p
      obtain ⟨st, est, sst, le⟩ := end_at ok hp
      have o1 := ok.ok _ (List.mem_of_getElem? hp)
      rw [est]
      have lv : vs.length < sizeLine := by
        have := congrArg List.length all
        rw [List.length_append] at this
        rw [rd.len, List.length_map]
        exact Nat.lt_of_le_of_lt (show done.length ≤ 3000 by omega) (by decide)
      have en : endAt ps (i + 1) = e := by
        show (ps[i]?).bind Prod.snd = _
        rw [hp]
        rfl
      refine ⟨t, _, rfl, sqt_stp S Lsts.nil ht, rfl, _, _, rfl, _, _, rfl, rfl, ?_⟩
      refine ⟨_, rfl, _, rfl, tx st, tx g, rfl, rfl, ?_⟩
      dsimp only
      have len2 : (2 : Nat) ≤ sizeLine := by decide
      have pg : Lsts H2 [G] := .one hG
      refine ⟨_, rfl, ite2 (fun h => ?_) (fun h => ?_)⟩
      · have lt : st < g := of_decide_eq_true h
        refine ⟨_, rfl, .inl ⟨rfl, _, SqL.of hG⟩, _, rfl, _, rfl, len2, fun t2 nt2 => ?_⟩
        have nG2 : G ≠ t2 := ne_of_none hG nt2
        have hG3 : (upd H2 t2 (.tup [Tx st, Tx g])) G = some (.lst vs) := by
          rw [upd_ne nG2]
          exact hG
        refine ⟨G, _, _, rfl, rfl, hG3, lv, ?_⟩
        refine ⟨_, rfl, done ++ [(st, some g)], vs ++ [.ref t2], _, _, by rw [en]; rfl, upd_same, ?_, ?_, (S.new' nt2).mut nG⟩
        · have s3 : Stp [] H2 (upd H2 t2 (.tup [Tx st, Tx g])) := Stp.new nt2 _
          have s4 : Stp [G] (upd H2 t2 (.tup [Tx st, Tx g])) (upd (upd H2 t2 (.tup [Tx st, Tx g])) G (.lst (vs ++ [.ref t2]))) := Stp.put (by simp)
          refine prs_one ((rd.stp s3 Lsts.nil).stp s4 (.one hG3)) (pr_rp (p := (st, some g)) (SqT.of ?_) sst.2 fun e q => by cases q; exact o1.1.2)
          rw [upd_ne nG2.symm]
          exact upd_same
        · rw [← all, todo_step hp est, if_pos lt, List.append_assoc]
      · have nlt : ¬ st < g := fun q => h (decide_eq_true q)
        refine ⟨_, rfl, done, vs, _, _, by rw [en]; rfl, hG, rd, ?_, S⟩
        rw [← all, todo_step hp est, if_neg nlt]
        rfl
    · rintro σ H2 ⟨done, vs, x3, x4, rfl, hG, rd, all, S⟩
      rw [lx] at all ⊢
      rw [todo_end] at all
      have len2 : (2 : Nat) ≤ sizeLine := by decide
      have ord := opps_ok ps [] ok short_nil fun p _ => nil_le _
      refine ⟨_, rfl, rfl, _, rfl, ?_⟩
      have lv : vs.length ≤ 3000 := by
        have := congrArg List.length all
        rw [List.length_append] at this
        rw [rd.len, List.length_map]
        omega
      cases en : endAt ps ps.length with
      | none =>
        rw [en] at all
        have all' : done = opps [] ps := by simpa [past] using all
        refine ite2 (fun h => absurd h (by simp [oV])) (fun _ => ?_)
        refine ⟨_, rfl, G, _, rfl, .inl ⟨SqL.of hG, fun b nb => ?_⟩⟩
        refine k b _ (S1.trans (S.new' nb)) ⟨⟨vs, SqT.of upd_same, ?_⟩, ord.1, by omega⟩
        rw [← all']
        exact rd.stp (Stp.new nb _) Lsts.nil
      | some st =>
        rw [en] at all
        have all' : done ++ [(st, none)] = opps [] ps := all
        have sst := end_fin ok en
        refine ite2 (fun _ => ?_) (fun h => absurd (show _ = true from rfl) h)
        refine ⟨_, rfl, .inl ⟨rfl, _, SqL.of hG⟩, _, rfl, len2, fun t2 nt2 => ?_⟩
        have nG2 : G ≠ t2 := ne_of_none hG nt2
        have hG3 : (upd H2 t2 (.tup [Tx st, .non])) G = some (.lst vs) := by
          rw [upd_ne nG2]
          exact hG
        refine ⟨G, _, _, rfl, rfl, hG3, Nat.lt_of_le_of_lt lv (by decide), ?_⟩
        refine ⟨_, rfl, G, _, rfl, .inl ⟨SqL.of upd_same, fun b nb => ?_⟩⟩
        have s3 : Stp [] H2 (upd H2 t2 (.tup [Tx st, .non])) := Stp.new nt2 _
        have s4 : Stp [G] (upd H2 t2 (.tup [Tx st, .non])) (upd (upd H2 t2 (.tup [Tx st, .non])) G (.lst (vs ++ [.ref t2]))) := Stp.put (by simp)
        refine k b _ (S1.trans (((S.new' nt2).mut nG).new' nb)) ⟨⟨_, SqT.of upd_same, ?_⟩, ord.1, by omega⟩
        rw [← all']
        refine RpL.stp (Stp.new nb _) Lsts.nil (prs_one ((rd.stp s3 Lsts.nil).stp s4 (.one hG3)) (pr_rp (p := (st, none)) (SqT.of ?_) sst.2 fun e q => by cases q))
        rw [upd_ne nG2.symm]
        exact upd_same
abbrev s_check_filter : Stmt := topS 33
abbrev N_check_filter : List Str := ["query"]
theorem sc_check_filter : FnScope ["query"] ["query"] (defScope s_check_filter) := ⟨rfl, rfl, rfl, by decide +kernel, rfl, by decide +kernel, by decide +kernel⟩

abbrev s_yes_or_no : Stmt := topS 35
abbrev N_yes_or_no : List Str := ["holds"]
theorem sc_yes_or_no : FnScope ["holds"] ["holds"] (defScope s_yes_or_no) := ⟨rfl, rfl, rfl, by decide +kernel, rfl, by decide +kernel, by decide +kernel⟩

abbrev s_settled : Stmt := topS 36
abbrev N_settled : List Str := ["answers", "deciding", "otherwise"]
theorem sc_settled : FnScope ["answers", "deciding", "otherwise"] ["answers", "deciding", "otherwise"] (defScope s_settled) := ⟨rfl, rfl, rfl, by decide +kernel, rfl, by decide +kernel, by decide +kernel⟩

abbrev s_matches : Stmt := topS 37
abbrev N_matches : List Str := ["word", "wanted", "text"]
theorem sc_matches : FnScope ["word", "wanted", "text"] ["word", "wanted", "text"] (defScope s_matches) := ⟨rfl, rfl, rfl, by decide +kernel, rfl, by decide +kernel, by decide +kernel⟩

/-! ### values, checks -/
abbrev Vl := Option (List Nat)
/-- a value of the document, short enough -/
def OkV (t : Vl) : Prop := ∀ l, t = some l → Abc l ∧ l.length ≤ 100
def spCkF (K : PySem.W.Frag) (n : Nat) : Sp := fun vs H Q _ => ∃ v d, vs = [v] ∧ Rp K H v d ∧ d.dep < n ∧ Flt d ∧ ∀ H', Stp [] H H' → Q .non H'
theorem cl_check_filter {f : Addr} {fd : FuncData} {n m : Nat} (D : Df K mg "check_filter" s_check_filter ["query"] f fd) (T : Nm mg) (c_is_filter : Cl P w K mg base m "is_filter" s_is_filter ["value"] (spIsF K n)) : Cl P w K mg base (m + 1) "check_filter" s_check_filter ["query"] (spCkF K n) := by
  refine D.cl sc_check_filter (fun vs H Q E h => ?_) (fun cdv A outer s H vs Q E hr h => ?_)
  · obtain ⟨v, d, rfl, _⟩ := h
    rfl
  · obtain ⟨v, d, rfl, r, dp, fl, k⟩ := h
    refine ⟨_, (pss_one (ps_if (pt_not (pt_val (pe_cl c_is_filter hr (by omega) (pa_cons (pv 0) pa_nil)))) (pss_one ps_never) pss_nil)), ?_⟩
    refine ⟨_, rfl, v, d, rfl, r, dp, fun b H1 hb S1 => ?_⟩
    rw [hb.mpr fl]
    exact ⟨_, rfl, ite2 (fun h => absurd h (by decide)) (fun _ => k H1 S1)⟩
def spYes : Sp := fun vs H Q _ => ∃ b : Bool, vs = [.bl b] ∧ Q (.str (if b then "yes" else "no")) H
theorem cl_yes_or_no {f : Addr} {fd : FuncData} (D : Df K mg "yes_or_no" s_yes_or_no ["holds"] f fd) (T : Nm mg) : Cl P w K mg base 1 "yes_or_no" s_yes_or_no ["holds"] spYes := by
  refine D.cl sc_yes_or_no (fun vs H Q E h => ?_) (fun cdv A outer s H vs Q E hr h => ?_)
  · obtain ⟨b, rfl, _⟩ := h
    rfl
  · obtain ⟨b, rfl, k⟩ := h
    refine ⟨_, (pss_one (ps_ret (pe_ifExp (pt_val (pv 0)) pe_str pe_str))), ?_⟩
    cases b <;> exact ⟨_, rfl, _, rfl, k⟩
def spSet (K : PySem.W.Frag) : Sp := fun vs H Q _ => ∃ (a : Addr) (ws : List Str) (x y : Str), vs = [.ref a, .str x, .str y] ∧ SqL K H a (ws.map V.str) ∧ Q (.str (if x ∈ ws then x else if ("open" : Str) ∈ ws then "open" else y)) H
theorem cl_settled {f : Addr} {fd : FuncData} (D : Df K mg "settled" s_settled ["answers", "deciding", "otherwise"] f fd) (T : Nm mg) : Cl P w K mg base 1 "settled" s_settled ["answers", "deciding", "otherwise"] (spSet K) := by
  refine D.cl sc_settled (fun vs H Q E h => ?_) (fun cdv A outer s H vs Q E hr h => ?_)
  · obtain ⟨a, ws, x, y, rfl, _⟩ := h
    rfl
  · obtain ⟨a, ws, x, y, rfl, hs, k⟩ := h
    refine ⟨_, (pss_cons (ps_if (pt_cmpR op_in_seq (pv 1) (pv 0) (by first | exact nomark _ | rfl)) (pss_one (ps_ret (pv 1))) pss_nil)
      (pss_one (ps_ret (pe_ifExp (pt_cmpR op_in_seq pe_str (pv 0) (by first | exact nomark _ | rfl)) pe_str (pv 2))))), ?_⟩
    have fl : ∀ ws : List Str, (ws.map V.str).all flatV = true := fun ws => by simp [flatV]
    refine ⟨_, rfl, _, rfl, a, _, rfl, .inl hs, rfl, fl ws, _, rfl, ?_⟩
    rw [inV_str]
    refine ite2 (fun h => ?_) (fun h => ?_)
    · rw [if_pos (of_decide_eq_true h)] at k
      exact ⟨_, rfl, k⟩
    · rw [if_neg (fun g => h (decide_eq_true g))] at k
      refine ⟨_, rfl, a, _, rfl, .inl hs, rfl, fl ws, _, rfl, ?_⟩
      rw [inV_str]
      refine ite2 (fun h2 => ?_) (fun h2 => ?_)
      · rw [if_pos (of_decide_eq_true h2)] at k
        exact k
      · rw [if_neg (fun g => h2 (decide_eq_true g))] at k
        exact ⟨_, rfl, k⟩
/-! ### what a value answers -/
/-- by the word of a filter of one text -/
def fits (w : Str) (y x : List Nat) : Bool :=
  if w = "is" then decide (x = y) else if w = "below" then decide (x < y) else if w = "above" then decide (y < x) else decide (x.take y.length = y)
theorem starts_tx (x y : List Nat) : Txt.startswith (tx x) (tx y) = decide (x.take y.length = y) := by
  have e : Txt.startswith (tx x) (tx y) = (decide (0 + (tx y).length ≤ (tx x).length) && Builtin.Str.subAt (tx x) (tx y) 0) := rfl
  have e2 : Builtin.Str.subAt (tx x) (tx y) 0 = decide (x.take y.length = y) := by
    rw [PySem.StrLaws.subAt_eq, tx_len]
    show ((x.drop 0).take y.length == y) = _
    rw [List.drop_zero]
    by_cases h : x.take y.length = y
    · rw [decide_eq_true h]
      exact beq_iff_eq.mpr h
    · rw [decide_eq_false h]
      exact beq_eq_false_iff_ne.mpr h
  rw [e, e2, tx_len, tx_len]
  by_cases h : x.take y.length = y
  · have : y.length ≤ x.length := by
      have := congrArg List.length h
      rw [List.length_take] at this
      omega
    rw [decide_eq_true (by omega : 0 + y.length ≤ x.length), Bool.true_and]
  · rw [decide_eq_false h, Bool.and_false]
theorem eq_tx (x y : List Nat) : decide (Tx x = Tx y) = decide (x = y) := by
  by_cases h : x = y
  · rw [h, decide_eq_true rfl, decide_eq_true rfl]
  · rw [decide_eq_false h, decide_eq_false fun e => h (tx_inj (V.str.inj e))]
/-- the text or texts behind the word, and the one that is asked -/
def spMat (K : PySem.W.Frag) : Sp := fun vs H Q _ =>
  (∃ (w : Str) (y x : List Nat), vs = [.str w, Tx y, Tx x] ∧ (w = "is" ∨ w = "below" ∨ w = "above" ∨ w = "begins") ∧ Q (.bl (fits w y x)) H) ∨
  ∃ (a : Addr) (ys : List (List Nat)) (x : List Nat), vs = [.str "among", .ref a, Tx x] ∧ SqT K H a (ys.map Tx) ∧ Q (.bl (decide (x ∈ ys))) H
theorem cl_matches {f : Addr} {fd : FuncData} (D : Df K mg "matches" s_matches ["word", "wanted", "text"] f fd) (T : Nm mg) : Cl P w K mg base 1 "matches" s_matches ["word", "wanted", "text"] (spMat K) := by
  refine D.cl sc_matches (fun vs H Q E h => ?_) (fun cdv A outer s H vs Q E hr h => ?_)
  · rcases h with ⟨w, y, x, rfl, _⟩ | ⟨a, ys, x, rfl, _⟩ <;> rfl
  · have no : ∀ {p : Prop} {a b : Str}, decide (V.str a = V.str b) = true → (a = b → False) → p := fun h n => absurd (V.str.inj (of_decide_eq_true h)) n
    have ne : ∀ {a b : Str}, ¬ decide (V.str a = V.str b) = true → a ≠ b := fun h n => h (decide_eq_true (congrArg V.str n))
    refine ⟨_, (pss_cons (ps_if (pt_cmpR op_eq (pv 0) pe_str (by first | exact nomark _ | rfl)) (pss_one (ps_ret (pe_cmpR op_eq (pv 2) (pv 1) (by first | exact nomark _ | rfl)))) pss_nil)
      (pss_cons (ps_if (pt_cmpR op_eq (pv 0) pe_str (by first | exact nomark _ | rfl)) (pss_one (ps_ret (pe_cmpR op_lt_str (pv 2) (pv 1) (by first | exact nomark _ | rfl)))) pss_nil)
      (pss_cons (ps_if (pt_cmpR op_eq (pv 0) pe_str (by first | exact nomark _ | rfl)) (pss_one (ps_ret (pe_cmpR op_gt_str (pv 2) (pv 1) (by first | exact nomark _ | rfl)))) pss_nil)
      (pss_cons (ps_if (pt_cmpR op_eq (pv 0) pe_str (by first | exact nomark _ | rfl)) (pss_one (ps_ret (pe_bm PySem.F.plainAttrs_str PySem.F.slot_str_startswith PySem.F.type_str_startswith mt_startswith (pv 2) (pa_cons (pv 1) pa_nil)))) pss_nil)
      (pss_one (ps_ret (pe_cmpR op_in_seq (pv 2) (pv 1) (by first | exact nomark _ | rfl)))))))), ?_⟩
    rcases h with ⟨w, y, x, rfl, hw, k⟩ | ⟨a, ys, x, rfl, hs, k⟩
    · refine ⟨_, rfl, rfl, _, rfl, ite2 (fun h => ?_) (fun h => ?_)⟩
      · have e : w = "is" := V.str.inj (of_decide_eq_true h)
        subst e
        refine ⟨_, rfl, _, rfl, rfl, ?_⟩
        rw [show decide (Tx x = Tx y) = fits "is" y x from eq_tx x y]
        exact k
      refine ⟨_, rfl, rfl, _, rfl, ite2 (fun h2 => ?_) (fun h2 => ?_)⟩
      · have e : w = "below" := V.str.inj (of_decide_eq_true h2)
        subst e
        exact ⟨_, rfl, _, rfl, tx x, tx y, rfl, rfl, k⟩
      refine ⟨_, rfl, rfl, _, rfl, ite2 (fun h3 => ?_) (fun h3 => ?_)⟩
      · have e : w = "above" := V.str.inj (of_decide_eq_true h3)
        subst e
        exact ⟨_, rfl, _, rfl, tx x, tx y, rfl, rfl, k⟩
      have e : w = "begins" := by
        rcases hw with e | e | e | e
        · exact absurd e (ne h)
        · exact absurd e (ne h2)
        · exact absurd e (ne h3)
        · exact e
      subst e
      refine ⟨_, rfl, rfl, _, rfl, ite2 (fun _ => ?_) (fun h4 => absurd (decide_eq_true rfl) h4)⟩
      refine ⟨_, rfl, rfl, _, rfl, tx x, tx y, rfl, rfl, ?_⟩
      rw [starts_tx]
      exact k
    · have nf : ∀ {s : Str}, ("among" : Str) ≠ s → ¬ decide (V.str "among" = V.str s) = true := fun n h => n (V.str.inj (of_decide_eq_true h))
      refine ⟨_, rfl, rfl, _, rfl, ite2 (fun h => absurd h (nf (by decide +kernel))) (fun _ => ?_)⟩
      refine ⟨_, rfl, rfl, _, rfl, ite2 (fun h => absurd h (nf (by decide +kernel))) (fun _ => ?_)⟩
      refine ⟨_, rfl, rfl, _, rfl, ite2 (fun h => absurd h (nf (by decide +kernel))) (fun _ => ?_)⟩
      refine ⟨_, rfl, rfl, _, rfl, ite2 (fun h => absurd h (nf (by decide +kernel))) (fun _ => ?_)⟩
      refine ⟨_, rfl, _, rfl, a, _, rfl, .inr hs, rfl, ?_, ?_⟩
      · simp [flatV]
      · have e : inV (Tx x) (ys.map Tx) = decide (x ∈ ys) := by
          have e1 : ys.map Tx = (ys.map tx).map V.str := by rw [List.map_map]; rfl
          rw [e1, show Tx x = V.str (tx x) from rfl, inV_str]
          by_cases h : x ∈ ys
          · rw [decide_eq_true h, decide_eq_true (List.mem_map.mpr ⟨x, h, rfl⟩)]
          · rw [decide_eq_false h, decide_eq_false fun g => ?_]
            obtain ⟨z, hz, ez⟩ := List.mem_map.mp g
            exact h (tx_inj ez ▸ hz)
        show _
        rw [if_neg (by decide), e]
        exact k
abbrev s_answer_to : Stmt := topS 34
abbrev N_answer_to : List Str := ["query", "value", "word", "part"]
theorem sc_answer_to : FnScope ["query", "value", "word", "part"] ["query", "value"] (defScope s_answer_to) := ⟨rfl, rfl, rfl, by decide +kernel, rfl, by decide +kernel, by decide +kernel⟩

/-! ### levels: 0 no, 1 open, 2 yes -/
def bLev (b : Bool) : Int := if b then 2 else 0
def ansW (i : Int) : Str := if i = 0 then "no" else if i = 1 then "open" else "yes"
def eqD (x : List Nat) : Dt → Bool
  | .str y => decide (x = y)
  | _ => false
def levW (f : Dt → Int) (t : Vl) (w : Str) (p : Dt) : Int :=
  if w = "say" then (match p with | .bl b => bLev b | _ => 0)
  else if w = "not" then 2 - f p
  else if w = "and" then (match p with | .tup ds => foldMin (ds.map f) 2 | _ => 0)
  else if w = "or" then (match p with | .tup ds => foldMax (ds.map f) 0 | _ => 0)
  else match t with
    | none => 1
    | some x => if w = "among" then (match p with | .tup ds => bLev (ds.any (eqD x)) | _ => 0) else (match p with | .str y => bLev (fits w y x) | _ => 0)
def levS (f : Dt → Int) (t : Vl) : Dt → Int
  | .tup [_] => bLev (decide (t = none))
  | .tup [.str w, p] => levW f t (tx w) p
  | _ => 0
def lev : Nat → Vl → Dt → Int
  | 0, _, _ => 0
  | n + 1, t, d => levS (lev n t) t d
theorem lev_two (n : Nat) (t : Vl) (w : Str) (p : Dt) : lev (n + 1) t (.tup [.str w.cps.toList, p]) = levW (lev n t) t w p := by
  show levW (lev n t) t (tx w.cps.toList) p = _
  rw [lit_tx]
theorem lev_say (f : Dt → Int) (t : Vl) (b : Bool) : levW f t "say" (.bl b) = bLev b := if_pos rfl
theorem lev_not (f : Dt → Int) (t : Vl) (p : Dt) : levW f t "not" p = 2 - f p := by unfold levW; rw [if_neg (by decide +kernel), if_pos rfl]
theorem lev_and (f : Dt → Int) (t : Vl) (ds : List Dt) : levW f t "and" (.tup ds) = foldMin (ds.map f) 2 := by unfold levW; rw [if_neg (by decide +kernel), if_neg (by decide +kernel), if_pos rfl]
theorem lev_or (f : Dt → Int) (t : Vl) (ds : List Dt) : levW f t "or" (.tup ds) = foldMax (ds.map f) 0 := by unfold levW; rw [if_neg (by decide +kernel), if_neg (by decide +kernel), if_neg (by decide +kernel), if_pos rfl]
/-- a word of texts -/
def TxW (w : Str) : Prop := w ≠ "none" ∧ w ≠ "say" ∧ w ≠ "not" ∧ w ≠ "and" ∧ w ≠ "or"
theorem lev_txn (f : Dt → Int) {w : Str} (h : TxW w) (p : Dt) : levW f none w p = 1 := by
  unfold levW
  rw [if_neg h.2.1, if_neg h.2.2.1, if_neg h.2.2.2.1, if_neg h.2.2.2.2]
theorem lev_txs (f : Dt → Int) {w : Str} (h : TxW w) (g : w ≠ "among") (x y : List Nat) : levW f (some x) w (.str y) = bLev (fits w y x) := by
  unfold levW
  rw [if_neg h.2.1, if_neg h.2.2.1, if_neg h.2.2.2.1, if_neg h.2.2.2.2]
  show (if w = "among" then _ else _) = _
  rw [if_neg g]
theorem txw_among : TxW "among" := ⟨by decide +kernel, by decide +kernel, by decide +kernel, by decide +kernel, by decide +kernel⟩
theorem lev_among (f : Dt → Int) (x : List Nat) (ds : List Dt) : levW f (some x) "among" (.tup ds) = bLev (ds.any (eqD x)) := by
  have h := txw_among
  unfold levW
  rw [if_neg h.2.1, if_neg h.2.2.1, if_neg h.2.2.2.1, if_neg h.2.2.2.2]
  show (if ("among" : Str) = "among" then _ else _) = _
  rw [if_pos rfl]
theorem txw_tx {w : Str} (h : w = "is" ∨ w = "below" ∨ w = "above" ∨ w = "begins") : TxW w ∧ w ≠ "among" := by
  rcases h with rfl | rfl | rfl | rfl <;> exact ⟨⟨by decide +kernel, by decide +kernel, by decide +kernel, by decide +kernel, by decide +kernel⟩, by decide +kernel⟩
theorem ans_b (b : Bool) : (if b then ("yes" : Str) else "no") = ansW (bLev b) := by cases b <;> decide +kernel
theorem rp1 {K : PySem.W.Frag} {H : Hp} {v : V} {w : Str} (r : Rp K H v (.tup [.str w.cps.toList])) : ∃ a, v = .ref a ∧ SqT K H a [.str w] := by
  cases r with
  | tup hs _ rl =>
    cases rl with
    | cons r0 rr =>
      cases rr
      cases r0
      rw [show Tx w.cps.toList = V.str w from congrArg V.str (lit_tx w)] at hs
      exact ⟨_, rfl, hs⟩
theorem rp2 {K : PySem.W.Frag} {H : Hp} {v : V} {w : Str} {p : Dt} (r : Rp K H v (.tup [.str w.cps.toList, p])) : ∃ a u, v = .ref a ∧ SqT K H a [.str w, u] ∧ Rp K H u p := by
  cases r with
  | tup hs _ rl =>
    cases rl with
    | cons r0 rr =>
      cases rr with
      | cons r1 rn =>
        cases rn
        cases r0
        rw [show Tx w.cps.toList = V.str w from congrArg V.str (lit_tx w)] at hs
        exact ⟨_, _, rfl, hs, r1⟩
def In3 (i : Int) : Prop := i = 0 ∨ i = 1 ∨ i = 2
theorem in3_b (b : Bool) : In3 (bLev b) := by cases b <;> simp [bLev, In3]
theorem in3_min : ∀ (r : List Int) (n : Int), In3 n → (∀ x ∈ r, In3 x) → In3 (r.foldl min n)
  | [], _, h, _ => h
  | x :: r, n, h, g => in3_min r _ (by have := g x List.mem_cons_self; unfold In3 at *; omega) fun y m => g y (List.mem_cons_of_mem _ m)
theorem in3_max : ∀ (r : List Int) (n : Int), In3 n → (∀ x ∈ r, In3 x) → In3 (r.foldl max n)
  | [], _, h, _ => h
  | x :: r, n, h, g => in3_max r _ (by have := g x List.mem_cons_self; unfold In3 at *; omega) fun y m => g y (List.mem_cons_of_mem _ m)
theorem in3_fmin {ns : List Int} (h : ∀ x ∈ ns, In3 x) : In3 (foldMin ns 2) := by
  cases ns with
  | nil => exact .inr (.inr rfl)
  | cons n r => exact in3_min r n (h n List.mem_cons_self) fun x m => h x (List.mem_cons_of_mem _ m)
theorem in3_fmax {ns : List Int} (h : ∀ x ∈ ns, In3 x) : In3 (foldMax ns 0) := by
  cases ns with
  | nil => exact .inl rfl
  | cons n r => exact in3_max r n (h n List.mem_cons_self) fun x m => h x (List.mem_cons_of_mem _ m)
theorem in3_turn {i : Int} (h : In3 i) : In3 (2 - i) := by unfold In3 at *; omega
theorem levW_in {f : Dt → Int} (hf : ∀ d, In3 (f d)) (t : Vl) (w : Str) (p : Dt) : In3 (levW f t w p) := by
  have hs : ∀ ds : List Dt, ∀ x ∈ ds.map f, In3 x := fun ds x m => by
    obtain ⟨d, _, rfl⟩ := List.mem_map.mp m
    exact hf d
  unfold levW
  repeat' split
  all_goals first | exact .inl rfl | exact .inr (.inl rfl) | exact in3_b _ | exact in3_turn (hf _) | exact in3_fmin (hs _) | exact in3_fmax (hs _)
theorem lev_in : ∀ (n : Nat) (t : Vl) (d : Dt), In3 (lev n t d)
  | 0, _, _ => .inl rfl
  | n + 1, t, d => by
    show In3 (levS (lev n t) t d)
    unfold levS
    repeat' split
    all_goals first | exact .inl rfl | exact in3_b _ | exact levW_in (lev_in n t) _ _ _
theorem txs_of : ∀ {ds : List Dt}, (∀ d ∈ ds, IsTx d) → ∃ ys : List (List Nat), ds = ys.map Dt.str
  | [], _ => ⟨[], rfl⟩
  | d :: ds, h => by
    obtain ⟨l, rfl, _⟩ := h d List.mem_cons_self
    obtain ⟨ys, rfl⟩ := txs_of (ds := ds) fun d m => h d (List.mem_cons_of_mem _ m)
    exact ⟨l :: ys, rfl⟩
theorem dep_two {a p : Dt} {n : Nat} (h : (Dt.tup [a, p]).dep < n + 1) : p.dep < n := by
  have h1 := Dt.dep_mem (ds := [a, p]) (d := p) (by simp)
  have e : (Dt.tup [a, p]).dep = Dt.depL [a, p] + 1 := rfl
  omega
theorem dep_in {a d : Dt} {ds : List Dt} {n : Nat} (h : (Dt.tup [a, .tup ds]).dep < n + 1) (m : d ∈ ds) : d.dep < n := by
  have h1 := dep_two h
  have h2 := Dt.dep_mem m
  have e : (Dt.tup ds).dep = Dt.depL ds + 1 := rfl
  omega
theorem fold_min : ∀ (r : List Int) (n : Int), (r.foldl min n = n ∨ r.foldl min n ∈ r) ∧ r.foldl min n ≤ n ∧ ∀ x ∈ r, r.foldl min n ≤ x
  | [], n => ⟨.inl rfl, Int.le_refl _, fun _ m => nomatch m⟩
  | x :: r, n => by
    obtain ⟨h1, h2, h3⟩ := fold_min r (min n x)
    show (r.foldl min (min n x) = n ∨ r.foldl min (min n x) ∈ x :: r) ∧ r.foldl min (min n x) ≤ n ∧ ∀ y ∈ x :: r, r.foldl min (min n x) ≤ y
    refine ⟨?_, by omega, fun y m => ?_⟩
    · rcases h1 with h | h
      · by_cases g : n ≤ x
        · exact .inl (by omega)
        · exact .inr (by rw [h, show min n x = x by omega]; exact List.mem_cons_self)
      · exact .inr (List.mem_cons_of_mem _ h)
    · rcases List.mem_cons.mp m with rfl | m
      · omega
      · exact h3 y m
theorem fold_max : ∀ (r : List Int) (n : Int), (r.foldl max n = n ∨ r.foldl max n ∈ r) ∧ n ≤ r.foldl max n ∧ ∀ x ∈ r, x ≤ r.foldl max n
  | [], n => ⟨.inl rfl, Int.le_refl _, fun _ m => nomatch m⟩
  | x :: r, n => by
    obtain ⟨h1, h2, h3⟩ := fold_max r (max n x)
    show (r.foldl max (max n x) = n ∨ r.foldl max (max n x) ∈ x :: r) ∧ n ≤ r.foldl max (max n x) ∧ ∀ y ∈ x :: r, y ≤ r.foldl max (max n x)
    refine ⟨?_, by omega, fun y m => ?_⟩
    · rcases h1 with h | h
      · by_cases g : x ≤ n
        · exact .inl (by omega)
        · exact .inr (by rw [h, show max n x = x by omega]; exact List.mem_cons_self)
      · exact .inr (List.mem_cons_of_mem _ h)
    · rcases List.mem_cons.mp m with rfl | m
      · omega
      · exact h3 y m
theorem fmin_iff {ns : List Int} (h : ∀ x ∈ ns, In3 x) (i : Int) (hi : i = 0 ∨ i = 1) : foldMin ns 2 = i ↔ i ∈ ns ∧ ∀ x ∈ ns, i ≤ x := by
  cases ns with
  | nil => exact ⟨fun e => by have : (2 : Int) = i := e; omega, fun ⟨m, _⟩ => nomatch m⟩
  | cons n r =>
    obtain ⟨h1, h2, h3⟩ := fold_min r n
    have e : foldMin (n :: r) 2 = r.foldl min n := rfl
    rw [e]
    refine ⟨fun g => ?_, fun ⟨m, g⟩ => ?_⟩
    · rw [g] at h1 h2 h3
      refine ⟨?_, fun x m => ?_⟩
      · rcases h1 with h1 | h1
        · rw [h1]; exact List.mem_cons_self
        · exact List.mem_cons_of_mem _ h1
      · rcases List.mem_cons.mp m with rfl | m
        · exact h2
        · exact h3 x m
    · have a1 : r.foldl min n ≤ i := by
        rcases List.mem_cons.mp m with rfl | m
        · exact h2
        · exact h3 i m
      have a2 : i ≤ r.foldl min n := by
        rcases h1 with h1 | h1
        · rw [h1]; exact g n List.mem_cons_self
        · exact g _ (List.mem_cons_of_mem _ h1)
      omega
theorem fmax_iff {ns : List Int} (h : ∀ x ∈ ns, In3 x) (i : Int) (hi : i = 1 ∨ i = 2) : foldMax ns 0 = i ↔ i ∈ ns ∧ ∀ x ∈ ns, x ≤ i := by
  cases ns with
  | nil => exact ⟨fun e => by have : (0 : Int) = i := e; omega, fun ⟨m, _⟩ => nomatch m⟩
  | cons n r =>
    obtain ⟨h1, h2, h3⟩ := fold_max r n
    have e : foldMax (n :: r) 0 = r.foldl max n := rfl
    rw [e]
    refine ⟨fun g => ?_, fun ⟨m, g⟩ => ?_⟩
    · rw [g] at h1 h2 h3
      refine ⟨?_, fun x m => ?_⟩
      · rcases h1 with h1 | h1
        · rw [h1]; exact List.mem_cons_self
        · exact List.mem_cons_of_mem _ h1
      · rcases List.mem_cons.mp m with rfl | m
        · exact h2
        · exact h3 x m
    · have a1 : i ≤ r.foldl max n := by
        rcases List.mem_cons.mp m with rfl | m
        · exact h2
        · exact h3 i m
      have a2 : r.foldl max n ≤ i := by
        rcases h1 with h1 | h1
        · rw [h1]; exact g n List.mem_cons_self
        · exact g _ (List.mem_cons_of_mem _ h1)
      omega
theorem ans_mem {ns : List Int} (h : ∀ x ∈ ns, In3 x) {i : Int} (hi : In3 i) : ansW i ∈ ns.map ansW ↔ i ∈ ns := by
  refine ⟨fun m => ?_, fun m => List.mem_map.mpr ⟨i, m, rfl⟩⟩
  obtain ⟨j, hj, e⟩ := List.mem_map.mp m
  have : j = i := by
    rcases h j hj with rfl | rfl | rfl <;> rcases hi with rfl | rfl | rfl <;> first | rfl | exact absurd e (by decide +kernel)
  rw [← this]
  exact hj
theorem set_min {ns : List Int} (h : ∀ x ∈ ns, In3 x) : (if ("no" : Str) ∈ ns.map ansW then ("no" : Str) else if ("open" : Str) ∈ ns.map ansW then "open" else "yes") = ansW (foldMin ns 2) := by
  have m0 : ("no" : Str) ∈ ns.map ansW ↔ (0 : Int) ∈ ns := ans_mem h (.inl rfl)
  have m1 : ("open" : Str) ∈ ns.map ansW ↔ (1 : Int) ∈ ns := ans_mem h (.inr (.inl rfl))
  by_cases g0 : (0 : Int) ∈ ns
  · rw [if_pos (m0.mpr g0), (fmin_iff h 0 (.inl rfl)).mpr ⟨g0, fun x m => by have := h x m; unfold In3 at this; omega⟩]
    decide +kernel
  · rw [if_neg fun q => g0 (m0.mp q)]
    have n0 : ∀ x ∈ ns, 1 ≤ x := fun x m => by
      have h1 := h x m
      have h2 : x ≠ 0 := fun e => g0 (e ▸ m)
      unfold In3 at h1
      omega
    by_cases g1 : (1 : Int) ∈ ns
    · rw [if_pos (m1.mpr g1), (fmin_iff h 1 (.inr rfl)).mpr ⟨g1, n0⟩]
      decide +kernel
    · rw [if_neg fun q => g1 (m1.mp q)]
      have f0 : foldMin ns 2 ≠ 0 := fun e => g0 ((fmin_iff h 0 (.inl rfl)).mp e).1
      have f1 : foldMin ns 2 ≠ 1 := fun e => g1 ((fmin_iff h 1 (.inr rfl)).mp e).1
      rcases in3_fmin h with e | e | e
      · exact absurd e f0
      · exact absurd e f1
      · rw [e]
        decide +kernel
theorem set_max {ns : List Int} (h : ∀ x ∈ ns, In3 x) : (if ("yes" : Str) ∈ ns.map ansW then ("yes" : Str) else if ("open" : Str) ∈ ns.map ansW then "open" else "no") = ansW (foldMax ns 0) := by
  have m2 : ("yes" : Str) ∈ ns.map ansW ↔ (2 : Int) ∈ ns := ans_mem h (.inr (.inr rfl))
  have m1 : ("open" : Str) ∈ ns.map ansW ↔ (1 : Int) ∈ ns := ans_mem h (.inr (.inl rfl))
  by_cases g0 : (2 : Int) ∈ ns
  · rw [if_pos (m2.mpr g0), (fmax_iff h 2 (.inr rfl)).mpr ⟨g0, fun x m => by have := h x m; unfold In3 at this; omega⟩]
    decide +kernel
  · rw [if_neg fun q => g0 (m2.mp q)]
    have n0 : ∀ x ∈ ns, x ≤ 1 := fun x m => by
      have h1 := h x m
      have h2 : x ≠ 2 := fun e => g0 (e ▸ m)
      unfold In3 at h1
      omega
    by_cases g1 : (1 : Int) ∈ ns
    · rw [if_pos (m1.mpr g1), (fmax_iff h 1 (.inl rfl)).mpr ⟨g1, n0⟩]
      decide +kernel
    · rw [if_neg fun q => g1 (m1.mp q)]
      have f0 : foldMax ns 0 ≠ 2 := fun e => g0 ((fmax_iff h 2 (.inr rfl)).mp e).1
      have f1 : foldMax ns 0 ≠ 1 := fun e => g1 ((fmax_iff h 1 (.inl rfl)).mp e).1
      rcases in3_fmax h with e | e | e
      · rw [e]
        decide +kernel
      · exact absurd e f1
      · exact absurd e f0
def spAns (K : PySem.W.Frag) (n : Nat) : Sp := fun vs H Q _ => ∃ (v : V) (d : Dt) (t : Vl), vs = [v, oV t] ∧ Rp K H v d ∧ Flt d ∧ d.dep < n ∧ OkV t ∧ ∀ H', Stp [] H H' → Q (.str (ansW (lev n t d))) H'
theorem ans_step {f : Addr} {fd : FuncData} (D : Df K mg "answer_to" s_answer_to ["query", "value"] f fd) (T : Nm mg) (TG : Ng K w mg) {n m : Nat} (hm : 1 ≤ m) (c_yes_or_no : Cl P w K mg base 1 "yes_or_no" s_yes_or_no ["holds"] spYes) (c_settled : Cl P w K mg base 1 "settled" s_settled ["answers", "deciding", "otherwise"] (spSet K))
    (c_matches : Cl P w K mg base 1 "matches" s_matches ["word", "wanted", "text"] (spMat K)) (c_answer_to : Cl P w K mg base m "answer_to" s_answer_to ["query", "value"] (spAns K n)) : Cl P w K mg base (m + 1) "answer_to" s_answer_to ["query", "value"] (spAns K (n + 1)) := by
  refine D.cl sc_answer_to (fun vs H Q E h => ?_) (fun cdv A outer s H vs Q E hr h => ?_)
  · obtain ⟨v, d, t, rfl, _⟩ := h
    rfl
  · obtain ⟨v, d, t, rfl, r, fl, dp, ok, k⟩ := h
    refine ⟨_, (pss_cons (ps_set (i := 2) sc_answer_to.nd rfl (by first | exact Or.inl rfl | exact Or.inr rfl) (pe_ix ix_tup (pv 0) pe_int (fun _ _ => rfl)))
      (pss_cons (ps_if (pt_cmpR op_eq (pv 2) pe_str (by first | exact nomark _ | rfl)) (pss_one (ps_ret (pe_cl c_yes_or_no hr (by omega) (pa_cons (pe_cmpR op_isN (pv 1) pe_non (by first | exact nomark _ | rfl)) pa_nil)))) pss_nil)
      (pss_cons (ps_if (pt_cmpR op_eq (pv 2) pe_str (by first | exact nomark _ | rfl)) (pss_one (ps_ret (pe_cl c_yes_or_no hr (by omega) (pa_cons (pe_ix ix_tup (pv 0) pe_int (fun _ _ => rfl)) pa_nil)))) pss_nil)
      (pss_cons (ps_if (pt_cmpR op_eq (pv 2) pe_str (by first | exact nomark _ | rfl)) (pss_one (ps_ret (pe_ix ix_kdict (pe_glob (v := .ref TG.TURNED) rfl TG.g_TURNED rfl) (pe_cl c_answer_to hr (by omega) (pa_cons (pe_ix ix_tup (pv 0) pe_int (fun _ _ => rfl)) (pa_cons (pv 1) pa_nil))) (fun _ _ => rfl)))) pss_nil)
      (pss_cons (ps_if (pt_cmpR op_eq (pv 2) pe_str (by first | exact nomark _ | rfl)) (pss_one (ps_ret (pe_cl c_settled hr (by omega) (pa_cons (pe_lc (own := [("part", 3)]) rfl sc_answer_to.nd (pi_tup (pe_ix ix_tup (pv 0) pe_int (fun _ _ => rfl))) (blkOk_by (own := [("part", 3)]) (N := N_answer_to) (sc := defScope s_answer_to) (by decide +kernel)) (fun _ _ _ _ _ => (pg_name (i := 3) sc_answer_to.nd rfl (by first | exact Or.inl rfl | exact Or.inr rfl))) (fun _ _ _ _ _ => pts_nil) (fun _ _ _ _ _ => (pe_cl c_answer_to hr (by omega) (pa_cons (pv 3) (pa_cons (pv 1) pa_nil))))) (pa_cons pe_str (pa_cons pe_str pa_nil)))))) pss_nil)
      (pss_cons (ps_if (pt_cmpR op_eq (pv 2) pe_str (by first | exact nomark _ | rfl)) (pss_one (ps_ret (pe_cl c_settled hr (by omega) (pa_cons (pe_lc (own := [("part", 3)]) rfl sc_answer_to.nd (pi_tup (pe_ix ix_tup (pv 0) pe_int (fun _ _ => rfl))) (blkOk_by (own := [("part", 3)]) (N := N_answer_to) (sc := defScope s_answer_to) (by decide +kernel)) (fun _ _ _ _ _ => (pg_name (i := 3) sc_answer_to.nd rfl (by first | exact Or.inl rfl | exact Or.inr rfl))) (fun _ _ _ _ _ => pts_nil) (fun _ _ _ _ _ => (pe_cl c_answer_to hr (by omega) (pa_cons (pv 3) (pa_cons (pv 1) pa_nil))))) (pa_cons pe_str (pa_cons pe_str pa_nil)))))) pss_nil)
      (pss_cons (ps_if (pt_cmpR op_isN (pv 1) pe_non (by first | exact nomark _ | rfl)) (pss_one (ps_ret pe_str)) pss_nil)
      (pss_one (ps_ret (pe_cl c_yes_or_no hr (by omega) (pa_cons (pe_cl c_matches hr (by omega) (pa_cons (pv 2) (pa_cons (pe_ix ix_tup (pv 0) pe_int (fun _ _ => rfl)) (pa_cons (pv 1) pa_nil)))) pa_nil))))))))))), ?_⟩
    have nf : ∀ {a b : Str}, a ≠ b → ¬ decide (V.str a = V.str b) = true := fun n h => n (V.str.inj (of_decide_eq_true h))
    have tf : ∀ {a : Str}, decide (V.str a = V.str a) = true := decide_eq_true rfl
    cases fl with
    | none =>
      obtain ⟨a, rfl, hs⟩ := rp1 r
      refine ⟨_, rfl, a, _, 0, _, rfl, rfl, hs, at0, ?_⟩
      refine ⟨_, rfl, rfl, _, rfl, ite2 (fun _ => ?_) (fun h => absurd tf h)⟩
      refine ⟨_, rfl, rfl, _, rfl, ?_⟩
      have e : decide (oV t = V.non) = decide (t = none) := by
        cases t with
        | none => rfl
        | some l => exact (decide_eq_false fun h => nomatch h).trans (decide_eq_false fun h => nomatch h).symm
      rw [e, ans_b]
      exact k H (Stp.refl _ _)
    | say b =>
      obtain ⟨a, u, rfl, hs, ru⟩ := rp2 r
      cases ru
      rw [lev_two, lev_say, ← ans_b] at k
      refine ⟨_, rfl, a, _, 0, _, rfl, rfl, hs, at0, ?_⟩
      refine ⟨_, rfl, rfl, _, rfl, ite2 (fun h => absurd h (nf (by decide +kernel))) (fun _ => ?_)⟩
      refine ⟨_, rfl, rfl, _, rfl, ite2 (fun _ => ?_) (fun h => absurd tf h)⟩
      exact ⟨_, rfl, a, _, 1, _, rfl, rfl, hs, at1, b, rfl, k H (Stp.refl _ _)⟩
    | not f =>
      obtain ⟨a, u, rfl, hs, ru⟩ := rp2 r
      rw [lev_two, lev_not] at k
      refine ⟨_, rfl, a, _, 0, _, rfl, rfl, hs, at0, ?_⟩
      refine ⟨_, rfl, rfl, _, rfl, ite2 (fun h => absurd h (nf (by decide +kernel))) (fun _ => ?_)⟩
      refine ⟨_, rfl, rfl, _, rfl, ite2 (fun h => absurd h (nf (by decide +kernel))) (fun _ => ?_)⟩
      refine ⟨_, rfl, rfl, _, rfl, ite2 (fun _ => ?_) (fun h => absurd tf h)⟩
      refine ⟨_, rfl, a, _, 1, u, rfl, rfl, hs, at1, _, rfl, u, _, t, rfl, ru, f, ?_, ok, fun H1 S1 => ?_⟩
      · exact dep_two dp
      · have k1 := k H1 S1
        rcases lev_in n t _ with e | e | e
        · rw [e] at k1 ⊢
          exact ⟨_, _, _, rfl, rfl, TG.nn, k1⟩
        · rw [e] at k1 ⊢
          exact ⟨_, _, _, rfl, rfl, TG.no, k1⟩
        · rw [e] at k1 ⊢
          exact ⟨_, _, _, rfl, rfl, TG.ny, k1⟩
    | @among ds m =>
      have tw := txw_among
      obtain ⟨a, u, rfl, hs, ru⟩ := rp2 r
      rw [lev_two] at k
      refine ⟨_, rfl, a, _, 0, _, rfl, rfl, hs, at0, ?_⟩
      refine ⟨_, rfl, rfl, _, rfl, ite2 (fun h => absurd h (nf tw.1)) (fun _ => ?_)⟩
      refine ⟨_, rfl, rfl, _, rfl, ite2 (fun h => absurd h (nf tw.2.1)) (fun _ => ?_)⟩
      refine ⟨_, rfl, rfl, _, rfl, ite2 (fun h => absurd h (nf tw.2.2.1)) (fun _ => ?_)⟩
      refine ⟨_, rfl, rfl, _, rfl, ite2 (fun h => absurd h (nf tw.2.2.2.1)) (fun _ => ?_)⟩
      refine ⟨_, rfl, rfl, _, rfl, ite2 (fun h => absurd h (nf tw.2.2.2.2)) (fun _ => ?_)⟩
      cases t with
      | none =>
        rw [lev_txn _ tw] at k
        exact ⟨_, rfl, rfl, _, rfl, ite2 (fun _ => k H (Stp.refl _ _)) (fun h => absurd rfl h)⟩
      | some x =>
        rw [lev_among, ← ans_b] at k
        refine ⟨_, rfl, rfl, _, rfl, ite2 (fun h => absurd h (by simp [oV])) (fun _ => ?_)⟩
        cases ru with
        | tup hs2 hl rl =>
          rename_i b2 us
          obtain ⟨ys, rfl⟩ := txs_of m
          have eu := rpl_strs rl
          rw [eu] at hs2
          have ea : ((ys.map Dt.str).any (eqD x)) = decide (x ∈ ys) := by
            rw [List.any_map, Bool.eq_iff_iff, List.any_eq_true, decide_eq_true_iff]
            exact ⟨fun ⟨y, hy, e⟩ => by have e : x = y := of_decide_eq_true e; exact e ▸ hy, fun h => ⟨x, h, decide_eq_true rfl⟩⟩
          rw [ea] at k
          refine ⟨_, rfl, _, rfl, a, _, 1, _, rfl, rfl, hs, at1, _, rfl, .inr ⟨b2, ys, x, rfl, hs2, ?_⟩⟩
          exact ⟨_, rfl, k H (Stp.refl _ _)⟩
    | @many wd ds hw m =>
      obtain ⟨a, u, rfl, hs, ru⟩ := rp2 r
      rw [lev_two] at k
      cases ru with
      | tup hs2 hl rl =>
        rename_i b2 us
        have all3 : ∀ x ∈ ds.map (lev n t), In3 x := fun x mx => by
          obtain ⟨d, _, rfl⟩ := List.mem_map.mp mx
          exact lev_in n t d
        have stepd : ∀ {j : Nat} {x : V} {dd : Dt} {H3 : Hp} {Q2 : VK}, us[j]? = some x → (ds.map fun d => Dt.str (ansW (lev n t d)).cps.toList)[j]? = some dd → Stp [] H H3 → (∀ y H', Stp [] H3 H' → Rp K H' y dd → Q2 y H') →
            spAns K n [x, oV t] H3 Q2 E := fun {j x dd H3 Q2} hx hd S3 q => by
          obtain ⟨e', he, re⟩ := rl.get hx
          rw [List.getElem?_map, he] at hd
          cases hd
          refine ⟨x, e', t, rfl, re.stp S3 Lsts.nil, m e' (List.mem_of_getElem? he), dep_in dp (List.mem_of_getElem? he), ok, fun H4 S4 => q _ _ S4 (Rp.lit _ ?_)⟩
          rcases lev_in n t e' with g | g | g <;> rw [g] <;> decide +kernel
        have fin : ∀ {ws : List V} {H3 : Hp} {L : Addr}, H3 L = some (.lst ws) → RpL K H3 ws (ds.map fun d => Dt.str (ansW (lev n t d)).cps.toList) → SqL K H3 L (((ds.map (lev n t)).map ansW).map V.str) := fun {ws H3 L} h3 r3 => by
          have e : ws = ((ds.map (lev n t)).map ansW).map V.str := by
            have e1 : (ds.map fun d => Dt.str (ansW (lev n t d)).cps.toList) = (ds.map fun d => (ansW (lev n t d)).cps.toList).map Dt.str := by rw [List.map_map]; rfl
            rw [e1] at r3
            rw [rpl_strs r3, List.map_map, List.map_map, List.map_map]
            exact List.map_congr_left fun d _ => congrArg V.str (lit_tx _)
          rw [← e]
          exact SqL.of h3
        rcases hw with rfl | rfl
        · refine ⟨_, rfl, a, _, 0, _, rfl, rfl, hs, at0, ?_⟩
          refine ⟨_, rfl, rfl, _, rfl, ite2 (fun h => absurd h (nf (by decide +kernel))) (fun _ => ?_)⟩
          refine ⟨_, rfl, rfl, _, rfl, ite2 (fun h => absurd h (nf (by decide +kernel))) (fun _ => ?_)⟩
          refine ⟨_, rfl, rfl, _, rfl, ite2 (fun h => absurd h (nf (by decide +kernel))) (fun _ => ?_)⟩
          refine ⟨_, rfl, rfl, _, rfl, ite2 (fun _ => ?_) (fun h => absurd tf h)⟩
          rw [lev_and, ← set_min all3] at k
          refine ⟨_, rfl, a, _, 1, _, rfl, rfl, hs, at1, b2, rfl, ⟨_, hs2⟩, fun L nL => ?_⟩
          refine lc_mapT9 nL hs2 (by rw [List.length_map, rl.len]) (by omega) (fun j x dd H3 hx hd S3 Q2 q => ⟨rfl, _, rfl, _, rfl, stepd hx hd S3 q⟩) fun ws H3 S3 h3 r3 => ?_
          exact ⟨L, _, _, _, rfl, fin h3 r3, k H3 S3⟩
        · refine ⟨_, rfl, a, _, 0, _, rfl, rfl, hs, at0, ?_⟩
          refine ⟨_, rfl, rfl, _, rfl, ite2 (fun h => absurd h (nf (by decide +kernel))) (fun _ => ?_)⟩
          refine ⟨_, rfl, rfl, _, rfl, ite2 (fun h => absurd h (nf (by decide +kernel))) (fun _ => ?_)⟩
          refine ⟨_, rfl, rfl, _, rfl, ite2 (fun h => absurd h (nf (by decide +kernel))) (fun _ => ?_)⟩
          refine ⟨_, rfl, rfl, _, rfl, ite2 (fun h => absurd h (nf (by decide +kernel))) (fun _ => ?_)⟩
          refine ⟨_, rfl, rfl, _, rfl, ite2 (fun _ => ?_) (fun h => absurd tf h)⟩
          rw [lev_or, ← set_max all3] at k
          refine ⟨_, rfl, a, _, 1, _, rfl, rfl, hs, at1, b2, rfl, ⟨_, hs2⟩, fun L nL => ?_⟩
          refine lc_mapT9 nL hs2 (by rw [List.length_map, rl.len]) (by omega) (fun j x dd H3 hx hd S3 Q2 q => ⟨rfl, _, rfl, _, rfl, stepd hx hd S3 q⟩) fun ws H3 S3 h3 r3 => ?_
          exact ⟨L, _, _, _, rfl, fin h3 r3, k H3 S3⟩
    | tx hw ha =>
      obtain ⟨tw, na⟩ := txw_tx hw
      obtain ⟨a, u, rfl, hs, ru⟩ := rp2 r
      cases ru
      rw [lev_two] at k
      refine ⟨_, rfl, a, _, 0, _, rfl, rfl, hs, at0, ?_⟩
      refine ⟨_, rfl, rfl, _, rfl, ite2 (fun h => absurd h (nf tw.1)) (fun _ => ?_)⟩
      refine ⟨_, rfl, rfl, _, rfl, ite2 (fun h => absurd h (nf tw.2.1)) (fun _ => ?_)⟩
      refine ⟨_, rfl, rfl, _, rfl, ite2 (fun h => absurd h (nf tw.2.2.1)) (fun _ => ?_)⟩
      refine ⟨_, rfl, rfl, _, rfl, ite2 (fun h => absurd h (nf tw.2.2.2.1)) (fun _ => ?_)⟩
      refine ⟨_, rfl, rfl, _, rfl, ite2 (fun h => absurd h (nf tw.2.2.2.2)) (fun _ => ?_)⟩
      cases t with
      | none =>
        rw [lev_txn _ tw] at k
        exact ⟨_, rfl, rfl, _, rfl, ite2 (fun _ => k H (Stp.refl _ _)) (fun h => absurd rfl h)⟩
      | some x =>
        rw [lev_txs _ tw na, ← ans_b] at k
        refine ⟨_, rfl, rfl, _, rfl, ite2 (fun h => absurd h (by simp [oV])) (fun _ => ?_)⟩
        refine ⟨_, rfl, _, rfl, a, _, 1, _, rfl, rfl, hs, at1, _, rfl, .inl ⟨_, _, x, rfl, hw, ?_⟩⟩
        exact ⟨_, rfl, k H (Stp.refl _ _)⟩
/-! ### equal spans -/
theorem pr_dp {K : PySem.W.Frag} {H : Hp} {v : V} {p : Pr} (r : Rp K H v (prD p)) : Dp K H v (.tuple [.str (tx p.1), match p.2 with | none => .none | some e => .str (tx e)]) := by
  obtain ⟨a, rfl, h⟩ := rp_pr r
  refine .tup h (.cons (.str _) (.cons ?_ .nil))
  cases p.2 with
  | none => exact .non
  | some e => exact .str _
def prP (p : Pr) : PyData := .tuple [.str (tx p.1), match p.2 with | none => .none | some e => .str (tx e)]
theorem prs_dp {K : PySem.W.Frag} {H : Hp} : ∀ {vs : List V} {ps : List Pr}, RpL K H vs (ps.map prD) → DpAll K H vs (ps.map prP)
  | _, [], .nil => .nil
  | _, p :: ps, .cons r q => .cons (pr_dp r) (prs_dp q)
theorem layP {p : Pr} (h : PrS p) : PyData.canLay0 (prP p) = true := by
  obtain ⟨f, e⟩ := p
  have a := strOk_abc h.1.1
  cases e with
  | none =>
    show (PyData.canLay0 (.str (tx f)) && (PyData.canLay0 .none && true)) = true
    rw [a]
    rfl
  | some e =>
    have b := strOk_abc (h.2 e rfl).1
    show (PyData.canLay0 (.str (tx f)) && (PyData.canLay0 (.str (tx e)) && true)) = true
    rw [a, b]
    rfl
theorem layPs : ∀ {ps : List Pr}, (∀ p ∈ ps, PrS p) → PyData.canLayAll0 (ps.map prP) = true
  | [], _ => rfl
  | p :: ps, h => by
    show (PyData.canLay0 (prP p) && PyData.canLayAll0 (ps.map prP)) = true
    rw [layP (h p List.mem_cons_self), layPs fun q m => h q (List.mem_cons_of_mem _ m)]
    rfl
theorem depP (p : Pr) : PyData.depth (prP p) = 1 := by
  obtain ⟨f, e⟩ := p
  cases e <;> rfl
theorem depPs : ∀ (ps : List Pr), PyData.depthAll (ps.map prP) ≤ 1
  | [] => Nat.zero_le _
  | p :: ps => by
    show max (PyData.depth (prP p)) (PyData.depthAll (ps.map prP)) ≤ 1
    rw [depP]
    exact Nat.max_le.mpr ⟨Nat.le_refl _, depPs ps⟩
theorem shapedPs {ps : List Pr} (h : ∀ p ∈ ps, PrS p) : SeqAt.shaped (.list (ps.map prP)) = true := by
  have d := depPs ps
  unfold SeqAt.shaped
  rw [show PyData.canLay0 (.list (ps.map prP)) = true from layPs h]
  have e : PyData.depth (.list (ps.map prP)) = PyData.depthAll (ps.map prP) + 1 := rfl
  simp [e]
  omega
theorem shaped_tup {ps : List Pr} (h : ∀ p ∈ ps, PrS p) : SeqAt.shaped (.tuple (ps.map prP)) = true := by
  have d := depPs ps
  unfold SeqAt.shaped
  rw [show PyData.canLay0 (.tuple (ps.map prP)) = true from layPs h]
  have e : PyData.depth (.tuple (ps.map prP)) = PyData.depthAll (ps.map prP) + 1 := rfl
  simp [e]
  omega
theorem ne_span {K : PySem.W.Frag} {H : Hp} {a b : Addr} {ds : List Pr} {Q : VK} (sa : Spn K H a ds) (sb : Spn K H b ds) (k : Q (.bl false) H) : rNeD K (.ref a) (.ref b) H Q := by
  obtain ⟨va, ha, ra⟩ := sa.ex
  obtain ⟨vb, hb, rb⟩ := sb.ex
  have ok : ∀ p ∈ ds, PrS p := fun p m => (sa.ok.ok p m).s
  refine ⟨.tuple (ds.map prP), .tuple (ds.map prP), .tup ha (prs_dp ra), .tup hb (prs_dp rb), shaped_tup ok, shaped_tup ok, ?_⟩
  rw [SeqAt.eqv_refl _ (show PyData.canLay0 (.tuple (ds.map prP)) = true from layPs ok)]
  exact k
theorem std_stands {r : Ru} {low high : Option Txt} (W : WfB r low high) (hk : ∀ k n, r.high = some (k, n) → k < 2) {m : Int} {d1 : D} (h0 : 0 ≤ (leftI m d1).1) {a : Int} (ha : a ∈ numR r m d1 (vD low) (vD high)) {w : Txt} (aw : Abc w) :
    stdR r m d1 (vD low) (vD high) w = standsL r (leftI m d1).2 low high w := by
  have hm := num_mem.mp ha
  rw [Bool.eq_iff_iff, stands_eq W hk h0 (Int.le_trans hm.2.1 hm.2.2.1) aw]
  unfold stdR
  rw [inS_mem]
  constructor
  · rintro ⟨p, mp, h⟩
    obtain ⟨n, mn, q⟩ := List.mem_flatMap.mp mp
    exact ⟨n, mn, inS_mem.mpr ⟨p, q, h⟩⟩
  · rintro ⟨n, mn, h⟩
    obtain ⟨p, q, h⟩ := inS_mem.mp h
    exact ⟨p, List.mem_flatMap.mpr ⟨n, mn, q⟩, h⟩
/-! ### the texts of spans -/
theorem neat_tx {l : Txt} (h : Short l) : Neat (.str (tx l)) := .str (by rw [tx_len]; exact h.2) fun n m => by
  have m : n ∈ l := by simpa [tx] using m
  rcases h.1 n m with e | e | e <;> rw [e] <;> decide
theorem neat_pr {p : Pr} (h : PrS p) : Neat (prP p) := by
  obtain ⟨f, e⟩ := p
  refine .tup (.cons (neat_tx h.1) (.cons ?_ .nil))
  cases e with
  | none => exact .non
  | some e => exact neat_tx (h.2 e rfl)
theorem neat_prs : ∀ {ps : List Pr}, (∀ p ∈ ps, PrS p) → Neats (ps.map prP)
  | [], _ => .nil
  | p :: ps, h => .cons (neat_pr (h p List.mem_cons_self)) (neat_prs fun q m => h q (List.mem_cons_of_mem _ m))
theorem dW_pr (p : Pr) : dW (prP p) ≤ 812 := by
  obtain ⟨f, e⟩ := p
  cases e <;> simp [prP, dW, dWs]
theorem dW_prs : ∀ (ps : List Pr), dWs (ps.map prP) ≤ 814 * ps.length
  | [] => by simp [dWs]
  | p :: ps => by
    have a := dW_pr p
    have b := dW_prs ps
    simp only [List.map_cons, dWs, List.length_cons]
    omega
def shownP (ps : List Pr) : Str := (PyData.tuple (ps.map prP)).shown
theorem Spn.dp {K : PySem.W.Frag} {H : Hp} {a : Addr} {ps : List Pr} (h : Spn K H a ps) : Dp K H (.ref a) (.tuple (ps.map prP)) := by
  obtain ⟨vs, h1, h2⟩ := h.ex
  exact .tup h1 (prs_dp h2)
theorem spn_rep {K : PySem.W.Frag} {H : Hp} {a : Addr} {ps : List Pr} {Q : VK} (h : Spn K H a ps) (k : Q (.str (shownP ps)) H) : rNeat K [.ref a] H Q := by
  refine ⟨_, _, rfl, h.dp, .tup (neat_prs fun p m => (h.ok.ok p m).s), ?_, ?_, k⟩
  · have := depPs ps
    show PyData.depthAll _ + 1 ≤ 100
    omega
  · have := dW_prs ps
    have := h.few
    show dWs _ + 4 ≤ 10000000
    omega
/-- repr(a) != repr(b), one span -/
theorem Spn.new {K : PySem.W.Frag} {H : Hp} {t : Addr} {vs : List V} {ps : List Pr} (nt : H t = none) (r : RpL K H vs (ps.map prD)) (ok : SpOk ps) (few : ps.length ≤ 3000) : Spn K (upd H t (.tup vs)) t ps := ⟨⟨vs, SqT.of upd_same, r.stp (Stp.new nt []) Lsts.nil⟩, ok, few⟩
theorem Spn.up {K : PySem.W.Frag} {H H' : Hp} {a : Addr} {ps : List Pr} (h : Spn K H a ps) (s : Stp [] H H') : Spn K H' a ps := h.stp s Lsts.nil
theorem opps_w {ps : List Pr} (ok : SpOk ps) (w : Txt) : inS (opps [] ps) w = !inS ps w := opps_in ps [] w ok short_nil (fun _ _ => nil_le _) (nil_le _)
abbrev s_joined : Stmt := topS 25
abbrev N_joined : List Str := ["span", "other_span"]
theorem sc_joined : FnScope ["span", "other_span"] ["span", "other_span"] (defScope s_joined) := ⟨rfl, rfl, rfl, by decide +kernel, rfl, by decide +kernel, by decide +kernel⟩

abbrev s_shared : Stmt := topS 26
abbrev N_shared : List Str := ["span", "other_span"]
theorem sc_shared : FnScope ["span", "other_span"] ["span", "other_span"] (defScope s_shared) := ⟨rfl, rfl, rfl, by decide +kernel, rfl, by decide +kernel, by decide +kernel⟩

/-! ### joined, shared -/
def spJoined (K : PySem.W.Frag) : Sp := fun vs H Q _ => ∃ (a b : Addr) (ps qs : List Pr), vs = [.ref a, .ref b] ∧ Spn K H a ps ∧ Spn K H b qs ∧ ps.length + qs.length ≤ 3000 ∧ ∀ c ds H', Stp [] H H' → Spn K H' c ds → (∀ w, inS ds w = (inS ps w || inS qs w)) → Q (.ref c) H'
theorem cl_joined {f : Addr} {fd : FuncData} (D : Df K mg "joined" s_joined ["span", "other_span"] f fd) (T : Nm mg) (c_check_span : Cl P w K mg base 4 "check_span" s_check_span ["span"] (spCkSpan K)) (c_span_of : Cl P w K mg base 4 "span_of" s_span_of ["ranges"] (spSpanOf K)) :
    Cl P w K mg base 5 "joined" s_joined ["span", "other_span"] (spJoined K) := by
  refine D.cl sc_joined (fun vs H Q E h => ?_) (fun cdv A outer s H vs Q E hr h => ?_)
  · obtain ⟨a, b, ps, qs, rfl, _⟩ := h
    rfl
  · obtain ⟨a, b, ps, qs, rfl, sa, sb, few, k⟩ := h
    refine ⟨_, (pss_cons (ps_expr (pe_cl c_check_span hr (by omega) (pa_cons (pv 0) pa_nil)))
      (pss_cons (ps_expr (pe_cl c_check_span hr (by omega) (pa_cons (pv 1) pa_nil)))
      (pss_one (ps_ret (pe_cl c_span_of hr (by omega) (pa_cons (pe_lst (StX.pa_star (pv 0) (StX.pa_star (pv 1) pa_nil))) pa_nil)))))), ?_⟩
    refine ⟨_, rfl, a, ps, rfl, sa, fun H1 S1 => ?_⟩
    refine ⟨_, rfl, b, qs, rfl, sb.up S1, fun H2 S2 => ?_⟩
    have sa2 := (sa.up S1).up S2
    have sb2 := (sb.up S1).up S2
    obtain ⟨⟨xs, hx, rx⟩, okx, _⟩ := id sa2
    obtain ⟨⟨ys, hy, ry⟩, oky, _⟩ := id sb2
    refine ⟨_, rfl, a, xs, rfl, .inl hx, _, rfl, b, ys, rfl, .inl hy, ?_, fun l nl => ?_⟩
    · rw [List.append_nil, List.length_append, rx.len, ry.len, List.length_map, List.length_map]
      exact sz (by omega)
    rw [List.append_nil]
    have S3 : Stp [] H2 (upd H2 l (.lst (xs ++ ys))) := Stp.new nl _
    have r3 : RpL K (upd H2 l (.lst (xs ++ ys))) (xs ++ ys) ((ps ++ qs).map prD) := by
      rw [List.map_append]
      exact (rx.stp S3 Lsts.nil).app (ry.stp S3 Lsts.nil)
    refine ⟨l, _, ps ++ qs, rfl, upd_same, r3, fun p m => (List.mem_append.mp m).elim (okx.ok p) (oky.ok p), by rw [List.length_append]; omega, fun c ds H4 S4 sp eq => ?_⟩
    exact k c ds H4 (((S1.trans S2).trans S3).trans S4) sp fun w => by rw [eq, inS_app]
def spShared (K : PySem.W.Frag) : Sp := fun vs H Q _ => ∃ (a b : Addr) (ps qs : List Pr), vs = [.ref a, .ref b] ∧ Spn K H a ps ∧ Spn K H b qs ∧ ps.length + qs.length ≤ 2800 ∧ ∀ c ds H', Stp [] H H' → Spn K H' c ds → (∀ w, inS ds w = (inS ps w && inS qs w)) → ds.length ≤ ps.length + qs.length + 3 → Q (.ref c) H'
theorem cl_shared {f : Addr} {fd : FuncData} (D : Df K mg "shared" s_shared ["span", "other_span"] f fd) (T : Nm mg) (c_opposite : Cl P w K mg base 5 "opposite" s_opposite ["span"] (spOpp K)) (c_joined : Cl P w K mg base 5 "joined" s_joined ["span", "other_span"] (spJoined K)) :
    Cl P w K mg base 6 "shared" s_shared ["span", "other_span"] (spShared K) := by
  refine D.cl sc_shared (fun vs H Q E h => ?_) (fun cdv A outer s H vs Q E hr h => ?_)
  · obtain ⟨a, b, ps, qs, rfl, _⟩ := h
    rfl
  · obtain ⟨a, b, ps, qs, rfl, sa, sb, few, k⟩ := h
    refine ⟨_, (pss_one (ps_ret (pe_cl c_opposite hr (by omega) (pa_cons (pe_cl c_joined hr (by omega) (pa_cons (pe_cl c_opposite hr (by omega) (pa_cons (pv 0) pa_nil)) (pa_cons (pe_cl c_opposite hr (by omega) (pa_cons (pv 1) pa_nil)) pa_nil))) pa_nil)))), ?_⟩
    have l1 := opps_len ps []
    have l2 := opps_len qs []
    refine ⟨_, rfl, a, ps, rfl, sa, by omega, fun c1 H1 S1 sp1 => ?_⟩
    refine ⟨_, rfl, b, qs, rfl, sb.up S1, by omega, fun c2 H2 S2 sp2 => ?_⟩
    refine ⟨c1, c2, _, _, rfl, sp1.up S2, sp2, by omega, fun c3 ds H3 S3 sp3 eq3 => ?_⟩
    have l3 := norm_len (ps := opps [] ps ++ opps [] qs) sp3.ok fun w => by rw [eq3, inS_app]
    rw [List.length_append] at l3
    refine ⟨c3, ds, rfl, sp3, by omega, fun c4 H4 S4 sp4 => ?_⟩
    refine k c4 _ H4 (((S1.trans S2).trans S3).trans S4) sp4 (fun w => ?_) (by have := opps_len ds []; omega)
    rw [opps_w sp3.ok, eq3, opps_w sa.ok, opps_w sb.ok]
    cases inS ps w <;> cases inS qs w <;> rfl
/-! ### the program's own -/
def Lng (l : Txt) : Prop := Abc l ∧ l.length ≤ 1000
theorem Short.lng {l : Txt} (h : Short l) : Lng l := ⟨h.1, by have := h.2; omega⟩
def spCkTextL : Sp := fun vs H Q _ => ∃ l : Txt, vs = [Tx l] ∧ Lng l ∧ Q .non H
theorem cl_check_textF {f : Addr} {fd : FuncData} (D : Df K mg "check_text" s_check_text ["text"] f fd) (T : Nm mg) (c_is_text : Cl P w K mg base 1 "is_text" s_is_text ["value"] (spIsText K)) : Cl P w K mg base 2 "check_text" s_check_text ["text"] spCkTextL := by
  refine D.cl sc_check_text (fun vs H Q E h => ?_) (fun cdv A outer s H vs Q E hr h => ?_)
  · obtain ⟨l, rfl, _⟩ := h
    rfl
  · obtain ⟨l, rfl, ⟨al, ll⟩, k⟩ := h
    refine ⟨_, (pss_one (ps_if (pt_not (pt_val (pe_cl c_is_text hr (by omega) (pa_cons (pv 0) pa_nil)))) (pss_one ps_never) pss_nil)), ?_⟩
    refine ⟨_, rfl, Tx l, .str l, rfl, .str l (by omega), fun b hb => ?_⟩
    obtain rfl : b = true := hb.mpr ⟨l, rfl, al⟩
    exact ⟨_, rfl, k⟩
def spBehind : Sp := fun vs H Q _ => ∃ l : Txt, vs = [Tx l] ∧ Lng l ∧ Q (Tx (l ++ [97])) H
theorem cl_behindF {f : Addr} {fd : FuncData} (D : Df K mg "behind" s_behind ["text"] f fd) (T : Nm mg) (c_check_text : Cl P w K mg base 2 "check_text" s_check_text ["text"] spCkTextL) : Cl P w K mg base 3 "behind" s_behind ["text"] spBehind := by
  refine D.cl sc_behind (fun vs H Q E h => ?_) (fun cdv A outer s H vs Q E hr h => ?_)
  · obtain ⟨l, rfl, _⟩ := h
    rfl
  · obtain ⟨l, rfl, sl, k⟩ := h
    refine ⟨_, (pss_cons (ps_expr (pe_cl c_check_text hr (by omega) (pa_cons (pv 0) pa_nil)))
      (pss_one (ps_ret (pe_op op_add_str (pv 0) pe_str)))), ?_⟩
    refine ⟨_, rfl, l, rfl, sl, _, rfl, tx l, tx [97], rfl, congrArg V.str a_lit, (by rw [tx_len, tx_len]; exact sz (by have := sl.2; simp; omega)), ?_⟩
    rw [tx_app]
    exact k
def spBeyX : Sp := fun vs H Q _ => ∃ l : Txt, vs = [Tx l] ∧ Lng l ∧ Q (oV (beyR l)) H
theorem cl_beyondF {f : Addr} {fd : FuncData} (D : Df K mg "beyond" s_beyond ["text"] f fd) (T : Nm mg) (TG : Ng K w mg) (c_check_text : Cl P w K mg base 2 "check_text" s_check_text ["text"] spCkTextL) : Cl P w K mg base 3 "beyond" s_beyond ["text"] spBeyX := by
  refine D.cl sc_beyond (fun vs H Q E h => ?_) (fun cdv A outer s H vs Q E hr h => ?_)
  · obtain ⟨l, rfl, _⟩ := h
    rfl
  · obtain ⟨l, rfl, sl, k⟩ := h
    obtain ⟨al, ll⟩ := id sl
    refine ⟨_, (pss_cons (ps_expr (pe_cl c_check_text hr (by omega) (pa_cons (pv 0) pa_nil)))
      (pss_cons (ps_set (i := 1) sc_beyond.nd rfl (by first | exact Or.inl rfl | exact Or.inr rfl) (pe_bm PySem.F.plainAttrs_str PySem.F.slot_str_rstrip PySem.F.type_str_rstrip mt_rstripChars (pv 0) (pa_cons pe_str pa_nil)))
      (pss_one (ps_ret (pe_ifExp (pt_truth (pv 1) (by intro _; rfl)) (pe_op op_add_str (pe_slice sl_str (pv 1) po_none (po_some (pe_un un_neg pe_int))) (pe_ix ix_kdict (pe_glob (v := .ref TG.NEXT_LETTERS) rfl TG.g_NEXT_LETTERS rfl) (pe_ix ix_str (pv 1) (pe_un un_neg pe_int) (fun _ _ => rfl)) (fun _ _ => rfl))) pe_non))))), ?_⟩
    rw [← bey_eq _ l (Nat.le_refl _) al] at k
    refine ⟨_, rfl, l, rfl, sl, ?_⟩
    refine ⟨_, rfl, rfl, tx l, ("c" : Str), rfl, rfl, szt (by omega), ?_⟩
    rw [c_lit9, rstrip_c]
    have lo := cOff_len l
    have ao := abc_cOff al
    refine ⟨_, rfl, _, ⟨szt (by omega), rfl⟩, ite2 (fun h => ?_) (fun h => ?_)⟩
    · have ne : cOff l ≠ [] := fun e => by
        rw [e] at h
        exact absurd h (by decide)
      obtain ⟨i, c, hc, nc⟩ := cOff_last ne
      rw [bey_some hc] at k
      rw [hc] at lo ao
      rw [List.length_append, List.length_singleton] at lo
      have hcc : c = 97 ∨ c = 98 := by
        rcases ao c (by simp) with q | q | q
        · exact .inl q
        · exact .inr q
        · exact absurd q nc
      rw [hc]
      refine ⟨_, rfl, 1, rfl, -1, rfl, tx (i ++ [c]), rfl, szt (by simp; omega), ?_⟩
      rw [show cutS (tx (i ++ [c])) none (some (-1)) = _ from tx_init _, List.dropLast_concat]
      refine ⟨_, rfl, 1, rfl, tx (i ++ [c]), -1, c, rfl, rfl, szt (by simp; omega), atI_last i c, ?_⟩
      rcases hcc with rfl | rfl
      · refine ⟨_, tx [97], _, rfl, rfl, TG.na, tx i, tx [98], rfl, congrArg V.str b_lit, (by rw [tx_len, tx_len]; exact sz (by simp; omega)), ?_⟩
        rw [tx_app]
        exact k
      · refine ⟨_, tx [98], _, rfl, rfl, TG.nb, tx i, tx [99], rfl, congrArg V.str c_lit9, (by rw [tx_len, tx_len]; exact sz (by simp; omega)), ?_⟩
        rw [tx_app]
        exact k
    · have e : cOff l = [] := by
        cases hc : cOff l with
        | nil => rfl
        | cons x t =>
          rw [hc, tx_len] at h
          exact absurd (by simp; omega) h
      rw [bey_none e] at k
      exact k

abbrev s_joined_all : Stmt := topS 39
abbrev N_joined_all : List Str := ["spans", "span", "part"]
theorem sc_joined_all : FnScope ["spans", "span", "part"] ["spans"] (defScope s_joined_all) := ⟨rfl, rfl, rfl, by decide +kernel, rfl, by decide +kernel, by decide +kernel⟩

abbrev s_matching_texts : Stmt := topS 40
abbrev N_matching_texts : List Str := ["word", "wanted"]
theorem sc_matching_texts : FnScope ["word", "wanted"] ["word", "wanted"] (defScope s_matching_texts) := ⟨rfl, rfl, rfl, by decide +kernel, rfl, by decide +kernel, by decide +kernel⟩

/-! ### the spans of the filters -/
theorem spn_one {H : Hp} {t t2 : Addr} {p : Pr} (nt2 : (upd H t (.tup [Tx p.1, oV p.2])) t2 = none) (ok : PrOk p) : Spn K (upd (upd H t (.tup [Tx p.1, oV p.2])) t2 (.tup [.ref t])) t2 [p] := by
  have ne : t ≠ t2 := ne_of_none upd_same nt2
  refine ⟨⟨[.ref t], SqT.of upd_same, .cons (pr_rp (SqT.of ?_) ok.1.2 fun e q => (ok.2 e q).1.2) .nil⟩, ⟨fun q m => by rw [List.mem_singleton.mp m]; exact ok, List.pairwise_singleton _ _⟩, by simp⟩
  rw [upd_ne ne]
  exact upd_same
theorem inS_one (p : Pr) (w : Txt) : inS [p] w = inP w p := by
  rw [inS_cons]
  exact Bool.or_false _
theorem spn_nil {H : Hp} {t : Addr} (nt : H t = none) : Spn K (upd H t (.tup [])) t [] := ⟨⟨[], SqT.of upd_same, .nil⟩, SpOk.nil, by simp⟩
def spMatch (K : PySem.W.Frag) : Sp := fun vs H Q _ => ∃ (wd : Str) (y : Txt), vs = [.str wd, Tx y] ∧ (wd = "is" ∨ wd = "below" ∨ wd = "above" ∨ wd = "begins") ∧ Abc y ∧ y.length ≤ 30 ∧
  ∀ b ds H', Stp [] H H' → Spn K H' b ds → (∀ w, Abc w → inS ds w = fits wd y w) → ds.length ≤ 1 → Q (.ref b) H'
theorem cl_matching_texts {f : Addr} {fd : FuncData} (D : Df K mg "matching_texts" s_matching_texts ["word", "wanted"] f fd) (T : Nm mg) (c_behind : Cl P w K mg base 3 "behind" s_behind ["text"] spBehind) (c_beyond : Cl P w K mg base 3 "beyond" s_beyond ["text"] spBeyX) : Cl P w K mg base 4 "matching_texts" s_matching_texts ["word", "wanted"] (spMatch K) := by
  refine D.cl sc_matching_texts (fun vs H Q E h => ?_) (fun cdv A outer s H vs Q E hr h => ?_)
  · obtain ⟨wd, y, rfl, _⟩ := h
    rfl
  · obtain ⟨wd, y, rfl, hw, ay, ly, k⟩ := h
    have ne : ∀ {a b : Str}, ¬ decide (V.str a = V.str b) = true → a ≠ b := fun h n => h (decide_eq_true (congrArg V.str n))
    have lng : Lng y := ⟨ay, by omega⟩
    have sy : Short y := ⟨ay, by omega⟩
    have sa : Short (y ++ [97]) := ⟨ay.app (Abc.one (.inl rfl)), by rw [List.length_append, List.length_singleton]; omega⟩
    have len2 : (2 : Nat) ≤ sizeLine := by decide
    have len1 : (1 : Nat) ≤ sizeLine := by decide
    have lts : y < y ++ [97] := by
      by_cases c : y < y ++ [97]
      · exact c
      · exact absurd ((snoc_le y y ay).mp (le_of_nlt c)) (List.lt_irrefl _)
    refine ⟨_, (pss_cons (ps_if (pt_cmpR op_eq (pv 0) pe_str (by first | exact nomark _ | rfl)) (pss_one (ps_ret (pe_tup (pa_cons (pe_tup (pa_cons (pv 1) (pa_cons (pe_cl c_behind hr (by omega) (pa_cons (pv 1) pa_nil)) pa_nil))) pa_nil)))) pss_nil)
      (pss_cons (ps_if (pt_cmpR op_eq (pv 0) pe_str (by first | exact nomark _ | rfl)) (pss_one (ps_ret (pe_tup (pa_cons (pe_tup (pa_cons (pe_cl c_behind hr (by omega) (pa_cons (pv 1) pa_nil)) (pa_cons pe_non pa_nil))) pa_nil)))) pss_nil)
      (pss_cons (ps_if (pt_cmpR op_eq (pv 0) pe_str (by first | exact nomark _ | rfl)) (pss_one (ps_ret (pe_tup (pa_cons (pe_tup (pa_cons (pv 1) (pa_cons (pe_cl c_beyond hr (by omega) (pa_cons (pv 1) pa_nil)) pa_nil))) pa_nil)))) pss_nil)
      (pss_one (ps_ret (pe_ifExp (pt_truth (pv 1) (by intro _; rfl)) (pe_tup (pa_cons (pe_tup (pa_cons pe_str (pa_cons (pv 1) pa_nil))) pa_nil)) (pe_tup pa_nil))))))), ?_⟩
    refine ⟨_, rfl, rfl, _, rfl, ite2 (fun h => ?_) (fun h => ?_)⟩
    · have e : wd = "is" := V.str.inj (of_decide_eq_true h)
      subst e
      refine ⟨_, rfl, _, rfl, y, rfl, lng, len2, fun t nt => ⟨len1, fun t2 nt2 => ?_⟩⟩
      refine k t2 [(y, some (y ++ [97]))] _ ((Stp.new nt []).new' nt2) (spn_one (p := (y, some (y ++ [97]))) nt2 ⟨sy, fun e q => by cases q; exact ⟨sa, lts⟩⟩) (fun w aw => ?_) (Nat.le_refl _)
      rw [inS_one, in_is aw]
      rfl
    refine ⟨_, rfl, rfl, _, rfl, ite2 (fun h2 => ?_) (fun h2 => ?_)⟩
    · have e : wd = "above" := V.str.inj (of_decide_eq_true h2)
      subst e
      refine ⟨_, rfl, y, rfl, lng, len2, fun t nt => ⟨len1, fun t2 nt2 => ?_⟩⟩
      refine k t2 [(y ++ [97], none)] _ ((Stp.new nt []).new' nt2) (spn_one (p := (y ++ [97], none)) nt2 ⟨sa, fun e q => by cases q⟩) (fun w aw => ?_) (Nat.le_refl _)
      rw [inS_one, in_above aw]
      rfl
    refine ⟨_, rfl, rfl, _, rfl, ite2 (fun h3 => ?_) (fun h3 => ?_)⟩
    · have e : wd = "begins" := V.str.inj (of_decide_eq_true h3)
      subst e
      refine ⟨_, rfl, _, rfl, y, rfl, lng, len2, fun t nt => ⟨len1, fun t2 nt2 => ?_⟩⟩
      refine k t2 [(y, beyR y)] _ ((Stp.new nt []).new' nt2) (spn_one (p := (y, beyR y)) nt2 ⟨sy, fun e q => ?_⟩) (fun w aw => ?_) (Nat.le_refl _)
      · obtain ⟨h1, h2, h3⟩ := beyR_ok ay q
        exact ⟨⟨h1, by omega⟩, h3⟩
      · rw [inS_one, in_begins y w ay aw]
        rfl
    have e : wd = "below" := by
      rcases hw with e | e | e | e
      · exact absurd e (ne h)
      · exact e
      · exact absurd e (ne h2)
      · exact absurd e (ne h3)
    subst e
    refine ⟨_, rfl, _, ⟨szt (by omega), rfl⟩, ite2 (fun h4 => ?_) (fun h4 => ?_)⟩
    · have y0 : y ≠ [] := fun e => by
        rw [e] at h4
        exact absurd h4 (by decide)
      have nl : ([] : Txt) < y := by
        cases y with
        | nil => exact absurd rfl y0
        | cons c y => exact List.nil_lt_cons c y
      refine ⟨_, rfl, len2, fun t nt => ⟨len1, fun t2 nt2 => ?_⟩⟩
      have e0 : V.str "" = Tx [] := congrArg V.str nil_lit
      rw [e0] at nt2 ⊢
      refine k t2 [([], some y)] _ ((Stp.new nt []).new' nt2) (spn_one (p := ([], some y)) nt2 ⟨short_nil, fun e q => by cases q; exact ⟨sy, nl⟩⟩) (fun w aw => ?_) (Nat.le_refl _)
      rw [inS_one, Bool.eq_iff_iff, inP_iff]
      show _ ↔ decide (w < y) = true
      rw [decide_eq_true_iff]
      exact ⟨fun h => h.2 y rfl, fun h => ⟨nil_le _, fun e q => by cases q; exact h⟩⟩
    · have y0 : y = [] := by
        cases y with
        | nil => rfl
        | cons c y =>
          rw [tx_len] at h4
          exact absurd (by simp; omega) h4
      subst y0
      refine ⟨Nat.zero_le _, fun t nt => ?_⟩
      refine k t [] _ (Stp.new nt []) (spn_nil nt) (fun w aw => ?_) (Nat.zero_le _)
      show false = decide (w < [])
      rw [decide_eq_false fun h => by cases h]
def spD (ps : List Pr) : Dt := .tup (ps.map prD)
theorem Spn.rp {H : Hp} {a : Addr} {ps : List Pr} (h : Spn K H a ps) : Rp K H (.ref a) (spD ps) := by
  obtain ⟨vs, h1, h2⟩ := h.ex
  refine .tup h1 ?_ h2
  have := h2.len
  rw [List.length_map] at this
  have := h.few
  omega
theorem rp_spn {H : Hp} {v : V} {ps : List Pr} (r : Rp K H v (spD ps)) (ok : SpOk ps) (few : ps.length ≤ 3000) : ∃ a, v = .ref a ∧ Spn K H a ps := by
  cases r with
  | tup h _ rl => exact ⟨_, rfl, ⟨⟨_, h, rl⟩, ok, few⟩⟩
def spJAll (K : PySem.W.Frag) : Sp := fun vs H Q _ => ∃ (L : Addr) (xs : List V) (pss : List (List Pr)), vs = [.ref L] ∧ SqL K H L xs ∧ RpL K H xs (pss.map spD) ∧ (∀ ps ∈ pss, ∀ p ∈ ps, PrOk p) ∧ pss.flatten.length ≤ 3000 ∧
  ∀ c ds H', Stp [] H H' → Spn K H' c ds → (∀ w, inS ds w = pss.any fun ps => inS ps w) → ds.length ≤ pss.flatten.length → Q (.ref c) H'
theorem inS_flat (w : Txt) : ∀ (pss : List (List Pr)), inS pss.flatten w = pss.any fun ps => inS ps w
  | [] => rfl
  | ps :: pss => by
    rw [List.flatten_cons, inS_app, List.any_cons, inS_flat w pss]
theorem cl_joined_all {f : Addr} {fd : FuncData} (D : Df K mg "joined_all" s_joined_all ["spans"] f fd) (T : Nm mg) (c_span_of : Cl P w K mg base 4 "span_of" s_span_of ["ranges"] (spSpanOf K)) : Cl P w K mg base 5 "joined_all" s_joined_all ["spans"] (spJAll K) := by
  refine D.cl sc_joined_all (fun vs H Q E h => ?_) (fun cdv A outer s H vs Q E hr h => ?_)
  · obtain ⟨L, xs, pss, rfl, _⟩ := h
    rfl
  · obtain ⟨L, xs, pss, rfl, hs, rl, ok, few, k⟩ := h
    refine ⟨_, (pss_one (ps_ret (pe_cl c_span_of hr (by omega) (pa_cons (pe_lc2 (own := [("span", 1), ("part", 2)]) (vs1 := [2]) rfl sc_joined_all.nd (pi_list (pv 0)) (blkOk_by (own := [("span", 1), ("part", 2)]) (N := N_joined_all) (sc := defScope s_joined_all) (by decide +kernel)) (by decide) (fun _ _ _ _ _ => (pg_name (i := 1) sc_joined_all.nd rfl (by first | exact Or.inl rfl | exact Or.inr rfl))) (fun _ _ _ _ _ => pts_nil) (fun _ _ _ _ _ => (pi_tupK (K := K) (tl := L2.tVar 1) rfl (pv 1))) (fun _ _ _ _ _ => (pg_name (i := 2) sc_joined_all.nd rfl (by first | exact Or.inl rfl | exact Or.inr rfl))) (fun _ _ _ _ _ => pts_nil) (fun _ _ _ _ _ => (pv 2))) pa_nil)))), ?_⟩
    have nn : ∀ {x : Addr}, x ∉ ([] : List Addr) := fun m => nomatch m
    have lx : xs.length = pss.length := by rw [rl.len, List.length_map]
    have flen : ∀ i, ((pss.take i).flatten).length ≤ pss.flatten.length := fun i => by
      conv => rhs; rw [← List.take_append_drop i pss]
      rw [List.flatten_append, List.length_append]
      omega
    have big : (5000 : Nat) < sizeLine := by decide
    refine ⟨_, rfl, L, rfl, ⟨_, hs⟩, fun D nD => ?_⟩
    refine ⟨fun i m H1 => m = xs.length - i ∧ i ≤ xs.length ∧ ∃ ws, H1 D = some (.lst ws) ∧ RpL K H1 ws ((pss.take i).flatten.map prD) ∧ Stp [] H H1, ⟨xs.length, by simp, Nat.zero_le _, [], upd_same, .nil, Stp.new nD _⟩, ?_⟩
    rintro i m H1 ⟨rfl, hi, ws, hD, rw1, S⟩
    by_cases hlt : i < xs.length
    · refine .inr ⟨⟨xs, xs[i], sql_up S hs, by simp [hlt]⟩, fun H' => i + 1 ≤ xs.length ∧ ∃ ws, H' D = some (.lst ws) ∧ RpL K H' ws ((pss.take (i + 1)).flatten.map prD) ∧ Stp [] H H', fun H' p' => ⟨xs.length - (i + 1), by omega, rfl, p'.1, p'.2⟩, fun x H' y => ?_⟩
      obtain ⟨e, y⟩ := y
      subst e
      have hx := y xs (sql_up S hs)
      obtain ⟨d, hd, rd⟩ := rl.get hx
      rw [List.getElem?_map] at hd
      obtain ⟨ps, hps⟩ : ∃ ps, pss[i]? = some ps := ⟨pss[i]'(by omega), List.getElem?_eq_getElem _⟩
      rw [hps] at hd
      cases hd
      have tk : (pss.take (i + 1)).flatten = (pss.take i).flatten ++ ps := by
        rw [List.take_add_one, hps, List.flatten_append]
        simp
      have fl1 := flen (i + 1)
      rw [tk, List.length_append] at fl1
      cases rd with
      | tup hb hn rb =>
        rename_i b ys
        have ly : ys.length = ps.length := by rw [rb.len, List.length_map]
        refine ⟨rfl, _, rfl, b, rfl, ⟨_, sqt_stp S Lsts.nil hb⟩, ?_⟩
        refine ⟨fun j k H2 => k = ys.length - j ∧ j ≤ ys.length ∧ ∃ ws, H2 D = some (.lst ws) ∧ RpL K H2 ws ((pss.take i).flatten.map prD ++ (ps.take j).map prD) ∧ Stp [] H H2, ⟨ys.length, by simp, Nat.zero_le _, ws, hD, ?_, S⟩, ?_⟩
        · rw [List.take_zero, List.map_nil, List.append_nil]
          exact rw1
        rintro j k2 H2 ⟨rfl, hj, ws2, hD2, rw2, S2⟩
        by_cases hlj : j < ys.length
        · refine .inr ⟨⟨ys, ys[j], sqt_stp S2 Lsts.nil hb, by simp [hlj]⟩, fun H' => j + 1 ≤ ys.length ∧ ∃ ws, H' D = some (.lst ws) ∧ RpL K H' ws ((pss.take i).flatten.map prD ++ (ps.take (j + 1)).map prD) ∧ Stp [] H H', fun H' p' => ⟨ys.length - (j + 1), by omega, rfl, p'.1, p'.2⟩, fun x1 H' y1 => ?_⟩
          obtain ⟨e, y1⟩ := y1
          subst e
          have hx1 := y1 ys (sqt_stp S2 Lsts.nil hb)
          obtain ⟨d1, hd1, rd1⟩ := rb.get hx1
          rw [List.getElem?_map] at hd1
          obtain ⟨p, hp⟩ : ∃ p, ps[j]? = some p := ⟨ps[j]'(by omega), List.getElem?_eq_getElem _⟩
          rw [hp] at hd1
          cases hd1
          have lw : ws2.length < sizeLine := by
            rw [rw2.len, List.length_append, List.length_map, List.length_map, List.length_take]
            omega
          have s4 : Stp [D] H' (upd H' D (.lst (ws2 ++ [x1]))) := Stp.put (by simp)
          refine ⟨rfl, _, rfl, ws2, hD2, lw, hlj, ws2 ++ [x1], upd_same, ?_, S2.mut nD⟩
          rw [List.take_add_one, hp, List.map_append, ← List.append_assoc]
          exact (rw2.stp s4 (.one hD2)).app (.cons ((rd1.stp S2 Lsts.nil).stp s4 (.one hD2)) .nil)
        · have ej : j = ys.length := by omega
          subst ej
          refine .inl ⟨⟨ys, sqt_stp S2 Lsts.nil hb, Nat.le_refl _⟩, hlt, ws2, hD2, ?_, S2⟩
          rw [tk, List.map_append]
          rw [ly, List.take_length] at rw2
          exact rw2
    · have ei : i = xs.length := by omega
      subst ei
      refine .inl ⟨⟨xs, sql_up S hs, Nat.le_refl _⟩, ?_⟩
      rw [lx, List.take_length] at rw1
      refine ⟨D, ws, pss.flatten, rfl, hD, rw1, fun p m => ?_, few, fun c ds H3 S3 sp eq => ?_⟩
      · obtain ⟨ps, mps, mp⟩ := List.mem_flatten.mp m
        exact ok ps mps p mp
      · exact k c ds H3 (S.trans S3) sp (fun w => by rw [eq, inS_flat]) (norm_len sp.ok eq)
/-! ### what texts answer: yes or no -/
def yesB (n : Nat) (d : Dt) (w : Txt) : Bool := decide (lev n (some w) d = 2)
def In02 (i : Int) : Prop := i = 0 ∨ i = 2
theorem in02_b (b : Bool) : In02 (bLev b) := by cases b <;> simp [bLev, In02]
theorem in02_fmin {ns : List Int} (h : ∀ x ∈ ns, In02 x) : In02 (foldMin ns 2) := by
  cases ns with
  | nil => exact .inr rfl
  | cons n r =>
    rcases (fold_min r n).1 with e | e
    · show In02 (r.foldl min n)
      rw [e]
      exact h n List.mem_cons_self
    · exact h _ (List.mem_cons_of_mem _ e)
theorem in02_fmax {ns : List Int} (h : ∀ x ∈ ns, In02 x) : In02 (foldMax ns 0) := by
  cases ns with
  | nil => exact .inl rfl
  | cons n r =>
    rcases (fold_max r n).1 with e | e
    · show In02 (r.foldl max n)
      rw [e]
      exact h n List.mem_cons_self
    · exact h _ (List.mem_cons_of_mem _ e)
theorem levW_02 {f : Dt → Int} (hf : ∀ d, In02 (f d)) (x w : Str) (y : Txt) (p : Dt) : In02 (levW f (some y) w p) := by
  have hs : ∀ ds : List Dt, ∀ x ∈ ds.map f, In02 x := fun ds x m => by
    obtain ⟨d, _, rfl⟩ := List.mem_map.mp m
    exact hf d
  unfold levW
  repeat' split
  all_goals first | exact .inl rfl | exact in02_b _ | exact (by have := hf p; unfold In02 at *; omega) | exact in02_fmin (hs _) | exact in02_fmax (hs _) | contradiction
theorem lev_02 : ∀ (n : Nat) (y : Txt) (d : Dt), In02 (lev n (some y) d)
  | 0, _, _ => .inl rfl
  | n + 1, y, d => by
    show In02 (levS (lev n (some y)) (some y) d)
    unfold levS
    repeat' split
    all_goals first | exact .inl rfl | exact in02_b _ | exact levW_02 (lev_02 n y) "" _ _ _
theorem lev_yes (n : Nat) (y : Txt) (d : Dt) : lev n (some y) d = bLev (yesB n d y) := by
  unfold yesB
  rcases lev_02 n y d with h | h <;> rw [h] <;> decide
theorem bLev_two (b : Bool) : decide (bLev b = 2) = b := by cases b <;> decide
theorem bLev_not (b : Bool) : 2 - bLev b = bLev (!b) := by cases b <;> decide
theorem min_bl (a b : Bool) : min (bLev a) (bLev b) = bLev (a && b) := by cases a <;> cases b <;> decide
theorem max_bl (a b : Bool) : max (bLev a) (bLev b) = bLev (a || b) := by cases a <;> cases b <;> decide
theorem foldl_min_bl : ∀ (bs : List Bool) (b : Bool), (bs.map bLev).foldl min (bLev b) = bLev (b && bs.all id)
  | [], b => by simp
  | c :: bs, b => by
    rw [List.map_cons, List.foldl_cons, min_bl, foldl_min_bl bs, List.all_cons, Bool.and_assoc]
    rfl
theorem foldl_max_bl : ∀ (bs : List Bool) (b : Bool), (bs.map bLev).foldl max (bLev b) = bLev (b || bs.any id)
  | [], b => by simp
  | c :: bs, b => by
    rw [List.map_cons, List.foldl_cons, max_bl, foldl_max_bl bs, List.any_cons, Bool.or_assoc]
    rfl
theorem foldMin_bl (bs : List Bool) : foldMin (bs.map bLev) 2 = bLev (bs.all id) := by
  cases bs with
  | nil => rfl
  | cons b bs => exact foldl_min_bl bs b
theorem foldMax_bl (bs : List Bool) : foldMax (bs.map bLev) 0 = bLev (bs.any id) := by
  cases bs with
  | nil => rfl
  | cons b bs => exact foldl_max_bl bs b
theorem yes_none (n : Nat) (w : Txt) : yesB (n + 1) (.tup [.str ("none" : Str).cps.toList]) w = false := by
  show decide (bLev (decide (some w = none)) = 2) = false
  rw [bLev_two]
  exact decide_eq_false fun h => nomatch h
theorem yes_say (n : Nat) (b : Bool) (w : Txt) : yesB (n + 1) (.tup [.str ("say" : Str).cps.toList, .bl b]) w = b := by
  unfold yesB
  rw [lev_two, lev_say, bLev_two]
theorem yes_not (n : Nat) (d : Dt) (w : Txt) : yesB (n + 1) (.tup [.str ("not" : Str).cps.toList, d]) w = !yesB n d w := by
  rw [show yesB (n + 1) (.tup [.str ("not" : Str).cps.toList, d]) w = decide (lev (n + 1) (some w) (.tup [.str ("not" : Str).cps.toList, d]) = 2) from rfl]
  rw [lev_two, lev_not, lev_yes, bLev_not, bLev_two]
theorem yes_and (n : Nat) (ds : List Dt) (w : Txt) : yesB (n + 1) (.tup [.str ("and" : Str).cps.toList, .tup ds]) w = ds.all fun d => yesB n d w := by
  rw [show yesB (n + 1) (.tup [.str ("and" : Str).cps.toList, .tup ds]) w = decide (lev (n + 1) (some w) (.tup [.str ("and" : Str).cps.toList, .tup ds]) = 2) from rfl]
  rw [lev_two, lev_and, show ds.map (lev n (some w)) = (ds.map fun d => yesB n d w).map bLev by rw [List.map_map]; exact List.map_congr_left fun d _ => lev_yes n w d, foldMin_bl, bLev_two, List.all_map]
  rfl
theorem yes_or (n : Nat) (ds : List Dt) (w : Txt) : yesB (n + 1) (.tup [.str ("or" : Str).cps.toList, .tup ds]) w = ds.any fun d => yesB n d w := by
  rw [show yesB (n + 1) (.tup [.str ("or" : Str).cps.toList, .tup ds]) w = decide (lev (n + 1) (some w) (.tup [.str ("or" : Str).cps.toList, .tup ds]) = 2) from rfl]
  rw [lev_two, lev_or, show ds.map (lev n (some w)) = (ds.map fun d => yesB n d w).map bLev by rw [List.map_map]; exact List.map_congr_left fun d _ => lev_yes n w d, foldMax_bl, bLev_two, List.any_map]
  rfl
theorem yes_among (n : Nat) (ys : List Txt) (w : Txt) : yesB (n + 1) (.tup [.str ("among" : Str).cps.toList, .tup (ys.map Dt.str)]) w = decide (w ∈ ys) := by
  unfold yesB
  rw [lev_two, lev_among, bLev_two, List.any_map, Bool.eq_iff_iff, List.any_eq_true, decide_eq_true_iff]
  exact ⟨fun ⟨y, hy, e⟩ => by have e : w = y := of_decide_eq_true e; exact e ▸ hy, fun h => ⟨w, h, decide_eq_true rfl⟩⟩
theorem yes_tx (n : Nat) {wd : Str} (hw : wd = "is" ∨ wd = "below" ∨ wd = "above" ∨ wd = "begins") (y w : Txt) : yesB (n + 1) (.tup [.str wd.cps.toList, .str y]) w = fits wd y w := by
  unfold yesB
  obtain ⟨tw, na⟩ := txw_tx hw
  rw [lev_two, lev_txs _ tw na, bLev_two]
/-! ### how much a filter is; its texts are short -/
mutual
def wtD : Dt → Nat
  | .tup ds => wtL ds + 2
  | _ => 1
def wtL : List Dt → Nat
  | [] => 0
  | d :: ds => wtD d + wtL ds
end
mutual
def tshD (m : Nat) : Dt → Prop
  | .str l => l.length ≤ m
  | .tup ds => tshL m ds
  | _ => True
def tshL (m : Nat) : List Dt → Prop
  | [] => True
  | d :: ds => tshD m d ∧ tshL m ds
end
theorem tsh_mem {m : Nat} : ∀ {ds : List Dt} {d : Dt}, tshL m ds → d ∈ ds → tshD m d
  | [], _, _, m => nomatch m
  | e :: ds, d, h, m => by
    rcases List.mem_cons.mp m with rfl | m
    · exact h.1
    · exact tsh_mem h.2 m
theorem tshL_of {m : Nat} : ∀ {ds : List Dt}, (∀ d ∈ ds, tshD m d) → tshL m ds
  | [], _ => trivial
  | d :: ds, h => ⟨h d List.mem_cons_self, tshL_of fun e m => h e (List.mem_cons_of_mem _ m)⟩
mutual
theorem tsh_mono {m k : Nat} (h : m ≤ k) : ∀ (d : Dt), tshD m d → tshD k d
  | .str l, g => Nat.le_trans g h
  | .tup ds, g => tshL_mono h ds g
  | .non, _ => trivial
  | .bl _, _ => trivial
  | .int _, _ => trivial
  | .lst, _ => trivial
  | .obj, _ => trivial
theorem tshL_mono {m k : Nat} (h : m ≤ k) : ∀ (ds : List Dt), tshL m ds → tshL k ds
  | [], _ => trivial
  | d :: ds, g => ⟨tsh_mono h d g.1, tshL_mono h ds g.2⟩
end
theorem wt_mem : ∀ {ds : List Dt} {d : Dt}, d ∈ ds → wtD d ≤ wtL ds
  | [], _, m => nomatch m
  | e :: ds, d, m => by
    show wtD d ≤ wtD e + wtL ds
    rcases List.mem_cons.mp m with rfl | m
    · exact Nat.le_add_right _ _
    · exact Nat.le_trans (wt_mem m) (Nat.le_add_left _ _)
theorem wt_two (a p : Dt) : wtD (.tup [a, p]) = wtD a + wtD p + 2 := rfl
theorem wt_strs : ∀ (ys : List Txt), wtL (ys.map Dt.str) = ys.length
  | [] => rfl
  | y :: ys => by
    show 1 + wtL (ys.map Dt.str) = ys.length + 1
    rw [wt_strs ys, Nat.add_comm]
abbrev s_passing_texts : Stmt := topS 38
abbrev N_passing_texts : List Str := ["query", "word", "part", "text"]
theorem sc_passing_texts : FnScope ["query", "word", "part", "text"] ["query"] (defScope s_passing_texts) := ⟨rfl, rfl, rfl, by decide +kernel, rfl, by decide +kernel, by decide +kernel⟩

/-! ### passing_texts -/
theorem lc_spnT {a : Addr} {xs : List V} {g : TG} {te : TE} {vs : List Nat} {σ : L2.St} {H1 : Hp} {D : Addr} {Qd : Hp → Prop} (G : Nat → List Pr → Prop) (nD : H1 D = none) (hs : SqT K H1 a xs) (hz : xs.length ≤ 100000)
    (step : ∀ (i : Nat) x H, xs[i]? = some x → Stp [] H1 H → ∀ Q : VK, (∀ y ps H', Stp [] H H' → Rp K H' y (spD ps) → G i ps → Q y H') → g x (wipe σ vs) H fun σ2 H2 => wipe σ2 vs = wipe σ vs ∧ te σ2 H2 Q)
    (hd : ∀ ws (pss : List (List Pr)) H, Stp [] H1 H → H D = some (.lst ws) → RpL K H ws (pss.map spD) → pss.length = xs.length → (∀ i ps, pss[i]? = some ps → G i ps) → Qd H) :
    ∃ W : Nat → Nat → Hp → Prop, (∃ m, W 0 m (upd H1 D (.lst []))) ∧ ∀ i m H, W i m H →
      ((Itt K a).stop i H ∧ Qd H) ∨ ((Itt K a).go i H ∧ ∃ Nx : Hp → Prop, (∀ H', Nx H' → ∃ m', m' < m ∧ W (i + 1) m' H') ∧ ∀ x H', (Itt K a).yld i H x H' → g x (wipe σ vs) H' fun σ2 H2 => wipe σ2 vs = wipe σ vs ∧ tYes σ2 H2 fun b H3 =>
        if b = true then te σ2 H3 fun y H4 => ∃ acc, H4 D = some (.lst acc) ∧ acc.length < sizeLine ∧ Nx (upd H4 D (.lst (acc ++ [y]))) else Nx H3) := by
  refine lc_tup (a := a) (xs := xs) (fun i H => ∃ ws, ∃ pss : List (List Pr), H D = some (.lst ws) ∧ RpL K H ws (pss.map spD) ∧ pss.length = i ∧ (∀ j ps, pss[j]? = some ps → G j ps) ∧ Stp [] H1 H) ⟨[], [], upd_same, .nil, rfl, fun j ps h => by simp at h, Stp.new nD _⟩ (fun i H _ ⟨_, _, _, _, _, _, S⟩ => sqt_stp S Lsts.nil hs) ?_ ?_
  · rintro i x H hi ⟨ws, pss, hL, rv, hl, hG, S⟩
    have il := (List.getElem?_eq_some_iff.mp hi).1
    refine step i x H hi S _ fun y ps H' S' ry gi => ?_
    have hL' := S'.kp _ _ (fun m => nomatch m) hL
    have s4 : Stp [D] H' (upd H' D (.lst (ws ++ [y]))) := Stp.put (by simp)
    refine ⟨ws, hL', ?_, ws ++ [y], pss ++ [ps], upd_same, ?_, by simp [hl], fun j q hq => ?_, (S.trans S').mut nD⟩
    · rw [rv.len, List.length_map, hl]
      exact Nat.lt_of_lt_of_le (show i < 100001 by omega) (by decide)
    · rw [List.map_append]
      exact ((rv.stp S' Lsts.nil).stp s4 (.one hL')).app (.cons (ry.stp s4 (.one hL')) .nil)
    · by_cases c : j < pss.length
      · rw [List.getElem?_append_left c] at hq
        exact hG j q hq
      · rw [List.getElem?_append_right (by omega)] at hq
        have := (List.getElem?_eq_some_iff.mp hq).1
        have ej : j = i := by simp at this; omega
        subst ej
        rw [hl, Nat.sub_self] at hq
        cases hq
        exact gi
  · rintro H ⟨ws, pss, hL, rv, hl, hG, S⟩
    exact hd ws pss H S hL rv hl hG
theorem par_any {α : Type} {f : List Pr → Bool} {g : α → Bool} : ∀ {pss : List (List Pr)} {ds : List α}, pss.length = ds.length → (∀ (i : Nat) (ps : List Pr), pss[i]? = some ps → ∃ d, ds[i]? = some d ∧ f ps = g d) → pss.any f = ds.any g
  | [], [], _, _ => rfl
  | ps :: pss, d :: ds, hl, h => by
    obtain ⟨d', e, h0⟩ := h 0 ps rfl
    cases e
    rw [List.any_cons, List.any_cons, h0, par_any (pss := pss) (ds := ds) (by simpa using hl) fun i ps e => h (i + 1) ps (by simpa using e)]
theorem par_len : ∀ {pss : List (List Pr)} {ds : List Dt}, pss.length = ds.length → (∀ (i : Nat) (ps : List Pr), pss[i]? = some ps → ∃ d, ds[i]? = some d ∧ ps.length ≤ wtD d) → pss.flatten.length ≤ wtL ds
  | [], [], _, _ => Nat.zero_le _
  | ps :: pss, d :: ds, hl, h => by
    obtain ⟨d', e, h0⟩ := h 0 ps rfl
    cases e
    have ih := par_len (pss := pss) (ds := ds) (by simpa using hl) fun i ps e => h (i + 1) ps (by simpa using e)
    rw [List.flatten_cons, List.length_append]
    show _ ≤ wtD d + wtL ds
    omega
def spPass (K : PySem.W.Frag) (n : Nat) : Sp := fun vs H Q _ => ∃ (v : V) (d : Dt), vs = [v] ∧ Rp K H v d ∧ Flt d ∧ d.dep < n ∧ tshD 30 d ∧ wtD d ≤ 2800 ∧
  ∀ b ds H', Stp [] H H' → Spn K H' b ds → (∀ w, Abc w → inS ds w = yesB n d w) → ds.length + 2 ≤ wtD d → Q (.ref b) H'
theorem pass_step {f : Addr} {fd : FuncData} (D : Df K mg "passing_texts" s_passing_texts ["query"] f fd) (T : Nm mg) (TG : Ng K w mg) {n m : Nat} (hm : 5 ≤ m) (c_opposite : Cl P w K mg base 5 "opposite" s_opposite ["span"] (spOpp K)) (c_joined_all : Cl P w K mg base 5 "joined_all" s_joined_all ["spans"] (spJAll K))
    (c_span_of : Cl P w K mg base 4 "span_of" s_span_of ["ranges"] (spSpanOf K)) (c_behind : Cl P w K mg base 3 "behind" s_behind ["text"] spBehind) (c_matching_texts : Cl P w K mg base 4 "matching_texts" s_matching_texts ["word", "wanted"] (spMatch K))
    (c_passing_texts : Cl P w K mg base m "passing_texts" s_passing_texts ["query"] (spPass K n)) : Cl P w K mg base (m + 1) "passing_texts" s_passing_texts ["query"] (spPass K (n + 1)) := by
  refine D.cl sc_passing_texts (fun vs H Q E h => ?_) (fun cdv A outer s H vs Q E hr h => ?_)
  · obtain ⟨v, d, rfl, _⟩ := h
    rfl
  · obtain ⟨v, d, rfl, r, fl, dp, ts, wt, k⟩ := h
    refine ⟨_, (pss_cons (ps_set (i := 1) sc_passing_texts.nd rfl (by first | exact Or.inl rfl | exact Or.inr rfl) (pe_ix ix_tup (pv 0) pe_int (fun _ _ => rfl)))
      (pss_cons (ps_if (pt_cmpR op_eq (pv 1) pe_str (by first | exact nomark _ | rfl)) (pss_one (ps_ret (pe_tup pa_nil))) pss_nil)
      (pss_cons (ps_if (pt_cmpR op_eq (pv 1) pe_str (by first | exact nomark _ | rfl)) (pss_one (ps_ret (pe_ifExp (pt_truth (pe_ix ix_tup (pv 0) pe_int (fun _ _ => rfl)) (by intro _; rfl)) (pe_glob (v := .ref TG.EVERY_TEXT) rfl TG.g_EVERY_TEXT rfl) (pe_tup pa_nil)))) pss_nil)
      (pss_cons (ps_if (pt_cmpR op_eq (pv 1) pe_str (by first | exact nomark _ | rfl)) (pss_one (ps_ret (pe_cl c_opposite hr (by omega) (pa_cons (pe_cl c_passing_texts hr (by omega) (pa_cons (pe_ix ix_tup (pv 0) pe_int (fun _ _ => rfl)) pa_nil)) pa_nil)))) pss_nil)
      (pss_cons (ps_if (pt_cmpR op_eq (pv 1) pe_str (by first | exact nomark _ | rfl)) (pss_one (ps_ret (pe_cl c_opposite hr (by omega) (pa_cons (pe_cl c_joined_all hr (by omega) (pa_cons (pe_lc (own := [("part", 2)]) rfl sc_passing_texts.nd (pi_tup (pe_ix ix_tup (pv 0) pe_int (fun _ _ => rfl))) (blkOk_by (own := [("part", 2)]) (N := N_passing_texts) (sc := defScope s_passing_texts) (by decide +kernel)) (fun _ _ _ _ _ => (pg_name (i := 2) sc_passing_texts.nd rfl (by first | exact Or.inl rfl | exact Or.inr rfl))) (fun _ _ _ _ _ => pts_nil) (fun _ _ _ _ _ => (pe_cl c_opposite hr (by omega) (pa_cons (pe_cl c_passing_texts hr (by omega) (pa_cons (pv 2) pa_nil)) pa_nil)))) pa_nil)) pa_nil)))) pss_nil)
      (pss_cons (ps_if (pt_cmpR op_eq (pv 1) pe_str (by first | exact nomark _ | rfl)) (pss_one (ps_ret (pe_cl c_joined_all hr (by omega) (pa_cons (pe_lc (own := [("part", 2)]) rfl sc_passing_texts.nd (pi_tup (pe_ix ix_tup (pv 0) pe_int (fun _ _ => rfl))) (blkOk_by (own := [("part", 2)]) (N := N_passing_texts) (sc := defScope s_passing_texts) (by decide +kernel)) (fun _ _ _ _ _ => (pg_name (i := 2) sc_passing_texts.nd rfl (by first | exact Or.inl rfl | exact Or.inr rfl))) (fun _ _ _ _ _ => pts_nil) (fun _ _ _ _ _ => (pe_cl c_passing_texts hr (by omega) (pa_cons (pv 2) pa_nil)))) pa_nil)))) pss_nil)
      (pss_cons (ps_if (pt_cmpR op_eq (pv 1) pe_str (by first | exact nomark _ | rfl)) (pss_one (ps_ret (pe_cl c_span_of hr (by omega) (pa_cons (pe_lc (own := [("text", 3)]) rfl sc_passing_texts.nd (pi_tup (pe_ix ix_tup (pv 0) pe_int (fun _ _ => rfl))) (blkOk_by (own := [("text", 3)]) (N := N_passing_texts) (sc := defScope s_passing_texts) (by decide +kernel)) (fun _ _ _ _ _ => (pg_name (i := 3) sc_passing_texts.nd rfl (by first | exact Or.inl rfl | exact Or.inr rfl))) (fun _ _ _ _ _ => pts_nil) (fun _ _ _ _ _ => (pe_tup (pa_cons (pv 3) (pa_cons (pe_cl c_behind hr (by omega) (pa_cons (pv 3) pa_nil)) pa_nil))))) pa_nil)))) pss_nil)
      (pss_one (ps_ret (pe_cl c_matching_texts hr (by omega) (pa_cons (pv 1) (pa_cons (pe_ix ix_tup (pv 0) pe_int (fun _ _ => rfl)) pa_nil)))))))))))), ?_⟩
    have nf : ∀ {a b : Str}, a ≠ b → ¬ decide (V.str a = V.str b) = true := fun n h => n (V.str.inj (of_decide_eq_true h))
    have tf : ∀ {a : Str}, decide (V.str a = V.str a) = true := decide_eq_true rfl
    have len2 : (2 : Nat) ≤ sizeLine := by decide
    have nn : ∀ {x : Addr}, x ∉ ([] : List Addr) := fun m => nomatch m
    cases fl with
    | none =>
      obtain ⟨a, rfl, hs⟩ := rp1 r
      refine ⟨_, rfl, a, _, 0, _, rfl, rfl, hs, at0, ?_⟩
      refine ⟨_, rfl, rfl, _, rfl, ite2 (fun _ => ?_) (fun h => absurd tf h)⟩
      exact ⟨Nat.zero_le _, fun t nt => k t [] _ (Stp.new nt []) (spn_nil nt) (fun w _ => (yes_none n w).symm) (by decide)⟩
    | say b =>
      obtain ⟨a, u, rfl, hs, ru⟩ := rp2 r
      cases ru
      refine ⟨_, rfl, a, _, 0, _, rfl, rfl, hs, at0, ?_⟩
      refine ⟨_, rfl, rfl, _, rfl, ite2 (fun h => absurd h (nf (by decide +kernel))) (fun _ => ?_)⟩
      refine ⟨_, rfl, rfl, _, rfl, ite2 (fun _ => ?_) (fun h => absurd tf h)⟩
      refine ⟨_, rfl, a, _, 1, _, rfl, rfl, hs, at1, b, rfl, ?_⟩
      cases b with
      | true =>
        refine ite2 (fun _ => ?_) (fun h => absurd rfl h)
        have e1 : ∀ H', SqT K H' TG.EV1 [Tx [], .non] := fun H' => by
          have := TG.ev1 H'
          rwa [show V.str "" = Tx [] from congrArg V.str nil_lit] at this
        refine k TG.EVERY_TEXT [([], none)] H (Stp.refl _ _) ⟨⟨_, TG.ev H, .cons (pr_rp (p := ([], none)) (e1 H) (by simp) fun e q => by cases q) .nil⟩, ⟨fun p m => ?_, List.pairwise_singleton _ _⟩, by simp⟩ (fun w _ => ?_) (by decide)
        · rw [List.mem_singleton.mp m]
          exact ⟨short_nil, fun e q => by cases q⟩
        · rw [yes_say, inS_one, inP_iff.mpr ⟨nil_le _, fun e q => by cases q⟩]
      | false =>
        refine ite2 (fun h => absurd h (by decide)) (fun _ => ?_)
        exact ⟨Nat.zero_le _, fun t nt => k t [] _ (Stp.new nt []) (spn_nil nt) (fun w _ => (yes_say n false w).symm) (by decide)⟩
    | not f =>
      obtain ⟨a, u, rfl, hs, ru⟩ := rp2 r
      rename_i d1
      have w1 : wtD (.tup [.str ("not" : Str).cps.toList, d1]) = 1 + wtD d1 + 2 := rfl
      refine ⟨_, rfl, a, _, 0, _, rfl, rfl, hs, at0, ?_⟩
      refine ⟨_, rfl, rfl, _, rfl, ite2 (fun h => absurd h (nf (by decide +kernel))) (fun _ => ?_)⟩
      refine ⟨_, rfl, rfl, _, rfl, ite2 (fun h => absurd h (nf (by decide +kernel))) (fun _ => ?_)⟩
      refine ⟨_, rfl, rfl, _, rfl, ite2 (fun _ => ?_) (fun h => absurd tf h)⟩
      refine ⟨_, rfl, a, _, 1, u, rfl, rfl, hs, at1, u, d1, rfl, ru, f, dep_two dp, ts.2.1, by omega, fun b ds H1 S1 sp eq le => ?_⟩
      have ol := opps_len ds []
      refine ⟨b, ds, rfl, sp, by omega, fun b2 H2 S2 sp2 => k b2 _ H2 (S1.trans S2) sp2 (fun w aw => ?_) (by omega)⟩
      rw [opps_w sp.ok, eq w aw, yes_not]
    | @among ds m =>
      have tw := txw_among
      obtain ⟨a, u, rfl, hs, ru⟩ := rp2 r
      refine ⟨_, rfl, a, _, 0, _, rfl, rfl, hs, at0, ?_⟩
      refine ⟨_, rfl, rfl, _, rfl, ite2 (fun h => absurd h (nf tw.1)) (fun _ => ?_)⟩
      refine ⟨_, rfl, rfl, _, rfl, ite2 (fun h => absurd h (nf tw.2.1)) (fun _ => ?_)⟩
      refine ⟨_, rfl, rfl, _, rfl, ite2 (fun h => absurd h (nf tw.2.2.1)) (fun _ => ?_)⟩
      refine ⟨_, rfl, rfl, _, rfl, ite2 (fun h => absurd h (nf tw.2.2.2.1)) (fun _ => ?_)⟩
      refine ⟨_, rfl, rfl, _, rfl, ite2 (fun h => absurd h (nf tw.2.2.2.2)) (fun _ => ?_)⟩
      refine ⟨_, rfl, rfl, _, rfl, ite2 (fun _ => ?_) (fun h => absurd tf h)⟩
      cases ru with
      | tup hs2 hl rl =>
        rename_i b2 us
        obtain ⟨ys, rfl⟩ := txs_of m
        have w1 : wtD (.tup [.str ("among" : Str).cps.toList, .tup (ys.map Dt.str)]) = 1 + (wtL (ys.map Dt.str) + 2) + 2 := rfl
        rw [wt_strs] at w1
        have eu := rpl_strs rl
        have abs : ∀ y ∈ ys, Abc y ∧ y.length ≤ 30 := fun y my => by
          refine ⟨?_, tsh_mem (ds := ys.map Dt.str) ts.2.1 (List.mem_map.mpr ⟨y, my, rfl⟩)⟩
          obtain ⟨l, e, al⟩ := m (.str y) (List.mem_map.mpr ⟨y, my, rfl⟩)
          cases e
          exact al
        have lu : us.length = ys.length := by rw [eu, List.length_map]
        have prk : ∀ y ∈ ys, PrOk (y, some (y ++ [97])) := fun y my => by
          obtain ⟨ay, ly⟩ := abs y my
          refine ⟨⟨ay, by show y.length ≤ 40; omega⟩, fun e q => ?_⟩
          cases q
          refine ⟨⟨ay.app (Abc.one (.inl rfl)), by rw [List.length_append, List.length_singleton]; omega⟩, ?_⟩
          show y < y ++ [97]
          by_cases c : y < y ++ [97]
          · exact c
          · exact absurd ((snoc_le y y ay).mp (le_of_nlt c)) (List.lt_irrefl _)
        refine ⟨_, rfl, a, _, 1, _, rfl, rfl, hs, at1, b2, rfl, ⟨_, hs2⟩, fun L nL => ?_⟩
        refine lc_mapT9 (ds := (ys.map fun y => ((y, some (y ++ [97])) : Pr)).map prD) nL hs2 (by rw [List.length_map, List.length_map, lu]) (by omega) (fun j x dd H3 hx hd S3 Q2 q => ?_) fun ws H3 S3 h3 r3 => ?_
        · rw [eu, List.getElem?_map] at hx
          rw [List.getElem?_map, List.getElem?_map] at hd
          cases e : ys[j]? with
          | none => rw [e] at hx; cases hx
          | some y =>
            rw [e] at hx hd
            cases hx
            cases hd
            have pk := prk y (List.mem_of_getElem? e)
            have ab := abs y (List.mem_of_getElem? e)
            refine ⟨rfl, _, rfl, _, rfl, y, rfl, ⟨ab.1, by omega⟩, len2, fun t nt => q _ _ (Stp.new nt []) (pr_rp (p := (y, some (y ++ [97]))) (SqT.of upd_same) pk.1.2 fun e q => (pk.2 e q).1.2)⟩
        · refine ⟨L, ws, _, rfl, h3, r3, fun p mp => ?_, by rw [List.length_map]; omega, fun b ds H4 S4 sp eq => ?_⟩
          · obtain ⟨y, my, rfl⟩ := List.mem_map.mp mp
            exact prk y my
          · have nl := norm_len sp.ok eq
            rw [List.length_map] at nl
            refine k b ds H4 (S3.trans S4) sp (fun w aw => ?_) (by omega)
            rw [eq, yes_among]
            unfold inS
            rw [List.any_map, Bool.eq_iff_iff, List.any_eq_true, decide_eq_true_iff]
            constructor
            · rintro ⟨y, my, h⟩
              have h : inP w (y, some (y ++ [97])) = true := h
              rw [in_is aw, decide_eq_true_iff] at h
              exact h ▸ my
            · exact fun h => ⟨w, h, by show inP w (w, some (w ++ [97])) = true; rw [in_is aw]; exact decide_eq_true rfl⟩
    | @many wd ds hw m =>
      obtain ⟨a, u, rfl, hs, ru⟩ := rp2 r
      cases ru with
      | tup hs2 hl rl =>
        rename_i b2 us
        have w1 : wtD (.tup [.str wd.cps.toList, .tup ds]) = 1 + (wtL ds + 2) + 2 := rfl
        have lu : us.length = ds.length := rl.len
        have stepd : ∀ {j : Nat} {x : V} {H3 : Hp} {Q2 : VK}, us[j]? = some x → Stp [] H H3 → (∀ b ps H', Stp [] H3 H' → Spn K H' b ps → (∃ d, ds[j]? = some d ∧ (∀ w, Abc w → inS ps w = yesB n d w) ∧ ps.length + 2 ≤ wtD d) → Q2 (.ref b) H') →
            spPass K n [x] H3 Q2 E0 := fun {j x H3 Q2} hx S3 q => by
          obtain ⟨e', he, re⟩ := rl.get hx
          have mem := List.mem_of_getElem? he
          have := wt_mem mem
          exact ⟨x, e', rfl, re.stp S3 Lsts.nil, m e' mem, dep_in dp mem, tsh_mem (ds := ds) ts.2.1 mem, by omega, fun b ps H4 S4 sp eq le => q b ps H4 S4 sp ⟨e', he, eq, le⟩⟩
        rcases hw with rfl | rfl
        · refine ⟨_, rfl, a, _, 0, _, rfl, rfl, hs, at0, ?_⟩
          refine ⟨_, rfl, rfl, _, rfl, ite2 (fun h => absurd h (nf (by decide +kernel))) (fun _ => ?_)⟩
          refine ⟨_, rfl, rfl, _, rfl, ite2 (fun h => absurd h (nf (by decide +kernel))) (fun _ => ?_)⟩
          refine ⟨_, rfl, rfl, _, rfl, ite2 (fun h => absurd h (nf (by decide +kernel))) (fun _ => ?_)⟩
          refine ⟨_, rfl, rfl, _, rfl, ite2 (fun _ => ?_) (fun h => absurd tf h)⟩
          refine ⟨_, rfl, a, _, 1, _, rfl, rfl, hs, at1, b2, rfl, ⟨_, hs2⟩, fun L nL => ?_⟩
          refine lc_spnT (fun i ps => ∃ d, ds[i]? = some d ∧ SpOk ps ∧ (∀ w, Abc w → inS ps w = !yesB n d w) ∧ ps.length + 1 ≤ wtD d) nL hs2 (by omega) (fun j x H3 hx S3 Q2 q => ?_) fun ws pss H3 S3 h3 r3 hl3 hG => ?_
          · refine ⟨rfl, _, rfl, ?_⟩
            dsimp only [tNil]
            refine stepd hx S3 fun b ps H4 S4 sp ⟨d, hd, eq, le⟩ => ?_
            have ol := opps_len ps []
            have := wt_mem (List.mem_of_getElem? hd)
            exact ⟨b, ps, rfl, sp, by omega, fun b2 H5 S5 sp2 => q _ _ H5 (S4.trans S5) sp2.rp ⟨d, hd, sp2.ok, fun w aw => by rw [opps_w sp.ok, eq w aw], by omega⟩⟩
          · have fl := par_len (pss := pss) (ds := ds) (by rw [hl3, lu]) fun i ps e => by
              obtain ⟨d, h1, _, _, h2⟩ := hG i ps e
              exact ⟨d, h1, by omega⟩
            refine ⟨L, ws, pss, rfl, SqL.of h3, r3, fun ps mp p mp2 => ?_, by omega, fun c cs H4 S4 sp eq le => ?_⟩
            · obtain ⟨i, hi, e⟩ := List.mem_iff_getElem.mp mp
              obtain ⟨d, _, h1, _⟩ := hG i ps (by rw [List.getElem?_eq_getElem hi, e])
              exact h1.ok p mp2
            · have ol := opps_len cs []
              refine ⟨c, cs, rfl, sp, by omega, fun b5 H5 S5 sp5 => k b5 _ H5 ((S3.trans S4).trans S5) sp5 (fun w aw => ?_) (by omega)⟩
              rw [opps_w sp.ok, eq, yes_and, par_any (g := fun d => !yesB n d w) (by rw [hl3, lu]) fun i ps e => by
                obtain ⟨d, h1, _, h2, _⟩ := hG i ps e
                exact ⟨d, h1, h2 w aw⟩]
              rw [Bool.eq_iff_iff, Bool.not_eq_true', List.any_eq_false, List.all_eq_true]
              exact ⟨fun h d md => by have := h d md; simpa using this, fun h d md => by have := h d md; simpa using this⟩
        · refine ⟨_, rfl, a, _, 0, _, rfl, rfl, hs, at0, ?_⟩
          refine ⟨_, rfl, rfl, _, rfl, ite2 (fun h => absurd h (nf (by decide +kernel))) (fun _ => ?_)⟩
          refine ⟨_, rfl, rfl, _, rfl, ite2 (fun h => absurd h (nf (by decide +kernel))) (fun _ => ?_)⟩
          refine ⟨_, rfl, rfl, _, rfl, ite2 (fun h => absurd h (nf (by decide +kernel))) (fun _ => ?_)⟩
          refine ⟨_, rfl, rfl, _, rfl, ite2 (fun h => absurd h (nf (by decide +kernel))) (fun _ => ?_)⟩
          refine ⟨_, rfl, rfl, _, rfl, ite2 (fun _ => ?_) (fun h => absurd tf h)⟩
          refine ⟨_, rfl, a, _, 1, _, rfl, rfl, hs, at1, b2, rfl, ⟨_, hs2⟩, fun L nL => ?_⟩
          refine lc_spnT (fun i ps => ∃ d, ds[i]? = some d ∧ SpOk ps ∧ (∀ w, Abc w → inS ps w = yesB n d w) ∧ ps.length + 2 ≤ wtD d) nL hs2 (by omega) (fun j x H3 hx S3 Q2 q => ⟨rfl, _, rfl, stepd hx S3 fun b ps H4 S4 sp ⟨d, hd, eq, le⟩ => q _ _ H4 S4 sp.rp ⟨d, hd, sp.ok, eq, le⟩⟩) fun ws pss H3 S3 h3 r3 hl3 hG => ?_
          have fl := par_len (pss := pss) (ds := ds) (by rw [hl3, lu]) fun i ps e => by
            obtain ⟨d, h1, _, _, h2⟩ := hG i ps e
            exact ⟨d, h1, by omega⟩
          refine ⟨L, ws, pss, rfl, SqL.of h3, r3, fun ps mp p mp2 => ?_, by omega, fun c cs H4 S4 sp eq le => ?_⟩
          · obtain ⟨i, hi, e⟩ := List.mem_iff_getElem.mp mp
            obtain ⟨d, _, h1, _⟩ := hG i ps (by rw [List.getElem?_eq_getElem hi, e])
            exact h1.ok p mp2
          · refine k c cs H4 (S3.trans S4) sp (fun w aw => ?_) (by omega)
            rw [eq, yes_or]
            exact par_any (by rw [hl3, lu]) fun i ps e => by
              obtain ⟨d, h1, _, h2, _⟩ := hG i ps e
              exact ⟨d, h1, h2 w aw⟩
    | @tx wd l hw ha =>
      obtain ⟨tw, na⟩ := txw_tx hw
      obtain ⟨a, u, rfl, hs, ru⟩ := rp2 r
      cases ru
      have w1 : wtD (.tup [.str wd.cps.toList, .str l]) = 1 + 1 + 2 := rfl
      refine ⟨_, rfl, a, _, 0, _, rfl, rfl, hs, at0, ?_⟩
      refine ⟨_, rfl, rfl, _, rfl, ite2 (fun h => absurd h (nf tw.1)) (fun _ => ?_)⟩
      refine ⟨_, rfl, rfl, _, rfl, ite2 (fun h => absurd h (nf tw.2.1)) (fun _ => ?_)⟩
      refine ⟨_, rfl, rfl, _, rfl, ite2 (fun h => absurd h (nf tw.2.2.1)) (fun _ => ?_)⟩
      refine ⟨_, rfl, rfl, _, rfl, ite2 (fun h => absurd h (nf tw.2.2.2.1)) (fun _ => ?_)⟩
      refine ⟨_, rfl, rfl, _, rfl, ite2 (fun h => absurd h (nf tw.2.2.2.2)) (fun _ => ?_)⟩
      refine ⟨_, rfl, rfl, _, rfl, ite2 (fun h => absurd h (nf na)) (fun _ => ?_)⟩
      refine ⟨_, rfl, _, rfl, a, _, 1, _, rfl, rfl, hs, at1, wd, l, rfl, hw, ha, ts.2.1, fun b ds H1 S1 sp eq le => k b ds H1 S1 sp (fun w aw => ?_) (by omega)⟩
      rw [eq w aw, yes_tx n hw]
theorem pass_all {f : Addr} {fd : FuncData} (D : Df K mg "passing_texts" s_passing_texts ["query"] f fd) (T : Nm mg) (TG : Ng K w mg) (c_opposite : Cl P w K mg base 5 "opposite" s_opposite ["span"] (spOpp K)) (c_joined_all : Cl P w K mg base 5 "joined_all" s_joined_all ["spans"] (spJAll K))
    (c_span_of : Cl P w K mg base 4 "span_of" s_span_of ["ranges"] (spSpanOf K)) (c_behind : Cl P w K mg base 3 "behind" s_behind ["text"] spBehind) (c_matching_texts : Cl P w K mg base 4 "matching_texts" s_matching_texts ["word", "wanted"] (spMatch K)) : ∀ n : Nat, Cl P w K mg base (n + 5) "passing_texts" s_passing_texts ["query"] (spPass K n)
  | 0 => cl_never D (fun vs H Q E ⟨v, d, _, _, _, hd, _⟩ => Nat.not_lt_zero _ hd) _
  | n + 1 => pass_step D T TG (by omega) c_opposite c_joined_all c_span_of c_behind c_matching_texts (pass_all D T TG c_opposite c_joined_all c_span_of c_behind c_matching_texts n)
abbrev s_passes : Stmt := topS 41
abbrev N_passes : List Str := ["query", "value"]
theorem sc_passes : FnScope ["query", "value"] ["query", "value"] (defScope s_passes) := ⟨rfl, rfl, rfl, by decide +kernel, rfl, by decide +kernel, by decide +kernel⟩

theorem ans_all {f : Addr} {fd : FuncData} (D : Df K mg "answer_to" s_answer_to ["query", "value"] f fd) (T : Nm mg) (TG : Ng K w mg) (c_yes_or_no : Cl P w K mg base 1 "yes_or_no" s_yes_or_no ["holds"] spYes) (c_settled : Cl P w K mg base 1 "settled" s_settled ["answers", "deciding", "otherwise"] (spSet K))
    (c_matches : Cl P w K mg base 1 "matches" s_matches ["word", "wanted", "text"] (spMat K)) : ∀ n : Nat, Cl P w K mg base (n + 1) "answer_to" s_answer_to ["query", "value"] (spAns K n)
  | 0 => cl_never D (fun vs H Q E ⟨v, d, _, _, _, _, hd, _⟩ => Nat.not_lt_zero _ hd) 1
  | n + 1 => ans_step D T TG (by omega) c_yes_or_no c_settled c_matches (ans_all D T TG c_yes_or_no c_settled c_matches n)
def spPas (K : PySem.W.Frag) (n : Nat) : Sp := fun vs H Q _ => ∃ (v : V) (d : Dt) (t : Vl), vs = [v, oV t] ∧ Rp K H v d ∧ Flt d ∧ d.dep < n ∧ OkV t ∧ ∀ H', Stp [] H H' → Q (.bl (decide (lev n t d = 2))) H'
theorem cl_passes {f : Addr} {fd : FuncData} {n m : Nat} (D : Df K mg "passes" s_passes ["query", "value"] f fd) (T : Nm mg) (c_answer_to : Cl P w K mg base m "answer_to" s_answer_to ["query", "value"] (spAns K n)) : Cl P w K mg base (m + 1) "passes" s_passes ["query", "value"] (spPas K n) := by
  refine D.cl sc_passes (fun vs H Q E h => ?_) (fun cdv A outer s H vs Q E hr h => ?_)
  · obtain ⟨v, d, t, rfl, _⟩ := h
    rfl
  · obtain ⟨v, d, t, rfl, r, fl, dp, ok, k⟩ := h
    refine ⟨_, (pss_one (ps_ret (pe_cmpR op_eq (pe_cl c_answer_to hr (by omega) (pa_cons (pv 0) (pa_cons (pv 1) pa_nil))) pe_str (by first | exact nomark _ | rfl)))), ?_⟩
    refine ⟨_, rfl, _, rfl, v, d, t, rfl, r, fl, dp, ok, fun H1 S1 => ⟨rfl, ?_⟩⟩
    have e : decide (V.str (ansW (lev n t d)) = V.str "yes") = decide (lev n t d = 2) := by
      rcases lev_in n t d with g | g | g <;> rw [g] <;> decide +kernel
    rw [e]
    exact k H1 S1
/-! ### a page that shows what a note says -/
/-- the least text of a set -/
def LeastOf (S : Txt → Bool) : Option Txt → Prop
  | none => ∀ w, Abc w → S w = false
  | some w => Abc w ∧ S w = true ∧ ∀ x, Abc x → S x = true → w ≤ x
theorem LeastOf.uniq {S : Txt → Bool} {a b : Option Txt} (ha : LeastOf S a) (hb : LeastOf S b) : a = b := by
  cases a with
  | none =>
    cases b with
    | none => rfl
    | some y => have := ha y hb.1; rw [hb.2.1] at this; cases this
  | some x =>
    cases b with
    | none => have := hb x ha.1; rw [ha.2.1] at this; cases this
    | some y => rw [List.le_antisymm (ha.2.2 y hb.1 hb.2.1) (hb.2.2 x ha.1 ha.2.1)]
theorem LeastOf.congr {S S' : Txt → Bool} {a : Option Txt} (h : ∀ w, Abc w → S w = S' w) (ha : LeastOf S a) : LeastOf S' a := by
  cases a with
  | none => exact fun w aw => (h w aw).symm.trans (ha w aw)
  | some x => exact ⟨ha.1, (h x ha.1).symm.trans ha.2.1, fun y ay hy => ha.2.2 y ay ((h y ay).trans hy)⟩
def fstO : List Pr → Option Txt
  | [] => none
  | p :: _ => some p.1
theorem least_first {ps : List Pr} (ok : SpOk ps) : LeastOf (inS ps) (fstO ps) := by
  cases ps with
  | nil => exact fun _ _ => rfl
  | cons p ps =>
    have op := ok.ok p (by simp)
    refine ⟨op.1.1, inS_mem.mpr ⟨p, by simp, inP_iff.mpr ⟨le_self _, fun e he => (op.2 e he).2⟩⟩, fun x _ hx => ?_⟩
    obtain ⟨c, mc, hc⟩ := inS_mem.mp hx
    have h1 := (inP_iff.mp hc).1
    rcases List.mem_cons.mp mc with rfl | mc
    · exact h1
    · obtain ⟨e, he, lt⟩ := (List.pairwise_cons.mp ok.gap).1 c mc
      exact List.le_trans (lt_le' (List.lt_trans (op.2 e he).2 lt)) h1
theorem led_first {l : Txt} {n : Nat} (al : Abc l) : ledF l n ≤ l := by
  rcases List.eq_nil_or_concat l with rfl | ⟨m, x, rfl⟩
  · exact le_self _
  rw [List.concat_eq_append] at *
  by_cases hx : x = 98 ∨ x = 99
  · obtain ⟨y, rfl⟩ : ∃ y, x = y + 1 := ⟨x - 1, by omega⟩
    have hy : y < 99 := by omega
    have eF : ledF (m ++ [y + 1]) n = m ++ [y] ++ List.replicate (n - (m ++ [y + 1]).length) 99 ++ [97] := by
      unfold ledF
      simp only [List.getLast?_append, List.getLast?_singleton, Option.some_or, List.dropLast_concat]
      rw [if_pos hx, Nat.add_sub_cancel]
    rw [eF]
    generalize hs : m ++ [y] ++ List.replicate (n - (m ++ [y + 1]).length) 99 = st
    have as : Abc st := fun z q => by
      rw [← hs] at q
      rcases List.mem_append.mp q with q | q
      · rcases List.mem_append.mp q with q | q
        · exact al z (List.mem_append_left _ q)
        · rw [List.mem_singleton.mp q]; omega
      · exact .inr (.inr (List.eq_of_mem_replicate q))
    have bs : beyR st = some (m ++ [y + 1]) := by rw [← hs]; exact beyR_pad hy m _
    exact (snoc_le st _ al).mpr (beyR_ok as bs).2.2
  · have eF : ledF (m ++ [x]) n = m ++ [x] := by
      unfold ledF
      simp only [List.getLast?_append, List.getLast?_singleton, Option.some_or]
      exact if_neg hx
    rw [eF]
    exact le_self _
/-- the range of a high has its first text -/
theorem great_first {hi : Option (Nat × Nat)} {d : D} {q : Pr} (h : greatR hi d = some q) : inP q.1 q = true := by
  match hi, h with
  | none, h => exact (least_ok (lo := none) h).2
  | some (k, n), h =>
    unfold greatR at h
    dsimp only at h
    by_cases k0 : k = 0
    · rw [if_pos k0] at h
      exact (least_ok (lo := some n) h).2
    · rw [if_neg k0] at h
      unfold ledD at h
      split at h
      · cases h
        exact inP_iff.mpr ⟨le_self _, fun e q => by cases q⟩
      · rename_i l _
        by_cases c : abcB l = true ∧ l.length ≤ n
        · rw [if_pos c] at h
          cases h
          have al := abcB_iff.mp c.1
          refine inP_iff.mpr ⟨le_self _, fun e q => ?_⟩
          have q : some (l ++ [97]) = some e := q
          cases q
          refine le_lt (led_first al) ?_
          by_cases c2 : l < l ++ [97]
          · exact c2
          · exact absurd ((snoc_le l l al).mp (le_of_nlt c2)) (List.lt_irrefl _)
        · rw [if_neg c] at h
          cases h
      · cases h
theorem least_s {r : Ru} (ok : RuOk r) {d : D} {p : Pr} (h : leastR r.low d = some p) : PrS p := by
  revert h
  cases e : r.low with
  | none => exact fun h => any_s h
  | some k => exact fun h => cut_s h (ok.low k e)
theorem great_s {r : Ru} (ok : RuOk r) {d : D} {q : Pr} (h : greatR r.high d = some q) : PrS q := by
  revert h
  cases e : r.high with
  | none => exact fun h => any_s h
  | some kn =>
    obtain ⟨k, n⟩ := kn
    have hn := (ok.high k n e).2
    intro h
    unfold greatR at h
    dsimp only at h
    by_cases k0 : k = 0
    · rw [if_pos k0] at h
      exact cut_s h hn
    · rw [if_neg k0] at h
      unfold ledD at h
      split at h
      · cases h
        refine ⟨⟨Abc.app (fun c q => .inr (.inr (List.eq_of_mem_replicate q))) (Abc.one (.inl rfl)), ?_⟩, fun e q => by cases q⟩
        show (List.replicate n 99 ++ [97]).length ≤ _
        simp
        omega
      · rename_i l
        by_cases c : abcB l = true ∧ l.length ≤ n
        · rw [if_pos c] at h
          cases h
          have al := abcB_iff.mp c.1
          refine ⟨⟨ledF_abc al, ?_⟩, fun e q => ?_⟩
          · have := ledF_len c.2
            show (ledF l n).length ≤ _
            omega
          · have q : some (l ++ [97]) = some e := q
            cases q
            exact short_snoc al (by omega)
        · rw [if_neg c] at h
          cases h
      · cases h
/-- the texts of the page -/
def aroundT (r : Ru) (d2 d3 : D) (k : Int) (o : Option Txt) : List Txt :=
  if k = 0 then [] else match o with
  | none => []
  | some w => if k = 1 then [w] else match leastR r.low d2, greatR r.high d3 with
    | some p, some q => if k = 2 ∧ inP w p = false then [p.1, w] else List.replicate (k - 2).toNat p.1 ++ [w, if q.1 < w then w else q.1]
    | _, _ => []
def aroundL (r : Ru) (d2 d3 : D) (m k : Int) (o : Option Txt) : List (Option Txt) := List.replicate (m - k).toNat none ++ (aroundT r d2 d3 k o).map some
theorem txs_around (g : Nat) (ts : List Txt) : txs (List.replicate g none ++ ts.map some) = ts := by
  unfold txs
  rw [List.filterMap_append, List.filterMap_map]
  have e1 : (List.replicate g (none : Option Txt)).filterMap id = [] := by
    rw [List.filterMap_eq_nil_iff]
    intro a ha
    rw [List.eq_of_mem_replicate ha]
    rfl
  rw [e1, List.nil_append]
  show ts.filterMap some = ts
  exact List.filterMap_some
theorem gone_around (g : Nat) (ts : List Txt) : gone (List.replicate g none ++ ts.map some) = g := by
  unfold gone
  rw [txs_around, List.length_append, List.length_replicate, List.length_map]
  omega
/-- bounds of texts whose least and greatest ones are in the ranges -/
theorem bounds_of {r : Ru} {low high : Option Txt} {p q : Pr} (hp : leastR r.low (vD low) = some p) (hq : greatR r.high (vD high) = some q) {ts : List Txt} {x y : Txt} (mx' : x ∈ ts) (ax : Abc x) (lx : ∀ l ∈ ts, x ≤ l) (ix : inP x p = true) (my : y ∈ ts) (ay : Abc y) (ly : ∀ l ∈ ts, l ≤ y) (iy : inP y q = true) :
    lowO r.low ts = low ∧ highO r.high ts = high := by
  have ne : ts ≠ [] := List.ne_nil_of_mem mx'
  unfold lowO highO
  rw [if_neg ne, if_neg ne, ← mn_uniq mx' lx, ← mx_uniq my ly]
  exact ⟨(vD_inj ((least_in hp ax).mp ix)).symm, (vD_inj ((great_in hq ay).mp iy)).symm⟩
theorem around_ok {r : Ru} (ok : RuOk r) {low high : Option Txt} {k : Int} {o : Option Txt} (k0 : 0 ≤ k) (can : canH r (vD low) (vD high) k = true) (ho : k ≠ 0 → ∃ w, o = some w ∧ Short w ∧ inS (rangesR r (vD low) (vD high) k) w = true) :
    ((aroundT r (vD low) (vD high) k o).length : Int) = k ∧ lowO r.low (aroundT r (vD low) (vD high) k o) = low ∧ highO r.high (aroundT r (vD low) (vD high) k o) = high ∧ (∀ l ∈ aroundT r (vD low) (vD high) k o, Short l) ∧ (k ≠ 0 → ∀ w, o = some w → w ∈ aroundT r (vD low) (vD high) k o) := by
  by_cases z : k = 0
  · subst z
    have e : aroundT r (vD low) (vD high) 0 o = [] := if_pos rfl
    rw [e]
    have c : (isNonD (vD low) && isNonD (vD high)) = true := can
    refine ⟨rfl, ?_, ?_, fun l m => (nomatch m), fun h => absurd rfl h⟩
    · cases low with
      | none => rfl
      | some l => exact absurd (Bool.and_eq_true_iff.mp c).1 (fun h => nomatch (h : false = true))
    · cases high with
      | none => rfl
      | some l => exact absurd (Bool.and_eq_true_iff.mp c).2 (fun h => nomatch (h : false = true))
  obtain ⟨w, rfl, sw, hw⟩ := ho z
  cases e1 : leastR r.low (vD low) with
  | none => unfold rangesR at hw; rw [e1] at hw; cases hw
  | some p =>
    cases e2 : greatR r.high (vD high) with
    | none => unfold rangesR at hw; rw [e1, e2] at hw; cases hw
    | some q =>
      have rn : rangesR r (vD low) (vD high) k = if k = 0 then [] else if k = 1 then interR p q else if k = 2 then interR p ([], q.2) ++ interR (p.1, none) q else interR (p.1, none) ([], q.2) := by
        unfold rangesR
        rw [e1, e2]
      rw [rn, if_neg z] at hw
      have sp := least_s ok e1
      have sq := great_s ok e2
      have fp := (least_ok e1).2
      have fq := great_first e2
      have r1 : ∀ x : Txt, inP x ([], q.2) = true ↔ ∀ e, q.2 = some e → x < e := fun x => by
        rw [inP_iff]
        exact ⟨fun h => h.2, fun h => ⟨nil_le x, h⟩⟩
      have r2 : ∀ x : Txt, inP x (p.1, none) = true ↔ p.1 ≤ x := fun x => by
        rw [inP_iff]
        exact ⟨fun h => h.1, fun h => ⟨h, fun e q => by cases q⟩⟩
      unfold aroundT
      rw [if_neg z, e1, e2]
      dsimp only
      by_cases z1 : k = 1
      · rw [if_pos z1] at hw ⊢
        obtain ⟨i1, i2⟩ := (inter_in _ _ _).mp hw
        obtain ⟨b1, b2⟩ := bounds_of e1 e2 (ts := [w]) (x := w) (y := w) (by simp) sw.1 (fun l m => by rw [List.mem_singleton.mp m]; exact le_self _) i1 (by simp) sw.1 (fun l m => by rw [List.mem_singleton.mp m]; exact le_self _) i2
        exact ⟨by rw [z1]; rfl, b1, b2, fun l m => by rw [List.mem_singleton.mp m]; exact sw, fun _ x e => by cases e; simp⟩
      rw [if_neg z1] at hw ⊢
      have weak : p.1 ≤ w ∧ ∀ e, q.2 = some e → w < e := by
        by_cases z2 : k = 2
        · rw [if_pos z2, inS_app, Bool.or_eq_true, inter_in, inter_in, r1, r2] at hw
          rcases hw with h | h
          · exact ⟨(inP_iff.mp h.1).1, h.2⟩
          · exact ⟨h.1, (inP_iff.mp h.2).2⟩
        · rw [if_neg z2, inter_in, r1, r2] at hw
          exact hw
      by_cases z3 : k = 2 ∧ inP w p = false
      · rw [if_pos z3]
        have iq : inP w q = true := by
          rw [if_pos z3.1, inS_app, Bool.or_eq_true, inter_in, inter_in, r1, r2] at hw
          rcases hw with h | h
          · rw [z3.2] at h; cases h.1
          · exact h.2
        have sub : ∀ l ∈ [p.1, w], l = p.1 ∨ l = w := fun l m => by simpa using m
        obtain ⟨b1, b2⟩ := bounds_of e1 e2 (ts := [p.1, w]) (x := p.1) (y := w) (by simp) sp.1.1 (fun l m => by rcases sub l m with rfl | rfl; exact le_self _; exact weak.1) fp (by simp) sw.1 (fun l m => by rcases sub l m with rfl | rfl; exact weak.1; exact le_self _) iq
        exact ⟨by rw [z3.1]; rfl, b1, b2, fun l m => by rcases sub l m with rfl | rfl; exact sp.1; exact sw, fun _ x e => by cases e; simp⟩
      rw [if_neg z3]
      obtain ⟨y, ey⟩ : ∃ y, y = if q.1 < w then w else q.1 := ⟨_, rfl⟩
      have wy : w ≤ y := by
        rw [ey]
        by_cases c : q.1 < w
        · rw [if_pos c]; exact le_self _
        · rw [if_neg c]; exact le_of_nlt c
      have sy : Short y := by
        rw [ey]
        by_cases c : q.1 < w
        · rw [if_pos c]; exact sw
        · rw [if_neg c]; exact sq.1
      have iy : inP y q = true := by
        rw [ey]
        by_cases c : q.1 < w
        · rw [if_pos c]; exact inP_iff.mpr ⟨lt_le' c, weak.2⟩
        · rw [if_neg c]; exact fq
      rw [← ey]
      have k2 : 2 ≤ k := by omega
      have len : ((List.replicate (k - 2).toNat p.1 ++ [w, y]).length : Int) = k := by
        rw [List.length_append, List.length_replicate]
        show (((k - 2).toNat + 2 : Nat) : Int) = k
        omega
      have sub : ∀ l ∈ List.replicate (k - 2).toNat p.1 ++ [w, y], (l = p.1 ∧ k ≠ 2) ∨ l = w ∨ l = y := fun l m => by
        rcases List.mem_append.mp m with m | m
        · obtain ⟨c, e⟩ := List.mem_replicate.mp m
          exact .inl ⟨e, by omega⟩
        · simp at m
          exact .inr m
      have top : ∀ l ∈ List.replicate (k - 2).toNat p.1 ++ [w, y], l ≤ y := fun l m => by
        rcases sub l m with ⟨rfl, _⟩ | rfl | rfl
        · exact List.le_trans weak.1 wy
        · exact wy
        · exact le_self _
      have all : ∀ l ∈ List.replicate (k - 2).toNat p.1 ++ [w, y], Short l := fun l m => by
        rcases sub l m with ⟨rfl, _⟩ | rfl | rfl
        · exact sp.1
        · exact sw
        · exact sy
      have has : ∀ x, some w = some x → x ∈ List.replicate (k - 2).toNat p.1 ++ [w, y] := fun x e => by cases e; simp
      by_cases z2 : k = 2
      · have ip : inP w p = true := by
          cases c : inP w p with
          | true => rfl
          | false => exact absurd ⟨z2, c⟩ z3
        obtain ⟨b1, b2⟩ := bounds_of e1 e2 (x := w) (y := y) (has w rfl) sw.1 (fun l m => by
          rcases sub l m with ⟨_, c⟩ | rfl | rfl
          · exact absurd z2 c
          · exact le_self _
          · exact wy) ip (by simp) sy.1 top iy
        exact ⟨len, b1, b2, all, fun _ => has⟩
      · obtain ⟨b1, b2⟩ := bounds_of e1 e2 (ts := List.replicate (k - 2).toNat p.1 ++ [w, y]) (x := p.1) (y := y) (List.mem_append_left _ (List.mem_replicate.mpr ⟨by omega, rfl⟩)) sp.1.1 (fun l m => by
          rcases sub l m with ⟨rfl, _⟩ | rfl | rfl
          · exact le_self _
          · exact weak.1
          · exact List.le_trans weak.1 wy) fp (by simp) sy.1 top iy
        exact ⟨len, b1, b2, all, fun _ => has⟩
/-- the lacking values are as the note counts them -/
theorem lacks_of {r : Ru} (ok : RuOk r) {m : Nat} {d1 : D} {low high : Option Txt} (hc : cntL r.lacks m d1 = true) {k : Int} (hk : k ∈ numR r m d1 (vD low) (vD high)) : lacksD r.lacks ((m : Int) - k).toNat = d1 := by
  obtain ⟨_, h1, h2, _⟩ := num_mem.mp hk
  have := ok.lacks
  rcases (by omega : r.lacks = 0 ∨ r.lacks = 1 ∨ r.lacks = 2) with e | e | e <;> rw [e] at hc ⊢
  · cases d1 with
    | int x =>
      have h1 : (m : Int) - x ≤ k := h1
      have h2 : k ≤ (m : Int) - x := h2
      have c : (decide (0 ≤ x) && decide (x ≤ (m : Int))) = true := hc
      rw [Bool.and_eq_true, decide_eq_true_iff, decide_eq_true_iff] at c
      show D.int (((m : Int) - k).toNat : Int) = D.int x
      congr 1
      omega
    | _ => cases hc
  · cases d1 with
    | bl b =>
      show D.bl (decide (((((m : Int) - k).toNat : Nat) : Int) > 0)) = D.bl b
      congr 1
      cases b with
      | true =>
        have h2 : k ≤ (m : Int) - 1 := h2
        exact decide_eq_true (by omega)
      | false =>
        have h1 : (m : Int) ≤ k := h1
        exact decide_eq_false (by omega)
    | _ => cases hc
  · cases d1 with
    | non => rfl
    | _ => cases hc
theorem note_around {r : Ru} (ok : RuOk r) {m : Nat} {d1 : D} {low high : Option Txt} (hc : cntL r.lacks m d1 = true) (h0 : 0 ≤ (leftI m d1).1) {k : Int} (hk : k ∈ numR r m d1 (vD low) (vD high)) (km : k ≤ m) {o : Option Txt} (ho : k ≠ 0 → ∃ w, o = some w ∧ Short w ∧ inS (rangesR r (vD low) (vD high) k) w = true) :
    noteD r (aroundL r (vD low) (vD high) m k o) = tellD m d1 low high ∧ (aroundL r (vD low) (vD high) m k o).length = m ∧ (∀ l, some l ∈ aroundL r (vD low) (vD high) m k o → Short l) := by
  obtain ⟨_, h1, h2, h3⟩ := num_mem.mp hk
  have h1 : (leftI m d1).1 ≤ k := h1
  obtain ⟨a1, a2, a3, a4, a5⟩ := around_ok ok (by omega : 0 ≤ k) h3 ho
  have len : (aroundL r (vD low) (vD high) m k o).length = m := by
    unfold aroundL
    rw [List.length_append, List.length_replicate, List.length_map]
    omega
  refine ⟨?_, len, fun l ml => ?_⟩
  · unfold noteD tellD
    rw [len]
    unfold aroundL
    rw [txs_around, gone_around, a2, a3, lacks_of ok hc hk]
  · unfold aroundL at ml
    rcases List.mem_append.mp ml with ml | ml
    · have := List.eq_of_mem_replicate ml
      cases this
    · obtain ⟨x, mx, e⟩ := List.mem_map.mp ml
      cases e
      exact a4 _ mx
/-- whether a number of texts leaves a value that passes; the texts asked for -/
def hitP (r : Ru) (d2 d3 : D) (m nl : Int) (y : Txt → Bool) (k : Int) : Prop := (nl = 2 ∧ k < m) ∨ ∃ w, Abc w ∧ inS (rangesR r d2 d3 k) w = true ∧ y w = true
def wantS (r : Ru) (d2 d3 : D) (m nl : Int) (y : Txt → Bool) (k : Int) (w : Txt) : Bool := inS (rangesR r d2 d3 k) w && (decide (nl = 2 ∧ k < m) || y w)
/-- the page told -/
def IsPg (r : Ru) (m : Int) (d1 d2 d3 : D) (nl : Int) (y : Txt → Bool) (os : List (Option Txt)) : Prop :=
  ∃ (i : Nat) (k : Int) (o : Option Txt), (numR r m d1 d2 d3)[i]? = some k ∧ (∀ j k', j < i → (numR r m d1 d2 d3)[j]? = some k' → ¬ hitP r d2 d3 m nl y k') ∧ hitP r d2 d3 m nl y k ∧ LeastOf (wantS r d2 d3 m nl y k) o ∧ (∀ w, o = some w → Short w) ∧ os = aroundL r d2 d3 m k o
theorem IsPg.uniq {r : Ru} {m : Int} {d1 d2 d3 : D} {nl : Int} {y : Txt → Bool} {as bs : List (Option Txt)} (ha : IsPg r m d1 d2 d3 nl y as) (hb : IsPg r m d1 d2 d3 nl y bs) : as = bs := by
  obtain ⟨i, k, o, h1, h2, h3, h4, _, rfl⟩ := ha
  obtain ⟨i', k', o', g1, g2, g3, g4, _, rfl⟩ := hb
  obtain rfl : i = i' := by
    rcases Nat.lt_trichotomy i i' with c | c | c
    · exact absurd h3 (g2 i k c h1)
    · exact c
    · exact absurd g3 (h2 i' k' c g1)
  rw [h1] at g1
  cases g1
  rw [h4.uniq g4]
/-- what the page told gives -/
theorem least_some {r : Ru} {d2 d3 : D} {m nl : Int} {y : Txt → Bool} {k : Int} {o : Option Txt} (can : canH r d2 d3 k = true) (z : k ≠ 0) (hk : RuOk r) (h : hitP r d2 d3 m nl y k) (l : LeastOf (wantS r d2 d3 m nl y k) o) : ∃ w, o = some w ∧ inS (rangesR r d2 d3 k) w = true ∧ (decide (nl = 2 ∧ k < m) || y w) = true := by
  cases o with
  | some w => exact ⟨w, rfl, Bool.and_eq_true_iff.mp l.2.1⟩
  | none =>
    exfalso
    by_cases c : nl = 2 ∧ k < m
    · obtain ⟨p, mp⟩ := List.exists_mem_of_ne_nil _ ((canH_ne z).mp can)
      have po := rng_ok hk p mp
      have := l p.1 po.1.1
      have hi : inS (rangesR r d2 d3 k) p.1 = true := inS_mem.mpr ⟨p, mp, inP_iff.mpr ⟨le_self _, fun e he => (po.2 e he).2⟩⟩
      unfold wantS at this
      rw [hi, decide_eq_true c] at this
      cases this
    · rcases h with h | ⟨w, aw, h1, h2⟩
      · exact c h
      · have := l w aw
        unfold wantS at this
        rw [h1, h2, Bool.or_true] at this
        cases this
structure PgOk (r : Ru) (m : Nat) (d1 : D) (low high : Option Txt) (n : Nat) (d : Dt) (os : List (Option Txt)) : Prop where
  note : noteD r os = tellD m d1 low high
  len : os.length = m
  sh : ∀ l, some l ∈ os → Short l
  yes : ∃ o ∈ os, lev n o d = 2
theorem pg_ok {r : Ru} (ok : RuOk r) {m : Nat} {d1 : D} {low high : Option Txt} (hc : cntL r.lacks m d1 = true) (h0 : 0 ≤ (leftI m d1).1) {n : Nat} {d : Dt} {os : List (Option Txt)} (h : IsPg r m d1 (vD low) (vD high) (lev n none d) (yesB n d) os) (hm : ∀ k ∈ numR r m d1 (vD low) (vD high), k ≤ (m : Int)) : PgOk r m d1 low high n d os := by
  obtain ⟨i, k, o, h1, _, h3, h4, h5, rfl⟩ := h
  have mem := List.mem_of_getElem? h1
  have can := (num_mem.mp mem).2.2.2
  have ho : k ≠ 0 → ∃ w, o = some w ∧ Short w ∧ inS (rangesR r (vD low) (vD high) k) w = true := fun z => by
    obtain ⟨w, e, hw, _⟩ := least_some can z ok h3 h4
    exact ⟨w, e, h5 w e, hw⟩
  obtain ⟨a1, a2, a3⟩ := note_around ok hc h0 mem (hm k mem) ho
  refine ⟨a1, a2, a3, ?_⟩
  by_cases c : lev n none d = 2 ∧ k < m
  · refine ⟨none, List.mem_append_left _ (List.mem_replicate.mpr ⟨by omega, rfl⟩), c.1⟩
  · have z : k ≠ 0 := fun e => by
      rcases h3 with h | ⟨w, _, h, _⟩
      · exact c h
      · obtain ⟨p, q, e1, e2⟩ : ∃ p q, leastR r.low (vD low) = some p ∧ greatR r.high (vD high) = some q := by
          unfold rangesR at h
          cases e1 : leastR r.low (vD low) with
          | none => rw [e1] at h; cases h
          | some p =>
            cases e2 : greatR r.high (vD high) with
            | none => rw [e1, e2] at h; cases h
            | some q => exact ⟨p, q, rfl, rfl⟩
        unfold rangesR at h
        rw [e1, e2] at h
        simp only [if_pos e] at h
        cases h
    obtain ⟨w, e, hw, hy⟩ := least_some can z ok h3 h4
    rw [decide_eq_false c, Bool.false_or] at hy
    have k0 : 0 ≤ k := by
      have := (num_mem.mp mem).2.1
      have h0 : 0 ≤ (leftI (m : Int) d1).1 := h0
      have this : (leftI (m : Int) d1).1 ≤ k := this
      omega
    obtain ⟨_, _, _, _, b5⟩ := around_ok ok k0 can ho
    refine ⟨some w, List.mem_append_right _ (List.mem_map.mpr ⟨w, b5 z w e, rfl⟩), of_decide_eq_true hy⟩
/-- no number leaves a value that passes: no value at all does -/
theorem no_hit {r : Ru} {m : Nat} {d1 : D} {low high : Option Txt} {a : Int} (ha : (numR r m d1 (vD low) (vD high))[0]? = some a) {nl : Int} {y : Txt → Bool} : (∀ k ∈ numR r m d1 (vD low) (vD high), ¬ hitP r (vD low) (vD high) m nl y k) ↔ ¬ (nl = 2 ∧ a < m) ∧ ∀ w, Abc w → ¬ (stdR r m d1 (vD low) (vD high) w = true ∧ y w = true) := by
  have mem := List.mem_of_getElem? ha
  constructor
  · intro h
    refine ⟨fun c => h a mem (.inl c), fun w aw c => ?_⟩
    obtain ⟨p, mp, hp⟩ := inS_mem.mp c.1
    obtain ⟨k, mk, pk⟩ := List.mem_flatMap.mp mp
    exact h k mk (.inr ⟨w, aw, inS_mem.mpr ⟨p, pk, hp⟩, c.2⟩)
  · rintro ⟨h1, h2⟩ k mk (c | ⟨w, aw, c1, c2⟩)
    · obtain ⟨a', b', e1, e2, _, _, h⟩ := asc_ends (num_asc r (leftI (m : Int) d1) (vD low) (vD high)) (fun e => by
        have mk : k ∈ numI r (leftI (m : Int) d1) (vD low) (vD high) := mk
        rw [e] at mk; cases mk)
      have e1 : (numR r m d1 (vD low) (vD high))[0]? = some a' := e1
      rw [ha] at e1
      cases e1
      exact h1 ⟨c.1, by have := (h k mk).1; omega⟩
    · obtain ⟨p, mp, hp⟩ := inS_mem.mp c1
      exact h2 w aw ⟨inS_mem.mpr ⟨p, List.mem_flatMap.mpr ⟨k, mk, mp⟩, hp⟩, c2⟩
abbrev s_bars : Stmt := topS 71
abbrev N_bars : List Str := ["rule", "note", "query"]
theorem sc_bars : FnScope ["rule", "note", "query"] ["rule", "note", "query"] (defScope s_bars) := ⟨rfl, rfl, rfl, by decide +kernel, rfl, by decide +kernel, by decide +kernel⟩

abbrev s_grants : Stmt := topS 72
abbrev N_grants : List Str := ["rule", "note", "query"]
theorem sc_grants : FnScope ["rule", "note", "query"] ["rule", "note", "query"] (defScope s_grants) := ⟨rfl, rfl, rfl, by decide +kernel, rfl, by decide +kernel, by decide +kernel⟩

/-! ### what a note bars, grants -/
/-- what stands ahead of bars, grants: a note, a filter -/
structure NoteFlt (K : PySem.W.Frag) (n : Nat) (H : Hp) (v u q : V) (r : Ru) (m : Int) (d1 d2 d3 : D) (d : Dt) (a : Int) : Prop where
  rv : Rv K [] H v (ruD r)
  ok : RuOk r
  ru : Rv K [] H u (.tup [.int m, d1, d2, d3])
  nt : isNote r (.tup [.int m, d1, d2, d3]) = true
  ha : (numR r m d1 d2 d3)[0]? = some a
  rq : Rp K H q d
  fl : Flt d
  dp : d.dep < n
  th : tshD 30 d
  wt : wtD d ≤ 2000
theorem span_none {cs : List Pr} (ok : SpOk cs) : cs.isEmpty = true ↔ ∀ w, Abc w → inS cs w = false := by
  cases cs with
  | nil => exact ⟨fun _ _ _ => rfl, fun _ => rfl⟩
  | cons p cs =>
    refine ⟨fun h => (by cases h), fun h => ?_⟩
    have := h p.1 (ok.ok p (by simp)).1.1
    rw [inS_cons, Bool.or_eq_false_iff] at this
    have i : inP p.1 p = true := inP_iff.mpr ⟨le_self _, fun e q => ((ok.ok p (by simp)).2 e q).2⟩
    rw [this.1] at i
    cases i
theorem std_len {r : Ru} {m : Int} {d1 d2 d3 : D} {ds : List Pr} (ok : SpOk ds) (h : ∀ w, inS ds w = stdR r m d1 d2 d3 w) : ds.length ≤ 8 := by
  have a := norm_len ok (ps := (numR r m d1 d2 d3).flatMap (rangesR r d2 d3)) h
  have b := flat_few (f := rangesR r d2 d3) (rng_few r d2 d3) (numR r m d1 d2 d3)
  have c : (numR r m d1 d2 d3).length ≤ 4 := num_few _ _ _ _
  omega
def spBars (K : PySem.W.Frag) (n : Nat) : Sp := fun vs H Q _ => ∃ (v u q : V) (r : Ru) (m : Int) (d1 d2 d3 : D) (d : Dt) (a : Int), vs = [v, u, q] ∧ NoteFlt K n H v u q r m d1 d2 d3 d a ∧
  ∀ (b : Bool) H', Stp [] H H' → (b = true ↔ ¬ (lev n none d = 2 ∧ a < m) ∧ ∀ w, Abc w → ¬ (stdR r m d1 d2 d3 w = true ∧ yesB n d w = true)) → Q (.bl b) H'
theorem cl_bars {f : Addr} {fd : FuncData} {n : Nat} (D : Df K mg "bars" s_bars ["rule", "note", "query"] f fd) (T : Nm mg) (c_check_note : Cl P w K mg base 10 "check_note" s_check_note ["rule", "note"] (spCkNote K)) {k1 k2 k3 : Nat} (c_check_filter : Cl P w K mg base k1 "check_filter" s_check_filter ["query"] (spCkF K n)) (c_passes : Cl P w K mg base k2 "passes" s_passes ["query", "value"] (spPas K n)) (c_can_lack : Cl P w K mg base 9 "can_lack" s_can_lack ["rule", "note"] (spCLk K))
    (c_shared : Cl P w K mg base 6 "shared" s_shared ["span", "other_span"] (spShared K)) (c_possible_texts : Cl P w K mg base 9 "possible_texts" s_possible_texts ["rule", "note"] (spPTx K)) (c_passing_texts : Cl P w K mg base k3 "passing_texts" s_passing_texts ["query"] (spPass K n)) (h1 : k1 ≤ 2 * n + 11) (h2 : k2 ≤ 2 * n + 11) (h3 : k3 ≤ 2 * n + 11) :
    Cl P w K mg base (2 * n + 12) "bars" s_bars ["rule", "note", "query"] (spBars K n) := by
  refine D.cl sc_bars (fun vs H Q E h => ?_) (fun cdv A outer s H vs Q E hr h => ?_)
  · obtain ⟨v, u, q, r, m, d1, d2, d3, d, a, rfl, _⟩ := h
    rfl
  · obtain ⟨v, u, q, r, m, d1, d2, d3, d, a, rfl, N, k⟩ := h
    refine ⟨_, (pss_cons (ps_expr (pe_cl c_check_note hr (by omega) (pa_cons (pv 0) (pa_cons (pv 1) pa_nil))))
      (pss_cons (ps_expr (pe_cl c_check_filter hr (by omega) (pa_cons (pv 2) pa_nil)))
      (pss_cons (ps_if (PW.pt (pw_and (pt_val (pe_cl c_passes hr (by omega) (pa_cons (pv 2) (pa_cons pe_non pa_nil)))) (pw_and1 (pt_val (pe_cl c_can_lack hr (by omega) (pa_cons (pv 0) (pa_cons (pv 1) pa_nil))))))) (pss_one (ps_ret pe_bl)) pss_nil)
      (pss_one (ps_ret (pe_cmpR (Pv.op_eqNilT hr.units) (pe_cl c_shared hr (by omega) (pa_cons (pe_cl c_possible_texts hr (by omega) (pa_cons (pv 0) (pa_cons (pv 1) pa_nil))) (pa_cons (pe_cl c_passing_texts hr (by omega) (pa_cons (pv 2) pa_nil)) pa_nil))) (pe_tup pa_nil) (by first | exact nomark _ | rfl))))))), ?_⟩
    have lk1 : LkOk d1 = true := by
      have z : (cntB r.lacks (.int m) d1 && !(numR r m d1 d2 d3).isEmpty) = true := N.nt
      exact cnt_lk (Bool.and_eq_true_iff.mp z).1
    refine ⟨_, rfl, _, rfl, [], v, u, r, _, rfl, N.rv, N.ok, N.ru, N.nt, fun H1 S1 => ?_⟩
    refine ⟨_, rfl, q, d, rfl, N.rq.stp S1 Lsts.nil, N.dp, N.fl, fun H2 S2 => ?_⟩
    have S12 := S1.trans S2
    dsimp only
    have okn : OkV none := fun l e => nomatch e
    refine seq_end (fun σ H' => σ = [some v, some u, some q] ∧ Stp [] H H' ∧ ¬ (lev n none d = 2 ∧ a < m)) ?_ (fun fin => ?_)
    rotate_left
    · refine ⟨_, rfl, q, d, none, rfl, N.rq.stp S12 Lsts.nil, N.fl, N.dp, okn, fun H3 S3 => ⟨_, rfl, ite2 (fun h1 => ?_) (fun h1 => ?_)⟩⟩
      · have S13 := S12.trans S3
        refine ⟨_, rfl, _, rfl, v, u, r, m, d1, d2, d3, rfl, N.rv.up S13, N.ok, N.ru.up S13, lk1, a, N.ha, fun H4 S4 => ⟨_, rfl, ite2 (fun h2 => ?_) (fun h2 => ?_)⟩⟩
        · refine k false H4 (S13.trans S4) ⟨fun e => (by cases e), fun e => absurd ⟨of_decide_eq_true h1, of_decide_eq_true h2⟩ e.1⟩
        · exact fin _ _ ⟨rfl, S13.trans S4, fun e => h2 (decide_eq_true e.2)⟩
      · exact fin _ _ ⟨rfl, S12.trans S3, fun e => h1 (decide_eq_true e.1)⟩
    rintro σ H3 ⟨rfl, S3, no⟩
    refine ⟨_, rfl, _, rfl, v, u, r, m, d1, d2, d3, rfl, N.rv.up S3, N.ok, N.ru.up S3, lk1, fun p1 ds H4 S4 sp es => ?_⟩
    have S34 := S3.trans S4
    refine ⟨_, rfl, q, d, rfl, N.rq.stp S34 Lsts.nil, N.fl, N.dp, N.th, by have := N.wt; omega, fun p2 ds2 H5 S5 sp2 es2 l2 => ?_⟩
    have l1 := std_len sp.ok es
    have wt := N.wt
    refine ⟨p1, p2, ds, ds2, rfl, sp.stp S5 Lsts.nil, sp2, by omega, fun c cs H6 S6 sc ec lc => ?_⟩
    refine ⟨Nat.zero_le _, fun e ne => ?_⟩
    have S7 : Stp [] H6 (upd H6 e (.tup [])) := Stp.new ne _
    have sc7 := sc.stp S7 Lsts.nil
    obtain ⟨xs, hx, rx⟩ := sc7.ex
    refine ⟨c, e, xs, rfl, rfl, hx, SqT.of upd_same, ?_⟩
    refine k _ _ (((S34.trans S5).trans S6).trans S7) ?_
    have ex : xs.isEmpty = cs.isEmpty := by
      have := rx.len
      rw [List.length_map] at this
      cases xs <;> cases cs <;> first | rfl | simp at this
    rw [ex, span_none sc.ok]
    constructor
    · refine fun h => ⟨no, fun w aw q => ?_⟩
      have := h w aw
      rw [ec, es, es2 w aw, q.1, q.2] at this
      cases this
    · rintro ⟨_, h⟩ w aw
      rw [ec, es, es2 w aw, Bool.eq_false_iff]
      intro q
      exact h w aw (Bool.and_eq_true_iff.mp q)
def spGrants (K : PySem.W.Frag) (n : Nat) : Sp := fun vs H Q _ => ∃ (v u q : V) (r : Ru) (m : Int) (d1 d2 d3 : D) (d : Dt) (a : Int), vs = [v, u, q] ∧ NoteFlt K n H v u q r m d1 d2 d3 d a ∧
  ∀ (b : Bool) H', Stp [] H H' → (b = true ↔ ¬ (¬ lev n none d = 2 ∧ a < m) ∧ ∀ w, Abc w → ¬ (stdR r m d1 d2 d3 w = true ∧ yesB n d w = false)) → Q (.bl b) H'
theorem cl_grants {f : Addr} {fd : FuncData} {n : Nat} (D : Df K mg "grants" s_grants ["rule", "note", "query"] f fd) (T : Nm mg) (c_check_note : Cl P w K mg base 10 "check_note" s_check_note ["rule", "note"] (spCkNote K)) {k1 k2 k3 : Nat} (c_check_filter : Cl P w K mg base k1 "check_filter" s_check_filter ["query"] (spCkF K n)) (c_passes : Cl P w K mg base k2 "passes" s_passes ["query", "value"] (spPas K n)) (c_can_lack : Cl P w K mg base 9 "can_lack" s_can_lack ["rule", "note"] (spCLk K))
    (c_opposite : Cl P w K mg base 5 "opposite" s_opposite ["span"] (spOpp K)) (c_shared : Cl P w K mg base 6 "shared" s_shared ["span", "other_span"] (spShared K)) (c_possible_texts : Cl P w K mg base 9 "possible_texts" s_possible_texts ["rule", "note"] (spPTx K)) (c_passing_texts : Cl P w K mg base k3 "passing_texts" s_passing_texts ["query"] (spPass K n)) (h1 : k1 ≤ 2 * n + 11) (h2 : k2 ≤ 2 * n + 11) (h3 : k3 ≤ 2 * n + 11) :
    Cl P w K mg base (2 * n + 12) "grants" s_grants ["rule", "note", "query"] (spGrants K n) := by
  refine D.cl sc_grants (fun vs H Q E h => ?_) (fun cdv A outer s H vs Q E hr h => ?_)
  · obtain ⟨v, u, q, r, m, d1, d2, d3, d, a, rfl, _⟩ := h
    rfl
  · obtain ⟨v, u, q, r, m, d1, d2, d3, d, a, rfl, N, k⟩ := h
    refine ⟨_, (pss_cons (ps_expr (pe_cl c_check_note hr (by omega) (pa_cons (pv 0) (pa_cons (pv 1) pa_nil))))
      (pss_cons (ps_expr (pe_cl c_check_filter hr (by omega) (pa_cons (pv 2) pa_nil)))
      (pss_cons (ps_if (PW.pt (pw_and (pt_not (pt_val (pe_cl c_passes hr (by omega) (pa_cons (pv 2) (pa_cons pe_non pa_nil))))) (pw_and1 (pt_val (pe_cl c_can_lack hr (by omega) (pa_cons (pv 0) (pa_cons (pv 1) pa_nil))))))) (pss_one (ps_ret pe_bl)) pss_nil)
      (pss_one (ps_ret (pe_cmpR (Pv.op_eqNilT hr.units) (pe_cl c_shared hr (by omega) (pa_cons (pe_cl c_possible_texts hr (by omega) (pa_cons (pv 0) (pa_cons (pv 1) pa_nil))) (pa_cons (pe_cl c_opposite hr (by omega) (pa_cons (pe_cl c_passing_texts hr (by omega) (pa_cons (pv 2) pa_nil)) pa_nil)) pa_nil))) (pe_tup pa_nil) (by first | exact nomark _ | rfl))))))), ?_⟩
    have lk1 : LkOk d1 = true := by
      have z : (cntB r.lacks (.int m) d1 && !(numR r m d1 d2 d3).isEmpty) = true := N.nt
      exact cnt_lk (Bool.and_eq_true_iff.mp z).1
    refine ⟨_, rfl, _, rfl, [], v, u, r, _, rfl, N.rv, N.ok, N.ru, N.nt, fun H1 S1 => ?_⟩
    refine ⟨_, rfl, q, d, rfl, N.rq.stp S1 Lsts.nil, N.dp, N.fl, fun H2 S2 => ?_⟩
    have S12 := S1.trans S2
    dsimp only
    have okn : OkV none := fun l e => nomatch e
    refine seq_end (fun σ H' => σ = [some v, some u, some q] ∧ Stp [] H H' ∧ ¬ (¬ lev n none d = 2 ∧ a < m)) ?_ (fun fin => ?_)
    rotate_left
    · refine ⟨_, rfl, q, d, none, rfl, N.rq.stp S12 Lsts.nil, N.fl, N.dp, okn, fun H3 S3 => ⟨_, rfl, ite2 (fun h1 => ?_) (fun h1 => ?_)⟩⟩
      · have S13 := S12.trans S3
        refine ⟨_, rfl, _, rfl, v, u, r, m, d1, d2, d3, rfl, N.rv.up S13, N.ok, N.ru.up S13, lk1, a, N.ha, fun H4 S4 => ⟨_, rfl, ite2 (fun h2 => ?_) (fun h2 => ?_)⟩⟩
        · refine k false H4 (S13.trans S4) ⟨fun e => (by cases e), fun e => absurd ⟨by simpa using h1, of_decide_eq_true h2⟩ e.1⟩
        · exact fin _ _ ⟨rfl, S13.trans S4, fun e => h2 (decide_eq_true e.2)⟩
      · exact fin _ _ ⟨rfl, S12.trans S3, fun e => h1 (by simpa using e.1)⟩
    rintro σ H3 ⟨rfl, S3, no⟩
    refine ⟨_, rfl, _, rfl, v, u, r, m, d1, d2, d3, rfl, N.rv.up S3, N.ok, N.ru.up S3, lk1, fun p1 ds H4 S4 sp es => ?_⟩
    have S34 := S3.trans S4
    refine ⟨_, rfl, q, d, rfl, N.rq.stp S34 Lsts.nil, N.fl, N.dp, N.th, by have := N.wt; omega, fun p2 ds2 H5 S5 sp2 es2 l2 => ?_⟩
    have l1 := std_len sp.ok es
    have wt := N.wt
    refine ⟨p2, ds2, rfl, sp2, by omega, fun p3 H5' S5' sp3 => ?_⟩
    have l3 := opps_len ds2 []
    refine ⟨p1, p3, ds, opps [] ds2, rfl, sp.stp (S5.trans S5') Lsts.nil, sp3, by omega, fun c cs H6 S6 sc ec lc => ?_⟩
    refine ⟨Nat.zero_le _, fun e ne => ?_⟩
    have S7 : Stp [] H6 (upd H6 e (.tup [])) := Stp.new ne _
    have sc7 := sc.stp S7 Lsts.nil
    obtain ⟨xs, hx, rx⟩ := sc7.ex
    refine ⟨c, e, xs, rfl, rfl, hx, SqT.of upd_same, ?_⟩
    refine k _ _ ((((S34.trans S5).trans S5').trans S6).trans S7) ?_
    have ex : xs.isEmpty = cs.isEmpty := by
      have := rx.len
      rw [List.length_map] at this
      cases xs <;> cases cs <;> first | rfl | simp at this
    rw [ex, span_none sc.ok]
    constructor
    · refine fun h => ⟨no, fun w aw q => ?_⟩
      have := h w aw
      rw [ec, es, opps_w sp2.ok, es2 w aw, q.1, q.2] at this
      cases this
    · rintro ⟨_, h⟩ w aw
      rw [ec, es, opps_w sp2.ok, es2 w aw, Bool.eq_false_iff]
      intro q
      obtain ⟨q1, q2⟩ := Bool.and_eq_true_iff.mp q
      exact h w aw ⟨q1, by simpa using q2⟩
abbrev s_least_text : Stmt := topS 27
abbrev N_least_text : List Str := ["span"]
theorem sc_least_text : FnScope ["span"] ["span"] (defScope s_least_text) := ⟨rfl, rfl, rfl, by decide +kernel, rfl, by decide +kernel, by decide +kernel⟩

def lvV : List Pr → V
  | [] => .non
  | p :: _ => Tx p.1
def spLeastT (K : PySem.W.Frag) : Sp := fun vs H Q _ => ∃ (a : Addr) (ps : List Pr), vs = [.ref a] ∧ Spn K H a ps ∧ ∀ H', Stp [] H H' → Q (lvV ps) H'
theorem cl_least_text {f : Addr} {fd : FuncData} (D : Df K mg "least_text" s_least_text ["span"] f fd) (T : Nm mg) (c_check_span : Cl P w K mg base 4 "check_span" s_check_span ["span"] (spCkSpan K)) : Cl P w K mg base 5 "least_text" s_least_text ["span"] (spLeastT K) := by
  refine D.cl sc_least_text (fun vs H Q E h => ?_) (fun cdv A outer s H vs Q E hr h => ?_)
  · obtain ⟨a, ps, rfl, _⟩ := h
    rfl
  · obtain ⟨a, ps, rfl, sp, k⟩ := h
    refine ⟨_, (pss_cons (ps_expr (pe_cl c_check_span hr (by omega) (pa_cons (pv 0) pa_nil)))
      (pss_one (ps_ret (pe_ifExp (pt_truth (pv 0) (by intro _; rfl)) (pe_ix ix_tup (pe_ix ix_tup (pv 0) pe_int (fun _ _ => rfl)) pe_int (fun _ _ => rfl)) pe_non)))), ?_⟩
    refine ⟨_, rfl, a, ps, rfl, sp, fun H1 S1 => ?_⟩
    obtain ⟨⟨xs, hs, rl⟩, ok, few⟩ := sp.stp S1 Lsts.nil
    have k1 := k H1 S1
    refine ⟨_, rfl, _, .inr (.inl ⟨xs, hs, rfl⟩), ?_⟩
    cases ps with
    | nil =>
      cases rl
      exact ite2 (fun h => nomatch (h : false = true)) (fun _ => k1)
    | cons p ps =>
      cases rl with
      | cons r1 rl =>
        obtain ⟨t, rfl, ht⟩ := rp_pr r1
        refine ite2 (fun _ => ?_) (fun h => absurd rfl h)
        exact ⟨_, rfl, a, _, 0, .ref t, rfl, rfl, hs, at0, t, _, 0, Tx p.1, rfl, rfl, ht, at0, k1⟩
abbrev s_has : Stmt := topS 23
abbrev N_has : List Str := ["span", "text", "first", "end"]
theorem sc_has : FnScope ["span", "text", "first", "end"] ["span", "text"] (defScope s_has) := ⟨rfl, rfl, rfl, by decide +kernel, rfl, by decide +kernel, by decide +kernel⟩

theorem bl_and {a b : Bool} : (if a = true then b else false) = (a && b) := by cases a <;> rfl
def spHas (K : PySem.W.Frag) : Sp := fun vs H Q _ => ∃ (a : Addr) (ps : List Pr) (w : Txt), vs = [.ref a, Tx w] ∧ Spn K H a ps ∧ Short w ∧ ∀ H', Stp [] H H' → Q (.bl (inS ps w)) H'
theorem cl_has {f : Addr} {fd : FuncData} (D : Df K mg "has" s_has ["span", "text"] f fd) (T : Nm mg) (c_check_span : Cl P w K mg base 4 "check_span" s_check_span ["span"] (spCkSpan K)) (c_check_text : Cl P w K mg base 2 "check_text" s_check_text ["text"] spCkTextL) :
    Cl P w K mg base 5 "has" s_has ["span", "text"] (spHas K) := by
  refine D.cl sc_has (fun vs H Q E h => ?_) (fun cdv A outer s H vs Q E hr h => ?_)
  · obtain ⟨a, ps, l, rfl, _⟩ := h
    rfl
  · obtain ⟨a, ps, l, rfl, sp, sl, k⟩ := h
    refine ⟨_, (pss_cons (ps_expr (pe_cl c_check_span hr (by omega) (pa_cons (pv 0) pa_nil)))
      (pss_cons (ps_expr (pe_cl c_check_text hr (by omega) (pa_cons (pv 1) pa_nil)))
      (pss_one (ps_ret (pe_callB (cr_any rfl) (by rfl) T.n_any (by decide +kernel) (pa_cons (pe_lc (own := [("first", 2), ("end", 3)]) rfl sc_has.nd (pi_tup (pv 0)) (blkOk_by (own := [("first", 2), ("end", 3)]) (N := N_has) (sc := defScope s_has) (by decide +kernel)) (fun _ _ _ _ _ => (pg_tupK (n := 2) rfl rfl (pgs_cons (pg_name (i := 2) sc_has.nd rfl (by first | exact Or.inl rfl | exact Or.inr rfl)) (pgs_cons (pg_name (i := 3) sc_has.nd rfl (by first | exact Or.inl rfl | exact Or.inr rfl)) pgs_nil (by rfl)) (by rfl)) (by rfl) (by rfl))) (fun _ _ _ _ _ => pts_nil) (fun _ _ _ _ _ => (pe_and (pe_cmpR op_le_str (pv 2) (pv 1) (by first | exact nomark _ | rfl)) (pe_one (pe_or (pe_cmpR op_isN (pv 3) pe_non (by first | exact nomark _ | rfl)) (pe_one (pe_cmpR op_lt_str (pv 1) (pv 3) (by first | exact nomark _ | rfl)))))))) pa_nil)))))), ?_⟩
    refine ⟨_, rfl, a, ps, rfl, sp, fun H1 S1 => ?_⟩
    refine ⟨_, rfl, l, rfl, sl.lng, ?_⟩
    obtain ⟨⟨xs, hs, rl⟩, ok, few⟩ := sp.stp S1 Lsts.nil
    have lx : xs.length = ps.length := by rw [rl.len, List.length_map]
    refine ⟨_, rfl, a, rfl, ⟨_, hs⟩, fun L nL => ?_⟩
    refine lc_tup (a := a) (xs := xs) (fun i H2 => H2 L = some (.lst ((ps.take i).map fun p => V.bl (inP l p))) ∧ Stp [] H1 H2)
      ⟨upd_same, Stp.new nL _⟩ (fun i H2 _ ⟨_, S⟩ => sqt_stp S Lsts.nil hs) ?_ ?_
    · rintro i x H2 hi ⟨hL, S⟩
      obtain ⟨p, hp, t, rfl, ht⟩ := prs_get rl hi
      obtain ⟨g, e⟩ := p
      have len : ((ps.take i).map fun p => V.bl (inP l p)).length < sizeLine := by
        rw [List.length_map, List.length_take]
        exact Nat.lt_of_le_of_lt (Nat.min_le_right _ _) (Nat.lt_of_le_of_lt few (by decide))
      have fin : ∀ b : Bool, b = inP l (g, e) → ∃ acc, H2 L = some (.lst acc) ∧ acc.length < sizeLine ∧ (upd H2 L (.lst (acc ++ [.bl b]))) L = some (.lst ((ps.take (i + 1)).map fun p => V.bl (inP l p))) ∧ Stp [] H1 (upd H2 L (.lst (acc ++ [.bl b]))) := fun b hb => by
        refine ⟨_, hL, len, ?_, S.mut nL⟩
        rw [upd_same, List.take_add_one, hp, List.map_append, hb]
        rfl
      refine ⟨t, _, rfl, sqt_stp S Lsts.nil ht, rfl, _, _, rfl, _, _, rfl, rfl, ?_⟩
      refine ⟨rfl, _, rfl, _, rfl, tx g, tx l, rfl, rfl, ?_⟩
      refine ⟨_, rfl, ?_⟩
      refine ite2 (fun h => ?_) (fun h => ?_)
      · have c : ¬ l < g := fun q => by
          rw [decide_eq_true (show (tx l).cps.toList < (tx g).cps.toList from q)] at h
          exact absurd h (by simp)
        have c1 : decide (g ≤ l) = true := by rw [le_dec, decide_eq_false c]; rfl
        cases e with
        | none => exact ⟨_, rfl, rfl, _, rfl, fin true (by unfold inP; rw [c1]; rfl)⟩
        | some e => exact ⟨_, rfl, rfl, _, rfl, _, rfl, _, rfl, tx l, tx e, rfl, rfl, fin _ (by unfold inP; rw [c1]; rfl)⟩
      · have c : l < g := by
          by_cases q : l < g
          · exact q
          · refine absurd ?_ h
            rw [decide_eq_false (show ¬ (tx l).cps.toList < (tx g).cps.toList from q)]
            rfl
        exact fin false (by unfold inP; rw [le_dec, decide_eq_true c]; rfl)
    · rintro H2 ⟨hL, S⟩
      rw [lx, List.take_length] at hL
      have e1 : ps.map (fun p => V.bl (inP l p)) = (ps.map (inP l)).map V.bl := by rw [List.map_map]; rfl
      rw [e1] at hL
      refine ⟨L, _, rfl, SqL.of hL, ?_⟩
      have e2 : (ps.map (inP l)).any id = inS ps l := by
        unfold inS
        rw [List.any_map]
        rfl
      rw [e2]
      exact k _ (S1.trans S)
theorem tseq_if {t : TT} {a b u : TS} {D : Ends} {σ : L2.St} {H : Hp} (h : t σ H fun c H' => if c = true then a { D with nx := u D } σ H' else b { D with nx := u D } σ H') : tSeq (tIfS t a b) u D σ H := h
theorem tt_join {t : TT} {σ : L2.St} {H : Hp} {Q : Bool → Hp → Prop} (I : Bool → Hp → Prop) (h : (∀ b H', I b H' → Q b H') → t σ H Q) (k : ∀ b H', I b H' → Q b H') : t σ H Q := h k
abbrev s_page_for : Stmt := topS 73
abbrev N_page_for : List Str := ["rule", "note", "query", "number", "texts", "wanted"]
theorem sc_page_for : FnScope ["rule", "note", "query", "number", "texts", "wanted"] ["rule", "note", "query"] (defScope s_page_for) := ⟨rfl, rfl, rfl, by decide +kernel, rfl, by decide +kernel, by decide +kernel⟩

abbrev s_page_around : Stmt := topS 74
abbrev N_page_around : List Str := ["rule", "note", "number", "text", "lacking", "least", "last"]
theorem sc_page_around : FnScope ["rule", "note", "number", "text", "lacking", "least", "last"] ["rule", "note", "number", "text"] (defScope s_page_around) := ⟨rfl, rfl, rfl, by decide +kernel, rfl, by decide +kernel, by decide +kernel⟩

/-! ### the page for a note, a filter -/
theorem rg_parts {K : PySem.W.Frag} {S : List Addr} {H : Hp} {v : V} {p : Pr} (r : Rv K S H v (rgD p)) : ∃ a, v = .ref a ∧ SqT K H a [Tx p.1, vV p.2] := by
  obtain ⟨b, us, rfl, hb, _, rus⟩ := r.tupE
  obtain ⟨x, y, rfl, rx, ry⟩ := RvL.two rus
  cases rx
  obtain rfl := vV_rv ry
  exact ⟨_, rfl, hb⟩
theorem rep_vs (n : Nat) (o : Option Txt) : (List.replicate n [vV o]).flatten = (List.replicate n o).map vV := by simp
theorem in_some {r : Ru} {d2 d3 : D} {k : Int} {w : Txt} (h : inS (rangesR r d2 d3 k) w = true) : ∃ p q, leastR r.low d2 = some p ∧ greatR r.high d3 = some q := by
  unfold rangesR at h
  cases e1 : leastR r.low d2 with
  | none => rw [e1] at h; cases h
  | some p =>
    cases e2 : greatR r.high d3 with
    | none => rw [e1, e2] at h; cases h
    | some q => exact ⟨p, q, rfl, rfl⟩
def spAround (K : PySem.W.Frag) : Sp := fun vs H Q _ => ∃ (v u : V) (r : Ru) (m : Nat) (d1 : D) (low high : Option Txt) (k : Int) (o : Option Txt), vs = [v, u, .int k, vV o] ∧ Rv K [] H v (ruD r) ∧ RuOk r ∧ Rv K [] H u (tellD m d1 low high) ∧ 0 ≤ k ∧ k ≤ m ∧ m ≤ 1000 ∧ (k ≠ 0 → ∃ w, o = some w ∧ Short w ∧ inS (rangesR r (vD low) (vD high) k) w = true) ∧
  ∀ L H', H L = none → Stp [] H H' → H' L = some (.lst ((aroundL r (vD low) (vD high) m k o).map vV)) → Q (.ref L) H'
theorem cl_page_around {f : Addr} {fd : FuncData} (D : Df K mg "page_around" s_page_around ["rule", "note", "number", "text"] f fd) (T : Nm mg) (c_least_texts : Cl P w K mg base 5 "least_texts" s_least_texts ["low", "noted"] (spLeast K)) (c_greatest_texts : Cl P w K mg base 5 "greatest_texts" s_greatest_texts ["high", "noted"] (spGreat K)) (c_has : Cl P w K mg base 5 "has" s_has ["span", "text"] (spHas K)) :
    Cl P w K mg base 6 "page_around" s_page_around ["rule", "note", "number", "text"] (spAround K) := by
  refine D.cl sc_page_around (fun vs H Q E h => ?_) (fun cdv A outer s H vs Q E hr h => ?_)
  · obtain ⟨v, u, r, m, d1, low, high, k, o, rfl, _⟩ := h
    rfl
  · obtain ⟨v, u, r, m, d1, low, high, kk, o, rfl, rv, ok, ru, k0, km, m1, ho, k⟩ := h
    refine ⟨_, (pss_cons (ps_set (i := 4) sc_page_around.nd rfl (by first | exact Or.inl rfl | exact Or.inr rfl) (pe_op op_rep (pe_lst (pa_cons pe_non pa_nil)) (pe_op op_sub (pe_ix ix_tup (pv 1) pe_int (fun _ _ => rfl)) (pv 2))))
      (pss_cons (ps_if (pt_cmpR op_eq (pv 2) pe_int (by first | exact nomark _ | rfl)) (pss_one (ps_ret (pv 4))) pss_nil)
      (pss_cons (ps_if (pt_cmpR op_eq (pv 2) pe_int (by first | exact nomark _ | rfl)) (pss_one (ps_ret (pe_op op_cat (pv 4) (pe_lst (pa_cons (pv 3) pa_nil))))) pss_nil)
      (pss_cons (ps_set (i := 5) sc_page_around.nd rfl (by first | exact Or.inl rfl | exact Or.inr rfl) (pe_cl c_least_texts hr (by omega) (pa_cons (pe_ix ix_tup (pv 0) pe_int (fun _ _ => rfl)) (pa_cons (pe_ix ix_tup (pv 1) pe_int (fun _ _ => rfl)) pa_nil))))
      (pss_cons (ps_set (i := 6) sc_page_around.nd rfl (by first | exact Or.inl rfl | exact Or.inr rfl) (pe_ix ix_tup (pe_cl c_greatest_texts hr (by omega) (pa_cons (pe_ix ix_tup (pv 0) pe_int (fun _ _ => rfl)) (pa_cons (pe_ix ix_tup (pv 1) pe_int (fun _ _ => rfl)) pa_nil))) pe_int (fun _ _ => rfl)))
      (pss_cons (ps_if (PW.pt (pw_and (pt_cmpR op_eq (pv 2) pe_int (by first | exact nomark _ | rfl)) (pw_and1 (pt_not (pt_val (pe_cl c_has hr (by omega) (pa_cons (pe_tup (pa_cons (pv 5) pa_nil)) (pa_cons (pv 3) pa_nil)))))))) (pss_one (ps_ret (pe_op op_cat (pv 4) (pe_lst (pa_cons (pe_ix ix_tup (pv 5) pe_int (fun _ _ => rfl)) (pa_cons (pv 3) pa_nil)))))) pss_nil)
      (pss_one (ps_ret (pe_op op_cat (pe_op op_cat (pv 4) (pe_op op_rep (pe_lst (pa_cons (pe_ix ix_tup (pv 5) pe_int (fun _ _ => rfl)) pa_nil)) (pe_op op_sub (pv 2) pe_int))) (pe_lst (pa_cons (pv 3) (pa_cons (pe_ifExp (pt_cmpR op_gt_str (pv 3) (pv 6) (by first | exact nomark _ | rfl)) (pv 3) (pv 6)) pa_nil)))))))))))), ?_⟩
    have nn : ∀ {x : Addr}, x ∉ ([] : List Addr) := fun m => nomatch m
    have len1 : (1 : Nat) ≤ sizeLine := by decide
    have len2 : (2 : Nat) ≤ sizeLine := by decide
    have big : ∀ {n : Nat}, n ≤ 5000 → n ≤ sizeLine := fun h => Nat.le_trans h (by decide)
    obtain ⟨t2, us, rfl, ht2, _, rus⟩ := ru.tupE
    obtain ⟨u0, u1, u2, u3, rfl, q0, q1, q2, q3⟩ := four rus
    cases q0
    obtain ⟨t, w1, w2, rfl, ht, r1, r2⟩ := ruD_parts rv
    refine ⟨len1, fun p1 n1 => ?_⟩
    have S1 : Stp [] H (upd H p1 (.lst [.non])) := Stp.new n1 _
    have h1 : (upd H p1 (.lst [.non])) p1 = some (.lst [.non]) := upd_same
    generalize upd H p1 (.lst [.non]) = H1 at *
    refine ⟨_, rfl, t2, _, 0, _, rfl, rfl, sqt_stp S1 Lsts.nil ht2, at0, _, rfl, _, _, rfl, rfl, ?_⟩
    dsimp only
    refine ⟨p1, (m : Int) - kk, _, rfl, rfl, h1, by omega, by omega, big (by show 1 * _ ≤ _; omega), fun p2 n2 => ?_⟩
    rw [show (List.replicate ((m : Int) - kk).toNat [V.non]).flatten = (List.replicate ((m : Int) - kk).toNat none).map vV from rep_vs _ none]
    have S2 : Stp [] H (upd H1 p2 (.lst ((List.replicate ((m : Int) - kk).toNat none).map vV))) := S1.new' n2
    have f2 : H p2 = none := S1.fresh nn n2
    have h2 : (upd H1 p2 (.lst ((List.replicate ((m : Int) - kk).toNat none).map vV))) p2 = some (.lst ((List.replicate ((m : Int) - kk).toNat none).map vV)) := upd_same
    generalize upd H1 p2 (.lst ((List.replicate ((m : Int) - kk).toNat none).map vV)) = H2 at *
    obtain ⟨g, eg⟩ : ∃ g, g = ((m : Int) - kk).toNat := ⟨_, rfl⟩
    have eL : aroundL r (vD low) (vD high) m kk o = List.replicate g none ++ (aroundT r (vD low) (vD high) kk o).map some := by rw [eg]; rfl
    rw [← eg] at h2
    rw [eL] at k
    have g1 : g ≤ 1000 := by omega
    clear eL h1 S1 eg
    dsimp only [gName]
    refine ⟨_, rfl, rfl, _, rfl, ite2 (fun h => ?_) (fun h => ?_)⟩
    · have h : kk = 0 := V.int.inj (of_decide_eq_true h)
      refine ⟨_, rfl, k p2 H2 f2 S2 ?_⟩
      rw [h2, show aroundT r (vD low) (vD high) kk o = [] from if_pos h, List.map_nil, List.append_nil]
    have z : kk ≠ 0 := fun e => h (by rw [e]; exact decide_eq_true rfl)
    dsimp only [tNext]
    obtain ⟨w, rfl, sw, hw⟩ := ho z
    obtain ⟨p, q, e1, e2⟩ := in_some hw
    have eT : aroundT r (vD low) (vD high) kk (some w) = if kk = 1 then [w] else if kk = 2 ∧ inP w p = false then [p.1, w] else List.replicate (kk - 2).toNat p.1 ++ [w, if q.1 < w then w else q.1] := by
      unfold aroundT
      rw [if_neg z, e1, e2]
    rw [eT] at k
    have catE : ∀ (ts : List Txt), (List.replicate g none).map vV ++ ts.map Tx = (List.replicate g none ++ ts.map some).map vV := fun ts => by
      rw [List.map_append, List.map_map]
      rfl
    have lg : ((List.replicate g (none : Option Txt)).map vV).length = g := by rw [List.length_map, List.length_replicate]
    refine ⟨_, rfl, rfl, _, rfl, ite2 (fun h1 => ?_) (fun h1 => ?_)⟩
    · have h1 : kk = 1 := V.int.inj (of_decide_eq_true h1)
      rw [if_pos h1] at k
      refine ⟨_, rfl, _, rfl, len1, fun p3 n3 => ?_⟩
      have S3 : Stp [] H2 (upd H2 p3 (.lst [Tx w])) := Stp.new n3 _
      refine ⟨p2, p3, _, _, rfl, rfl, S3.kp _ _ nn h2, upd_same, big (by rw [lg]; show g + 1 ≤ 5000; omega), fun p4 n4 => ?_⟩
      exact k p4 _ ((S2.trans S3).fresh nn n4) ((S2.trans S3).new' n4) (by rw [upd_same, ← catE]; rfl)
    have z1 : kk ≠ 1 := fun e => h1 (by rw [e]; exact decide_eq_true rfl)
    rw [if_neg z1] at k
    dsimp only [tNext]
    have sp := least_s ok e1
    have fp := (least_ok e1).2
    have po : PrOk p := ⟨sp.1, fun e he => ⟨sp.2 e he, (inP_iff.mp fp).2 e he⟩⟩
    have rvs : ∀ {H'}, Stp [] H H' → SqT K H' t [.str (lk r.lacks), w1, w2] ∧ SqT K H' t2 [.int m, u1, u2, u3] := fun S => ⟨sqt_stp S Lsts.nil ht, sqt_stp S Lsts.nil ht2⟩
    refine ⟨_, rfl, t, _, 1, _, rfl, rfl, (rvs S2).1, at1, _, rfl, t2, _, 2, _, rfl, rfl, (rvs S2).2, at2, [], w1, u2, r.low, vD low, rfl, r1.up S2, ok.low, q2.up S2, fun lv H3 S3 rl => ?_⟩
    rw [e1] at rl
    obtain ⟨la, rfl, hla⟩ := rg_parts rl
    have S23 := S2.trans S3
    dsimp only [gName]
    refine ⟨_, rfl, t, _, 2, _, rfl, rfl, (rvs S23).1, at2, _, rfl, t2, _, 3, _, rfl, rfl, (rvs S23).2, at3, [], w2, u3, r.high, vD high, rfl, r2.up S23, ok.high, q3.up S23, fun gv H4 S4 rg => ?_⟩
    rw [e2] at rg
    obtain ⟨ga, rfl, hga⟩ := rg_parts rg
    refine ⟨ga, _, 0, _, rfl, rfl, hga, at0, ?_⟩
    dsimp only [gName]
    have S24 := S23.trans S4
    have hla4 := sqt_stp S4 Lsts.nil hla
    have h24 := (S3.trans S4).kp _ _ nn h2
    have rl4 := rl.up S4
    refine tseq_if (tt_join (fun c H' => Stp [] H4 H' ∧ (c = true ↔ (kk = 2 ∧ inP w p = false))) (fun fi => ?_) ?_)
    · refine ⟨_, rfl, rfl, _, rfl, ite2 (fun h3 => ?_) (fun h3 => fi _ _ ⟨Stp.refl _ _, fun e => (nomatch e), fun e => absurd (decide_eq_true (congrArg V.int e.1)) h3⟩)⟩
      have h3 : kk = 2 := V.int.inj (of_decide_eq_true h3)
      refine ⟨_, rfl, len1, fun ta na => ?_⟩
      have Sa : Stp [] H4 (upd H4 ta (.tup [.ref la])) := Stp.new na _
      have rp : RpL K (upd H4 ta (.tup [.ref la])) [.ref la] ([p].map prD) := by
        have := RvL.old (.cons (rl4.up Sa) .nil : RvL K [] (upd H4 ta (.tup [.ref la])) [.ref la] ([p].map rgD))
        rwa [show Pv.D.olds (rgD p :: List.map rgD []) = [p].map prD from old_prs [p]] at this
      refine ⟨_, rfl, ta, [p], w, rfl, ⟨⟨_, SqT.of upd_same, rp⟩, ⟨fun x m => by rw [List.mem_singleton.mp m]; exact po, List.pairwise_singleton _ _⟩, by simp⟩, sw, fun H5 S5 => ?_⟩
      rw [inS_one]
      refine ⟨_, rfl, ?_⟩
      refine fi _ _ ⟨Sa.trans S5, ?_⟩
      cases inP w p <;> simp [h3]
    rintro c H5 ⟨S5, hc⟩
    have S25 := S24.trans S5
    have hla5 := sqt_stp S5 Lsts.nil hla4
    have h25 := S5.kp _ _ nn h24
    refine ite2 (fun c1 => ?_) (fun c1 => ?_)
    · rw [if_pos (hc.mp c1)] at k
      refine ⟨_, rfl, _, rfl, la, _, 0, _, rfl, rfl, hla5, at0, _, rfl, len2, fun p3 n3 => ?_⟩
      have S6 : Stp [] H5 (upd H5 p3 (.lst [Tx p.1, Tx w])) := Stp.new n3 _
      refine ⟨p2, p3, _, _, rfl, rfl, S6.kp _ _ nn h25, upd_same, big (by rw [lg]; show g + 2 ≤ 5000; omega), fun p4 n4 => ?_⟩
      exact k p4 _ ((S25.trans S6).fresh nn n4) ((S25.trans S6).new' n4) (by rw [upd_same, ← catE]; rfl)
    dsimp only [tNext]
    rw [if_neg fun e => c1 (hc.mpr e)] at k
    refine ⟨_, rfl, _, rfl, la, _, 0, _, rfl, rfl, hla5, at0, len1, fun p3 n3 => ?_⟩
    have S6 : Stp [] H5 (upd H5 p3 (.lst [Tx p.1])) := Stp.new n3 _
    have h3 : (upd H5 p3 (.lst [Tx p.1])) p3 = some (.lst [Tx p.1]) := upd_same
    generalize upd H5 p3 (.lst [Tx p.1]) = H6 at *
    refine ⟨_, rfl, _, _, rfl, rfl, ?_⟩
    dsimp only
    refine ⟨p3, kk - 2, _, rfl, rfl, h3, by omega, by omega, big (by show 1 * _ ≤ _; omega), fun p4 n4 => ?_⟩
    rw [show (List.replicate (kk - 2).toNat [Tx p.1]).flatten = (List.replicate (kk - 2).toNat p.1).map Tx by simp]
    have S7 := S6.new' (o := .lst ((List.replicate (kk - 2).toNat p.1).map Tx)) n4
    have h4 : (upd H6 p4 (.lst ((List.replicate (kk - 2).toNat p.1).map Tx))) p4 = some (.lst ((List.replicate (kk - 2).toNat p.1).map Tx)) := upd_same
    generalize upd H6 p4 (.lst ((List.replicate (kk - 2).toNat p.1).map Tx)) = H7 at *
    refine ⟨p2, p4, _, _, rfl, rfl, S7.kp _ _ nn h25, h4, big (by rw [lg, List.length_map, List.length_replicate]; omega), fun p5 n5 => ?_⟩
    rw [catE]
    have S8 := S7.new' (o := .lst ((List.replicate g none ++ (List.replicate (kk - 2).toNat p.1).map some).map vV)) n5
    have h5 : (upd H7 p5 (.lst ((List.replicate g none ++ (List.replicate (kk - 2).toNat p.1).map some).map vV))) p5 = some (.lst ((List.replicate g none ++ (List.replicate (kk - 2).toNat p.1).map some).map vV)) := upd_same
    generalize upd H7 p5 (.lst ((List.replicate g none ++ (List.replicate (kk - 2).toNat p.1).map some).map vV)) = H8 at *
    have sH8 := S25.trans S8
    have fin : ∀ p6 H9, Stp [] H8 H9 → H9 p6 = some (.lst [Tx w, Tx (if q.1 < w then w else q.1)]) → rCat (.ref p5) (.ref p6) H9 Q := fun p6 H9 S9 h6 => by
      refine ⟨p5, p6, _, _, rfl, rfl, S9.kp _ _ nn h5, h6, big (by rw [List.length_map, List.length_append, List.length_map, List.length_replicate, List.length_replicate]; show _ + 2 ≤ 5000; omega), fun p7 n7 => ?_⟩
      refine k p7 _ ((sH8.trans S9).fresh nn n7) ((sH8.trans S9).new' n7) ?_
      rw [upd_same]
      simp only [List.map_append, List.append_assoc]
      rfl
    refine ⟨_, rfl, ?_⟩
    by_cases c : q.1 < w
    · rw [if_pos c] at fin
      refine ⟨_, rfl, _, rfl, tx w, tx q.1, rfl, rfl, _, rfl, ite2 (fun _ => ?_) (fun h => absurd (decide_eq_true c) h)⟩
      exact ⟨_, rfl, len2, fun p6 n6 => fin p6 _ (Stp.new n6 _) upd_same⟩
    · rw [if_neg c] at fin
      refine ⟨_, rfl, _, rfl, tx w, tx q.1, rfl, rfl, _, rfl, ite2 (fun h => absurd (of_decide_eq_true h) c) (fun _ => ?_)⟩
      exact ⟨_, rfl, len2, fun p6 n6 => fin p6 _ (Stp.new n6 _) upd_same⟩
/-- what stands ahead -/
def spPgF (K : PySem.W.Frag) (n : Nat) : Sp := fun vs H Q _ => ∃ (v u q : V) (r : Ru) (m : Nat) (d1 : D) (low high : Option Txt) (d : Dt) (a : Int), vs = [v, u, q] ∧ NoteFlt K n H v u q r m d1 (vD low) (vD high) d a ∧ cntL r.lacks m d1 = true ∧ 0 ≤ (leftI m d1).1 ∧ (∀ k ∈ numR r m d1 (vD low) (vD high), k ≤ (m : Int)) ∧ m ≤ 1000 ∧
  (∀ H', Stp [] H H' → (∀ k ∈ numR r m d1 (vD low) (vD high), ¬ hitP r (vD low) (vD high) m (lev n none d) (yesB n d) k) → Q .non H') ∧
  ∀ os L H', IsPg r m d1 (vD low) (vD high) (lev n none d) (yesB n d) os → H L = none → Stp [] H H' → H' L = some (.lst (os.map vV)) → Q (.ref L) H'
theorem cl_page_for {f : Addr} {fd : FuncData} {n : Nat} (D : Df K mg "page_for" s_page_for ["rule", "note", "query"] f fd) (T : Nm mg) (c_check_note : Cl P w K mg base 10 "check_note" s_check_note ["rule", "note"] (spCkNote K)) {k1 k2 k3 : Nat} (c_check_filter : Cl P w K mg base k1 "check_filter" s_check_filter ["query"] (spCkF K n)) (c_passes : Cl P w K mg base k2 "passes" s_passes ["query", "value"] (spPas K n)) (c_possible_numbers : Cl P w K mg base 8 "possible_numbers" s_possible_numbers ["rule", "note"] (spPNum K)) (c_ranges_with : Cl P w K mg base 6 "ranges_with" s_ranges_with ["rule", "note", "number"] (spRW K)) (c_span_of : Cl P w K mg base 4 "span_of" s_span_of ["ranges"] (spSpanOf K))
    (c_shared : Cl P w K mg base 6 "shared" s_shared ["span", "other_span"] (spShared K)) (c_passing_texts : Cl P w K mg base k3 "passing_texts" s_passing_texts ["query"] (spPass K n)) (c_least_text : Cl P w K mg base 5 "least_text" s_least_text ["span"] (spLeastT K)) (c_page_around : Cl P w K mg base 6 "page_around" s_page_around ["rule", "note", "number", "text"] (spAround K)) (h1 : k1 ≤ 2 * n + 11) (h2 : k2 ≤ 2 * n + 11) (h3 : k3 ≤ 2 * n + 11) :
    Cl P w K mg base (2 * n + 12) "page_for" s_page_for ["rule", "note", "query"] (spPgF K n) := by
  refine D.cl sc_page_for (fun vs H Q E h => ?_) (fun cdv A outer s H vs Q E hr h => ?_)
  · obtain ⟨v, u, q, r, m, d1, low, high, d, a, rfl, _⟩ := h
    rfl
  · obtain ⟨v, u, q, r, m, d1, low, high, d, a, rfl, N, hcn, h0, hm, m1, kn, k⟩ := h
    refine ⟨_, (pss_cons (ps_expr (pe_cl c_check_note hr (by omega) (pa_cons (pv 0) (pa_cons (pv 1) pa_nil))))
      (pss_cons (ps_expr (pe_cl c_check_filter hr (by omega) (pa_cons (pv 2) pa_nil)))
      (pss_cons (ps_for PassesOwn.never rfl (pi_list (pe_cl c_possible_numbers hr (by omega) (pa_cons (pv 0) (pa_cons (pv 1) pa_nil)))) (pg_name (i := 3) sc_page_for.nd rfl (by first | exact Or.inl rfl | exact Or.inr rfl)) (pss_cons (ps_set (i := 4) sc_page_for.nd rfl (by first | exact Or.inl rfl | exact Or.inr rfl) (pe_cl c_span_of hr (by omega) (pa_cons (pe_cl c_ranges_with hr (by omega) (pa_cons (pv 0) (pa_cons (pv 1) (pa_cons (pv 3) pa_nil)))) pa_nil)))
      (pss_cons (ps_if (PW.pt (pw_and (pt_val (pe_cl c_passes hr (by omega) (pa_cons (pv 2) (pa_cons pe_non pa_nil)))) (pw_and1 (pt_cmpR op_lt (pv 3) (pe_ix ix_tup (pv 1) pe_int (fun _ _ => rfl)) (by first | exact nomark _ | rfl))))) (pss_one (ps_ret (pe_cl c_page_around hr (by omega) (pa_cons (pv 0) (pa_cons (pv 1) (pa_cons (pv 3) (pa_cons (pe_cl c_least_text hr (by omega) (pa_cons (pv 4) pa_nil)) pa_nil))))))) pss_nil)
      (pss_cons (ps_set (i := 5) sc_page_for.nd rfl (by first | exact Or.inl rfl | exact Or.inr rfl) (pe_cl c_shared hr (by omega) (pa_cons (pv 4) (pa_cons (pe_cl c_passing_texts hr (by omega) (pa_cons (pv 2) pa_nil)) pa_nil))))
      (pss_one (ps_if (pt_truth (pv 5) (by intro _; rfl)) (pss_one (ps_ret (pe_cl c_page_around hr (by omega) (pa_cons (pv 0) (pa_cons (pv 1) (pa_cons (pv 3) (pa_cons (pe_cl c_least_text hr (by omega) (pa_cons (pv 5) pa_nil)) pa_nil))))))) pss_nil))))))
      (pss_one (ps_ret pe_non))))), ?_⟩
    have nn : ∀ {x : Addr}, x ∉ ([] : List Addr) := fun m => nomatch m
    have lk1 : LkOk d1 = true := by
      have z : (cntB r.lacks (.int m) d1 && !(numR r m d1 (vD low) (vD high)).isEmpty) = true := N.nt
      exact cnt_lk (Bool.and_eq_true_iff.mp z).1
    obtain ⟨t2, us, rfl, ht2, _, rus⟩ := N.ru.tupE
    obtain ⟨u0, u1, u2, u3, rfl, q0, _, _, _⟩ := four rus
    cases q0
    refine ⟨_, rfl, _, rfl, [], v, .ref t2, r, _, rfl, N.rv, N.ok, N.ru, N.nt, fun H1 S1 => ?_⟩
    refine ⟨_, rfl, q, d, rfl, N.rq.stp S1 Lsts.nil, N.dp, N.fl, fun H2 S2 => ?_⟩
    have S12 := S1.trans S2
    dsimp only
    have okn : OkV none := fun l e => nomatch e
    refine ⟨_, rfl, _, rfl, [], v, .ref t2, r, m, d1, vD low, vD high, rfl, N.rv.up S12, N.ok, N.ru.up S12, lk1, fun L H3 S3 hL => ?_⟩
    have S13 := S12.trans S3
    obtain ⟨ns, ens⟩ : ∃ ns, ns = numR r m d1 (vD low) (vD high) := ⟨_, rfl⟩
    rw [← ens] at hL hm kn
    refine ⟨L, rfl, ⟨_, SqL.of hL⟩, for_list (K := K) (a := L) (xs := ns.map V.int) (fun i σ H' => ∃ x3 x4 x5 : Option V, σ = [some v, some (.ref t2), some q, x3, x4, x5] ∧ Stp [] H3 H' ∧ ∀ j k', j < i → ns[j]? = some k' → ¬ hitP r (vD low) (vD high) m (lev n none d) (yesB n d) k')
      ⟨_, _, _, rfl, Stp.refl _ _, fun j _ h => absurd h (Nat.not_lt_zero _)⟩ (fun i σ H' _ ⟨_, _, _, _, S, _⟩ => SqL.of (S.kp _ _ nn hL)) ?_ (fun σ H' ⟨x3, x4, x5, e, S, no⟩ => by
        refine kn H' (S13.trans S) fun k mk => ?_
        obtain ⟨j, hj⟩ := List.getElem?_of_mem mk
        exact no j k (by rw [List.length_map]; exact (List.getElem?_eq_some_iff.mp hj).1) hj)⟩
    rintro i y σ H4 hi ⟨x3, x4, x5, rfl, S4, no⟩
    obtain ⟨kk, hk, rfl⟩ : ∃ x, ns[i]? = some x ∧ y = V.int x := by
      rw [List.getElem?_map] at hi
      cases e : ns[i]? with
      | none => rw [e] at hi; cases hi
      | some u => rw [e] at hi; exact ⟨u, rfl, (Option.some.inj hi).symm⟩
    have mem := List.mem_of_getElem? hk
    have km := hm kk mem
    have nk := num_mem.mp (show kk ∈ numI r (leftI (m : Int) d1) (vD low) (vD high) by rw [ens] at mem; exact mem)
    have can := nk.2.2.2
    have k0 : 0 ≤ kk := by have := nk.2.1; omega
    have S14 := S13.trans S4
    refine ⟨_, rfl, _, rfl, _, rfl, [], v, .ref t2, r, .int m, d1, vD low, vD high, kk, rfl, N.rv.up S14, N.ok, N.ru.up S14, fun M xs H5 nM S5 hM rM => ?_⟩
    have rM' : RpL K H5 xs ((rangesR r (vD low) (vD high) kk).map prD) := by
      have := RvL.old rM
      rwa [old_prs] at this
    have few := rng_few r (vD low) (vD high) kk
    refine ⟨M, xs, rangesR r (vD low) (vD high) kk, rfl, hM, rM', rng_ok N.ok, by omega, fun b ds H6 S6 sp es => ?_⟩
    have S16 := (S14.trans S5).trans S6
    dsimp only [gName]
    have lds : ds.length ≤ 10 := by
      have := norm_len sp.ok (ps := rangesR r (vD low) (vD high) kk) es
      omega
    have around : ∀ (o : Option Txt) H', Stp [] H6 H' → hitP r (vD low) (vD high) m (lev n none d) (yesB n d) kk → LeastOf (wantS r (vD low) (vD high) m (lev n none d) (yesB n d) kk) o → (∀ w, o = some w → Short w) → spAround K [v, .ref t2, .int kk, vV o] H' Q E0 := fun o H' S' hit le sho => by
      refine ⟨v, .ref t2, r, m, d1, low, high, kk, o, rfl, N.rv.up (S16.trans S'), N.ok, N.ru.up (S16.trans S'), k0, km, m1, fun z => ?_, fun L2 H2' nL2 S2' hL2 => ?_⟩
      · obtain ⟨w, e, hw, _⟩ := least_some can z N.ok hit le
        exact ⟨w, e, sho w e, hw⟩
      · refine k _ L2 H2' ⟨i, kk, o, by rw [← ens]; exact hk, by rw [← ens]; exact no, hit, le, sho, rfl⟩ ((S16.trans S').fresh nn nL2) ((S16.trans S').trans S2') hL2
    have lv : ∀ ps : List Pr, lvV ps = vV (fstO ps) := fun ps => by cases ps <;> rfl
    have shf : ∀ {ps : List Pr}, SpOk ps → ∀ w, fstO ps = some w → Short w := fun {ps} ok w e => by
      cases ps with
      | nil => cases e
      | cons p ps => cases e; exact (ok.ok p (by simp)).1
    refine tseq_if (tt_join (fun c H' => Stp [] H6 H' ∧ (c = true ↔ (lev n none d = 2 ∧ kk < m))) (fun fi => ?_) ?_)
    · refine ⟨_, rfl, q, d, none, rfl, N.rq.stp S16 Lsts.nil, N.fl, N.dp, okn, fun H7 S7 => ⟨_, rfl, ite2 (fun h1 => ?_) (fun h1 => fi _ _ ⟨S7, fun e => (nomatch e), fun e => absurd (decide_eq_true e.1) h1⟩)⟩⟩
      refine ⟨_, rfl, _, rfl, t2, _, 0, _, rfl, rfl, sqt_stp (S16.trans S7) Lsts.nil ht2, at0, _, _, rfl, rfl, _, rfl, fi _ _ ⟨S7, ?_⟩⟩
      rw [decide_eq_true_iff]
      exact ⟨fun e => ⟨of_decide_eq_true h1, e⟩, fun e => e.2⟩
    rintro c H7 ⟨S7, hc⟩
    have sp7 := sp.stp S7 Lsts.nil
    refine ite2 (fun c1 => ?_) (fun c1 => ?_)
    · have hh := hc.mp c1
      refine ⟨_, rfl, _, rfl, _, rfl, _, rfl, b, ds, rfl, sp7, fun H8 S8 => ?_⟩
      rw [lv]
      refine around _ H8 (S7.trans S8) (.inl hh) ((least_first sp.ok).congr fun w aw => ?_) (shf sp.ok)
      unfold wantS
      rw [es, decide_eq_true hh]
      simp
    have hn : ¬ (lev n none d = 2 ∧ kk < m) := fun e => c1 (hc.mpr e)
    dsimp only [tNext]
    have wt := N.wt
    refine ⟨_, rfl, _, rfl, q, d, rfl, N.rq.stp (S16.trans S7) Lsts.nil, N.fl, N.dp, N.th, by omega, fun b2 ds2 H8 S8 sp2 es2 l2 => ?_⟩
    refine ⟨b, b2, ds, ds2, rfl, sp7.stp S8 Lsts.nil, sp2, by omega, fun b3 cs H9 S9 sc ec lc => ?_⟩
    have S79 := (S7.trans S8).trans S9
    have eq : ∀ w, Abc w → inS cs w = wantS r (vD low) (vD high) m (lev n none d) (yesB n d) kk w := fun w aw => by
      unfold wantS
      rw [ec, es, es2 w aw, decide_eq_false hn, Bool.false_or]
    dsimp only [gName]
    obtain ⟨ys, hys, ry⟩ := sc.ex
    refine ⟨_, rfl, _, .inr (.inl ⟨ys, hys, rfl⟩), ?_⟩
    cases cs with
    | nil =>
      cases ry
      refine ite2 (fun h => nomatch (h : false = true)) (fun _ => ?_)
      refine ⟨_, _, _, rfl, S4.trans ((S5.trans S6).trans S79), fun j k' lj hj => ?_⟩
      rcases Nat.lt_or_eq_of_le (Nat.le_of_lt_succ lj) with c | c
      · exact no j k' c hj
      · subst c
        rw [hk] at hj
        cases hj
        rintro (g | ⟨w, aw, g1, g2⟩)
        · exact hn g
        · have := eq w aw
          unfold wantS at this
          rw [g1, g2, Bool.or_true] at this
          cases this
    | cons p cs =>
      cases ry with
      | cons r1 ry =>
      refine ite2 (fun _ => ?_) (fun h => absurd rfl h)
      refine ⟨_, rfl, _, rfl, _, rfl, _, rfl, b3, p :: cs, rfl, sc, fun HA SA => ?_⟩
      rw [lv]
      have f := least_first sc.ok
      refine around _ HA (S79.trans SA) (.inr ⟨p.1, f.1, ?_⟩) (f.congr eq) (shf sc.ok)
      have := f.2.1
      rw [eq p.1 f.1] at this
      unfold wantS at this
      rw [decide_eq_false hn, Bool.false_or] at this
      exact Bool.and_eq_true_iff.mp this
abbrev s__law_query : Stmt := topS 87
abbrev N__law_query : List Str := ["urn", "room", "levels", "roots", "way", "parts", "many", "k", "texts"]
theorem sc__law_query : FnScope ["urn", "room", "levels", "roots", "way", "parts", "many", "k", "texts"] ["urn", "room", "levels", "roots"] (defScope s__law_query) := ⟨rfl, rfl, rfl, by decide +kernel, rfl, by decide +kernel, by decide +kernel⟩

/-! ### drawn filters, of roots that stay -/
theorem rp_mk1 {K : PySem.W.Frag} {H : Hp} {a : Addr} {z : Str} (s : SqT K H a [.str z]) (hz : z.length ≤ 100000) : Rp K H (.ref a) (.tup [.str z.cps.toList]) := by
  have e : V.str z = Tx z.cps.toList := congrArg V.str (lit_tx z).symm
  rw [e] at s
  exact .tup s (by simp) (.cons (.str _ (by simpa [Str.length] using hz)) .nil)
theorem rp_mk2 {K : PySem.W.Frag} {H : Hp} {a : Addr} {z : Str} {u : V} {p : Dt} (s : SqT K H a [.str z, u]) (hz : z.length ≤ 100000) (r : Rp K H u p) : Rp K H (.ref a) (.tup [.str z.cps.toList, p]) := by
  have e : V.str z = Tx z.cps.toList := congrArg V.str (lit_tx z).symm
  rw [e] at s
  exact .tup s (by simp) (.cons (.str _ (by simpa [Str.length] using hz)) (.cons r .nil))
theorem rpl_mk {K : PySem.W.Frag} {H : Hp} : ∀ {ls : List (List Nat)}, (∀ l ∈ ls, l.length ≤ 100000) → RpL K H (ls.map Tx) (ls.map Dt.str)
  | [], _ => .nil
  | l :: ls, h => .cons (.str l (h l (by simp))) (rpl_mk fun x m => h x (by simp [m]))
theorem depL_str : ∀ ls : List Txt, Dt.depL (ls.map Dt.str) = 0
  | [] => rfl
  | l :: ls => by
    show max (Dt.dep (.str l)) (Dt.depL (ls.map Dt.str)) = 0
    rw [depL_str ls]
    rfl
theorem depL_le {k : Nat} : ∀ ds : List Dt, (∀ d ∈ ds, d.dep ≤ k) → Dt.depL ds ≤ k
  | [], _ => Nat.zero_le _
  | d :: ds, h => by
    have h1 := h d (by simp)
    have h2 := depL_le ds fun e m => h e (by simp [m])
    show max d.dep (Dt.depL ds) ≤ k
    omega
theorem wtL_app : ∀ (as bs : List Dt), wtL (as ++ bs) = wtL as + wtL bs
  | [], bs => (Nat.zero_add _).symm
  | a :: as, bs => by
    show wtD a + wtL (as ++ bs) = wtD a + wtL as + wtL bs
    rw [wtL_app as bs, Nat.add_assoc]
theorem wt_lst (z : Txt) (ds : List Dt) : wtD (.tup [.str z, .tup ds]) = wtL ds + 5 := by
  show 1 + (wtL ds + 2 + 0) + 2 = wtL ds + 5
  omega
structure Lq (H : Hp) (b r p : Addr) (n x y : Nat) (ls : List Txt) : Prop where
  B : Urn H b n
  P : Roots H p ls
  R : H r = some (.lst [.int (x : Int), .int (y : Int)])
  bp : b ≠ p
  br : b ≠ r
  pr : p ≠ r
theorem Lq.no {H : Hp} {b r p : Addr} {n x y : Nat} {ls : List Txt} (s : Lq H b r p n x y ls) : p ∉ [b] := fun m => s.bp (List.mem_singleton.mp m).symm
theorem Lq.rb {H : Hp} {b r p : Addr} {n x y : Nat} {ls : List Txt} (s : Lq H b r p n x y ls) : r ∉ [b] := fun m => s.br (List.mem_singleton.mp m).symm
theorem Lq.dr {H H' : Hp} {b r p : Addr} {n n' x y : Nat} {ls : List Txt} (s : Lq H b r p n x y ls) (o : Stp [b] H H') (B : Urn H' b n') : Lq H' b r p n' x y ls :=
  ⟨B, ⟨o.kp _ _ s.no s.P.1, s.P.2⟩, o.kp _ _ s.rb s.R, s.bp, s.br, s.pr⟩
theorem Lq.st {H H' : Hp} {b r p : Addr} {n x y : Nat} {ls : List Txt} (s : Lq H b r p n x y ls) (o : Stp [] H H') : Lq H' b r p n x y ls :=
  s.dr o.nil (s.B.up o)
theorem Lq.new {H : Hp} {b r p q : Addr} {o : HO} {n x y : Nat} {ls : List Txt} (s : Lq H b r p n x y ls) (h : H q = none) : Lq (upd H q o) b r p n x y ls := s.st (Stp.new h _)
theorem Lq.room {H : Hp} {b r p : Addr} {n x y x' y' : Nat} {ls : List Txt} (s : Lq H b r p n x y ls) : Lq (upd H r (.lst [.int (x' : Int), .int (y' : Int)])) b r p n x' y' ls :=
  ⟨s.B.upd s.br, ⟨by rw [upd_ne s.pr]; exact s.P.1, s.P.2⟩, upd_same, s.bp, s.br, s.pr⟩
theorem Lq.mono {H : Hp} {b r p : Addr} {n n' x y : Nat} {ls : List Txt} (s : Lq H b r p n x y ls) (h : n ≤ n') : Lq H b r p n' x y ls := ⟨s.B.mono h, s.P, s.R, s.bp, s.br, s.pr⟩
theorem Lq.out {H : Hp} {b r p q : Addr} {n x y : Nat} {ls : List Txt} (s : Lq H b r p n x y ls) (h : H q = none) : q ∉ [b, r, p] := fun m => by
  have h1 := s.B.ne h
  have h2 := ne_of_none s.P.1 h
  have h3 := ne_of_none s.R h
  simp at m
  rcases m with e | e | e
  · exact h1 e.symm
  · exact h3 e.symm
  · exact h2 e.symm
theorem Lq.oth {H : Hp} {b r p q : Addr} {o : HO} {n x y : Nat} {ls : List Txt} (s : Lq H b r p n x y ls) (h : q ∉ [b, r, p]) : Lq (upd H q o) b r p n x y ls := by
  have h1 : b ≠ q := fun e => h (by rw [e]; simp)
  have h2 : p ≠ q := fun e => h (by rw [e]; simp)
  have h3 : r ≠ q := fun e => h (by rw [e]; simp)
  exact ⟨s.B.upd h1, ⟨by rw [upd_ne h2]; exact s.P.1, s.P.2⟩, by rw [upd_ne h3]; exact s.R, s.bp, s.br, s.pr⟩
theorem Lq.lsts {H : Hp} {b r p : Addr} {n x y : Nat} {ls : List Txt} (s : Lq H b r p n x y ls) : Lsts H [b, r] := by
  obtain ⟨u0, u1, u2, hb, _⟩ := s.B
  exact .cons hb (.one s.R)
/-- a filter of at most x filters with y texts; 100 draws a filter, 80 a text -/
def spLQ (K : PySem.W.Frag) (L : Nat) : Sp := fun vs H Q _ => ∃ (b r p : Addr) (n x y : Nat) (ls : List Txt), vs = [.ref b, .ref r, .int (L : Int), .ref p] ∧ Lq H b r p n x y ls ∧ n + 100 * x + 80 * y < 2 ^ 29 ∧ 0 < x ∧ x ≤ 20 ∧ y ≤ 20 ∧ 1 ≤ L ∧ L ≤ 8 ∧
  ∀ v d H' n' x' y', Stp [b, r] H H' → Lq H' b r p n' x' y' ls → n' + 100 * x' + 80 * y' ≤ n + 100 * x + 80 * y → x' < x → y' ≤ y → Rp K H' v d → Flt d → tshD 12 d → d.dep ≤ 2 * L → wtD d + 5 * x' + y' ≤ 5 * x + y → Q v H'
theorem tsh_two {m : Nat} {z : Str} {d : Dt} (hz : z.cps.toList.length ≤ m) (h : tshD m d) : tshD m (.tup [.str z.cps.toList, d]) := ⟨hz, h, trivial⟩
theorem lq_step {f : Addr} {fd : FuncData} (D : Df K mg "_law_query" s__law_query ["urn", "room", "levels", "roots"] f fd) (T : Nm mg) {L m : Nat} (hm : 3 ≤ m) (c__law_pick : Cl P w K mg base 1 "_law_pick" s__law_pick ["urn", "many"] spPick) (c__law_near : Cl P w K mg base 3 "_law_near" s__law_near ["urn", "roots"] spNear) (c__law_query : Cl P w K mg base m "_law_query" s__law_query ["urn", "room", "levels", "roots"] (spLQ K L)) : Cl P w K mg base (m + 1) "_law_query" s__law_query ["urn", "room", "levels", "roots"] (spLQ K (L + 1)) := by
  refine D.cl sc__law_query (fun vs H Q E h => ?_) (fun cdv A outer s H vs Q E hr h => ?_)
  · obtain ⟨b, r, p, n, x, y, ls, rfl, _⟩ := h
    rfl
  · obtain ⟨b, r, p, n, x, y, ls, rfl, S, hn, x0, x12, y8, -, l5, k⟩ := h
    refine ⟨_, (pss_cons (ps_asg (pe_op op_sub (pe_ix ix_list (pv 1) pe_int (fun _ _ => rfl)) pe_int) (pg_sub (pv 1) pe_int set_list))
      (pss_cons (ps_set (i := 4) sc__law_query.nd rfl (by first | exact Or.inl rfl | exact Or.inr rfl) (pe_cl c__law_pick hr (by omega) (pa_cons (pv 0) (pa_cons pe_int pa_nil))))
      (pss_cons (ps_if (PW.pt (pw_and (pt_cmpR op_gt (pv 2) pe_int (by first | exact nomark _ | rfl)) (pw_and (pt_cmpR op_gt (pe_ix ix_list (pv 1) pe_int (fun _ _ => rfl)) pe_int (by first | exact nomark _ | rfl)) (pw_and1 (pt_cmpR op_gt (pv 4) pe_int (by first | exact nomark _ | rfl)))))) (pss_cons (ps_if (pt_cmpR op_eq (pv 4) pe_int (by first | exact nomark _ | rfl)) (pss_one (ps_ret (pe_tup (pa_cons pe_str (pa_cons (pe_cl c__law_query hr (by omega) (pa_cons (pv 0) (pa_cons (pv 1) (pa_cons (pe_op op_sub (pv 2) pe_int) (pa_cons (pv 3) pa_nil))))) pa_nil))))) pss_nil)
      (pss_cons (ps_set (i := 5) sc__law_query.nd rfl (by first | exact Or.inl rfl | exact Or.inr rfl) (pe_lst pa_nil))
      (pss_cons (ps_set (i := 6) sc__law_query.nd rfl (by first | exact Or.inl rfl | exact Or.inr rfl) (pe_cl c__law_pick hr (by omega) (pa_cons (pv 0) (pa_cons pe_int pa_nil))))
      (pss_cons (ps_if (pt_cmpR op_eq (pv 6) pe_int (by first | exact nomark _ | rfl)) (pss_one (ps_set (i := 6) sc__law_query.nd rfl (by first | exact Or.inl rfl | exact Or.inr rfl) (pe_op op_add pe_int (pe_cl c__law_pick hr (by omega) (pa_cons (pv 0) (pa_cons pe_int pa_nil)))))) pss_nil)
      (pss_cons (ps_for PassesOwn.never rfl (pi_range1 (by rfl) T.n_range (pa_cons (pv 6) pa_nil)) (pg_name (i := 7) sc__law_query.nd rfl (by first | exact Or.inl rfl | exact Or.inr rfl)) (pss_one (ps_if (pt_cmpR op_gt (pe_ix ix_list (pv 1) pe_int (fun _ _ => rfl)) pe_int (by first | exact nomark _ | rfl)) (pss_one (ps_expr (pe_bm PySem.F.plainAttrs_list PySem.F.slot_list_append PySem.F.type_list_append mt_append (pv 5) (pa_cons (pe_cl c__law_query hr (by omega) (pa_cons (pv 0) (pa_cons (pv 1) (pa_cons (pe_op op_sub (pv 2) pe_int) (pa_cons (pv 3) pa_nil))))) pa_nil)))) pss_nil)))
      (pss_one (ps_ret (pe_tup (pa_cons (pe_ix ix_list (pe_lst (pa_cons pe_str (pa_cons pe_str pa_nil))) (pe_op op_mod (pe_callTy call_int1 (by rfl) T.n_int (by decide +kernel) (pa_cons (pv 4) pa_nil)) pe_int) (fun _ _ => rfl)) (pa_cons (pe_callTy call_tuple_of (by rfl) T.n_tuple (by decide +kernel) (pa_cons (pv 5) pa_nil)) pa_nil)))))))))) pss_nil)
      (pss_cons (ps_if (PW.pt (pw_or (pt_cmpR op_eq (pv 4) pe_int (by first | exact nomark _ | rfl)) (pw_or1 (pt_cmpR op_lt (pe_ix ix_list (pv 1) pe_int (fun _ _ => rfl)) pe_int (by first | exact nomark _ | rfl))))) (pss_one (ps_ret (pe_ix ix_list (pe_lst (pa_cons (pe_tup (pa_cons pe_str pa_nil)) (pa_cons (pe_tup (pa_cons pe_str (pa_cons pe_bl pa_nil))) (pa_cons (pe_tup (pa_cons pe_str (pa_cons pe_bl pa_nil))) pa_nil)))) (pe_cl c__law_pick hr (by omega) (pa_cons (pv 0) (pa_cons pe_int pa_nil))) (fun _ _ => rfl)))) pss_nil)
      (pss_cons (ps_if (pt_cmpR op_eq (pv 4) pe_int (by first | exact nomark _ | rfl)) (pss_cons (ps_setLc (i := 8) (own := [("k", 7)]) rfl sc__law_query.nd rfl rfl (sw_true rfl rfl rfl (by decide +kernel)) (pi_range1 (by rfl) T.n_range (pa_cons (pe_cl c__law_pick hr (by omega) (pa_cons (pv 0) (pa_cons (pe_op op_add (pe_ix ix_list (pv 1) pe_int (fun _ _ => rfl)) pe_int) pa_nil))) pa_nil)) (blkOk_by (own := [("k", 7)]) (N := N__law_query) (sc := defScope s__law_query) (by decide +kernel)) (fun _ _ _ _ _ => (pg_name (i := 7) sc__law_query.nd rfl (by first | exact Or.inl rfl | exact Or.inr rfl))) (fun _ _ _ _ _ => pts_nil) (fun _ _ _ _ _ => (pe_cl c__law_near hr (by omega) (pa_cons (pv 0) (pa_cons (pv 3) pa_nil)))))
      (pss_cons (ps_asg (pe_op op_sub (pe_ix ix_list (pv 1) pe_int (fun _ _ => rfl)) (pe_callB call_len_seq (by rfl) T.n_len (by decide +kernel) (pa_cons (pv 8) pa_nil))) (pg_sub (pv 1) pe_int set_list))
      (pss_one (ps_ret (pe_tup (pa_cons pe_str (pa_cons (pe_callTy call_tuple_of (by rfl) T.n_tuple (by decide +kernel) (pa_cons (pv 8) pa_nil)) pa_nil))))))) pss_nil)
      (pss_cons (ps_asg (pe_op op_sub (pe_ix ix_list (pv 1) pe_int (fun _ _ => rfl)) pe_int) (pg_sub (pv 1) pe_int set_list))
      (pss_one (ps_ret (pe_tup (pa_cons (pe_ix ix_list (pe_lst (pa_cons pe_str (pa_cons pe_str (pa_cons pe_str (pa_cons pe_str pa_nil))))) (pe_op op_mod (pe_callTy call_int1 (by rfl) T.n_int (by decide +kernel) (pa_cons (pv 4) pa_nil)) pe_int) (fun _ _ => rfl)) (pa_cons (pe_cl c__law_near hr (by omega) (pa_cons (pv 0) (pa_cons (pv 3) pa_nil))) pa_nil))))))))))), ?_⟩
    have one : ∀ q ∈ [b], q ∈ [b, r] := fun q m => by simp at m; simp [m]
    have rone : r ∈ [b, r] := by simp
    refine ⟨_, rfl, r, _, 0, _, rfl, rfl, SqL.of S.R, at0, _, _, rfl, rfl, _, rfl, r, _, 0, 0, rfl, rfl, S.R, rfl, ?_⟩
    obtain ⟨x, rfl⟩ : ∃ x1, x = x1 + 1 := ⟨x - 1, by omega⟩
    have ex : ((x + 1 : Nat) : Int) - 1 = (x : Int) := by omega
    dsimp only
    rw [ex]
    rw [show ([V.int ((x + 1 : Nat) : Int), V.int (y : Int)].set 0 (V.int (x : Int))) = [V.int (x : Int), V.int (y : Int)] from rfl]
    have S1 : Lq (upd H r (.lst [.int (x : Int), .int (y : Int)])) b r p n x y ls := S.room
    have T1 : Stp [b, r] H (upd H r (.lst [.int (x : Int), .int (y : Int)])) := Stp.put rone
    generalize upd H r (.lst [.int (x : Int), .int (y : Int)]) = H1 at *
    refine ⟨_, rfl, b, 12, n, rfl, S1.B, by omega, by decide, by decide, fun way H2 w0 w1 o2 B2 => ?_⟩
    have S2 : Lq H2 b r p (n + 1) x y ls := S1.dr o2 B2
    have T2 := T1.trans (o2.sub one)
    dsimp only [gName]
    refine seq_end (fun σ H' => σ = [some (.ref b), some (.ref r), some (.int ((L + 1 : Nat) : Int)), some (.ref p), some (.int way), none, none, none, none] ∧ H2 = H') ?_ (fun fin => ?_)
    · rintro _ _ ⟨rfl, rfl⟩
      have dec3 : ("none" : Str).length ≤ 100000 ∧ ("say" : Str).length ≤ 100000 ∧ ("not" : Str).length ≤ 100000 ∧ ("among" : Str).length ≤ 100000 := by decide +kernel
      have shn : tshD 12 (.tup [.str ("none" : Str).cps.toList]) := ⟨(by decide +kernel : ("none" : Str).cps.toList.length ≤ 12), trivial⟩
      have shs : ∀ c, tshD 12 (.tup [.str ("say" : Str).cps.toList, .bl c]) := fun c => tsh_two (by decide +kernel) trivial
      refine tseq_if (tt_join (fun c H' => H2 = H' ∧ (c = false → 0 < y)) (fun fi => ?_) ?_)
      · refine ⟨_, rfl, rfl, _, rfl, ite2 (fun _ => fi _ _ ⟨rfl, fun e => nomatch e⟩) (fun _ => ?_)⟩
        refine ⟨_, rfl, r, _, 1, _, rfl, rfl, SqL.of S2.R, at1, _, _, rfl, rfl, _, rfl, fi _ _ ⟨rfl, fun e => ?_⟩⟩
        have := of_decide_eq_false e
        omega
      rintro c _ ⟨rfl, hc⟩
      refine ite2 (fun _ => ?_) (fun c0 => ?_)
      · refine ⟨by show 1 ≤ sizeLine; decide, fun a1 n1 => ⟨by show 2 ≤ sizeLine; decide, fun a2 n2 => ⟨by show 2 ≤ sizeLine; decide, fun a3 n3 => ⟨by show 3 ≤ sizeLine; decide, fun q nq => ?_⟩⟩⟩⟩
        have T3 : Stp [b, r] H (upd (upd (upd (upd H2 a1 (.tup [.str "none"])) a2 (.tup [.str "say", .bl true])) a3 (.tup [.str "say", .bl false])) q (.lst [.ref a1, .ref a2, .ref a3])) := (((T2.new' n1).new' n2).new' n3).new' nq
        have S3 : Lq (upd (upd (upd (upd H2 a1 (.tup [.str "none"])) a2 (.tup [.str "say", .bl true])) a3 (.tup [.str "say", .bl false])) q (.lst [.ref a1, .ref a2, .ref a3])) b r p (n + 1) x y ls := (((S2.new n1).new n2).new n3).new nq
        have h1 : SqT K (upd (upd (upd (upd H2 a1 (.tup [.str "none"])) a2 (.tup [.str "say", .bl true])) a3 (.tup [.str "say", .bl false])) q (.lst [.ref a1, .ref a2, .ref a3])) a1 [.str "none"] := sqt_stp (((Stp.new n2 []).new' n3).new' nq) Lsts.nil (SqT.of upd_same)
        have h2 : SqT K (upd (upd (upd (upd H2 a1 (.tup [.str "none"])) a2 (.tup [.str "say", .bl true])) a3 (.tup [.str "say", .bl false])) q (.lst [.ref a1, .ref a2, .ref a3])) a2 [.str "say", .bl true] := sqt_stp ((Stp.new n3 []).new' nq) Lsts.nil (SqT.of upd_same)
        have h3 : SqT K (upd (upd (upd (upd H2 a1 (.tup [.str "none"])) a2 (.tup [.str "say", .bl true])) a3 (.tup [.str "say", .bl false])) q (.lst [.ref a1, .ref a2, .ref a3])) a3 [.str "say", .bl false] := sqt_stp (Stp.new nq []) Lsts.nil (SqT.of upd_same)
        have hq : (upd (upd (upd (upd H2 a1 (.tup [.str "none"])) a2 (.tup [.str "say", .bl true])) a3 (.tup [.str "say", .bl false])) q (.lst [.ref a1, .ref a2, .ref a3])) q = some (.lst [.ref a1, .ref a2, .ref a3]) := upd_same
        have qb : q ∉ [b] := fun m => (S2.new n1 |>.new n2 |>.new n3).B.ne nq (List.mem_singleton.mp m).symm
        generalize upd (upd (upd (upd H2 a1 (.tup [.str "none"])) a2 (.tup [.str "say", .bl true])) a3 (.tup [.str "say", .bl false])) q (.lst [.ref a1, .ref a2, .ref a3]) = H3 at *
        refine ⟨_, rfl, b, 3, n + 1, rfl, S3.B, by omega, by decide, by decide, fun d H4 d0 d1 o4 B4 => ?_⟩
        have S4 := S3.dr o4 B4
        have T4 := T3.trans (o4.sub one)
        have lb := S3.B.ls
        rcases (show d = 0 ∨ d = 1 ∨ d = 2 by omega) with rfl | rfl | rfl
        · refine ⟨q, _, 0, _, rfl, rfl, SqL.of (o4.kp _ _ qb hq), at0, ?_⟩
          exact k _ (.tup [.str ("none" : Str).cps.toList]) _ (n + 2) x y T4 S4 (by omega) (by omega) (by omega) (rp_mk1 (sqt_stp o4 lb h1) dec3.1) .none shn (by show 1 ≤ 2 * (L + 1); omega) (by show 1 + 0 + 2 + 5 * x + y ≤ _; omega)
        · refine ⟨q, _, 1, _, rfl, rfl, SqL.of (o4.kp _ _ qb hq), at1, ?_⟩
          exact k _ (.tup [.str ("say" : Str).cps.toList, .bl true]) _ (n + 2) x y T4 S4 (by omega) (by omega) (by omega) (rp_mk2 (sqt_stp o4 lb h2) dec3.2.1 (.bl _)) (.say _) (shs _) (by show 1 ≤ 2 * (L + 1); omega) (by show 1 + (1 + 0) + 2 + 5 * x + y ≤ _; omega)
        · refine ⟨q, _, 2, _, rfl, rfl, SqL.of (o4.kp _ _ qb hq), at2, ?_⟩
          exact k _ (.tup [.str ("say" : Str).cps.toList, .bl false]) _ (n + 2) x y T4 S4 (by omega) (by omega) (by omega) (rp_mk2 (sqt_stp o4 lb h3) dec3.2.1 (.bl _)) (.say _) (shs _) (by show 1 ≤ 2 * (L + 1); omega) (by show 1 + (1 + 0) + 2 + 5 * x + y ≤ _; omega)
      have y1 : 0 < y := hc (Bool.eq_false_iff.mpr c0)
      dsimp only [tNext]
      refine ⟨_, rfl, rfl, _, rfl, ite2 (fun _ => ?_) (fun _ => ?_)⟩
      · refine ⟨_, rfl, _, rfl, r, _, 1, _, rfl, rfl, SqL.of S2.R, at1, _, _, rfl, rfl, b, _, n + 1, rfl, S2.B, by omega, by omega, by omega, fun z H3 z0 z1 o3 B3 => ?_⟩
        have S3 := S2.dr o3 B3
        have T3 := T2.trans (o3.sub one)
        obtain ⟨z, rfl⟩ := Int.eq_ofNat_of_zero_le z0
        have zy : z ≤ y := by omega
        refine ⟨_, rfl, by omega, by omega, fun M nM => ?_⟩
        have oM := S3.out nM
        have nMH := T3.fresh (fun m => oM (by simp at m; rcases m with e | e <;> simp [e])) nM
        have Mb : M ∉ [b] := fun m => oM (by simp at m; simp [m])
        refine lc_range (lo := 0) (n := z) (fun c H5 => ∃ (ts : List Txt), H5 M = some (.lst (ts.map Tx)) ∧ ts.length = c ∧ (∀ l ∈ ts, Abc l ∧ l.length ≤ 12) ∧ Lq H5 b r p (n + 2 + 70 * c) x y ls ∧ Stp [b, r] H H5)
          ⟨[], upd_same, rfl, fun _ m => (nomatch m), S3.new nM, T3.new' nM⟩ ?_ ?_
        · rintro c H5 hc ⟨ts, hM, tl, ta, S5, T5⟩
          refine ⟨rfl, _, rfl, _, rfl, b, p, ls, n + 2 + 70 * c, rfl, S5.B, by omega, S5.P, fun l H6 al ll T6 B6 => ?_⟩
          have S6 := S5.dr T6 B6
          have hM6 := T6.kp _ _ Mb hM
          refine ⟨_, hM6, ?_, ts ++ [l], ?_, by simp [tl], ?_, (S6.oth oM).mono (by omega), (T5.trans (T6.sub one)).mut nMH⟩
          · rw [List.length_map]
            exact Nat.lt_of_le_of_lt (show ts.length ≤ 100000 by omega) (by decide)
          · rw [upd_same, List.map_append]
            rfl
          · intro w m
            rcases List.mem_append.mp m with m | m
            · exact ta w m
            · rw [List.mem_singleton.mp m]
              exact ⟨al, ll⟩
        · rintro H5 ⟨ts, hM, tl, ta, S5, T5⟩
          dsimp only [gName]
          refine ⟨_, rfl, r, _, 1, _, rfl, rfl, SqL.of S5.R, at1, _, rfl, M, _, rfl, .inl (SqL.of hM), _, _, rfl, rfl, ?_⟩
          have ey : (y : Int) - ((ts.map Tx).length : Int) = ((y - z : Nat) : Int) := by rw [List.length_map, tl]; omega
          refine ⟨_, rfl, r, _, 1, 1, rfl, rfl, S5.R, rfl, ?_⟩
          dsimp only
          rw [ey, show ([V.int (x : Int), V.int (y : Int)].set 1 (V.int ((y - z : Nat) : Int))) = [V.int (x : Int), V.int ((y - z : Nat) : Int)] from rfl]
          have S6 : Lq (upd H5 r (.lst [.int (x : Int), .int ((y - z : Nat) : Int)])) b r p (n + 2 + 70 * z) x (y - z) ls := S5.room
          have T6 := T5.trans (Stp.put (H := H5) (ys := [.int (x : Int), .int ((y - z : Nat) : Int)]) rone)
          have hM6 : (upd H5 r (.lst [.int (x : Int), .int ((y - z : Nat) : Int)])) M = some (.lst (ts.map Tx)) := by rw [upd_ne (fun e => oM (by simp [e]))]; exact hM
          generalize upd H5 r (.lst [.int (x : Int), .int ((y - z : Nat) : Int)]) = H6 at *
          refine ⟨_, rfl, M, _, rfl, .inl ⟨SqL.of hM6, fun t nt => ?_⟩⟩
          have S7 : Lq (upd H6 t (.tup (ts.map Tx))) b r p (n + 2 + 70 * z) x (y - z) ls := S6.new nt
          have T7 : Stp [b, r] H (upd H6 t (.tup (ts.map Tx))) := T6.new' nt
          have ht : SqT K (upd H6 t (.tup (ts.map Tx))) t (ts.map Tx) := SqT.of upd_same
          generalize upd H6 t (.tup (ts.map Tx)) = H7 at *
          refine ⟨by show 2 ≤ sizeLine; decide, fun a na => ?_⟩
          have rt : Rp K H7 (.ref t) (.tup (ts.map Dt.str)) := .tup ht (by rw [List.length_map]; omega) (rpl_mk fun l m => by have := (ta l m).2; omega)
          refine k _ (.tup [.str ("among" : Str).cps.toList, .tup (ts.map Dt.str)]) _ (n + 2 + 70 * z) x (y - z) (T7.new' na) (S7.new na) (by omega) (by omega) (by omega) (rp_mk2 (SqT.of upd_same) dec3.2.2.2 (rt.stp (Stp.new na _) Lsts.nil)) (.among fun d m => ?_) (tsh_two (by decide +kernel) (tshL_of fun d m => ?_)) ?_ ?_
          · obtain ⟨l, ml, rfl⟩ := List.mem_map.mp m
            exact ⟨l, rfl, (ta l ml).1⟩
          · obtain ⟨l, ml, rfl⟩ := List.mem_map.mp m
            exact (ta l ml).2
          · have := depL_str ts
            show max (Dt.dep _) (max (Dt.depL (ts.map Dt.str) + 1) 0) + 1 ≤ 2 * (L + 1)
            rw [this]
            show max 0 _ + 1 ≤ _
            omega
          · rw [wt_lst, wt_strs]
            omega
      dsimp only [tNext]
      refine ⟨_, rfl, r, _, 1, _, rfl, rfl, SqL.of S2.R, at1, _, _, rfl, rfl, _, rfl, r, _, 1, 1, rfl, rfl, S2.R, rfl, ?_⟩
      have ey : (y : Int) - 1 = ((y - 1 : Nat) : Int) := by omega
      dsimp only
      rw [ey, show ([V.int (x : Int), V.int (y : Int)].set 1 (V.int ((y - 1 : Nat) : Int))) = [V.int (x : Int), V.int ((y - 1 : Nat) : Int)] from rfl]
      have S4 : Lq (upd H2 r (.lst [.int (x : Int), .int ((y - 1 : Nat) : Int)])) b r p (n + 1) x (y - 1) ls := S2.room
      have T4 := T2.trans (Stp.put (H := H2) (ys := [.int (x : Int), .int ((y - 1 : Nat) : Int)]) rone)
      generalize upd H2 r (.lst [.int (x : Int), .int ((y - 1 : Nat) : Int)]) = H4 at *
      refine ⟨by show 4 ≤ sizeLine; decide, fun q nq => ?_⟩
      have S5 : Lq (upd H4 q (.lst [.str "is", .str "below", .str "above", .str "begins"])) b r p (n + 1) x (y - 1) ls := S4.new nq
      have T5 := T4.new' (o := .lst [.str "is", .str "below", .str "above", .str "begins"]) nq
      have hq : (upd H4 q (.lst [.str "is", .str "below", .str "above", .str "begins"])) q = some (.lst [.str "is", .str "below", .str "above", .str "begins"]) := upd_same
      generalize upd H4 q (.lst [.str "is", .str "below", .str "above", .str "begins"]) = H5 at *
      obtain ⟨j, hj, ej⟩ : ∃ j : Nat, j < 4 ∧ way % 4 = (j : Int) := ⟨(way % 4).toNat, by omega, by omega⟩
      obtain ⟨z, hz, hw⟩ : ∃ z : Str, ([V.str "is", V.str "below", V.str "above", V.str "begins"] : List V)[j]? = some (.str z) ∧ (z = "is" ∨ z = "below" ∨ z = "above" ∨ z = "begins") := by
        rcases (show j = 0 ∨ j = 1 ∨ j = 2 ∨ j = 3 by omega) with rfl | rfl | rfl | rfl
        · exact ⟨_, rfl, .inl rfl⟩
        · exact ⟨_, rfl, .inr (.inl rfl)⟩
        · exact ⟨_, rfl, .inr (.inr (.inl rfl))⟩
        · exact ⟨_, rfl, .inr (.inr (.inr rfl))⟩
      have lz : z.length ≤ 100000 := by
        rcases hw with rfl | rfl | rfl | rfl <;> decide +kernel
      have lc : z.cps.toList.length ≤ 12 := by
        rcases hw with rfl | rfl | rfl | rfl <;> decide +kernel
      refine ⟨_, rfl, .inl ⟨way, rfl, _, _, rfl, rfl, show (0 : Int) < 4 by decide, ?_⟩⟩
      dsimp only
      rw [ej]
      refine ⟨q, _, (j : Int), .str z, rfl, rfl, SqL.of hq, atI_nat hz, ?_⟩
      refine ⟨_, rfl, _, rfl, b, p, ls, n + 1, rfl, S5.B, by omega, S5.P, fun l H6 al ll T6 B6 => ?_⟩
      have S6 := S5.dr T6 B6
      have T7 := T5.trans (T6.sub one)
      refine ⟨by show 2 ≤ sizeLine; decide, fun a na => ?_⟩
      refine k _ (.tup [.str z.cps.toList, .str l]) _ (n + 1 + 70) x (y - 1) (T7.new' na) (S6.new na) (by omega) (by omega) (by omega) (rp_mk2 (SqT.of upd_same) lz (.str l (by omega))) (.tx hw al) (tsh_two lc ll) ?_ ?_
      · show 1 ≤ 2 * (L + 1)
        omega
      · show 1 + (1 + 0) + 2 + 5 * x + (y - 1) ≤ _
        omega
    · refine ⟨_, rfl, _, _, rfl, rfl, _, rfl, ite2 (fun l1 => ?_) (fun _ => fin _ _ ⟨rfl, rfl⟩)⟩
      refine ⟨_, rfl, r, _, 0, _, rfl, rfl, SqL.of S2.R, at0, _, _, rfl, rfl, _, rfl, ite2 (fun x1 => ?_) (fun _ => fin _ _ ⟨rfl, rfl⟩)⟩
      refine ⟨_, rfl, _, _, rfl, rfl, _, rfl, ite2 (fun w7 => ?_) (fun _ => fin _ _ ⟨rfl, rfl⟩)⟩
      have x1 : 0 < x := by
        have := of_decide_eq_true x1
        omega
      have l1 : 1 ≤ L := by
        have := of_decide_eq_true l1
        omega
      have el : (((L + 1 : Nat) : Int) - 1) = (L : Int) := by omega
      refine ⟨_, rfl, rfl, _, rfl, ite2 (fun _ => ?_) (fun _ => ?_)⟩
      · refine ⟨_, rfl, _, rfl, _, rfl, _, _, rfl, rfl, _, rfl, b, r, p, n + 1, x, y, ls, by dsimp only; rw [el], S2, by omega, x1, by omega, by omega, l1, by omega, fun v d H3 n' x' y' T3 S3 cn cx cy rv fd ts dd wt => ?_⟩
        refine ⟨by show 2 ≤ sizeLine; decide, fun a na => ?_⟩
        refine k _ (.tup [.str ("not" : Str).cps.toList, d]) _ n' x' y' ((T2.trans T3).new' na) (S3.new na) (by omega) (by omega) (by omega) (rp_mk2 (SqT.of upd_same) (by decide +kernel) (rv.stp (Stp.new na _) Lsts.nil)) (.not fd) (tsh_two (by decide +kernel) ts) ?_ ?_
        · show max 0 (max d.dep 0) + 1 ≤ 2 * (L + 1)
          omega
        · show 1 + (wtD d + 0) + 2 + 5 * x' + y' ≤ _
          omega
      dsimp only [tNext]
      refine ⟨by show 0 ≤ sizeLine; decide, fun M nM => ?_⟩
      have oM := S2.out nM
      have Mbr : M ∉ [b, r] := fun m => oM (by simp at m; rcases m with e | e <;> simp [e])
      have nMH := T2.fresh Mbr nM
      have S3 : Lq (upd H2 M (.lst [])) b r p (n + 1) x y ls := S2.new nM
      have T3 : Stp [b, r] H (upd H2 M (.lst [])) := T2.new' nM
      have hM3 : (upd H2 M (.lst [])) M = some (.lst []) := upd_same
      generalize upd H2 M (.lst []) = H3 at *
      dsimp only [gName]
      refine ⟨_, rfl, b, 5, n + 1, rfl, S3.B, by omega, by decide, by decide, fun z H4 z0 z1 o4 B4 => ?_⟩
      have S4 := S3.dr o4 B4
      have T4 := T3.trans (o4.sub one)
      have Mb : M ∉ [b] := fun m => Mbr (one _ m)
      have hM4 := o4.kp _ _ Mb hM3
      obtain ⟨z, rfl⟩ := Int.eq_ofNat_of_zero_le z0
      dsimp only [gName]
      refine seq_end (fun σ H' => ∃ z : Nat, σ = [some (.ref b), some (.ref r), some (.int ((L + 1 : Nat) : Int)), some (.ref p), some (.int way), some (.ref M), some (.int (z : Int)), none, none] ∧ z ≤ 11 ∧ Lq H' b r p (n + 3) x y ls ∧ H' M = some (.lst []) ∧ Stp [b, r] H H') ?_ (fun fin2 => ?_)
      rotate_left
      · refine ⟨_, rfl, rfl, _, rfl, ite2 (fun _ => ?_) (fun _ => ?_)⟩
        · refine ⟨_, rfl, b, 8, n + 2, rfl, S4.B, by omega, by decide, by decide, fun e H5 e0 e1 o5 B5 => ?_⟩
          obtain ⟨e, rfl⟩ := Int.eq_ofNat_of_zero_le e0
          exact ⟨_, _, rfl, rfl, fin2 _ _ ⟨4 + e, rfl, by omega, S4.dr o5 B5, o5.kp _ _ Mb hM4, T4.trans (o5.sub one)⟩⟩
        · exact fin2 _ _ ⟨z, rfl, by omega, S4.mono (by omega), hM4, T4⟩
      rintro σ H5 ⟨z, rfl, z11, S5, hM5, T5⟩
      have e0 : ∀ d ∈ ([] : List Dt), Flt d ∧ tshD 12 d ∧ d.dep ≤ 2 * L := fun d m => by cases m
      refine ⟨_, rfl, _, rfl, by omega, by omega, for_range (lo := 0) (n := z) (fun c σ H' => ∃ (vs : List V) (ds : List Dt) (n1 x1 y1 : Nat) (x7 : Option V), σ = [some (.ref b), some (.ref r), some (.int ((L + 1 : Nat) : Int)), some (.ref p), some (.int way), some (.ref M), some (.int (z : Int)), x7, none] ∧ H' M = some (.lst vs) ∧ RpL K H' vs ds ∧ ds.length ≤ c ∧ (∀ d ∈ ds, Flt d ∧ tshD 12 d ∧ d.dep ≤ 2 * L) ∧ Lq H' b r p n1 x1 y1 ls ∧ n1 + 100 * x1 + 80 * y1 ≤ n + 3 + 100 * x + 80 * y ∧ x1 ≤ x ∧ y1 ≤ y ∧ wtL ds + 5 * x1 + y1 ≤ 5 * x + y ∧ Stp [b, r] H H')
        ⟨[], [], n + 3, x, y, none, rfl, hM5, .nil, Nat.le_refl _, e0, S5, Nat.le_refl _, Nat.le_refl _, Nat.le_refl _, by show 0 + 5 * x + y ≤ _; omega, T5⟩ ?_ ?_⟩
      · rintro c σ H6 hc ⟨vs, ds, n1, x1, y1, x7, rfl, hM, rl, dl, df, S6, cn, cx, cy, wt, T6⟩
        refine ⟨_, rfl, r, _, 0, _, rfl, rfl, SqL.of S6.R, at0, _, _, rfl, rfl, _, rfl, ite2 (fun h => ?_) (fun _ => ?_)⟩
        · have h1 : 0 < x1 := by
            have := of_decide_eq_true h
            omega
          refine ⟨_, rfl, .inl ⟨rfl, _, SqL.of hM⟩, _, rfl, _, rfl, _, rfl, _, _, rfl, rfl, _, rfl, b, r, p, n1, x1, y1, ls, by dsimp only; rw [el], S6, by omega, h1, by omega, by omega, l1, by omega, fun v d H7 n2 x2 y2 T7 S7 cn2 cx2 cy2 rv fd ts dd wt2 => ?_⟩
          have hM7 := T7.kp _ _ Mbr hM
          have lx := rl.len
          have U : Stp [M] H7 (upd H7 M (.lst (vs ++ [v]))) := Stp.put (by simp)
          refine ⟨M, vs, v, rfl, rfl, hM7, Nat.lt_of_le_of_lt (show vs.length ≤ 1000 by omega) (by decide), ?_⟩
          refine ⟨vs ++ [v], ds ++ [d], n2, x2, y2, some (.int (0 + (c : Int))), rfl, upd_same, RpL.app ((rl.stp T7 S6.lsts).stp U (Lsts.one hM7)) (.cons (rv.stp U (Lsts.one hM7)) .nil), by simp; omega, ?_, S7.oth oM, by omega, by omega, by omega, ?_, (T6.trans T7).mut nMH⟩
          · intro e me
            rcases List.mem_append.mp me with me | me
            · exact df e me
            · rw [List.mem_singleton.mp me]
              exact ⟨fd, ts, dd⟩
          · rw [wtL_app]
            show wtL ds + (wtD d + 0) + 5 * x2 + y2 ≤ _
            omega
        · exact ⟨vs, ds, n1, x1, y1, some (.int (0 + (c : Int))), rfl, hM, rl, by omega, df, S6, cn, cx, cy, wt, T6⟩
      · rintro σ H6 ⟨vs, ds, n1, x1, y1, x7, rfl, hM, rl, dl, df, S6, cn, cx, cy, wt, T6⟩
        have lx := rl.len
        refine ⟨by show 2 ≤ sizeLine; decide, fun q nq => ?_⟩
        have S7 : Lq (upd H6 q (.lst [.str "and", .str "or"])) b r p n1 x1 y1 ls := S6.new nq
        have T7 : Stp [b, r] H (upd H6 q (.lst [.str "and", .str "or"])) := T6.new' nq
        have hq : (upd H6 q (.lst [.str "and", .str "or"])) q = some (.lst [.str "and", .str "or"]) := upd_same
        have hM7 : (upd H6 q (.lst [.str "and", .str "or"])) M = some (.lst vs) := by rw [upd_ne (ne_of_none hM nq)]; exact hM
        have rl7 := rl.stp (Stp.new (o := .lst [.str "and", .str "or"]) nq []) Lsts.nil
        generalize upd H6 q (.lst [.str "and", .str "or"]) = H7 at *
        obtain ⟨j, hj, ej⟩ : ∃ j : Nat, j < 2 ∧ way % 2 = (j : Int) := ⟨(way % 2).toNat, by omega, by omega⟩
        obtain ⟨w0, hw0, hw⟩ : ∃ w0 : Str, ([V.str "and", V.str "or"] : List V)[j]? = some (.str w0) ∧ (w0 = "and" ∨ w0 = "or") := by
          rcases (show j = 0 ∨ j = 1 by omega) with rfl | rfl
          · exact ⟨_, rfl, .inl rfl⟩
          · exact ⟨_, rfl, .inr rfl⟩
        have lz : w0.length ≤ 100000 := by
          rcases hw with rfl | rfl <;> decide +kernel
        have lc : w0.cps.toList.length ≤ 12 := by
          rcases hw with rfl | rfl <;> decide +kernel
        refine ⟨_, rfl, .inl ⟨way, rfl, _, _, rfl, rfl, show (0 : Int) < 2 by decide, ?_⟩⟩
        dsimp only
        rw [ej]
        refine ⟨q, _, (j : Int), .str w0, rfl, rfl, SqL.of hq, atI_nat hw0, ?_⟩
        refine ⟨_, rfl, M, _, rfl, .inl ⟨SqL.of hM7, fun t nt => ?_⟩⟩
        have S8 : Lq (upd H7 t (.tup vs)) b r p n1 x1 y1 ls := S7.new nt
        have T8 : Stp [b, r] H (upd H7 t (.tup vs)) := T7.new' nt
        have ht : SqT K (upd H7 t (.tup vs)) t vs := SqT.of upd_same
        have rl8 := rl7.stp (Stp.new (o := .tup vs) nt []) Lsts.nil
        generalize upd H7 t (.tup vs) = H8 at *
        have rt : Rp K H8 (.ref t) (.tup ds) := .tup ht (by omega) rl8
        refine ⟨by show 2 ≤ sizeLine; decide, fun a na => ?_⟩
        refine k _ (.tup [.str w0.cps.toList, .tup ds]) _ n1 x1 y1 (T8.new' na) (S8.new na) (by omega) (by omega) (by omega) (rp_mk2 (SqT.of upd_same) lz (rt.stp (Stp.new na _) Lsts.nil)) (.many hw (fun d m => (df d m).1)) (tsh_two lc (tshL_of fun d m => (df d m).2.1)) ?_ ?_
        · have := depL_le ds (fun d m => (df d m).2.2)
          show max 0 (max (Dt.depL ds + 1) 0) + 1 ≤ 2 * (L + 1)
          omega
        · rw [wt_lst]
          omega
theorem lq_all {f : Addr} {fd : FuncData} (D : Df K mg "_law_query" s__law_query ["urn", "room", "levels", "roots"] f fd) (T : Nm mg) (c__law_pick : Cl P w K mg base 1 "_law_pick" s__law_pick ["urn", "many"] spPick) (c__law_near : Cl P w K mg base 3 "_law_near" s__law_near ["urn", "roots"] spNear) : ∀ L : Nat, Cl P w K mg base (L + 3) "_law_query" s__law_query ["urn", "room", "levels", "roots"] (spLQ K L)
  | 0 => cl_never D (fun vs H Q E ⟨b, r, p, n, x, y, ls, _, _, _, _, _, _, h, _⟩ => absurd h (by decide)) _
  | L + 1 => lq_step D T (by omega) c__law_pick c__law_near (lq_all D T c__law_pick c__law_near L)
abbrev s__law_answer : Stmt := topS 88
abbrev N__law_answer : List Str := ["quest", "thing", "word", "part", "strong", "heard", "yes", "each"]
theorem sc__law_answer : FnScope ["quest", "thing", "word", "part", "strong", "heard", "yes", "each"] ["quest", "thing"] (defScope s__law_answer) := ⟨rfl, rfl, rfl, by decide +kernel, rfl, by decide +kernel, by decide +kernel⟩

/-! ### what a value answers, by the law -/
theorem no_yes (b : Bool) : atI [V.str "no", V.str "yes"] (if b = true then 1 else 0) = some (.str (ansW (bLev b))) := by cases b <;> decide +kernel
def turnL : List (Key × V) := [(Sum.inr ("yes" : Str), V.str "no"), (Sum.inr ("no" : Str), V.str "yes"), (Sum.inr ("open" : Str), V.str "open")]
theorem turn_at {i : Int} (h : In3 i) : valV (mergeK [] turnL) (Sum.inr (ansW i)) = some (.str (ansW (2 - i))) := by
  rcases h with rfl | rfl | rfl <;> decide +kernel
theorem in_litL {K : PySem.W.Frag} {H : Hp} {z : Str} {ss : List Str} {p : Addr} {Q : VK} (hp : SqL K H p (ss.map V.str)) (k : Q (.bl (decide (z ∈ ss))) H) : rIn K false (.str z) (.ref p) H Q := by
  have e : V.str z = Tx z.cps.toList := congrArg V.str (lit_tx z).symm
  rw [e]
  refine in_strs (.inl hp) ?_
  rw [lit_tx]
  exact k
theorem in_txs {K : PySem.W.Frag} {H : Hp} {l : Txt} {ys : List Txt} {p : Addr} {Q : VK} (hp : SqT K H p (ys.map Tx)) (k : Q (.bl (decide (l ∈ ys))) H) : rIn K false (Tx l) (.ref p) H Q := by
  refine in_strs (ss := ys.map tx) (.inr (by rw [List.map_map]; exact hp)) ?_
  have e : decide (tx l ∈ ys.map tx) = decide (l ∈ ys) := decide_eq_decide.mpr ⟨fun m => by
    obtain ⟨y, m, e⟩ := List.mem_map.mp m
    rw [← of_decide_eq_true ((eq_tx y l).symm.trans (decide_eq_true (congrArg V.str e)))]
    exact m, fun m => List.mem_map.mpr ⟨_, m, rfl⟩⟩
  rw [e]
  exact k
theorem lan_step {f : Addr} {fd : FuncData} (D : Df K mg "_law_answer" s__law_answer ["quest", "thing"] f fd) (T : Nm mg) {n m : Nat} (hm : 1 ≤ m) (c__law_answer : Cl P w K mg base m "_law_answer" s__law_answer ["quest", "thing"] (spAns K n)) : Cl P w K mg base (m + 1) "_law_answer" s__law_answer ["quest", "thing"] (spAns K (n + 1)) := by
  refine D.cl sc__law_answer (fun vs H Q E h => ?_) (fun cdv A outer s H vs Q E hr h => ?_)
  · obtain ⟨v, d, t, rfl, _⟩ := h
    rfl
  · obtain ⟨v, d, t, rfl, r, fl, dp, ok, k⟩ := h
    refine ⟨_, (pss_cons (ps_set (i := 2) sc__law_answer.nd rfl (by first | exact Or.inl rfl | exact Or.inr rfl) (pe_ix ix_tup (pv 0) pe_int (fun _ _ => rfl)))
      (pss_cons (ps_if (pt_cmpR op_eq (pv 2) pe_str (by first | exact nomark _ | rfl)) (pss_one (ps_ret (pe_ix ix_list (pe_lst (pa_cons pe_str (pa_cons pe_str pa_nil))) (pe_callTy call_int1 (by rfl) T.n_int (by decide +kernel) (pa_cons (pe_cmpR op_isN (pv 1) pe_non (by first | exact nomark _ | rfl)) pa_nil)) (fun _ _ => rfl)))) pss_nil)
      (pss_cons (ps_set (i := 3) sc__law_answer.nd rfl (by first | exact Or.inl rfl | exact Or.inr rfl) (pe_ix ix_tup (pv 0) pe_int (fun _ _ => rfl)))
      (pss_cons (ps_if (pt_cmpR op_eq (pv 2) pe_str (by first | exact nomark _ | rfl)) (pss_one (ps_ret (pe_ix ix_list (pe_lst (pa_cons pe_str (pa_cons pe_str pa_nil))) (pe_callTy call_int1 (by rfl) T.n_int (by decide +kernel) (pa_cons (pv 3) pa_nil)) (fun _ _ => rfl)))) pss_nil)
      (pss_cons (ps_if (pt_cmpR op_eq (pv 2) pe_str (by first | exact nomark _ | rfl)) (pss_one (ps_ret (pe_dget (hu_of hr) (pe_disp (pps_cons pe_str pe_str (pps_cons pe_str pe_str (pps_cons pe_str pe_str pps_nil))) (by rfl) (by rfl) (fun z => by cases z) (by decide)) (pe_cl c__law_answer hr (by omega) (pa_cons (pv 3) (pa_cons (pv 1) pa_nil))) (fun _ _ => rfl)))) pss_nil)
      (pss_cons (ps_if (pt_cmpR op_in_seq (pv 2) (pe_lst (pa_cons pe_str (pa_cons pe_str pa_nil))) (by first | exact nomark _ | rfl)) (pss_cons (ps_set (i := 4) sc__law_answer.nd rfl (by first | exact Or.inl rfl | exact Or.inr rfl) (pe_ix ix_list (pe_lst (pa_cons pe_str (pa_cons pe_str pa_nil))) (pe_callTy call_int1 (by rfl) T.n_int (by decide +kernel) (pa_cons (pe_cmpR op_eq (pv 2) pe_str (by first | exact nomark _ | rfl)) pa_nil)) (fun _ _ => rfl)))
      (pss_cons (ps_setLc (i := 5) (own := [("each", 7)]) rfl sc__law_answer.nd rfl rfl (sw_true rfl rfl rfl (by decide +kernel)) (pi_tup (pv 3)) (blkOk_by (own := [("each", 7)]) (N := N__law_answer) (sc := defScope s__law_answer) (by decide +kernel)) (fun _ _ _ _ _ => (pg_name (i := 7) sc__law_answer.nd rfl (by first | exact Or.inl rfl | exact Or.inr rfl))) (fun _ _ _ _ _ => pts_nil) (fun _ _ _ _ _ => (pe_cl c__law_answer hr (by omega) (pa_cons (pv 7) (pa_cons (pv 1) pa_nil)))))
      (pss_cons (ps_if (pt_cmpR op_in_seq (pv 4) (pv 5) (by first | exact nomark _ | rfl)) (pss_one (ps_ret (pv 4))) pss_nil)
      (pss_one (ps_ret (pe_ifExp (pt_cmpR op_in_seq pe_str (pv 5) (by first | exact nomark _ | rfl)) pe_str (pe_ix ix_list (pe_lst (pa_cons pe_str (pa_cons pe_str pa_nil))) (pe_callTy call_int1 (by rfl) T.n_int (by decide +kernel) (pa_cons (pe_cmpR op_eq (pv 2) pe_str (by first | exact nomark _ | rfl)) pa_nil)) (fun _ _ => rfl)))))))) pss_nil)
      (pss_cons (ps_if (pt_cmpR op_isN (pv 1) pe_non (by first | exact nomark _ | rfl)) (pss_one (ps_ret pe_str)) pss_nil)
      (pss_cons (ps_if (pt_cmpR op_eq (pv 2) pe_str (by first | exact nomark _ | rfl)) (pss_one (ps_ret (pe_ix ix_list (pe_lst (pa_cons pe_str (pa_cons pe_str pa_nil))) (pe_callTy call_int1 (by rfl) T.n_int (by decide +kernel) (pa_cons (pe_bm PySem.F.plainAttrs_str PySem.F.slot_str_startswith PySem.F.type_str_startswith mt_startswith (pv 1) (pa_cons (pv 3) pa_nil)) pa_nil)) (fun _ _ => rfl)))) pss_nil)
      (pss_cons (ps_set (i := 6) sc__law_answer.nd rfl (by first | exact Or.inl rfl | exact Or.inr rfl) (pe_or (pe_and (pe_cmpR op_eq (pv 2) pe_str (by first | exact nomark _ | rfl)) (pe_one (pe_cmpR op_eq (pv 1) (pv 3) (by first | exact nomark _ | rfl)))) (pe_one (pe_and (pe_cmpR op_eq (pv 2) pe_str (by first | exact nomark _ | rfl)) (pe_one (pe_cmpR op_in_seq (pv 1) (pv 3) (by first | exact nomark _ | rfl)))))))
      (pss_cons (ps_set (i := 6) sc__law_answer.nd rfl (by first | exact Or.inl rfl | exact Or.inr rfl) (pe_or (pv 6) (pe_or (pe_and (pe_cmpR op_eq (pv 2) pe_str (by first | exact nomark _ | rfl)) (pe_one (pe_cmpR op_lt_str (pv 1) (pv 3) (by first | exact nomark _ | rfl)))) (pe_one (pe_and (pe_cmpR op_eq (pv 2) pe_str (by first | exact nomark _ | rfl)) (pe_one (pe_cmpR op_gt_str (pv 1) (pv 3) (by first | exact nomark _ | rfl))))))))
      (pss_one (ps_ret (pe_ix ix_list (pe_lst (pa_cons pe_str (pa_cons pe_str pa_nil))) (pe_callTy call_int1 (by rfl) T.n_int (by decide +kernel) (pa_cons (pv 6) pa_nil)) (fun _ _ => rfl)))))))))))))), ?_⟩
    have nf : ∀ {a b : Str}, a ≠ b → ¬ decide (V.str a = V.str b) = true := fun n h => n (V.str.inj (of_decide_eq_true h))
    have tf : ∀ {a : Str}, decide (V.str a = V.str a) = true := decide_eq_true rfl
    have len2 : 2 ≤ sizeLine := by decide
    have len3 : 3 ≤ sizeLine := by decide
    have nn : ∀ {x : Addr}, x ∉ ([] : List Addr) := fun m => nomatch m
    cases fl with
    | none =>
      obtain ⟨a, rfl, hs⟩ := rp1 r
      refine ⟨_, rfl, a, _, 0, _, rfl, rfl, hs, at0, ?_⟩
      dsimp only [gName]
      refine ⟨_, rfl, rfl, _, rfl, ite2 (fun _ => ?_) (fun h => absurd tf h)⟩
      have e : decide (oV t = V.non) = decide (t = none) := by
        cases t with
        | none => rfl
        | some l => exact (decide_eq_false fun h => nomatch h).trans (decide_eq_false fun h => nomatch h).symm
      refine ⟨len2, fun q nq => ?_⟩
      refine ⟨_, rfl, rfl, .inr ⟨_, rfl, q, _, _, _, rfl, rfl, SqL.of upd_same, no_yes _, ?_⟩⟩
      rw [e]
      exact k _ (Stp.new nq _)
    | say b =>
      obtain ⟨a, u, rfl, hs, ru⟩ := rp2 r
      cases ru
      rw [lev_two, lev_say] at k
      refine ⟨_, rfl, a, _, 0, _, rfl, rfl, hs, at0, ?_⟩
      dsimp only [gName]
      refine ⟨_, rfl, rfl, _, rfl, ite2 (fun h => absurd h (nf (by decide +kernel))) (fun _ => ?_)⟩
      dsimp only [tNext]
      refine ⟨_, rfl, a, _, 1, _, rfl, rfl, hs, at1, ?_⟩
      dsimp only [gName]
      refine ⟨_, rfl, rfl, _, rfl, ite2 (fun _ => ?_) (fun h => absurd tf h)⟩
      refine ⟨len2, fun q nq => ?_⟩
      exact ⟨_, rfl, .inr ⟨b, rfl, q, _, _, _, rfl, rfl, SqL.of upd_same, no_yes _, k _ (Stp.new nq _)⟩⟩
    | @not d0 f =>
      obtain ⟨a, u, rfl, hs, ru⟩ := rp2 r
      rw [lev_two, lev_not] at k
      refine ⟨_, rfl, a, _, 0, _, rfl, rfl, hs, at0, ?_⟩
      dsimp only [gName]
      refine ⟨_, rfl, rfl, _, rfl, ite2 (fun h => absurd h (nf (by decide +kernel))) (fun _ => ?_)⟩
      dsimp only [tNext]
      refine ⟨_, rfl, a, _, 1, _, rfl, rfl, hs, at1, ?_⟩
      dsimp only [gName]
      refine ⟨_, rfl, rfl, _, rfl, ite2 (fun h => absurd h (nf (by decide +kernel))) (fun _ => ?_)⟩
      refine ⟨_, rfl, rfl, _, rfl, ite2 (fun _ => ?_) (fun h => absurd tf h)⟩
      refine fun d nd => ⟨upd_same, turnL, rfl, Nat.le_of_ble_eq_true rfl, ?_⟩
      have S1 : Stp [] H (upd (upd H d (.dK [])) d (.dK (mergeK [] turnL))) := (Stp.new nd _).mutO nd
      have hd : (upd (upd H d (.dK [])) d (.dK (mergeK [] turnL))) d = some (.dK (mergeK [] turnL)) := upd_same
      generalize upd (upd H d (.dK [])) d (.dK (mergeK [] turnL)) = H1 at *
      refine ⟨_, rfl, _, rfl, u, _, t, rfl, ru.stp S1 Lsts.nil, f, dep_two dp, ok, fun H2 S2 => ?_⟩
      have g := DGet.k (k := Sum.inr (ansW (lev n t d0))) (S2.kp _ _ nn hd)
      rw [turn_at (lev_in n t d0)] at g
      exact ⟨d, _, rfl, g, k _ (S1.trans S2)⟩
    | @among ds m =>
      have tw := txw_among
      obtain ⟨a, u, rfl, hs, ru⟩ := rp2 r
      rw [lev_two] at k
      refine ⟨_, rfl, a, _, 0, _, rfl, rfl, hs, at0, ?_⟩
      dsimp only [gName]
      refine ⟨_, rfl, rfl, _, rfl, ite2 (fun h => absurd h (nf tw.1)) (fun _ => ?_)⟩
      dsimp only [tNext]
      refine ⟨_, rfl, a, _, 1, _, rfl, rfl, hs, at1, ?_⟩
      dsimp only [gName]
      refine ⟨_, rfl, rfl, _, rfl, ite2 (fun h => absurd h (nf tw.2.1)) (fun _ => ?_)⟩
      refine ⟨_, rfl, rfl, _, rfl, ite2 (fun h => absurd h (nf tw.2.2.1)) (fun _ => ?_)⟩
      refine ⟨_, rfl, len2, fun q0 nq0 => in_litL (ss := ["and", "or"]) (SqL.of upd_same) ⟨_, rfl, ite2 (fun h => absurd h (by decide +kernel)) (fun _ => ?_)⟩⟩
      dsimp only [tNext]
      have S1 : Stp [] H (upd H q0 (.lst [V.str "and", V.str "or"])) := Stp.new nq0 _
      have hs := sqt_stp S1 Lsts.nil hs
      have ru := ru.stp S1 Lsts.nil
      have k := fun H' (S : Stp [] (upd H q0 (.lst [V.str "and", V.str "or"])) H') => k H' (S1.trans S)
      generalize upd H q0 (.lst [V.str "and", V.str "or"]) = H at *
      cases t with
      | none =>
        rw [lev_txn _ tw] at k
        exact ⟨_, rfl, rfl, _, rfl, ite2 (fun _ => k H (Stp.refl _ _)) (fun h => absurd rfl h)⟩
      | some x =>
        rw [lev_among] at k
        refine ⟨_, rfl, rfl, _, rfl, ite2 (fun h => absurd h (by simp [oV])) (fun _ => ?_)⟩
        cases ru with
        | tup hs2 hl rl =>
          rename_i b2 us
          obtain ⟨ys, rfl⟩ := txs_of m
          have eu := rpl_strs rl
          rw [eu] at hs2
          have ea : ((ys.map Dt.str).any (eqD x)) = decide (x ∈ ys) := by
            rw [List.any_map, Bool.eq_iff_iff, List.any_eq_true, decide_eq_true_iff]
            exact ⟨fun ⟨y, hy, e⟩ => by have e : x = y := of_decide_eq_true e; exact e ▸ hy, fun h => ⟨x, h, decide_eq_true rfl⟩⟩
          rw [ea] at k
          refine ⟨_, rfl, rfl, _, rfl, ite2 (fun h => absurd h (nf (by decide +kernel))) (fun _ => ?_)⟩
          dsimp only [tNext]
          refine ⟨_, rfl, rfl, _, rfl, ite2 (fun h => absurd h (nf (by decide +kernel))) (fun _ => ⟨_, rfl, ite2 (fun h => nomatch h) (fun _ => ?_)⟩)⟩
          refine ⟨_, rfl, rfl, _, rfl, ite2 (fun _ => ⟨_, rfl, _, rfl, in_txs hs2 ?_⟩) (fun h => absurd tf h)⟩
          dsimp only [gName]
          generalize decide (x ∈ ys) = b at *
          cases b with
          | true =>
            refine ⟨_, rfl, _, rfl, ite2 (fun _ => ?_) (fun h => absurd rfl h)⟩
            dsimp only [gName]
            exact ⟨len2, fun q nq => ⟨_, rfl, .inr ⟨_, rfl, q, _, _, _, rfl, rfl, SqL.of upd_same, no_yes _, k _ (Stp.new nq _)⟩⟩⟩
          | false =>
            refine ⟨_, rfl, _, rfl, ite2 (fun h => nomatch h) (fun _ => ?_)⟩
            refine ⟨_, rfl, rfl, _, rfl, ite2 (fun h => absurd h (nf (by decide +kernel))) (fun _ => ⟨_, rfl, ite2 (fun h => nomatch h) (fun _ => ?_)⟩)⟩
            refine ⟨_, rfl, rfl, _, rfl, ite2 (fun h => absurd h (nf (by decide +kernel))) (fun _ => ?_)⟩
            dsimp only [gName]
            exact ⟨len2, fun q nq => ⟨_, rfl, .inr ⟨_, rfl, q, _, _, _, rfl, rfl, SqL.of upd_same, no_yes _, k _ (Stp.new nq _)⟩⟩⟩
    | @many wd ds hw m =>
      obtain ⟨a, u, rfl, hs, ru⟩ := rp2 r
      rw [lev_two] at k
      cases ru with
      | tup hs2 hl rl =>
        rename_i b2 us
        have all3 : ∀ x ∈ ds.map (lev n t), In3 x := fun x mx => by
          obtain ⟨d, _, rfl⟩ := List.mem_map.mp mx
          exact lev_in n t d
        have stepd : ∀ {H0 : Hp}, Stp [] H H0 → ∀ {j : Nat} {x : V} {dd : Dt} {H3 : Hp} {Q2 : VK}, us[j]? = some x → (ds.map fun d => Dt.str (ansW (lev n t d)).cps.toList)[j]? = some dd → Stp [] H0 H3 → (∀ y H', Stp [] H3 H' → Rp K H' y dd → Q2 y H') →
            spAns K n [x, oV t] H3 Q2 E0 := fun {H0} S0 {j x dd H3 Q2} hx hd S3 q => by
          obtain ⟨e', he, re⟩ := rl.get hx
          rw [List.getElem?_map, he] at hd
          cases hd
          refine ⟨x, e', t, rfl, re.stp (S0.trans S3) Lsts.nil, m e' (List.mem_of_getElem? he), dep_in dp (List.mem_of_getElem? he), ok, fun H4 S4 => q _ _ S4 (Rp.lit _ ?_)⟩
          rcases lev_in n t e' with g | g | g <;> rw [g] <;> decide +kernel
        have fin : ∀ {ws : List V} {H3 : Hp} {L : Addr}, H3 L = some (.lst ws) → RpL K H3 ws (ds.map fun d => Dt.str (ansW (lev n t d)).cps.toList) → SqL K H3 L (((ds.map (lev n t)).map ansW).map V.str) := fun {ws H3 L} h3 r3 => by
          have e : ws = ((ds.map (lev n t)).map ansW).map V.str := by
            have e1 : (ds.map fun d => Dt.str (ansW (lev n t d)).cps.toList) = (ds.map fun d => (ansW (lev n t d)).cps.toList).map Dt.str := by rw [List.map_map]; rfl
            rw [e1] at r3
            rw [rpl_strs r3, List.map_map, List.map_map, List.map_map]
            exact List.map_congr_left fun d _ => congrArg V.str (lit_tx _)
          rw [← e]
          exact SqL.of h3
        have nw : wd ≠ "none" ∧ wd ≠ "say" ∧ wd ≠ "not" ∧ wd ∈ [("and" : Str), "or"] := by
          rcases hw with rfl | rfl <;> decide +kernel
        refine ⟨_, rfl, a, _, 0, _, rfl, rfl, hs, at0, ?_⟩
        dsimp only [gName]
        refine ⟨_, rfl, rfl, _, rfl, ite2 (fun h => absurd h (nf nw.1)) (fun _ => ?_)⟩
        dsimp only [tNext]
        refine ⟨_, rfl, a, _, 1, _, rfl, rfl, hs, at1, ?_⟩
        dsimp only [gName]
        refine ⟨_, rfl, rfl, _, rfl, ite2 (fun h => absurd h (nf nw.2.1)) (fun _ => ?_)⟩
        refine ⟨_, rfl, rfl, _, rfl, ite2 (fun h => absurd h (nf nw.2.2.1)) (fun _ => ?_)⟩
        refine ⟨_, rfl, len2, fun q0 nq0 => in_litL (ss := ["and", "or"]) (SqL.of upd_same) ⟨_, rfl, ite2 (fun _ => ?_) (fun h => absurd (decide_eq_true nw.2.2.2) h)⟩⟩
        have S1 : Stp [] H (upd H q0 (.lst [V.str "and", V.str "or"])) := Stp.new nq0 _
        generalize upd H q0 (.lst [V.str "and", V.str "or"]) = H1 at *
        refine ⟨len2, fun q1 nq1 => ?_⟩
        have S2 : Stp [] H1 (upd H1 q1 (.lst [V.str "no", V.str "yes"])) := Stp.new nq1 _
        have hq1 : (upd H1 q1 (.lst [V.str "no", V.str "yes"])) q1 = some (.lst [V.str "no", V.str "yes"]) := upd_same
        generalize upd H1 q1 (.lst [V.str "no", V.str "yes"]) = H2 at *
        have S12 := S1.trans S2
        have hs2' := sqt_stp S12 Lsts.nil hs2
        rcases hw with rfl | rfl
        · rw [lev_and, ← set_min all3] at k
          refine ⟨_, rfl, rfl, .inr ⟨_, rfl, q1, _, 0, .str "no", rfl, by decide +kernel, SqL.of hq1, at0, ?_⟩⟩
          dsimp only [gName]
          refine ⟨_, rfl, b2, rfl, ⟨_, hs2'⟩, fun L nL => ?_⟩
          refine lc_mapT9 nL hs2' (by rw [List.length_map, rl.len]) (by omega) (fun j x dd H3 hx hd S3 Q2 q => ⟨rfl, _, rfl, _, rfl, stepd S12 hx hd S3 q⟩) fun ws H3 S3 h3 r3 => ?_
          dsimp only [gName]
          have k := fun H' (S : Stp [] H3 H') => k H' ((S12.trans S3).trans S)
          have hL := fin h3 r3
          refine ⟨_, rfl, _, rfl, in_litL hL ⟨_, rfl, ite2 (fun h => ?_) (fun h => ?_)⟩⟩
          · rw [if_pos (of_decide_eq_true h)] at k
            exact ⟨_, rfl, k H3 (Stp.refl _ _)⟩
          · rw [if_neg (fun m => h (decide_eq_true m))] at k
            refine ⟨_, rfl, in_litL hL ⟨_, rfl, ite2 (fun h2 => ?_) (fun h2 => ?_)⟩⟩
            · rw [if_pos (of_decide_eq_true h2)] at k
              exact k H3 (Stp.refl _ _)
            · rw [if_neg (fun m => h2 (decide_eq_true m))] at k
              exact ⟨len2, fun q nq => ⟨_, rfl, rfl, .inr ⟨_, rfl, q, _, _, _, rfl, rfl, SqL.of upd_same, (show atI [V.str "yes", V.str "no"] (if decide (V.str "and" = V.str "or") = true then 1 else 0) = some (.str "yes") by decide +kernel), k _ (Stp.new nq _)⟩⟩⟩
        · rw [lev_or, ← set_max all3] at k
          refine ⟨_, rfl, rfl, .inr ⟨_, rfl, q1, _, 1, .str "yes", rfl, by decide +kernel, SqL.of hq1, at1, ?_⟩⟩
          dsimp only [gName]
          refine ⟨_, rfl, b2, rfl, ⟨_, hs2'⟩, fun L nL => ?_⟩
          refine lc_mapT9 nL hs2' (by rw [List.length_map, rl.len]) (by omega) (fun j x dd H3 hx hd S3 Q2 q => ⟨rfl, _, rfl, _, rfl, stepd S12 hx hd S3 q⟩) fun ws H3 S3 h3 r3 => ?_
          dsimp only [gName]
          have k := fun H' (S : Stp [] H3 H') => k H' ((S12.trans S3).trans S)
          have hL := fin h3 r3
          refine ⟨_, rfl, _, rfl, in_litL hL ⟨_, rfl, ite2 (fun h => ?_) (fun h => ?_)⟩⟩
          · rw [if_pos (of_decide_eq_true h)] at k
            exact ⟨_, rfl, k H3 (Stp.refl _ _)⟩
          · rw [if_neg (fun m => h (decide_eq_true m))] at k
            refine ⟨_, rfl, in_litL hL ⟨_, rfl, ite2 (fun h2 => ?_) (fun h2 => ?_)⟩⟩
            · rw [if_pos (of_decide_eq_true h2)] at k
              exact k H3 (Stp.refl _ _)
            · rw [if_neg (fun m => h2 (decide_eq_true m))] at k
              exact ⟨len2, fun q nq => ⟨_, rfl, rfl, .inr ⟨_, rfl, q, _, _, _, rfl, rfl, SqL.of upd_same, (show atI [V.str "yes", V.str "no"] (if decide (V.str "or" = V.str "or") = true then 1 else 0) = some (.str "no") by decide +kernel), k _ (Stp.new nq _)⟩⟩⟩
    | tx hw ha =>
      obtain ⟨tw, na⟩ := txw_tx hw
      obtain ⟨a, u, rfl, hs, ru⟩ := rp2 r
      cases ru
      rename_i l ly
      rw [lev_two] at k
      refine ⟨_, rfl, a, _, 0, _, rfl, rfl, hs, at0, ?_⟩
      dsimp only [gName]
      refine ⟨_, rfl, rfl, _, rfl, ite2 (fun h => absurd h (nf tw.1)) (fun _ => ?_)⟩
      dsimp only [tNext]
      refine ⟨_, rfl, a, _, 1, _, rfl, rfl, hs, at1, ?_⟩
      dsimp only [gName]
      refine ⟨_, rfl, rfl, _, rfl, ite2 (fun h => absurd h (nf tw.2.1)) (fun _ => ?_)⟩
      refine ⟨_, rfl, rfl, _, rfl, ite2 (fun h => absurd h (nf tw.2.2.1)) (fun _ => ?_)⟩
      have nin : ∀ {z : Str}, (z = "is" ∨ z = "below" ∨ z = "above" ∨ z = "begins") → ¬ decide (z ∈ [("and" : Str), "or"]) = true := fun h => by
        rcases h with rfl | rfl | rfl | rfl <;> decide +kernel
      refine ⟨_, rfl, len2, fun q0 nq0 => in_litL (ss := ["and", "or"]) (SqL.of upd_same) ⟨_, rfl, ite2 (fun h => absurd h (nin hw)) (fun _ => ?_)⟩⟩
      dsimp only [tNext]
      have S1 : Stp [] H (upd H q0 (.lst [V.str "and", V.str "or"])) := Stp.new nq0 _
      have hs := sqt_stp S1 Lsts.nil hs
      have k := fun H' (S : Stp [] (upd H q0 (.lst [V.str "and", V.str "or"])) H') => k H' (S1.trans S)
      generalize upd H q0 (.lst [V.str "and", V.str "or"]) = H at *
      cases t with
      | none =>
        rw [lev_txn _ tw] at k
        exact ⟨_, rfl, rfl, _, rfl, ite2 (fun _ => k H (Stp.refl _ _)) (fun h => absurd rfl h)⟩
      | some x =>
        rw [lev_txs _ tw na] at k
        refine ⟨_, rfl, rfl, _, rfl, ite2 (fun h => absurd h (by simp [oV])) (fun _ => ?_)⟩
        dsimp only [tNext]
        have ends : ∀ (b : Bool) {R : V → Hp → Prop}, True := fun _ _ => trivial
        rcases hw with rfl | rfl | rfl | rfl
        · rw [show fits "is" l x = decide (Tx x = Tx l) from (eq_tx x l).symm] at k
          refine ⟨_, rfl, rfl, _, rfl, ite2 (fun h => absurd h (nf (by decide +kernel))) (fun _ => ?_)⟩
          dsimp only [tNext]
          refine ⟨_, rfl, rfl, _, rfl, ite2 (fun _ => ⟨_, rfl, _, rfl, rfl, ?_⟩) (fun h => absurd tf h)⟩
          change ∃ b, V.bl (decide (Tx x = Tx l)) = V.bl b ∧ _
          generalize decide (Tx x = Tx l) = b at *
          cases b with
          | true =>
            refine ⟨_, rfl, ite2 (fun _ => ?_) (fun h => absurd rfl h)⟩
            dsimp only [gName]
            refine ⟨_, rfl, _, rfl, ite2 (fun _ => ?_) (fun h => absurd rfl h)⟩
            dsimp only [gName]
            exact ⟨len2, fun q nq => ⟨_, rfl, .inr ⟨_, rfl, q, _, _, _, rfl, rfl, SqL.of upd_same, no_yes _, k _ (Stp.new nq _)⟩⟩⟩
          | false =>
            refine ⟨_, rfl, ite2 (fun h => nomatch h) (fun _ => ?_)⟩
            refine ⟨_, rfl, rfl, _, rfl, ite2 (fun h => absurd h (nf (by decide +kernel))) (fun _ => ?_)⟩
            dsimp only [gName]
            refine ⟨_, rfl, _, rfl, ite2 (fun h => nomatch h) (fun _ => ?_)⟩
            refine ⟨_, rfl, rfl, _, rfl, ite2 (fun h => absurd h (nf (by decide +kernel))) (fun _ => ⟨_, rfl, ite2 (fun h => nomatch h) (fun _ => ?_)⟩)⟩
            refine ⟨_, rfl, rfl, _, rfl, ite2 (fun h => absurd h (nf (by decide +kernel))) (fun _ => ?_)⟩
            dsimp only [gName]
            exact ⟨len2, fun q nq => ⟨_, rfl, .inr ⟨_, rfl, q, _, _, _, rfl, rfl, SqL.of upd_same, no_yes _, k _ (Stp.new nq _)⟩⟩⟩
        · have ef : fits "below" l x = decide ((tx x).cps.toList < (tx l).cps.toList) := rfl
          rw [ef] at k
          refine ⟨_, rfl, rfl, _, rfl, ite2 (fun h => absurd h (nf (by decide +kernel))) (fun _ => ?_)⟩
          dsimp only [tNext]
          refine ⟨_, rfl, rfl, _, rfl, ite2 (fun h => absurd h (nf (by decide +kernel))) (fun _ => ⟨_, rfl, ite2 (fun h => nomatch h) (fun _ => ?_)⟩)⟩
          refine ⟨_, rfl, rfl, _, rfl, ite2 (fun h => absurd h (nf (by decide +kernel))) (fun _ => ?_)⟩
          dsimp only [gName]
          refine ⟨_, rfl, _, rfl, ite2 (fun h => nomatch h) (fun _ => ?_)⟩
          refine ⟨_, rfl, rfl, _, rfl, ite2 (fun _ => ⟨_, rfl, _, rfl, tx x, tx l, rfl, rfl, ?_⟩) (fun h => absurd tf h)⟩
          generalize decide ((tx x).cps.toList < (tx l).cps.toList) = b at *
          cases b with
          | true =>
            refine ⟨_, rfl, ite2 (fun _ => ?_) (fun h => absurd rfl h)⟩
            dsimp only [gName]
            exact ⟨len2, fun q nq => ⟨_, rfl, .inr ⟨_, rfl, q, _, _, _, rfl, rfl, SqL.of upd_same, no_yes _, k _ (Stp.new nq _)⟩⟩⟩
          | false =>
            refine ⟨_, rfl, ite2 (fun h => nomatch h) (fun _ => ?_)⟩
            refine ⟨_, rfl, rfl, _, rfl, ite2 (fun h => absurd h (nf (by decide +kernel))) (fun _ => ?_)⟩
            dsimp only [gName]
            exact ⟨len2, fun q nq => ⟨_, rfl, .inr ⟨_, rfl, q, _, _, _, rfl, rfl, SqL.of upd_same, no_yes _, k _ (Stp.new nq _)⟩⟩⟩
        · have ef : fits "above" l x = decide ((tx l).cps.toList < (tx x).cps.toList) := rfl
          rw [ef] at k
          refine ⟨_, rfl, rfl, _, rfl, ite2 (fun h => absurd h (nf (by decide +kernel))) (fun _ => ?_)⟩
          dsimp only [tNext]
          refine ⟨_, rfl, rfl, _, rfl, ite2 (fun h => absurd h (nf (by decide +kernel))) (fun _ => ⟨_, rfl, ite2 (fun h => nomatch h) (fun _ => ?_)⟩)⟩
          refine ⟨_, rfl, rfl, _, rfl, ite2 (fun h => absurd h (nf (by decide +kernel))) (fun _ => ?_)⟩
          dsimp only [gName]
          refine ⟨_, rfl, _, rfl, ite2 (fun h => nomatch h) (fun _ => ?_)⟩
          refine ⟨_, rfl, rfl, _, rfl, ite2 (fun h => absurd h (nf (by decide +kernel))) (fun _ => ⟨_, rfl, ite2 (fun h => nomatch h) (fun _ => ?_)⟩)⟩
          refine ⟨_, rfl, rfl, _, rfl, ite2 (fun _ => ⟨_, rfl, _, rfl, tx x, tx l, rfl, rfl, ?_⟩) (fun h => absurd tf h)⟩
          dsimp only [gName]
          exact ⟨len2, fun q nq => ⟨_, rfl, .inr ⟨_, rfl, q, _, _, _, rfl, rfl, SqL.of upd_same, no_yes _, k _ (Stp.new nq _)⟩⟩⟩
        · refine ⟨_, rfl, rfl, _, rfl, ite2 (fun _ => ?_) (fun h => absurd tf h)⟩
          rw [show fits "begins" l x = Txt.startswith (tx x) (tx l) from (starts_tx x l).symm] at k
          exact ⟨len2, fun q nq => ⟨_, rfl, rfl, _, rfl, tx x, tx l, rfl, rfl, .inr ⟨_, rfl, q, _, _, _, rfl, rfl, SqL.of upd_same, no_yes _, k _ (Stp.new nq _)⟩⟩⟩
theorem lan_all {f : Addr} {fd : FuncData} (D : Df K mg "_law_answer" s__law_answer ["quest", "thing"] f fd) (T : Nm mg) : ∀ n : Nat, Cl P w K mg base (n + 1) "_law_answer" s__law_answer ["quest", "thing"] (spAns K n)
  | 0 => cl_never D (fun vs H Q E ⟨v, d, _, _, _, _, hd, _⟩ => Nat.not_lt_zero _ hd) 1
  | n + 1 => lan_step D T (by omega) (lan_all D T n)
/-! ### pages and what notes say of them -/
def AbcO (os : List (Option Txt)) : Prop := ∀ l, some l ∈ os → Abc l
theorem made_canA {r : Ru} {os : List (Option Txt)} (c : AbcO os) : CanN r (vD (lowO r.low (txs os))) (vD (highO r.high (txs os))) ((txs os).length : Nat) := by
  have ab : ∀ l ∈ txs os, Abc l := fun l m => c _ (mem_txs.mp m)
  have two : txs os ≠ [] → lowO r.low (txs os) = lowT r.low (mn (txs os)) ∧ highO r.high (txs os) = highT r.high (mx (txs os)) := fun e => by
    unfold lowO highO
    rw [if_neg e, if_neg e]
    exact ⟨rfl, rfl⟩
  refine ⟨by omega, fun h => ?_, fun h => ?_, fun h => ?_⟩
  · have e : txs os = [] := List.length_eq_zero_iff.mp (by omega)
    unfold lowO highO canH
    rw [if_pos e, if_pos e]
    rfl
  · obtain ⟨t, e⟩ := List.length_eq_one_iff.mp (show (txs os).length = 1 by omega)
    obtain ⟨e1, e2⟩ := two (by rw [e]; simp)
    rw [e1, e2, e]
    exact can_one.mpr ⟨t, ab t (by rw [e]; simp), rfl, rfl⟩
  · have e : txs os ≠ [] := fun z => by rw [z] at h; exact absurd h (by decide)
    obtain ⟨e1, e2⟩ := two e
    rw [e1, e2]
    have a1 := ab _ (mn_mem e)
    have a2 := ab _ (mx_mem e)
    cases q1 : leastR r.low (vD (lowT r.low (mn (txs os)))) with
    | none => exact absurd rfl (least_no q1 a1)
    | some p =>
      cases q2 : greatR r.high (vD (highT r.high (mx (txs os)))) with
      | none => exact absurd rfl (great_no q2 a2)
      | some q =>
        have i1 := inP_iff.mp ((least_in q1 a1).mpr rfl)
        have i2 := inP_iff.mp ((great_in q2 a2).mpr rfl)
        exact ⟨p, q, q1, q2, fun z hz => le_lt (List.le_trans i1.1 (mn_le (mx_mem e))) (i2.2 z hz)⟩
theorem tell_inj {r : Ru} {os : List (Option Txt)} {m : Int} {d1 : D} {low high : Option Txt} (e : noteD r os = tellD m d1 low high) : (os.length : Int) = m ∧ lacksD r.lacks (gone os) = d1 ∧ lowO r.low (txs os) = low ∧ highO r.high (txs os) = high := by
  unfold noteD tellD at e
  injection e with e
  injection e with e1 e
  injection e with e2 e
  injection e with e3 e
  injection e with e4 e
  injection e1 with e1
  exact ⟨e1, e2, vD_inj e3, vD_inj e4⟩
theorem txs_app (as bs : List (Option Txt)) : txs (as ++ bs) = txs as ++ txs bs := by unfold txs; exact List.filterMap_append
theorem gone_le (os : List (Option Txt)) : gone os ≤ os.length := by unfold gone; omega
theorem gone_txs (os : List (Option Txt)) : gone os + (txs os).length = os.length := by
  have := txs_len os
  unfold gone
  omega
theorem page_left {r : Ru} (ok : RuOk r) {os : List (Option Txt)} {m : Nat} {d1 : D} {low high : Option Txt} (e : noteD r os = tellD m d1 low high) : cntL r.lacks m d1 = true ∧ 0 ≤ (leftI m d1).1 ∧ (leftI m d1).1 ≤ ((txs os).length : Int) ∧ ((txs os).length : Int) ≤ (leftI m d1).2 ∧ (leftI m d1).2 ≤ (m : Int) := by
  obtain ⟨e1, e2, _, _⟩ := tell_inj e
  have g := gone_txs os
  have lk := ok.lacks
  rcases (by omega : r.lacks = 0 ∨ r.lacks = 1 ∨ r.lacks = 2) with z | z | z <;> rw [z] at e2 ⊢ <;> rw [← e2]
  · refine ⟨?_, ?_, ?_, ?_, ?_⟩
    · show (decide (0 ≤ ((gone os : Nat) : Int)) && decide (((gone os : Nat) : Int) ≤ (m : Int))) = true
      rw [Bool.and_eq_true, decide_eq_true_iff, decide_eq_true_iff]
      omega
    · show 0 ≤ (m : Int) - ((gone os : Nat) : Int); omega
    · show (m : Int) - ((gone os : Nat) : Int) ≤ _; omega
    · show _ ≤ (m : Int) - ((gone os : Nat) : Int); omega
    · show (m : Int) - ((gone os : Nat) : Int) ≤ _; omega
  · refine ⟨rfl, ?_⟩
    show 0 ≤ (leftI m (.bl (decide (((gone os : Nat) : Int) > 0)))).1 ∧ (leftI m (.bl (decide (((gone os : Nat) : Int) > 0)))).1 ≤ ((txs os).length : Int) ∧ ((txs os).length : Int) ≤ (leftI m (.bl (decide (((gone os : Nat) : Int) > 0)))).2 ∧ (leftI m (.bl (decide (((gone os : Nat) : Int) > 0)))).2 ≤ (m : Int)
    by_cases c : ((gone os : Nat) : Int) > 0
    · rw [decide_eq_true c]
      show (0 : Int) ≤ 0 ∧ (0 : Int) ≤ _ ∧ _ ≤ (m : Int) - 1 ∧ (m : Int) - 1 ≤ _
      omega
    · rw [decide_eq_false c]
      show (0 : Int) ≤ m ∧ (m : Int) ≤ _ ∧ _ ≤ (m : Int) ∧ (m : Int) ≤ _
      omega
  · refine ⟨rfl, ?_⟩
    show (0 : Int) ≤ 0 ∧ (0 : Int) ≤ _ ∧ _ ≤ (m : Int) ∧ (m : Int) ≤ _
    omega
theorem page_can {r : Ru} {os : List (Option Txt)} (c : AbcO os) {m : Nat} {d1 : D} {low high : Option Txt} (e : noteD r os = tellD m d1 low high) : CanN r (vD low) (vD high) ((txs os).length : Nat) := by
  obtain ⟨_, _, e3, e4⟩ := tell_inj e
  have := made_canA (r := r) c
  rwa [e3, e4] at this
theorem page_between {r : Ru} (ok : RuOk r) {os : List (Option Txt)} (c : AbcO os) {m : Nat} {d1 : D} {low high : Option Txt} (e : noteD r os = tellD m d1 low high) {a z : Int} (ha : (numR r m d1 (vD low) (vD high))[0]? = some a) (hz : (numR r m d1 (vD low) (vD high))[(numR r m d1 (vD low) (vD high)).length - 1]? = some z) : a ≤ ((txs os).length : Int) ∧ ((txs os).length : Int) ≤ z := by
  obtain ⟨_, p0, p1, p2, _⟩ := page_left ok e
  obtain ⟨⟨x, mx, hx⟩, y, my, hy⟩ := num_around (page_can c e) p0 p1 p2
  obtain ⟨a', z', e1, e2, _, _, all⟩ := asc_ends (num_asc r (leftI (m : Int) d1) (vD low) (vD high)) (List.ne_nil_of_mem mx)
  have e1 : (numR r m d1 (vD low) (vD high))[0]? = some a' := e1
  have e2 : (numR r m d1 (vD low) (vD high))[(numR r m d1 (vD low) (vD high)).length - 1]? = some z' := e2
  rw [ha] at e1
  rw [hz] at e2
  cases e1
  cases e2
  have := (all x mx).1
  have := (all y my).2
  omega
theorem two_ends {a b w : Txt} (h : w = a ∨ w = b) : w = mn [a, b] ∨ w = mx [a, b] := by
  have m1 := mn_mem (ls := [a, b]) (by simp)
  have m2 := mx_mem (ls := [a, b]) (by simp)
  have mw : w ∈ [a, b] := by simpa using h
  have l1 := mn_le mw
  have l2 := le_mx mw
  by_cases c1 : w = mn [a, b]
  · exact .inl c1
  · by_cases c2 : w = mx [a, b]
    · exact .inr c2
    · exfalso
      generalize mn [a, b] = x at *
      generalize mx [a, b] = y at *
      have : x = y := by
        simp at m1 m2
        rcases h with rfl | rfl
        · rcases m1 with rfl | rfl
          · exact absurd rfl c1
          · rcases m2 with rfl | rfl
            · exact absurd rfl c2
            · rfl
        · rcases m1 with rfl | rfl
          · rcases m2 with rfl | rfl
            · rfl
            · exact absurd rfl c2
          · exact absurd rfl c1
      subst this
      exact c1 (List.le_antisymm l2 l1)
theorem page_stands {r : Ru} (ok : RuOk r) {os : List (Option Txt)} (c : AbcO os) {m : Nat} {d1 : D} {low high : Option Txt} (e : noteD r os = tellD m d1 low high) {w : Txt} (hw : w ∈ txs os) : stdR r m d1 (vD low) (vD high) w = true := by
  obtain ⟨_, p0, p1, p2, _⟩ := page_left ok e
  obtain ⟨_, _, e3, e4⟩ := tell_inj e
  have ne : txs os ≠ [] := List.ne_nil_of_mem hw
  have ab : ∀ l ∈ txs os, Abc l := fun l ml => c l (mem_txs.mp ml)
  unfold lowO at e3
  unfold highO at e4
  rw [if_neg ne] at e3 e4
  have ax := ab _ (mn_mem ne)
  have ay := ab _ (mx_mem ne)
  have aw := ab w hw
  have lw := mn_le hw
  have wl := le_mx hw
  cases q1 : leastR r.low (vD low) with
  | none => exact absurd (by rw [e3]) (least_no q1 ax)
  | some p =>
    cases q2 : greatR r.high (vD high) with
    | none => exact absurd (by rw [e4]) (great_no q2 ay)
    | some q =>
      have ix := (least_in q1 ax).mpr (by rw [e3])
      have iy := (great_in q2 ay).mpr (by rw [e4])
      have px := (inP_iff.mp ix).1
      have yq := (inP_iff.mp iy).2
      have pw := List.le_trans px lw
      have wq : ∀ e, q.2 = some e → w < e := fun e he => le_lt wl (yq e he)
      have r1 : inP w ([], q.2) = true := inP_iff.mpr ⟨nil_le w, wq⟩
      have r2 : inP w (p.1, none) = true := inP_iff.mpr ⟨pw, fun e q => by cases q⟩
      have rn : ∀ n : Int, rangesR r (vD low) (vD high) n = if n = 0 then [] else if n = 1 then interR p q else if n = 2 then interR p ([], q.2) ++ interR (p.1, none) q else interR (p.1, none) ([], q.2) := fun n => by
        unfold rangesR
        rw [q1, q2]
      have many : ∀ n : Int, n ≠ 0 → n ≠ 1 → n ≠ 2 → inS (rangesR r (vD low) (vD high) n) w = true := fun n a b d => by
        rw [rn, if_neg a, if_neg b, if_neg d, inter_in]
        exact ⟨r2, r1⟩
      have can : ∀ n : Int, n ≠ 0 → inS (rangesR r (vD low) (vD high) n) w = true → canH r (vD low) (vD high) n = true := fun n a h => by
        rw [canH_ne a]
        intro e
        rw [e] at h
        cases h
      have fin : ∀ n : Int, n ≠ 0 → n ∈ [(leftI m d1).1, 1, 2, (leftI m d1).2] → (leftI m d1).1 ≤ n → n ≤ (leftI m d1).2 → inS (rangesR r (vD low) (vD high) n) w = true → stdR r m d1 (vD low) (vD high) w = true := fun n n0 mem a b h => by
        obtain ⟨x, mx, hx⟩ := inS_mem.mp h
        refine inS_mem.mpr ⟨x, List.mem_flatMap.mpr ⟨n, num_mem.mpr ⟨by simpa using mem, a, b, can n n0 h⟩, mx⟩, hx⟩
      obtain ⟨n, en⟩ : ∃ n : Nat, n = (txs os).length := ⟨_, rfl⟩
      rw [← en] at p1 p2
      have n0 : 0 < n := by rw [en]; exact List.length_pos_iff.mpr ne
      by_cases n1 : n = 1
      · obtain ⟨t, et⟩ := List.length_eq_one_iff.mp (show (txs os).length = 1 by omega)
        rw [et] at hw ix iy
        have hw := List.mem_singleton.mp hw
        subst hw
        refine fin 1 (by decide) (by simp) (by omega) (by omega) ?_
        rw [rn, if_neg (by decide), if_pos rfl, inter_in]
        exact ⟨ix, iy⟩
      by_cases n2 : n = 2
      · have : ∃ x y, txs os = [x, y] := by
          match h : txs os, (show (txs os).length = 2 by omega) with
          | [x, y], _ => exact ⟨x, y, rfl⟩
        obtain ⟨x, y, et⟩ := this
        rw [et] at hw ix iy
        refine fin 2 (by decide) (by simp) (by omega) (by omega) ?_
        rw [rn, if_neg (by decide), if_neg (by decide), if_pos rfl, inS_app, Bool.or_eq_true, inter_in, inter_in]
        rcases two_ends (by simpa using hw) with z | z
        · rw [← z] at ix
          exact .inl ⟨ix, r1⟩
        · rw [← z] at iy
          exact .inr ⟨r2, iy⟩
      · exact fin (leftI m d1).2 (by omega) (by simp) (by omega) (Int.le_refl _) (many _ (by omega) (by omega) (by omega))
theorem abc_fair {l : List Nat} (h : Abc l) : (D.str l).fair = true := by
  unfold D.fair
  rw [List.all_eq_true]
  intro c m
  rcases h c m with e | e | e <;> rw [e] <;> decide
theorem vD_fair {o : Option (List Nat)} (h : ∀ l, o = some l → Abc l ∧ l.length ≤ 1000) : (vD o).fair = true ∧ (vD o).deep = 0 ∧ (vD o).wt ≤ 10010 := by
  cases o with
  | none => exact ⟨rfl, rfl, by decide⟩
  | some l =>
    obtain ⟨a, b⟩ := h l rfl
    refine ⟨abc_fair a, rfl, ?_⟩
    show 10 * l.length + 2 ≤ 10010
    omega
theorem lacksD_fair {k m : Nat} (h : m ≤ 5000) : (lacksD k m).fair = true ∧ (lacksD k m).deep = 0 ∧ (lacksD k m).wt ≤ 12 := by
  unfold lacksD
  split
  · refine ⟨?_, rfl, Nat.le_refl _⟩
    exact decide_eq_true (by omega)
  · exact ⟨rfl, rfl, by show 5 ≤ 12; decide⟩
  · exact ⟨rfl, rfl, by show 4 ≤ 12; decide⟩
theorem note_fine (r : Ru) {os : List (Option (List Nat))} (c : Col os) : (noteD r os).Fine := by
  have few := c.few
  obtain ⟨a1, a2, a3⟩ := lacksD_fair (k := r.lacks) (m := gone os) (by unfold gone; omega)
  obtain ⟨b1, b2, b3⟩ := vD_fair (o := lowO r.low (txs os)) fun l e => col_lows c e
  obtain ⟨c1, c2, c3⟩ := vD_fair (o := highO r.high (txs os)) fun l e => col_highs c e
  have i1 : (D.int (os.length : Int)).fair = true := decide_eq_true (by omega)
  unfold noteD
  generalize lacksD r.lacks (gone os) = x at *
  generalize vD (lowO r.low (txs os)) = y at *
  generalize vD (highO r.high (txs os)) = z at *
  refine ⟨?_, ?_, ?_⟩
  · simp only [D.fair, D.fairs, a1, b1, c1, Bool.and_true]
    simpa only [D.fair] using i1
  · simp only [D.deep, D.deeps, a2, b2, c2]
    decide
  · simp only [D.wt, D.wts]
    omega
abbrev s__law_others : Stmt := topS 89
abbrev N__law_others : List Str := ["quest"]
theorem sc__law_others : FnScope ["quest"] ["quest"] (defScope s__law_others) := ⟨rfl, rfl, rfl, by decide +kernel, rfl, by decide +kernel, by decide +kernel⟩

theorem lev_stab : ∀ (n m : Nat) (t : Vl) (d : Dt), d.dep < n → d.dep < m → lev n t d = lev m t d
  | 0, _, _, _, h, _ => absurd h (Nat.not_lt_zero _)
  | _ + 1, 0, _, _, _, h => absurd h (Nat.not_lt_zero _)
  | n + 1, m + 1, t, d, h1, h2 => by
    show levS (lev n t) t d = levS (lev m t) t d
    have two : ∀ (w p : Dt), d = .tup [w, p] → p.dep < n ∧ p.dep < m := fun w p e => by
      subst e
      have h3 := Dt.dep_mem (ds := [w, p]) (d := p) (by simp)
      have e : (Dt.tup [w, p]).dep = Dt.depL [w, p] + 1 := rfl
      omega
    unfold levS
    split
    · rfl
    · rename_i w p
      obtain ⟨g1, g2⟩ := two _ p rfl
      have e1 : lev n t p = lev m t p := lev_stab n m t p g1 g2
      have e2 : ∀ ds, p = .tup ds → ds.map (lev n t) = ds.map (lev m t) := fun ds e => by
        subst e
        refine List.map_congr_left fun d md => ?_
        have h3 := Dt.dep_mem md
        have e : (Dt.tup ds).dep = Dt.depL ds + 1 := rfl
        exact lev_stab n m t d (by omega) (by omega)
      unfold levW
      split
      · rfl
      · split
        · rw [e1]
        · split
          · cases p with
            | tup ds => show foldMin (ds.map (lev n t)) 2 = foldMin (ds.map (lev m t)) 2; rw [e2 ds rfl]
            | _ => rfl
          · split
            · cases p with
              | tup ds => show foldMax (ds.map (lev n t)) 0 = foldMax (ds.map (lev m t)) 0; rw [e2 ds rfl]
              | _ => rfl
            · rfl
    · rfl
/-! ### what a filter leaves -/
def notW (d : Dt) : Dt := .tup [.str ("not" : Str).cps.toList, d]
def nonW : Dt := .tup [.str ("none" : Str).cps.toList]
def othD (n : Nat) (d : Dt) : Dt := if lev n none d = 2 then notW d else .tup [.str ("or" : Str).cps.toList, .tup [notW d, nonW]]
structure OthOk (n : Nat) (d e : Dt) : Prop where
  fl : Flt e
  dp : e.dep < n
  th : tshD 30 e
  wt : wtD e ≤ 200
  non : lev n none e = 2 ↔ ¬ lev n none d = 2
  tx : ∀ w, yesB n e w = !yesB n d w
theorem not_lev {n : Nat} {d : Dt} (t : Vl) (h : d.dep < n) : lev (n + 1) t (notW d) = 2 - lev (n + 1) t d := by
  show lev (n + 1) t (.tup [.str ("not" : Str).cps.toList, d]) = _
  rw [lev_two, lev_not, lev_stab n (n + 1) t d h (by omega)]
theorem oth_ok {n : Nat} {d : Dt} (fl : Flt d) (dp : d.dep + 4 < n) (th : tshD 30 d) (wt : wtD d ≤ 150) : OthOk n d (othD n d) := by
  obtain ⟨n, rfl⟩ : ∃ k, n = k + 2 := ⟨n - 2, by omega⟩
  have i3 := lev_in (n + 2) none d
  have nt := not_lev (n := n + 1) none (d := d) (by omega)
  have ln : (("not" : Str).cps.toList.length ≤ 30) := by decide +kernel
  have lo : (("or" : Str).cps.toList.length ≤ 30) := by decide +kernel
  have le : (("none" : Str).cps.toList.length ≤ 30) := by decide +kernel
  have ynot : ∀ w, yesB (n + 2) (notW d) w = !yesB (n + 2) d w := fun w => by
    have e := not_lev (n := n + 1) (some w) (d := d) (by omega)
    rcases lev_02 (n + 2) w d with z | z
    all_goals
      unfold yesB
      rw [e, z]
      decide
  unfold othD
  split
  · rename_i h
    refine ⟨.not fl, by simp [notW, Dt.dep, Dt.depL]; omega, ⟨ln, th, trivial⟩, by simp [notW, wtD, wtL]; omega, ?_, ynot⟩
    rw [nt, h]
    decide
  · rename_i h
    have e1 : ∀ t, lev (n + 2) t (.tup [.str ("or" : Str).cps.toList, .tup [notW d, nonW]]) = foldMax [lev (n + 1) t (notW d), lev (n + 1) t nonW] 0 := fun t => by
      rw [lev_two, lev_or]
      rfl
    have en : ∀ t, lev (n + 1) t (notW d) = 2 - lev (n + 2) t d := fun t => by
      rw [not_lev t (by omega), lev_stab (n + 1) (n + 2) t d (by omega) (by omega)]
    refine ⟨.many (wd := "or") (.inr rfl) fun x m => ?_, by simp [notW, nonW, Dt.dep, Dt.depL]; omega, ⟨lo, ⟨⟨ln, th, trivial⟩, ⟨le, trivial⟩, trivial⟩, trivial⟩, by simp [notW, nonW, wtD, wtL]; omega, ?_, fun w => ?_⟩
    · rcases List.mem_cons.mp m with rfl | m
      · exact .not fl
      · rw [List.mem_singleton.mp m]
        exact .none
    · refine ⟨fun _ => h, fun _ => ?_⟩
      rw [e1, en, show lev (n + 1) none nonW = 2 from rfl]
      rcases i3 with z | z | z
      · rw [z]; decide
      · rw [z]; decide
      · exact absurd z h
    · unfold yesB
      rw [e1, en, show lev (n + 1) (some w) nonW = 0 from rfl]
      rcases lev_02 (n + 2) w d with z | z <;> rw [z] <;> decide
def spOth (K : PySem.W.Frag) (n : Nat) : Sp := fun vs H Q _ => ∃ (q : V) (d : Dt), vs = [q] ∧ Rp K H q d ∧ Flt d ∧ d.dep < n ∧ ∀ e H', Stp [] H H' → Rp K H' e (othD n d) → Q e H'
theorem cl__law_others {f : Addr} {fd : FuncData} {n k1 : Nat} (D : Df K mg "_law_others" s__law_others ["quest"] f fd) (T : Nm mg) (c__law_answer : Cl P w K mg base k1 "_law_answer" s__law_answer ["quest", "thing"] (spAns K n)) : Cl P w K mg base (k1 + 1) "_law_others" s__law_others ["quest"] (spOth K n) := by
  refine D.cl sc__law_others (fun vs H Q E h => ?_) (fun cdv A outer s H vs Q E hr h => ?_)
  · obtain ⟨q, d, rfl, _⟩ := h
    rfl
  · obtain ⟨q, d, rfl, rq, fl, dp, k⟩ := h
    refine ⟨_, (pss_cons (ps_if (pt_cmpR op_eq (pe_cl c__law_answer hr (by omega) (pa_cons (pv 0) (pa_cons pe_non pa_nil))) pe_str (by first | exact nomark _ | rfl)) (pss_one (ps_ret (pe_tup (pa_cons pe_str (pa_cons (pv 0) pa_nil))))) pss_nil)
      (pss_one (ps_ret (pe_tup (pa_cons pe_str (pa_cons (pe_tup (pa_cons (pe_tup (pa_cons pe_str (pa_cons (pv 0) pa_nil))) (pa_cons (pe_tup (pa_cons pe_str pa_nil)) pa_nil))) pa_nil)))))), ?_⟩
    refine ⟨_, rfl, q, d, none, rfl, rq, fl, dp, (fun l e => nomatch e), fun H1 S1 => ⟨rfl, _, rfl, ?_⟩⟩
    have e2 : decide (V.str (ansW (lev n none d)) = V.str "yes") = decide (lev n none d = 2) := by
      rcases lev_in n none d with z | z | z <;> rw [z] <;> decide +kernel
    rw [e2]
    have kk : ∀ {te : TE} {e : Dt}, othD n d = e → Pg.EvD K te [some q] H1 e → te [some q] H1 fun v H' => Q v H' := fun {te e} h g => g.use fun v H2 S2 r2 => k v H2 (S1.trans S2) (by rw [h]; exact r2)
    have vd : Pg.EvD K (tVar 0) [some q] H1 d := Pg.EvD.var (rq.stp S1 Lsts.nil)
    refine ite2 (fun h => ?_) (fun h => ?_)
    · refine kk (e := notW d) (by unfold othD; rw [if_pos (of_decide_eq_true h)]) ?_
      exact Pg.EvD.tup (Pg.EvDA.cons Pg.EvD.str (Pg.EvDA.cons vd Pg.EvDA.nil)) (by simp)
    · dsimp only [tNext]
      refine kk (e := .tup [.str ("or" : Str).cps.toList, .tup [notW d, nonW]]) (by unfold othD; rw [if_neg fun z => h (decide_eq_true z)]) ?_
      exact Pg.EvD.tup (Pg.EvDA.cons Pg.EvD.str (Pg.EvDA.cons (Pg.EvD.tup (Pg.EvDA.cons (Pg.EvD.tup (Pg.EvDA.cons Pg.EvD.str (Pg.EvDA.cons vd Pg.EvDA.nil)) (by simp)) (Pg.EvDA.cons (Pg.EvD.tup (Pg.EvDA.cons Pg.EvD.str Pg.EvDA.nil) (by simp)) Pg.EvDA.nil)) (by simp)) Pg.EvDA.nil)) (by simp)
abbrev s__law_shown : Stmt := topS 90
abbrev N__law_shown : List Str := ["line", "told", "quest", "leaf", "thing"]
theorem sc__law_shown : FnScope ["line", "told", "quest", "leaf", "thing"] ["line", "told", "quest"] (defScope s__law_shown) := ⟨rfl, rfl, rfl, by decide +kernel, rfl, by decide +kernel, by decide +kernel⟩

/-! ### a page is shown -/
theorem vV_oV (o : Option Txt) : vV o = oV o := by cases o <;> rfl
theorem NoteFlt.up {K : PySem.W.Frag} {n : Nat} {H H' : Hp} {v u q : V} {r : Ru} {m : Int} {d1 d2 d3 : D} {d : Dt} {a : Int} (N : NoteFlt K n H v u q r m d1 d2 d3 d a) (S : Stp [] H H') : NoteFlt K n H' v u q r m d1 d2 d3 d a :=
  ⟨N.rv.up S, N.ok, N.ru.up S, N.nt, N.ha, N.rq.stp S Lsts.nil, N.fl, N.dp, N.th, N.wt⟩
def spShown (K : PySem.W.Frag) (n : Nat) : Sp := fun vs H Q _ => ∃ (v u q : V) (r : Ru) (m : Nat) (d1 : D) (low high : Option Txt) (d : Dt) (a : Int), vs = [v, u, q] ∧ NoteFlt K n H v u q r m d1 (vD low) (vD high) d a ∧ cntL r.lacks m d1 = true ∧ 0 ≤ (leftI m d1).1 ∧ (∀ k ∈ numR r m d1 (vD low) (vD high), k ≤ (m : Int)) ∧ m ≤ 1000 ∧ (tellD m d1 low high).Fine ∧
  (¬ ∀ k ∈ numR r m d1 (vD low) (vD high), ¬ hitP r (vD low) (vD high) m (lev n none d) (yesB n d) k) ∧ ∀ H', Stp [] H H' → Q (.bl true) H'
theorem cl__law_shown {f : Addr} {fd : FuncData} {n k1 : Nat} (D : Df K mg "_law_shown" s__law_shown ["line", "told", "quest"] f fd) (T : Nm mg) (c_page_for : Cl P w K mg base (2 * n + 12) "page_for" s_page_for ["rule", "note", "query"] (spPgF K n)) (c__law_answer : Cl P w K mg base k1 "_law_answer" s__law_answer ["quest", "thing"] (spAns K n)) (c__law_note : Cl P w K mg base 3 "_law_note" s__law_note ["line", "leaf"] (spLNote K)) (h1 : k1 ≤ 2 * n + 12) :
    ClG P w K mg base (2 * n + 13) "_law_shown" s__law_shown ["line", "told", "quest"] (spShown K n) := by
  refine ⟨f, fd, D, D.g sc__law_shown (fun vs H Q E h => ?_) (fun cdv A outer s H vs Q E hG hr h => ?_)⟩
  · obtain ⟨v, u, q, r, m, d1, low, high, d, a, rfl, _⟩ := h
    rfl
  · obtain ⟨v, u, q, r, m, d1, low, high, d, a, rfl, F, hcn, h0, hm, m1, fine, hit, k⟩ := h
    refine ⟨_, (pss_cons (ps_set (i := 3) sc__law_shown.nd rfl (by first | exact Or.inl rfl | exact Or.inr rfl) (pe_cl c_page_for hr (by omega) (pa_cons (pv 0) (pa_cons (pv 1) (pa_cons (pv 2) pa_nil)))))
      (pss_cons (ps_if (PW.pt (pw_or (pt_cmpR op_isN (pv 3) pe_non (by first | exact nomark _ | rfl)) (pw_or1 (pt_cmpR op_ne (pe_callB (Pv.call_reprD hG hr) (by rfl) T.n_repr (by decide +kernel) (pa_cons (pe_cl c__law_note hr (by omega) (pa_cons (pv 0) (pa_cons (pv 3) pa_nil))) pa_nil)) (pe_callB (Pv.call_reprD hG hr) (by rfl) T.n_repr (by decide +kernel) (pa_cons (pv 1) pa_nil)) (by first | exact nomark _ | rfl))))) (pss_one (ps_ret pe_bl)) pss_nil)
      (pss_one (ps_ret (pe_cmpR op_in_seq pe_str (pe_lc (own := [("thing", 4)]) rfl sc__law_shown.nd (pi_list (pv 3)) (blkOk_by (own := [("thing", 4)]) (N := N__law_shown) (sc := defScope s__law_shown) (by decide +kernel)) (fun _ _ _ _ _ => (pg_name (i := 4) sc__law_shown.nd rfl (by first | exact Or.inl rfl | exact Or.inr rfl))) (fun _ _ _ _ _ => pts_nil) (fun _ _ _ _ _ => (pe_cl c__law_answer hr (by omega) (pa_cons (pv 2) (pa_cons (pv 4) pa_nil))))) (by first | exact nomark _ | rfl)))))), ?_⟩
    have nn : ∀ {x : Addr}, x ∉ ([] : List Addr) := fun m => nomatch m
    refine ⟨_, rfl, _, rfl, _, rfl, v, u, q, r, m, d1, low, high, d, a, rfl, F, hcn, h0, hm, m1, fun H1 S1 no => absurd no hit, fun os L H1 ip nL S1 hL => ?_⟩
    have pg := pg_ok F.ok hcn h0 ip hm
    have lo := pg.len
    have col : Col os := ⟨fun l ml => ⟨(pg.sh l ml).1, by have := (pg.sh l ml).2; omega⟩, by omega⟩
    have F1 := F.up S1
    dsimp only [gName]
    refine ⟨_, rfl, rfl, _, rfl, ite2 (fun h => nomatch of_decide_eq_true h) (fun _ => ?_)⟩
    refine ⟨_, rfl, _, rfl, v, L, r, os, rfl, F1.rv, F1.ok, hL, col, by omega, fun u1 H2 S2 ru => ?_⟩
    rw [pg.note] at ru
    refine ⟨[], u1, _, rfl, ru, fine, _, rfl, [], u, tellD m d1 low high, rfl, F1.ru.up S2, fine, rfl, false, by rw [decide_eq_true rfl]; rfl, ?_⟩
    refine ite2 (fun h => nomatch h) (fun _ => ?_)
    dsimp only [tNext]
    have hL2 := S2.kp _ _ nn hL
    have F2 := F1.up S2
    refine ⟨_, rfl, L, rfl, ⟨_, SqL.of hL2⟩, fun M nM => ?_⟩
    refine lc_list (K := K) (a := L) (xs := os.map vV) (fun i H' => H' M = some (.lst (((os.take i).map fun o => ansW (lev n o d)).map V.str)) ∧ Stp [] H2 H') ⟨upd_same, Stp.new nM _⟩ (fun i H' _ ⟨_, S⟩ => SqL.of (S.kp _ _ nn hL2)) ?_ ?_
    · rintro i x H' hi ⟨hM, S'⟩
      rw [List.getElem?_map] at hi
      cases e : os[i]? with
      | none => rw [e] at hi; cases hi
      | some o =>
        rw [e] at hi
        cases hi
        refine ⟨rfl, _, rfl, _, rfl, q, d, o, congrArg (fun x => [q, x]) (vV_oV o), F2.rq.stp S' Lsts.nil, F.fl, F.dp, fun l e' => ?_, fun H8 S8 => ?_⟩
        · rw [e'] at e
          have m := List.mem_of_getElem? e
          exact ⟨(pg.sh l m).1, by have := (pg.sh l m).2; omega⟩
        · refine ⟨_, S8.kp _ _ nn hM, ?_, ?_, (S'.trans S8).mut nM⟩
          · rw [List.length_map, List.length_map, List.length_take]
            exact Nat.lt_of_le_of_lt (show _ ≤ 1000 by omega) (by decide)
          · rw [upd_same, List.take_add_one, e, List.map_append, List.map_append]
            rfl
    rintro H8 ⟨hM, S8⟩
    rw [List.length_map, List.take_length] at hM
    refine in_litL (SqL.of hM) ?_
    obtain ⟨o, mo, ho⟩ := pg.yes
    rw [decide_eq_true (List.mem_map.mpr ⟨o, mo, by rw [ho]; decide +kernel⟩)]
    exact k _ ((S1.trans S2).trans S8)
abbrev s_law : Stmt := topS 91
abbrev N_law : List Str := ["script", "cells", "urn", "line", "roots", "quest", "known", "k", "near", "leaf", "told", "here", "yes", "thing"]
theorem sc_law : FnScope ["script", "cells", "urn", "line", "roots", "quest", "known", "k", "near", "leaf", "told", "here", "yes", "thing"] ["script"] (defScope s_law) := ⟨rfl, rfl, rfl, by decide +kernel, rfl, by decide +kernel, by decide +kernel⟩

/-! ### the law -/
structure Nt (r : Ru) (os : List (Option Txt)) (a z : Int) : Prop where
  nt : isNote r (.tup [.int (os.length : Int), lacksD r.lacks (gone os), vD (lowO r.low (txs os)), vD (highO r.high (txs os))]) = true
  ha : (numR r os.length (lacksD r.lacks (gone os)) (vD (lowO r.low (txs os))) (vD (highO r.high (txs os))))[0]? = some a
  hz : (numR r os.length (lacksD r.lacks (gone os)) (vD (lowO r.low (txs os))) (vD (highO r.high (txs os))))[(numR r os.length (lacksD r.lacks (gone os)) (vD (lowO r.low (txs os))) (vD (highO r.high (txs os)))).length - 1]? = some z
  hm : ∀ k ∈ numR r os.length (lacksD r.lacks (gone os)) (vD (lowO r.low (txs os))) (vD (highO r.high (txs os))), k ≤ (os.length : Int)
theorem nt_of {r : Ru} (ok : RuOk r) {os : List (Option Txt)} (c : Col os) (h0 : 0 < os.length) : ∃ a z, Nt r os a z := by
  obtain ⟨G0⟩ := grown_grw (more := 0) (b := true) ok c h0 (fun _ => rfl)
  rw [grown0] at G0
  refine ⟨G0.a, G0.z, G0.ok, G0.ha, G0.hz, fun k mk => ?_⟩
  have h2 := (num_mem.mp mk).2.2.1
  obtain ⟨_, _, _, _, h3⟩ := page_left ok (show noteD r os = tellD os.length (lacksD r.lacks (gone os)) (lowO r.low (txs os)) (highO r.high (txs os)) from rfl)
  omega
/-- what bars, grants say of a note -/
def BarD (r : Ru) (n : Nat) (d : Dt) (m : Int) (d1 d2 d3 : D) : Prop := ∀ a, (numR r m d1 d2 d3)[0]? = some a → ¬ (lev n none d = 2 ∧ a < m) ∧ ∀ w, Abc w → ¬ (stdR r m d1 d2 d3 w = true ∧ yesB n d w = true)
def GraD (r : Ru) (n : Nat) (d : Dt) (m : Int) (d1 d2 d3 : D) : Prop := ∀ a, (numR r m d1 d2 d3)[0]? = some a → ¬ (¬ lev n none d = 2 ∧ a < m) ∧ ∀ w, Abc w → ¬ (stdR r m d1 d2 d3 w = true ∧ yesB n d w = false)
theorem for_at {P : Int → Prop} {o : Option Int} {a : Int} (h : o = some a) : P a ↔ ∀ b, o = some b → P b := ⟨fun p b e => by rw [h] at e; cases e; exact p, fun g => g a h⟩
theorem bool_same {a b : Bool} {P : Prop} (h : a = true ↔ P) (g : b = true ↔ P) : b = a := by
  rw [Bool.eq_iff_iff, h, g]
theorem sqt_ext {K : PySem.W.Frag} {H : Hp} {a k : Addr} {xs : List V} {φ ψ : Heap → Prop} (h : SqT K H a xs) (hk : H k = some (.ext φ)) : SqT K (upd H k (.ext ψ)) a xs := by
  rcases h with (h | ⟨o, h⟩) | h
  · refine .inl (.inl ?_)
    rw [upd_ne (fun e => by rw [e, hk] at h; cases h)]
    exact h
  · refine .inl (.inr ⟨o, ?_⟩)
    rw [upd_ne (fun e => by rw [e, hk] at h; cases h)]
    exact h
  · exact .inr h
def keyV (r : Ru) (os : List (Option Txt)) : List V := [.int (os.length : Int), lackV r.lacks (gone os), vV (lowO r.low (txs os)), vV (highO r.high (txs os))]
theorem lack_v {K : PySem.W.Frag} {S : List Addr} {H : Hp} {u : V} {k g : Nat} (r : Rv K S H u (lacksD k g)) : u = lackV k g := by
  match k, r with
  | 0, r => cases (r : Rv K S H u (.int (g : Int))); rfl
  | 1, r => cases (r : Rv K S H u (.bl (decide ((g : Int) > 0)))); rfl
  | k + 2, r => cases (r : Rv K S H u .non); rfl
theorem nk_vV {a b : Option Txt} (h : nkV (vV a) = nkV (vV b)) : a = b := by
  cases a with
  | none => cases b with
    | none => rfl
    | some l => cases h
  | some l => cases b with
    | none => cases h
    | some l' =>
      have h : NestedKey.text (tx l) = NestedKey.text (tx l') := h
      injection h with h
      rw [tx_inj h]
theorem nk_lack {k g g' : Nat} (h : nkV (lackV k g) = nkV (lackV k g')) : lacksD k g = lacksD k g' := by
  match k, h with
  | 0, h =>
    have h : NestedKey.num (g : Int) = NestedKey.num (g' : Int) := h
    injection h with h
    show D.int (g : Int) = D.int (g' : Int)
    rw [h]
  | 1, h =>
    have h : NestedKey.num (if decide ((g : Int) > 0) = true then 1 else 0) = NestedKey.num (if decide ((g' : Int) > 0) = true then 1 else 0) := h
    injection h with h
    show D.bl (decide ((g : Int) > 0)) = D.bl (decide ((g' : Int) > 0))
    revert h
    cases decide ((g : Int) > 0) <;> cases decide ((g' : Int) > 0) <;> simp
  | k + 2, _ => rfl
theorem key_same {r : Ru} {as bs : List (Option Txt)} (h : nkT (keyV r as) = nkT (keyV r bs)) : (as.length : Int) = bs.length ∧ lacksD r.lacks (gone as) = lacksD r.lacks (gone bs) ∧ lowO r.low (txs as) = lowO r.low (txs bs) ∧ highO r.high (txs as) = highO r.high (txs bs) := by
  unfold nkT keyV at h
  injection h with h
  simp only [List.map_cons, List.map_nil, List.cons.injEq, and_true] at h
  obtain ⟨h1, h2, h3, h4⟩ := h
  have h1 : NestedKey.num (as.length : Int) = NestedKey.num (bs.length : Int) := h1
  injection h1 with h1
  exact ⟨h1, nk_lack h2, nk_vV h3, nk_vV h4⟩
theorem key_plain (r : Ru) (os : List (Option Txt)) : (keyV r os).all plV = true := by
  have h1 : ∀ k g, plV (lackV k g) = true := fun k g => by
    match k with
    | 0 => rfl
    | 1 => rfl
    | k + 2 => rfl
  have h2 : ∀ o : Option Txt, plV (vV o) = true := fun o => by cases o <;> rfl
  show (plV _ && (plV _ && (plV _ && (plV _ && true)))) = true
  rw [h1, h2, h2]
  rfl
/-- what the dict holds -/
structure EntOk (K : PySem.W.Frag) (H : Hp) (r : Ru) (n : Nat) (d : Dt) (e : Ent) : Prop where
  key : KeyAt K H e.2.1 e.1
  val : ∃ (os : List (Option Txt)) (L : Addr) (b1 b2 : Bool), e.1 = nkT (keyV r os) ∧ e.2.2 = .ref L ∧ H L = some (.lst [.bl b1, .bl b2]) ∧
    (b1 = true ↔ BarD r n d os.length (lacksD r.lacks (gone os)) (vD (lowO r.low (txs os))) (vD (highO r.high (txs os)))) ∧ (b2 = true ↔ GraD r n d os.length (lacksD r.lacks (gone os)) (vD (lowO r.low (txs os))) (vD (highO r.high (txs os))))
theorem EntOk.stp {K : PySem.W.Frag} {S : List Addr} {H H' : Hp} {r : Ru} {n : Nat} {d : Dt} {e : Ent} (h : EntOk K H r n d e) (s : Stp S H H') (l : Lsts H S) (ns : ∀ L b1 b2, H L = some (.lst [.bl b1, .bl b2]) → L ∉ S) : EntOk K H' r n d e := by
  obtain ⟨⟨us, h1, h2, h3⟩, os, L, b1, b2, g1, g2, g3, g4⟩ := h
  exact ⟨⟨us, sqt_stp s l h1, h2, h3⟩, os, L, b1, b2, g1, g2, s.kp _ _ (ns L b1 b2 g3) g3, g4⟩
def spLaw (K : PySem.W.Frag) : Sp := fun vs H Q _ => ∃ (a : Addr) (ns : List Int), vs = [.ref a] ∧ SqL K H a (ns.map V.int) ∧ ns.length ≤ 63 ∧ ∀ H', Q (.bl true) H'
theorem cl_law {f : Addr} {fd : FuncData} (D : Df K mg "law" s_law ["script"] f fd) (T : Nm mg) (c__law_bag : Cl P w K mg base 1 "_law_bag" s__law_bag ["cell"] spBag) (c__law_pick : Cl P w K mg base 1 "_law_pick" s__law_pick ["urn", "many"] spPick)
    (c__law_stems : Cl P w K mg base 3 "_law_stems" s__law_stems ["urn"] spStems) (c__law_page : Cl P w K mg base 4 "_law_page" s__law_page ["urn", "roots", "peak"] spPage)
    (c__law_rule : Cl P w K mg base 2 "_law_rule" s__law_rule ["urn"] (spRule K)) (c_note : Cl P w K mg base 5 "note" s_note ["rule", "page"] (spNote K)) (c__law_note : Cl P w K mg base 3 "_law_note" s__law_note ["line", "leaf"] (spLNote K)) (c__law_query : Cl P w K mg base 6 "_law_query" s__law_query ["urn", "room", "levels", "roots"] (spLQ K 3))
    (c__law_answer : Cl P w K mg base 12 "_law_answer" s__law_answer ["quest", "thing"] (spAns K 11)) (c__law_others : Cl P w K mg base 13 "_law_others" s__law_others ["quest"] (spOth K 11)) (c_bars : Cl P w K mg base 34 "bars" s_bars ["rule", "note", "query"] (spBars K 11)) (c_grants : Cl P w K mg base 34 "grants" s_grants ["rule", "note", "query"] (spGrants K 11))
    (c_page_for : Cl P w K mg base 34 "page_for" s_page_for ["rule", "note", "query"] (spPgF K 11)) (c__law_shown : ClG P w K mg base 35 "_law_shown" s__law_shown ["line", "told", "quest"] (spShown K 11)) : FnG P w K mg base 36 f fd ["script"] (spLaw K) := by
  refine D.g sc_law (fun vs H Q E h => ?_) (fun cdv A outer s H vs Q E hG hr h => ?_)
  · obtain ⟨a, ns, rfl, _⟩ := h
    rfl
  · obtain ⟨a, ns, rfl, hS, hlen, k⟩ := h
    refine ⟨_, (pss_cons (ps_set (i := 1) sc_law.nd rfl (by first | exact Or.inl rfl | exact Or.inr rfl) (pe_op Pv.op_catS (pe_lst (pa_cons (pe_op op_add (pe_op op_pow pe_int pe_int) pe_int) pa_nil)) (pv 0)))
      (pss_cons (ps_set (i := 2) sc_law.nd rfl (by first | exact Or.inl rfl | exact Or.inr rfl) (pe_cl c__law_bag hr (by omega) (pa_cons (pe_ix ix_list (pv 1) (pe_un un_neg pe_int) (fun _ _ => rfl)) pa_nil)))
      (pss_cons (ps_set (i := 3) sc_law.nd rfl (by first | exact Or.inl rfl | exact Or.inr rfl) (pe_cl c__law_rule hr (by omega) (pa_cons (pv 2) pa_nil)))
      (pss_cons (ps_set (i := 4) sc_law.nd rfl (by first | exact Or.inl rfl | exact Or.inr rfl) (pe_cl c__law_stems hr (by omega) (pa_cons (pv 2) pa_nil)))
      (pss_cons (ps_set (i := 5) sc_law.nd rfl (by first | exact Or.inl rfl | exact Or.inr rfl) (pe_cl c__law_query hr (by omega) (pa_cons (pv 2) (pa_cons (pe_lst (pa_cons pe_int (pa_cons pe_int pa_nil))) (pa_cons pe_int (pa_cons (pv 4) pa_nil))))))
      (pss_cons (ps_set (i := 6) sc_law.nd rfl (by first | exact Or.inl rfl | exact Or.inr rfl) Pg.pe_dnewX)
      (pss_cons (ps_for PassesOwn.never rfl (pi_range1 (by rfl) T.n_range (pa_cons (pe_callB call_len_seq (by rfl) T.n_len (by decide +kernel) (pa_cons (pv 1) pa_nil)) pa_nil)) (pg_name (i := 7) sc_law.nd rfl (by first | exact Or.inl rfl | exact Or.inr rfl)) (pss_cons (ps_set (i := 2) sc_law.nd rfl (by first | exact Or.inl rfl | exact Or.inr rfl) (pe_cl c__law_bag hr (by omega) (pa_cons (pe_ix ix_list (pv 1) (pv 7) (fun _ _ => rfl)) pa_nil)))
      (pss_cons (ps_set (i := 8) sc_law.nd rfl (by first | exact Or.inl rfl | exact Or.inr rfl) (pe_ifExp (pt_cmpR op_eq (pe_cl c__law_pick hr (by omega) (pa_cons (pv 2) (pa_cons pe_int pa_nil))) pe_int (by first | exact nomark _ | rfl)) (pv 4) (pe_lst (pa_cons (pe_ix ix_list (pv 4) (pe_cl c__law_pick hr (by omega) (pa_cons (pv 2) (pa_cons (pe_callB call_len_seq (by rfl) T.n_len (by decide +kernel) (pa_cons (pv 4) pa_nil)) pa_nil))) (fun _ _ => rfl)) pa_nil))))
      (pss_cons (ps_set (i := 9) sc_law.nd rfl (by first | exact Or.inl rfl | exact Or.inr rfl) (pe_cl c__law_page hr (by omega) (pa_cons (pv 2) (pa_cons (pv 8) (pa_cons pe_int pa_nil)))))
      (pss_cons (ps_set (i := 10) sc_law.nd rfl (by first | exact Or.inl rfl | exact Or.inr rfl) (pe_cl c_note hr (by omega) (pa_cons (pv 3) (pa_cons (pv 9) pa_nil))))
      (pss_cons (ps_if (pt_cmpR op_ne (pe_callB (Pv.call_reprD hG hr) (by rfl) T.n_repr (by decide +kernel) (pa_cons (pv 10) pa_nil)) (pe_callB (Pv.call_reprD hG hr) (by rfl) T.n_repr (by decide +kernel) (pa_cons (pe_cl c__law_note hr (by omega) (pa_cons (pv 3) (pa_cons (pv 9) pa_nil))) pa_nil)) (by first | exact nomark _ | rfl)) (pss_one (ps_ret pe_bl)) pss_nil)
      (pss_cons (ps_set (i := 11) sc_law.nd rfl (by first | exact Or.inl rfl | exact Or.inr rfl) (pe_lst (pa_cons (pe_cl c_bars hr (by omega) (pa_cons (pv 3) (pa_cons (pv 10) (pa_cons (pv 5) pa_nil)))) (pa_cons (pe_cl c_grants hr (by omega) (pa_cons (pv 3) (pa_cons (pv 10) (pa_cons (pv 5) pa_nil)))) pa_nil))))
      (pss_cons (ps_if (pt_cmpR (Pv.op_neL hr.units) (Pg.pe_bmX PySem.F.slot_dict_setdefault PySem.F.type_dict_setdefault (Pg.mt_setX hr.units) (pv 6) (pa_cons (pv 10) (pa_cons (pv 11) pa_nil))) (pv 11) (by first | exact nomark _ | rfl)) (pss_one (ps_ret pe_bl)) pss_nil)
      (pss_cons (ps_setLc (i := 12) (own := [("thing", 13)]) rfl sc_law.nd rfl rfl (sw_true rfl rfl rfl (by decide +kernel)) (pi_list (pv 9)) (blkOk_by (own := [("thing", 13)]) (N := N_law) (sc := defScope s_law) (by decide +kernel)) (fun _ _ _ _ _ => (pg_name (i := 13) sc_law.nd rfl (by first | exact Or.inl rfl | exact Or.inr rfl))) (fun _ _ _ _ _ => (pts_one (pt_cmpR op_eq (pe_cl c__law_answer hr (by omega) (pa_cons (pv 5) (pa_cons (pv 13) pa_nil))) pe_str (by first | exact nomark _ | rfl)))) (fun _ _ _ _ _ => (pv 13)))
      (pss_cons (ps_if (PW.pt (pw_or (PW.pt (pw_and (pt_val (pe_ix ix_list (pv 11) pe_int (fun _ _ => rfl))) (pw_and1 (pt_cmpR (Pv.op_neNil hr.units) (pv 12) (pe_lst pa_nil) (by first | exact nomark _ | rfl))))) (pw_or1 (PW.pt (pw_and (pt_val (pe_ix ix_list (pv 11) pe_int (fun _ _ => rfl))) (pw_and1 (pt_cmpR op_lt (pe_callB call_len_seq (by rfl) T.n_len (by decide +kernel) (pa_cons (pv 12) pa_nil)) (pe_callB call_len_seq (by rfl) T.n_len (by decide +kernel) (pa_cons (pv 9) pa_nil)) (by first | exact nomark _ | rfl)))))))) (pss_one (ps_ret pe_bl)) pss_nil)
      (pss_one (ps_if (pt_cmpR op_lt (pv 7) pe_int (by first | exact nomark _ | rfl)) (pss_cons (ps_if (pt_cmpR op_ne (pe_ix ix_list (pv 11) pe_int (fun _ _ => rfl)) (pe_cmpR op_isN (pe_cl c_page_for hr (by omega) (pa_cons (pv 3) (pa_cons (pv 10) (pa_cons (pv 5) pa_nil)))) pe_non (by first | exact nomark _ | rfl)) (by first | exact nomark _ | rfl)) (pss_one (ps_ret pe_bl)) pss_nil)
      (pss_cons (ps_if (PW.pt (pw_and (pt_not (pt_val (pe_ix ix_list (pv 11) pe_int (fun _ _ => rfl)))) (pw_and1 (pt_not (pt_val (pe_clG c__law_shown hG hr (by omega) (pa_cons (pv 3) (pa_cons (pv 10) (pa_cons (pv 5) pa_nil))))))))) (pss_one (ps_ret pe_bl)) pss_nil)
      (pss_one (ps_if (PW.pt (pw_and (pt_not (pt_val (pe_ix ix_list (pv 11) pe_int (fun _ _ => rfl)))) (pw_and1 (pt_not (pt_val (pe_clG c__law_shown hG hr (by omega) (pa_cons (pv 3) (pa_cons (pv 10) (pa_cons (pe_cl c__law_others hr (by omega) (pa_cons (pv 5) pa_nil)) pa_nil))))))))) (pss_one (ps_ret pe_bl)) pss_nil)))) pss_nil))))))))))))
      (pss_one (ps_ret pe_bl))))))))), ?_⟩
    have len1 : (1 : Nat) ≤ sizeLine := by decide
    have len2 : (2 : Nat) ≤ sizeLine := by decide
    have nn : ∀ {x : Addr}, x ∉ ([] : List Addr) := fun m => nomatch m
    refine ⟨_, _, rfl, rfl, ⟨by decide, by decide, by decide⟩, _, _, rfl, rfl, len1, fun p2 np2 => ?_⟩
    have S1 : Stp [] H (upd H p2 (.lst [V.int (10 ^ (60 : Int).toNat + 7)])) := Stp.new np2 _
    refine ⟨_, rfl, p2, a, _, _, rfl, rfl, SqL.of upd_same, sql_up S1 hS, ?_, fun p3 np3 => ?_⟩
    · rw [List.length_map]
      exact sz (by simp; omega)
    obtain ⟨cs, ecs⟩ : ∃ cs : List Int, cs = (10 ^ (60 : Int).toNat + 7) :: ns := ⟨_, rfl⟩
    rw [show [V.int (10 ^ (60 : Int).toNat + 7)] ++ ns.map V.int = cs.map V.int by rw [ecs]; rfl]
    have cl : 0 < cs.length ∧ cs.length ≤ 64 := by rw [ecs]; simp; omega
    have h3 : (upd (upd H p2 (.lst [V.int (10 ^ (60 : Int).toNat + 7)])) p3 (.lst (cs.map V.int))) p3 = some (.lst (cs.map V.int)) := upd_same
    generalize upd (upd H p2 (.lst [V.int (10 ^ (60 : Int).toNat + 7)])) p3 (.lst (cs.map V.int)) = H1 at *
    clear ecs
    dsimp only [gName]
    obtain ⟨c0, hc0⟩ : ∃ c0, atI (cs.map V.int) (-1) = some (V.int c0) := by
      refine ⟨cs[cs.length - 1], atI_neg (by rw [List.length_map]; omega) ?_⟩
      rw [List.length_map, List.getElem?_map, List.getElem?_eq_getElem (by omega)]
      rfl
    refine ⟨_, rfl, 1, rfl, p3, _, -1, _, rfl, rfl, SqL.of h3, hc0, c0, rfl, fun b H2 nb S2 U2 => ?_⟩
    have h32 := S2.kp _ _ nn h3
    have n3b : p3 ∉ [b] := fun m => ne_of_none h3 nb (List.mem_singleton.mp m)
    refine ⟨_, rfl, b, _, rfl, U2, by decide, fun v r HJ SJ UJ okr rv => ?_⟩
    have h3J := SJ.kp _ _ n3b h32
    refine ⟨_, rfl, b, _, rfl, UJ, by decide, fun rp ls H3 nr R3 l4 S3 U3 => ?_⟩
    have h33 := S3.kp _ _ n3b h3J
    have rv3 := rv.stp S3 UJ.ls
    have bp : b ≠ rp := UJ.ne nr
    dsimp only [gName]
    refine ⟨_, rfl, len2, fun rm nr2 => ?_⟩
    have S4 : Stp [] H3 (upd H3 rm (.lst [.int ((9 : Nat) : Int), .int ((8 : Nat) : Int)])) := Stp.new nr2 _
    have h4 : (upd H3 rm (.lst [.int ((9 : Nat) : Int), .int ((8 : Nat) : Int)])) rm = some (.lst [.int ((9 : Nat) : Int), .int ((8 : Nat) : Int)]) := upd_same
    have er : (upd H3 rm (.lst [V.int 9, V.int 8])) = upd H3 rm (.lst [.int ((9 : Nat) : Int), .int ((8 : Nat) : Int)]) := rfl
    rw [er]
    have rb := U3.ne nr2
    have rN := ne_of_none R3.1 nr2
    have U4 := U3.up S4
    have R4 := R3.stp U3 S4.nil
    have S4b : Stp [b] H3 (upd H3 rm (.lst [.int ((9 : Nat) : Int), .int ((8 : Nat) : Int)])) := S4.nil
    generalize upd H3 rm (.lst [.int ((9 : Nat) : Int), .int ((8 : Nat) : Int)]) = H4 at *
    refine ⟨_, rfl, b, rm, rp, _, 9, 8, ls, rfl, ⟨U4, R4, h4, bp, rb, rN⟩, by decide, by omega, by omega, by omega, by omega, by omega, fun q d H5 n' x' y' S5 Lq5 g1 g2 g3 rq fd ts dd wt => ?_⟩
    have S35 : Stp [b] H3 H5 := Stp.loc (p := rm) nr2 ((S4b.sub fun x m => List.mem_cons_of_mem _ m).trans (S5.sub fun x m => by simp at m; simp; rcases m with e | e <;> simp [e]))
    have rv5 : Rv K [] H5 v (ruD r) := Rv.any (rv3.stp S35 U3.ls) (noL_ru r)
    have h35 := S35.kp _ _ n3b h33
    have R5 : Roots H5 rp ls := R3.stp U3 S35
    dsimp only [gName]
    refine fun kd nkd => ?_
    dsimp only [gName]
    generalize hH6 : upd H5 kd (HO.ext _) = H6
    have S6 : Stp [] H5 H6 := by rw [← hH6]; exact Stp.new nkd _
    have hkd : H6 kd = some (.ext (RawX P w kd [])) := by rw [← hH6]; exact upd_same
    refine ⟨_, rfl, p3, _, rfl, .inl (SqL.of (S6.kp _ _ nn h35)), (((cs.map V.int).length : Nat) : Int), rfl, by omega, by rw [List.length_map]; omega, for_range (lo := 0) (n := (cs.map V.int).length) (fun i σ H' => ∃ (x2 x7 x8 x9 x10 x11 x12 x13 : Option V) (es : List Ent), σ = [some (.ref a), some (.ref p3), x2, some v, some (.ref rp), some q, some (.ref kd), x7, x8, x9, x10, x11, x12, x13] ∧ H' kd = some (.ext (RawX P w kd es)) ∧ es.length ≤ i ∧ (∀ e ∈ es, EntOk K H' r 11 d e) ∧ Stp [] H5 H')
      ⟨_, _, _, _, _, _, _, _, [], rfl, hkd, Nat.zero_le _, fun _ m => (nomatch m), S6⟩ ?_ (fun σ H' ⟨_, _, _, _, _, _, _, _, _, e, _⟩ => by rw [e]; exact k _)⟩
    rintro i σ H' hi ⟨x2, x7, x8, x9, x10, x11, x12, x13, es, rfl, hk, el, eo, F⟩
    rw [List.length_map] at hi
    have h3i := F.kp _ _ nn h35
    have hci : (cs.map V.int)[i]? = some (.int cs[i]) := by rw [List.getElem?_map, List.getElem?_eq_getElem hi]; rfl
    have aci : atI (cs.map V.int) (0 + (i : Int)) = some (.int cs[i]) := by
      rw [show (0 : Int) + (i : Int) = ((i : Nat) : Int) by omega]
      exact atI_nat hci
    dsimp only [gName]
    refine ⟨_, rfl, _, rfl, p3, _, _, _, rfl, rfl, SqL.of h3i, aci, cs[i], rfl, fun c H7 nc S7 U7 => ?_⟩
    have F7 := F.trans S7
    have hk7 := S7.kp _ _ nn hk
    have eo7 : ∀ e ∈ es, EntOk K H7 r 11 d e := fun e m => (eo e m).stp S7 Lsts.nil (fun _ _ _ _ => nn)
    have R7 : Roots H7 rp ls := ⟨F7.kp _ _ nn R5.1, R5.2⟩
    dsimp only [gName]
    refine seq_end (fun σ H' => ∃ (np : Addr) (ls' : List Txt), σ = [some (.ref a), some (.ref p3), some (.ref c), some v, some (.ref rp), some q, some (.ref kd), some (.int (0 + (i : Int))), some (.ref np), x9, x10, x11, x12, x13] ∧ Roots H' np ls' ∧ Stp [c] H7 H' ∧ Urn H' c 1000) ?_ (fun fin => ?_)
    rotate_left
    · have rpc : rp ∉ [c] := fun m => ne_of_none (F.kp _ _ nn R5.1) nc (List.mem_singleton.mp m)
      refine ⟨_, rfl, c, 2, 0, rfl, U7, by decide, by decide, by decide, fun z HA z0 z1 SA UA => ?_⟩
      have RA : Roots HA rp ls := ⟨SA.kp _ _ rpc R7.1, R7.2⟩
      refine ⟨rfl, _, rfl, ite2 (fun _ => ?_) (fun _ => ?_)⟩
      · exact ⟨_, rfl, fin _ _ ⟨rp, ls, rfl, RA, SA, UA.mono (by decide)⟩⟩
      · have l1 := RA.2.2.1
        have l2 := RA.2.2.2
        refine ⟨_, rfl, _, rfl, _, rfl, rp, _, rfl, .inl (SqL.of RA.1), c, _, _, rfl, UA, by decide, by rw [List.length_map]; omega, by rw [List.length_map]; omega, fun dd HB d0 e1 SB UB => ?_⟩
        rw [List.length_map] at e1
        obtain ⟨e, rfl⟩ := Int.eq_ofNat_of_zero_le d0
        have he : e < ls.length := by omega
        have hx : (ls.map Tx)[e]? = some (Tx ls[e]) := by rw [List.getElem?_map, List.getElem?_eq_getElem he]; rfl
        refine ⟨rp, _, e, _, rfl, rfl, SqL.of (SB.kp _ _ rpc RA.1), atI_nat (j := e) hx, len1, fun np nnp => fin _ _ ⟨np, [ls[e]], rfl, ⟨upd_same, fun l m => ?_, by simp, by simp⟩, (SA.trans SB).new' nnp, (UB.upd (UB.ne nnp)).mono (by decide)⟩⟩
        rw [List.mem_singleton.mp m]
        exact RA.2.1 _ (List.getElem_mem he)
    rintro σ H8 ⟨np, ls', rfl, R8, S8, U8⟩
    refine ⟨_, rfl, _, rfl, c, np, ls', 6, _, rfl, U8, by decide, R8, by decide, by decide, fun lp os H9 nl L9 lo S9 U9 => ?_⟩
    have F9 : Stp [c] H5 H9 := (F7.nil.trans S8).trans S9
    have rpc : rp ∉ [c] := fun m => ne_of_none (F.kp _ _ nn R5.1) nc (List.mem_singleton.mp m)
    have kdc : kd ∉ [c] := fun m => ne_of_none hk nc (List.mem_singleton.mp m)
    have S79 := S8.trans S9
    have nc5 : H5 c = none := F.fresh nn nc
    have G9 : Stp [] H5 H9 := Stp.loc nc5 F9
    have hk9 := S79.kp _ _ kdc hk7
    have eo9 : ∀ e ∈ es, EntOk K H9 r 11 d e := fun e m => (eo7 e m).stp S79 U7.ls (fun L b1 b2 hL mL => by
      obtain ⟨x, y, z, hc, _⟩ := U7
      rw [List.mem_singleton.mp mL, hc] at hL
      simp at hL)
    have o0 := L9.2.2
    have col : Col os := ⟨fun l m => ⟨(L9.2.1 l m).1, by have := (L9.2.1 l m).2; omega⟩, by omega⟩
    have abo : AbcO os := fun l m => (L9.2.1 l m).1
    obtain ⟨na, nz, N⟩ := nt_of okr col o0
    have fine := note_fine r col
    obtain ⟨hcl, lz, _⟩ := page_left okr (show noteD r os = tellD ((os.length : Nat) : Int) (lacksD r.lacks (gone os)) (lowO r.low (txs os)) (highO r.high (txs os)) from rfl)
    have rv9 := rv5.up G9
    have rq9 : Rp K H9 q d := rq.stp G9 Lsts.nil
    have std := fun (w : Txt) (m : w ∈ txs os) => page_stands okr abo (show noteD r os = tellD ((os.length : Nat) : Int) (lacksD r.lacks (gone os)) (lowO r.low (txs os)) (highO r.high (txs os)) from rfl) m
    have btw := (page_between okr abo (show noteD r os = tellD ((os.length : Nat) : Int) (lacksD r.lacks (gone os)) (lowO r.low (txs os)) (highO r.high (txs os)) from rfl) N.ha N.hz).1
    dsimp only [gName]
    refine ⟨_, rfl, _, rfl, v, lp, r, os, rfl, rv9, okr, L9.1, col, o0, fun t H10 S10 ru => ?_⟩
    have hlp := S10.kp _ _ nn L9.1
    have hkA := S10.kp _ _ nn hk9
    have eoA : ∀ e ∈ es, EntOk K H10 r 11 d e := fun e m => (eo9 e m).stp S10 Lsts.nil (fun _ _ _ _ => nn)
    have GA := G9.trans S10
    have ru' : Rv K [] H10 t (tellD ((os.length : Nat) : Int) (lacksD r.lacks (gone os)) (lowO r.low (txs os)) (highO r.high (txs os))) := ru
    obtain ⟨tt, w1, rfl, htt, rw1⟩ := tell_parts ru'
    obtain rfl := lack_v rw1
    dsimp only [gName]
    refine ⟨_, rfl, [], _, _, rfl, ru, fine, _, rfl, _, rfl, v, lp, r, os, rfl, rv9.up S10, okr, hlp, col, by omega, fun u2 HB SB ru2 => ⟨[], u2, noteD r os, rfl, ru2, fine, rfl, false, by rw [decide_eq_true rfl]; rfl, ?_⟩⟩
    refine ite2 (fun h => nomatch h) (fun _ => ?_)
    dsimp only [tNext]
    have GB := GA.trans SB
    have NF : ∀ {H'}, Stp [] HB H' → NoteFlt K 11 H' v (.ref tt) q r ((os.length : Nat) : Int) (lacksD r.lacks (gone os)) (vD (lowO r.low (txs os))) (vD (highO r.high (txs os))) d na := fun S =>
      ⟨(rv5.up GB).up S, okr, (ru'.up SB).up S, N.nt, N.ha, (rq.stp GB Lsts.nil).stp S Lsts.nil, fd, by omega, tsh_mono (by decide) d ts, by omega⟩
    refine ⟨_, rfl, _, rfl, _, rfl, v, .ref tt, q, r, _, _, _, _, d, na, rfl, NF (Stp.refl _ _), fun b1 HC SC e1 => ?_⟩
    refine ⟨_, rfl, _, rfl, _, rfl, v, .ref tt, q, r, _, _, _, _, d, na, rfl, NF SC, fun b2 HD SD e2 => ⟨len2, fun L nL => ?_⟩⟩
    have SBD : Stp [] HB (upd HD L (.lst [.bl b1, .bl b2])) := (SC.trans SD).new' nL
    have hL : (upd HD L (.lst [.bl b1, .bl b2])) L = some (.lst [.bl b1, .bl b2]) := upd_same
    have kL : kd ≠ L := ne_of_none ((SC.trans SD).kp _ _ nn (SB.kp _ _ nn hkA)) nL
    generalize upd HD L (.lst [.bl b1, .bl b2]) = HE at *
    have hkE := SBD.kp _ _ nn (SB.kp _ _ nn hkA)
    have eoE : ∀ e ∈ es, EntOk K HE r 11 d e := fun e m => ((eoA e m).stp SB Lsts.nil (fun _ _ _ _ => nn)).stp SBD Lsts.nil (fun _ _ _ _ => nn)
    have GE := GB.trans SBD
    have hlpE := SBD.kp _ _ nn (SB.kp _ _ nn hlp)
    have httE : SqT K HE tt (keyV r os) := sqt_stp SBD Lsts.nil (sqt_stp SB Lsts.nil htt)
    have B1 : b1 = true ↔ BarD r 11 d os.length (lacksD r.lacks (gone os)) (vD (lowO r.low (txs os))) (vD (highO r.high (txs os))) := e1.trans (for_at (P := fun a => ¬ (lev 11 none d = 2 ∧ a < (os.length : Int)) ∧ ∀ w, Abc w → ¬ (stdR r os.length (lacksD r.lacks (gone os)) (vD (lowO r.low (txs os))) (vD (highO r.high (txs os))) w = true ∧ yesB 11 d w = true)) N.ha)
    have B2 : b2 = true ↔ GraD r 11 d os.length (lacksD r.lacks (gone os)) (vD (lowO r.low (txs os))) (vD (highO r.high (txs os))) := e2.trans (for_at (P := fun a => ¬ (¬ lev 11 none d = 2 ∧ a < (os.length : Int)) ∧ ∀ w, Abc w → ¬ (stdR r os.length (lacksD r.lacks (gone os)) (vD (lowO r.low (txs os))) (vD (highO r.high (txs os))) w = true ∧ yesB 11 d w = false)) N.ha)
    dsimp only [gName]
    have same : ∀ e ∈ es, e.1 = nkT (keyV r os) → ∃ L', e.2.2 = .ref L' ∧ HE L' = some (.lst [.bl b1, .bl b2]) := fun e me ek => by
      obtain ⟨_, os', L', c1, c2, g1, g2, g3, g4, g5⟩ := eoE e me
      obtain ⟨k1, k2, k3, k4⟩ := key_same (g1.symm.trans ek)
      rw [k1, k2, k3, k4] at g4 g5
      refine ⟨L', g2, ?_⟩
      rw [g3, bool_same B1 g4, bool_same B2 g5]
    refine tseq_if (tt_join (fun c H' => c = false ∧ ∃ es' : List Ent, H' kd = some (.ext (RawX P w kd es')) ∧ es'.length ≤ i + 1 ∧ (∀ e ∈ es', EntOk K H' r 11 d e) ∧ Stp [] H5 H' ∧ H' L = some (.lst [.bl b1, .bl b2]) ∧ H' lp = some (.lst (os.map vV)) ∧ SqT K H' tt (keyV r os)) (fun fi => ?_) ?_)
    · refine ⟨_, rfl, ⟨kd, es, rfl, hkE⟩, _, rfl, _, rfl, kd, tt, es, keyV r os, .ref L, rfl, rfl, hkE, httE, key_plain r os, fun e m => (eoE e m).key, by omega, fun e me ek => ?_, fun hn => ?_⟩
      · obtain ⟨L', h1, h2⟩ := same e me ek
        rw [h1]
        refine ⟨_, rfl, [], L', L, [.bl b1, .bl b2], [.bl b1, .bl b2], rfl, rfl, SqL.of h2, SqL.of hL, .cons (.bl _) (.cons (.bl _) .nil), _, rfl, fi _ _ ⟨rfl, es, hkE, by omega, eoE, GE, hL, hlpE, httE⟩⟩
      · have hLF : (upd HE kd (.ext (RawX P w kd (es ++ [(nkT (keyV r os), tt, .ref L)])))) L = some (.lst [.bl b1, .bl b2]) := by rw [upd_ne (Ne.symm kL)]; exact hL
        have hlF : (upd HE kd (.ext (RawX P w kd (es ++ [(nkT (keyV r os), tt, .ref L)])))) lp = some (.lst (os.map vV)) := by rw [upd_ne (fun e => by rw [e, hkE] at hlpE; cases hlpE)]; exact hlpE
        refine ⟨_, rfl, [], L, L, [.bl b1, .bl b2], [.bl b1, .bl b2], rfl, rfl, SqL.of hLF, SqL.of hLF, .cons (.bl _) (.cons (.bl _) .nil), _, rfl, fi _ _ ⟨rfl, es ++ [(nkT (keyV r os), tt, .ref L)], upd_same, by simp; omega, fun e me => ?_, Stp.mutO GE nkd, hLF, hlF, sqt_ext httE hkE⟩⟩
        rcases List.mem_append.mp me with me | me
        · obtain ⟨⟨us, z1, z2, z3⟩, os', L', c1, c2, g1, g2, g3, g4⟩ := eoE e me
          refine ⟨⟨us, sqt_ext z1 hkE, z2, z3⟩, os', L', c1, c2, g1, g2, ?_, g4⟩
          rw [upd_ne (fun e => by rw [e, hkE] at g3; cases g3)]
          exact g3
        · rw [List.mem_singleton.mp me]
          exact ⟨⟨keyV r os, sqt_ext httE hkE, key_plain r os, rfl⟩, os, L, b1, b2, rfl, rfl, hLF, B1, B2⟩
    rintro cc HF ⟨rfl, es', hkF, elF, eoF, GF, hLF, hlpF, httF⟩
    refine ite2 (fun h => nomatch h) (fun _ => ?_)
    dsimp only [tNext]
    have rvF : Rv K [] HF v (ruD r) := rv5.up GF
    have rqF : Rp K HF q d := rq.stp GF Lsts.nil
    have ruF : Rv K [] HF (.ref tt) (tellD ((os.length : Nat) : Int) (lacksD r.lacks (gone os)) (lowO r.low (txs os)) (highO r.high (txs os))) :=
      .tup httF (by show 4 ≤ 100000; decide) (.cons (.int _) (.cons (lack_rv _ _) (.cons (rv_v fun l e => (col_lows col e).2) (.cons (rv_v fun l e => (col_highs col e).2) .nil))))
    have NFF : ∀ {H'}, Stp [] HF H' → NoteFlt K 11 H' v (.ref tt) q r ((os.length : Nat) : Int) (lacksD r.lacks (gone os)) (vD (lowO r.low (txs os))) (vD (highO r.high (txs os))) d na := fun S =>
      ⟨rvF.up S, okr, ruF.up S, N.nt, N.ha, rqF.stp S Lsts.nil, fd, by omega, tsh_mono (by decide) d ts, by omega⟩
    obtain ⟨g, eg⟩ : ∃ g : Option Txt → Bool, g = fun o => decide (lev 11 o d = 2) := ⟨_, rfl⟩
    refine ⟨_, rfl, lp, rfl, ⟨_, SqL.of hlpF⟩, fun Y nY => ?_⟩
    refine lc_list (K := K) (a := lp) (xs := os.map vV) (fun i H' => H' Y = some (.lst (((os.take i).filter g).map vV)) ∧ Stp [] HF H') ⟨upd_same, Stp.new nY _⟩ (fun i H' _ ⟨_, S⟩ => SqL.of (S.kp _ _ nn hlpF)) ?_ ?_
    · rintro j x H' hj ⟨hY, S'⟩
      rw [List.getElem?_map] at hj
      cases e : os[j]? with
      | none => rw [e] at hj; cases hj
      | some o =>
        rw [e] at hj
        cases hj
        have mo := List.mem_of_getElem? e
        have tk := take_filt (p := g) e
        refine ⟨rfl, _, rfl, _, rfl, q, d, o, congrArg (fun x => [q, x]) (vV_oV o), rqF.stp S' Lsts.nil, fd, by omega, fun l e' => ?_, fun H8 S8 => ⟨rfl, _, rfl, ?_⟩⟩
        · rw [e'] at mo
          exact ⟨(L9.2.1 l mo).1, by have := (L9.2.1 l mo).2; omega⟩
        have e2 : decide (V.str (ansW (lev 11 o d)) = V.str "yes") = g o := by
          rw [eg]
          rcases lev_in 11 o d with z | z | z <;> show _ = decide (lev 11 o d = 2) <;> rw [z] <;> decide +kernel
        rw [e2]
        refine ite2 (fun h => ?_) (fun h => ?_)
        · rw [if_pos h] at tk
          refine ⟨_, rfl, _, S8.kp _ _ nn hY, ?_, ?_, (S'.trans S8).mut nY⟩
          · rw [List.length_map]
            have h1 := List.length_filter_le g (os.take j)
            rw [List.length_take] at h1
            exact Nat.lt_of_le_of_lt (show _ ≤ 1000 by omega) (by decide)
          · rw [upd_same, tk, List.map_append]
            rfl
        · rw [if_neg h, List.append_nil] at tk
          refine ⟨?_, S'.trans S8⟩
          rw [tk]
          exact S8.kp _ _ nn hY
    rintro HG ⟨hY, SG⟩
    rw [List.length_map, List.take_length] at hY
    have noy : b1 = true → os.filter g = [] := fun hb => by
      obtain ⟨h1, h2⟩ := B1.mp hb na N.ha
      refine List.eq_nil_iff_forall_not_mem.mpr fun o mo => ?_
      obtain ⟨mo, go⟩ := List.mem_filter.mp mo
      rw [eg] at go
      have go := of_decide_eq_true go
      cases o with
      | none =>
        refine h1 ⟨go, ?_⟩
        have := gone_txs os
        have : 0 < gone os := by
          have : (txs os).length < os.length := by
            unfold txs
            exact (List.length_filterMap_lt_length_iff_exists (f := (id : Option Txt → Option Txt)) (xs := os)).mpr ⟨none, mo, rfl⟩
          unfold gone
          omega
        omega
      | some w => exact h2 w (abo w mo) ⟨std w (mem_txs.mpr mo), (show lev 11 (some w) d = 2 ↔ yesB 11 d w = true by unfold yesB; rw [decide_eq_true_iff]).mp go⟩
    have ally : b2 = true → os.filter g = os := fun hb => by
      obtain ⟨h1, h2⟩ := B2.mp hb na N.ha
      refine List.filter_eq_self.mpr fun o mo => ?_
      rw [eg]
      refine decide_eq_true ?_
      cases o with
      | none =>
        refine Decidable.byContradiction fun go => h1 ⟨go, ?_⟩
        have := gone_txs os
        have : 0 < gone os := by
          have : (txs os).length < os.length := by
            unfold txs
            exact (List.length_filterMap_lt_length_iff_exists (f := (id : Option Txt → Option Txt)) (xs := os)).mpr ⟨none, mo, rfl⟩
          unfold gone
          omega
        omega
      | some w =>
        refine Decidable.byContradiction fun go => h2 w (abo w mo) ⟨std w (mem_txs.mpr mo), ?_⟩
        unfold yesB
        exact decide_eq_false go
    have hLG := SG.kp _ _ nn hLF
    have hlpG := SG.kp _ _ nn hlpF
    have hkG := SG.kp _ _ nn hkF
    have GG := GF.trans SG
    have eoG : ∀ e ∈ es', EntOk K HG r 11 d e := fun e m => (eoF e m).stp SG Lsts.nil (fun _ _ _ _ => nn)
    dsimp only [gName]
    refine tseq_if (tt_join (fun c H' => c = false ∧ ∃ S : Stp [] HG H', True) (fun fi => ?_) ?_)
    · refine ⟨_, rfl, L, _, 0, .bl b1, rfl, rfl, SqL.of hLG, at0, b1, rfl, ?_⟩
      have sec : ∀ H', Stp [] HG H' → H' L = some (.lst [.bl b1, .bl b2]) ∧ H' Y = some (.lst ((os.filter g).map vV)) ∧ H' lp = some (.lst (os.map vV)) := fun H' S => ⟨S.kp _ _ nn hLG, S.kp _ _ nn hY, S.kp _ _ nn hlpG⟩
      cases b1 with
      | true =>
        refine ite2 (fun _ => ?_) (fun h => absurd rfl h)
        refine ⟨_, rfl, (by show 0 ≤ sizeLine; decide), fun e ne => ⟨Y, e, _, rfl, rfl, ne_of_none hY ne, SqL.of ((Stp.new ne []).kp _ _ nn hY), SqL.of upd_same, _, rfl, ?_⟩⟩
        have SH : Stp [] HG (upd HG e (.lst [])) := Stp.new ne _
        refine ite2 (fun h => ?_) (fun _ => ?_)
        · rw [noy rfl] at h
          cases h
        obtain ⟨q1, q2, q3⟩ := sec _ SH
        refine ⟨_, rfl, L, _, 1, .bl b2, rfl, rfl, SqL.of q1, at1, b2, rfl, ?_⟩
        cases b2 with
        | true =>
          refine ite2 (fun _ => ?_) (fun h => absurd rfl h)
          refine ⟨_, rfl, Y, _, rfl, .inl (SqL.of q2), _, rfl, lp, _, rfl, .inl (SqL.of q3), _, _, rfl, rfl, _, rfl, fi _ _ ⟨?_, SH, trivial⟩⟩
          rw [ally rfl]
          exact decide_eq_false (by omega)
        | false => exact ite2 (fun h => nomatch h) (fun _ => fi _ _ ⟨rfl, SH, trivial⟩)
      | false =>
        refine ite2 (fun h => nomatch h) (fun _ => ?_)
        obtain ⟨q1, q2, q3⟩ := sec _ (Stp.refl _ _)
        refine ⟨_, rfl, L, _, 1, .bl b2, rfl, rfl, SqL.of q1, at1, b2, rfl, ?_⟩
        cases b2 with
        | true =>
          refine ite2 (fun _ => ?_) (fun h => absurd rfl h)
          refine ⟨_, rfl, Y, _, rfl, .inl (SqL.of q2), _, rfl, lp, _, rfl, .inl (SqL.of q3), _, _, rfl, rfl, _, rfl, fi _ _ ⟨?_, (Stp.refl _ _), trivial⟩⟩
          rw [ally rfl]
          exact decide_eq_false (by omega)
        | false => exact ite2 (fun h => nomatch h) (fun _ => fi _ _ ⟨rfl, (Stp.refl _ _), trivial⟩)
    rintro cc HI ⟨rfl, SI, _⟩
    refine ite2 (fun h => nomatch h) (fun _ => ?_)
    dsimp only [tNext]
    have nbar : b1 = true ↔ ∀ k ∈ numR r ((os.length : Nat) : Int) (lacksD r.lacks (gone os)) (vD (lowO r.low (txs os))) (vD (highO r.high (txs os))), ¬ hitP r (vD (lowO r.low (txs os))) (vD (highO r.high (txs os))) ((os.length : Nat) : Int) (lev 11 none d) (yesB 11 d) k :=
      e1.trans (no_hit N.ha).symm
    have NI : ∀ {H'}, Stp [] HI H' → NoteFlt K 11 H' v (.ref tt) q r ((os.length : Nat) : Int) (lacksD r.lacks (gone os)) (vD (lowO r.low (txs os))) (vD (highO r.high (txs os))) d na := fun S => NFF ((SG.trans SI).trans S)
    have lI : ∀ {H'}, Stp [] HI H' → H' L = some (.lst [.bl b1, .bl b2]) := fun S => S.kp _ _ nn (SI.kp _ _ nn hLG)
    have nxt : ∀ H', Stp [] HI H' → H' kd = some (.ext (RawX P w kd es')) ∧ (∀ e ∈ es', EntOk K H' r 11 d e) ∧ Stp [] H5 H' := fun H' S => ⟨S.kp _ _ nn (SI.kp _ _ nn hkG), fun e m => ((eoG e m).stp SI Lsts.nil (fun _ _ _ _ => nn)).stp S Lsts.nil (fun _ _ _ _ => nn), (GG.trans SI).trans S⟩
    refine ⟨_, rfl, _, _, rfl, rfl, _, rfl, ite2 (fun _ => ?_) (fun _ => ?_)⟩
    rotate_left
    · obtain ⟨q1, q2, q3⟩ := nxt HI (Stp.refl _ _)
      exact ⟨_, _, _, _, _, _, _, _, es', rfl, q1, elF, q2, q3⟩
    refine tseq_if (tt_join (fun c H' => c = false ∧ ∃ S : Stp [] HI H', True) (fun fi => ?_) ?_)
    · refine ⟨_, rfl, L, _, 0, .bl b1, rfl, rfl, SqL.of (lI (Stp.refl _ _)), at0, _, rfl, _, rfl, _, rfl, v, .ref tt, q, r, os.length, _, _, _, d, na, rfl, NI (Stp.refl _ _), hcl, lz, N.hm, by omega, fun H1 S1 no => ?_, fun os1 L1 H1 ip nL1 S1 hL1 => ?_⟩
      · have e : b1 = true := nbar.mpr no
        subst e
        refine ⟨rfl, rfl, _, rfl, fi _ _ ⟨by decide, S1, trivial⟩⟩
      · have e : b1 = false := by
          cases hb : b1 with
          | false => rfl
          | true =>
            have no := nbar.mp hb
            obtain ⟨i, kk, o, e1, _, e3, _⟩ := ip
            exact absurd e3 (no kk (List.mem_of_getElem? e1))
        subst e
        refine ⟨rfl, rfl, _, rfl, fi _ _ ⟨by simp, S1, trivial⟩⟩
    rintro cc HJ ⟨rfl, SJ2, _⟩
    refine ite2 (fun h => nomatch h) (fun _ => ?_)
    dsimp only [tNext]
    refine tseq_if (tt_join (fun c H' => c = false ∧ ∃ S : Stp [] HI H', True) (fun fi => ?_) ?_)
    · refine ⟨_, rfl, L, _, 0, .bl b1, rfl, rfl, SqL.of (lI SJ2), at0, b1, rfl, ?_⟩
      cases hb : b1 with
      | true => exact ite2 (fun h => nomatch (h : false = true)) (fun _ => fi _ _ ⟨rfl, SJ2, trivial⟩)
      | false =>
        refine ite2 (fun _ => ?_) (fun h => absurd rfl h)
        refine ⟨_, rfl, _, rfl, _, rfl, v, .ref tt, q, r, os.length, _, _, _, d, na, rfl, NI SJ2, hcl, lz, N.hm, by omega, fine, fun no => ?_, fun H1 S1 => ⟨_, rfl, fi _ _ ⟨rfl, SJ2.trans S1, trivial⟩⟩⟩
        rw [nbar.mpr no] at hb
        cases hb
    rintro cc HK ⟨rfl, SK, _⟩
    refine ite2 (fun h => nomatch h) (fun _ => ?_)
    dsimp only [tNext]
    have oo := oth_ok (n := 11) fd (by omega) (tsh_mono (by decide) d ts) (by omega)
    refine ⟨_, rfl, L, _, 1, .bl b2, rfl, rfl, SqL.of (lI SK), at1, b2, rfl, ?_⟩
    cases hb : b2 with
    | true =>
      refine ite2 (fun h => nomatch (h : false = true)) (fun _ => ?_)
      obtain ⟨q1, q2, q3⟩ := nxt HK SK
      exact ⟨_, _, _, _, _, _, _, _, es', rfl, q1, elF, q2, q3⟩
    | false =>
      refine ite2 (fun _ => ?_) (fun h => absurd rfl h)
      refine ⟨_, rfl, _, rfl, _, rfl, q, d, rfl, (NI SK).rq, fd, by omega, fun eo H1 S1 re => ?_⟩
      have NK := NI (SK.trans S1)
      refine ⟨v, .ref tt, eo, r, os.length, _, _, _, othD 11 d, na, rfl, ⟨NK.rv, NK.ok, NK.ru, NK.nt, NK.ha, re, oo.fl, oo.dp, oo.th, by have := oo.wt; omega⟩, hcl, lz, N.hm, by omega, fine, fun no => ?_, fun H2 S2 => ⟨_, rfl, ite2 (fun h => nomatch (h : false = true)) (fun _ => ?_)⟩⟩
      · obtain ⟨n1, n2⟩ := (no_hit N.ha).mp no
        have : b2 = true := e2.mpr ⟨fun z => n1 ⟨oo.non.mpr z.1, z.2⟩, fun w aw z => n2 w aw ⟨z.1, by rw [oo.tx, z.2]; rfl⟩⟩
        rw [this] at hb
        cases hb
      · obtain ⟨q1, q2, q3⟩ := nxt H2 ((SK.trans S1).trans S2)
        exact ⟨_, _, _, _, _, _, _, _, es', rfl, q1, elF, q2, q3⟩
/-! ### what the top has written, the head -/
theorem all_mk {l : PySem.W.OpenLaw} {w : World} {K : PySem.W.Frag} {h : Heap} {mg : Str → Option Value} {fa : Addr} (X : K.In h) (G : h.Ns mainGlobals mg) (hfa : mg "law" = some (.ref fa))
    {f0 : Addr} {od0 an0 : Option Addr} {sl0 : Array (Option Value)} {oc0 kV0 dc0 pm0 cd0 ct0 : Value}
    (a0 : PySem.W.nsIn K mainGlobals "is_text" = some (some (.ref f0))) (l0 : K.lookup f0 = some ⟨oc0, od0, .func (PySem.W.fnOf "is_text" "is_text" (defArgs s_is_text) (defBody s_is_text) (defScope s_is_text) .none kV0 dc0 pm0 an0 cd0 ct0), sl0⟩) (c0 : PySem.W.codeIn K cd0 "is_text" = true) (k0 : PySem.W.keepIn K (.ref f0) = true)
    {f1 : Addr} {od1 an1 : Option Addr} {sl1 : Array (Option Value)} {oc1 kV1 dc1 pm1 cd1 ct1 : Value}
    (a1 : PySem.W.nsIn K mainGlobals "is_range" = some (some (.ref f1))) (l1 : K.lookup f1 = some ⟨oc1, od1, .func (PySem.W.fnOf "is_range" "is_range" (defArgs s_is_range) (defBody s_is_range) (defScope s_is_range) .none kV1 dc1 pm1 an1 cd1 ct1), sl1⟩) (c1 : PySem.W.codeIn K cd1 "is_range" = true) (k1 : PySem.W.keepIn K (.ref f1) = true)
    {f2 : Addr} {od2 an2 : Option Addr} {sl2 : Array (Option Value)} {oc2 kV2 dc2 pm2 cd2 ct2 : Value}
    (a2 : PySem.W.nsIn K mainGlobals "is_span" = some (some (.ref f2))) (l2 : K.lookup f2 = some ⟨oc2, od2, .func (PySem.W.fnOf "is_span" "is_span" (defArgs s_is_span) (defBody s_is_span) (defScope s_is_span) .none kV2 dc2 pm2 an2 cd2 ct2), sl2⟩) (c2 : PySem.W.codeIn K cd2 "is_span" = true) (k2 : PySem.W.keepIn K (.ref f2) = true)
    {f3 : Addr} {od3 an3 : Option Addr} {sl3 : Array (Option Value)} {oc3 kV3 dc3 pm3 cd3 ct3 : Value}
    (a3 : PySem.W.nsIn K mainGlobals "reaches" = some (some (.ref f3))) (l3 : K.lookup f3 = some ⟨oc3, od3, .func (PySem.W.fnOf "reaches" "reaches" (defArgs s_reaches) (defBody s_reaches) (defScope s_reaches) .none kV3 dc3 pm3 an3 cd3 ct3), sl3⟩) (c3 : PySem.W.codeIn K cd3 "reaches" = true) (k3 : PySem.W.keepIn K (.ref f3) = true)
    {f4 : Addr} {od4 an4 : Option Addr} {sl4 : Array (Option Value)} {oc4 kV4 dc4 pm4 cd4 ct4 : Value}
    (a4 : PySem.W.nsIn K mainGlobals "check_text" = some (some (.ref f4))) (l4 : K.lookup f4 = some ⟨oc4, od4, .func (PySem.W.fnOf "check_text" "check_text" (defArgs s_check_text) (defBody s_check_text) (defScope s_check_text) .none kV4 dc4 pm4 an4 cd4 ct4), sl4⟩) (c4 : PySem.W.codeIn K cd4 "check_text" = true) (k4 : PySem.W.keepIn K (.ref f4) = true)
    {f5 : Addr} {od5 an5 : Option Addr} {sl5 : Array (Option Value)} {oc5 kV5 dc5 pm5 cd5 ct5 : Value}
    (a5 : PySem.W.nsIn K mainGlobals "check_span" = some (some (.ref f5))) (l5 : K.lookup f5 = some ⟨oc5, od5, .func (PySem.W.fnOf "check_span" "check_span" (defArgs s_check_span) (defBody s_check_span) (defScope s_check_span) .none kV5 dc5 pm5 an5 cd5 ct5), sl5⟩) (c5 : PySem.W.codeIn K cd5 "check_span" = true) (k5 : PySem.W.keepIn K (.ref f5) = true)
    {f6 : Addr} {od6 an6 : Option Addr} {sl6 : Array (Option Value)} {oc6 kV6 dc6 pm6 cd6 ct6 : Value}
    (a6 : PySem.W.nsIn K mainGlobals "check_ranges" = some (some (.ref f6))) (l6 : K.lookup f6 = some ⟨oc6, od6, .func (PySem.W.fnOf "check_ranges" "check_ranges" (defArgs s_check_ranges) (defBody s_check_ranges) (defScope s_check_ranges) .none kV6 dc6 pm6 an6 cd6 ct6), sl6⟩) (c6 : PySem.W.codeIn K cd6 "check_ranges" = true) (k6 : PySem.W.keepIn K (.ref f6) = true)
    {f7 : Addr} {od7 an7 : Option Addr} {sl7 : Array (Option Value)} {oc7 kV7 dc7 pm7 cd7 ct7 : Value}
    (a7 : PySem.W.nsIn K mainGlobals "behind" = some (some (.ref f7))) (l7 : K.lookup f7 = some ⟨oc7, od7, .func (PySem.W.fnOf "behind" "behind" (defArgs s_behind) (defBody s_behind) (defScope s_behind) .none kV7 dc7 pm7 an7 cd7 ct7), sl7⟩) (c7 : PySem.W.codeIn K cd7 "behind" = true) (k7 : PySem.W.keepIn K (.ref f7) = true)
    {f8 : Addr} {od8 an8 : Option Addr} {sl8 : Array (Option Value)} {oc8 kV8 dc8 pm8 cd8 ct8 : Value}
    (a8 : PySem.W.nsIn K mainGlobals "beyond" = some (some (.ref f8))) (l8 : K.lookup f8 = some ⟨oc8, od8, .func (PySem.W.fnOf "beyond" "beyond" (defArgs s_beyond) (defBody s_beyond) (defScope s_beyond) .none kV8 dc8 pm8 an8 cd8 ct8), sl8⟩) (c8 : PySem.W.codeIn K cd8 "beyond" = true) (k8 : PySem.W.keepIn K (.ref f8) = true)
    {f9 : Addr} {od9 an9 : Option Addr} {sl9 : Array (Option Value)} {oc9 kV9 dc9 pm9 cd9 ct9 : Value}
    (a9 : PySem.W.nsIn K mainGlobals "later_end" = some (some (.ref f9))) (l9 : K.lookup f9 = some ⟨oc9, od9, .func (PySem.W.fnOf "later_end" "later_end" (defArgs s_later_end) (defBody s_later_end) (defScope s_later_end) .none kV9 dc9 pm9 an9 cd9 ct9), sl9⟩) (c9 : PySem.W.codeIn K cd9 "later_end" = true) (k9 : PySem.W.keepIn K (.ref f9) = true)
    {f10 : Addr} {od10 an10 : Option Addr} {sl10 : Array (Option Value)} {oc10 kV10 dc10 pm10 cd10 ct10 : Value}
    (a10 : PySem.W.nsIn K mainGlobals "ascending" = some (some (.ref f10))) (l10 : K.lookup f10 = some ⟨oc10, od10, .func (PySem.W.fnOf "ascending" "ascending" (defArgs s_ascending) (defBody s_ascending) (defScope s_ascending) .none kV10 dc10 pm10 an10 cd10 ct10), sl10⟩) (c10 : PySem.W.codeIn K cd10 "ascending" = true) (k10 : PySem.W.keepIn K (.ref f10) = true)
    {f11 : Addr} {od11 an11 : Option Addr} {sl11 : Array (Option Value)} {oc11 kV11 dc11 pm11 cd11 ct11 : Value}
    (a11 : PySem.W.nsIn K mainGlobals "span_of" = some (some (.ref f11))) (l11 : K.lookup f11 = some ⟨oc11, od11, .func (PySem.W.fnOf "span_of" "span_of" (defArgs s_span_of) (defBody s_span_of) (defScope s_span_of) .none kV11 dc11 pm11 an11 cd11 ct11), sl11⟩) (c11 : PySem.W.codeIn K cd11 "span_of" = true) (k11 : PySem.W.keepIn K (.ref f11) = true)
    {f12 : Addr} {od12 an12 : Option Addr} {sl12 : Array (Option Value)} {oc12 kV12 dc12 pm12 cd12 ct12 : Value}
    (a12 : PySem.W.nsIn K mainGlobals "has" = some (some (.ref f12))) (l12 : K.lookup f12 = some ⟨oc12, od12, .func (PySem.W.fnOf "has" "has" (defArgs s_has) (defBody s_has) (defScope s_has) .none kV12 dc12 pm12 an12 cd12 ct12), sl12⟩) (c12 : PySem.W.codeIn K cd12 "has" = true) (k12 : PySem.W.keepIn K (.ref f12) = true)
    {f13 : Addr} {od13 an13 : Option Addr} {sl13 : Array (Option Value)} {oc13 kV13 dc13 pm13 cd13 ct13 : Value}
    (a13 : PySem.W.nsIn K mainGlobals "opposite" = some (some (.ref f13))) (l13 : K.lookup f13 = some ⟨oc13, od13, .func (PySem.W.fnOf "opposite" "opposite" (defArgs s_opposite) (defBody s_opposite) (defScope s_opposite) .none kV13 dc13 pm13 an13 cd13 ct13), sl13⟩) (c13 : PySem.W.codeIn K cd13 "opposite" = true) (k13 : PySem.W.keepIn K (.ref f13) = true)
    {f14 : Addr} {od14 an14 : Option Addr} {sl14 : Array (Option Value)} {oc14 kV14 dc14 pm14 cd14 ct14 : Value}
    (a14 : PySem.W.nsIn K mainGlobals "joined" = some (some (.ref f14))) (l14 : K.lookup f14 = some ⟨oc14, od14, .func (PySem.W.fnOf "joined" "joined" (defArgs s_joined) (defBody s_joined) (defScope s_joined) .none kV14 dc14 pm14 an14 cd14 ct14), sl14⟩) (c14 : PySem.W.codeIn K cd14 "joined" = true) (k14 : PySem.W.keepIn K (.ref f14) = true)
    {f15 : Addr} {od15 an15 : Option Addr} {sl15 : Array (Option Value)} {oc15 kV15 dc15 pm15 cd15 ct15 : Value}
    (a15 : PySem.W.nsIn K mainGlobals "shared" = some (some (.ref f15))) (l15 : K.lookup f15 = some ⟨oc15, od15, .func (PySem.W.fnOf "shared" "shared" (defArgs s_shared) (defBody s_shared) (defScope s_shared) .none kV15 dc15 pm15 an15 cd15 ct15), sl15⟩) (c15 : PySem.W.codeIn K cd15 "shared" = true) (k15 : PySem.W.keepIn K (.ref f15) = true)
    {f16 : Addr} {od16 an16 : Option Addr} {sl16 : Array (Option Value)} {oc16 kV16 dc16 pm16 cd16 ct16 : Value}
    (a16 : PySem.W.nsIn K mainGlobals "least_text" = some (some (.ref f16))) (l16 : K.lookup f16 = some ⟨oc16, od16, .func (PySem.W.fnOf "least_text" "least_text" (defArgs s_least_text) (defBody s_least_text) (defScope s_least_text) .none kV16 dc16 pm16 an16 cd16 ct16), sl16⟩) (c16 : PySem.W.codeIn K cd16 "least_text" = true) (k16 : PySem.W.keepIn K (.ref f16) = true)
    {f17 : Addr} {od17 an17 : Option Addr} {sl17 : Array (Option Value)} {oc17 kV17 dc17 pm17 cd17 ct17 : Value}
    (a17 : PySem.W.nsIn K mainGlobals "is_value" = some (some (.ref f17))) (l17 : K.lookup f17 = some ⟨oc17, od17, .func (PySem.W.fnOf "is_value" "is_value" (defArgs s_is_value) (defBody s_is_value) (defScope s_is_value) .none kV17 dc17 pm17 an17 cd17 ct17), sl17⟩) (c17 : PySem.W.codeIn K cd17 "is_value" = true) (k17 : PySem.W.keepIn K (.ref f17) = true)
    {f18 : Addr} {od18 an18 : Option Addr} {sl18 : Array (Option Value)} {oc18 kV18 dc18 pm18 cd18 ct18 : Value}
    (a18 : PySem.W.nsIn K mainGlobals "is_filter" = some (some (.ref f18))) (l18 : K.lookup f18 = some ⟨oc18, od18, .func (PySem.W.fnOf "is_filter" "is_filter" (defArgs s_is_filter) (defBody s_is_filter) (defScope s_is_filter) .none kV18 dc18 pm18 an18 cd18 ct18), sl18⟩) (c18 : PySem.W.codeIn K cd18 "is_filter" = true) (k18 : PySem.W.keepIn K (.ref f18) = true)
    {f19 : Addr} {od19 an19 : Option Addr} {sl19 : Array (Option Value)} {oc19 kV19 dc19 pm19 cd19 ct19 : Value}
    (a19 : PySem.W.nsIn K mainGlobals "can_follow" = some (some (.ref f19))) (l19 : K.lookup f19 = some ⟨oc19, od19, .func (PySem.W.fnOf "can_follow" "can_follow" (defArgs s_can_follow) (defBody s_can_follow) (defScope s_can_follow) .none kV19 dc19 pm19 an19 cd19 ct19), sl19⟩) (c19 : PySem.W.codeIn K cd19 "can_follow" = true) (k19 : PySem.W.keepIn K (.ref f19) = true)
    {f20 : Addr} {od20 an20 : Option Addr} {sl20 : Array (Option Value)} {oc20 kV20 dc20 pm20 cd20 ct20 : Value}
    (a20 : PySem.W.nsIn K mainGlobals "check_filter" = some (some (.ref f20))) (l20 : K.lookup f20 = some ⟨oc20, od20, .func (PySem.W.fnOf "check_filter" "check_filter" (defArgs s_check_filter) (defBody s_check_filter) (defScope s_check_filter) .none kV20 dc20 pm20 an20 cd20 ct20), sl20⟩) (c20 : PySem.W.codeIn K cd20 "check_filter" = true) (k20 : PySem.W.keepIn K (.ref f20) = true)
    {f21 : Addr} {od21 an21 : Option Addr} {sl21 : Array (Option Value)} {oc21 kV21 dc21 pm21 cd21 ct21 : Value}
    (a21 : PySem.W.nsIn K mainGlobals "answer_to" = some (some (.ref f21))) (l21 : K.lookup f21 = some ⟨oc21, od21, .func (PySem.W.fnOf "answer_to" "answer_to" (defArgs s_answer_to) (defBody s_answer_to) (defScope s_answer_to) .none kV21 dc21 pm21 an21 cd21 ct21), sl21⟩) (c21 : PySem.W.codeIn K cd21 "answer_to" = true) (k21 : PySem.W.keepIn K (.ref f21) = true)
    {f22 : Addr} {od22 an22 : Option Addr} {sl22 : Array (Option Value)} {oc22 kV22 dc22 pm22 cd22 ct22 : Value}
    (a22 : PySem.W.nsIn K mainGlobals "yes_or_no" = some (some (.ref f22))) (l22 : K.lookup f22 = some ⟨oc22, od22, .func (PySem.W.fnOf "yes_or_no" "yes_or_no" (defArgs s_yes_or_no) (defBody s_yes_or_no) (defScope s_yes_or_no) .none kV22 dc22 pm22 an22 cd22 ct22), sl22⟩) (c22 : PySem.W.codeIn K cd22 "yes_or_no" = true) (k22 : PySem.W.keepIn K (.ref f22) = true)
    {f23 : Addr} {od23 an23 : Option Addr} {sl23 : Array (Option Value)} {oc23 kV23 dc23 pm23 cd23 ct23 : Value}
    (a23 : PySem.W.nsIn K mainGlobals "settled" = some (some (.ref f23))) (l23 : K.lookup f23 = some ⟨oc23, od23, .func (PySem.W.fnOf "settled" "settled" (defArgs s_settled) (defBody s_settled) (defScope s_settled) .none kV23 dc23 pm23 an23 cd23 ct23), sl23⟩) (c23 : PySem.W.codeIn K cd23 "settled" = true) (k23 : PySem.W.keepIn K (.ref f23) = true)
    {f24 : Addr} {od24 an24 : Option Addr} {sl24 : Array (Option Value)} {oc24 kV24 dc24 pm24 cd24 ct24 : Value}
    (a24 : PySem.W.nsIn K mainGlobals "matches" = some (some (.ref f24))) (l24 : K.lookup f24 = some ⟨oc24, od24, .func (PySem.W.fnOf "matches" "matches" (defArgs s_matches) (defBody s_matches) (defScope s_matches) .none kV24 dc24 pm24 an24 cd24 ct24), sl24⟩) (c24 : PySem.W.codeIn K cd24 "matches" = true) (k24 : PySem.W.keepIn K (.ref f24) = true)
    {f25 : Addr} {od25 an25 : Option Addr} {sl25 : Array (Option Value)} {oc25 kV25 dc25 pm25 cd25 ct25 : Value}
    (a25 : PySem.W.nsIn K mainGlobals "passing_texts" = some (some (.ref f25))) (l25 : K.lookup f25 = some ⟨oc25, od25, .func (PySem.W.fnOf "passing_texts" "passing_texts" (defArgs s_passing_texts) (defBody s_passing_texts) (defScope s_passing_texts) .none kV25 dc25 pm25 an25 cd25 ct25), sl25⟩) (c25 : PySem.W.codeIn K cd25 "passing_texts" = true) (k25 : PySem.W.keepIn K (.ref f25) = true)
    {f26 : Addr} {od26 an26 : Option Addr} {sl26 : Array (Option Value)} {oc26 kV26 dc26 pm26 cd26 ct26 : Value}
    (a26 : PySem.W.nsIn K mainGlobals "joined_all" = some (some (.ref f26))) (l26 : K.lookup f26 = some ⟨oc26, od26, .func (PySem.W.fnOf "joined_all" "joined_all" (defArgs s_joined_all) (defBody s_joined_all) (defScope s_joined_all) .none kV26 dc26 pm26 an26 cd26 ct26), sl26⟩) (c26 : PySem.W.codeIn K cd26 "joined_all" = true) (k26 : PySem.W.keepIn K (.ref f26) = true)
    {f27 : Addr} {od27 an27 : Option Addr} {sl27 : Array (Option Value)} {oc27 kV27 dc27 pm27 cd27 ct27 : Value}
    (a27 : PySem.W.nsIn K mainGlobals "matching_texts" = some (some (.ref f27))) (l27 : K.lookup f27 = some ⟨oc27, od27, .func (PySem.W.fnOf "matching_texts" "matching_texts" (defArgs s_matching_texts) (defBody s_matching_texts) (defScope s_matching_texts) .none kV27 dc27 pm27 an27 cd27 ct27), sl27⟩) (c27 : PySem.W.codeIn K cd27 "matching_texts" = true) (k27 : PySem.W.keepIn K (.ref f27) = true)
    {f28 : Addr} {od28 an28 : Option Addr} {sl28 : Array (Option Value)} {oc28 kV28 dc28 pm28 cd28 ct28 : Value}
    (a28 : PySem.W.nsIn K mainGlobals "passes" = some (some (.ref f28))) (l28 : K.lookup f28 = some ⟨oc28, od28, .func (PySem.W.fnOf "passes" "passes" (defArgs s_passes) (defBody s_passes) (defScope s_passes) .none kV28 dc28 pm28 an28 cd28 ct28), sl28⟩) (c28 : PySem.W.codeIn K cd28 "passes" = true) (k28 : PySem.W.keepIn K (.ref f28) = true)
    {f29 : Addr} {od29 an29 : Option Addr} {sl29 : Array (Option Value)} {oc29 kV29 dc29 pm29 cd29 ct29 : Value}
    (a29 : PySem.W.nsIn K mainGlobals "is_rule" = some (some (.ref f29))) (l29 : K.lookup f29 = some ⟨oc29, od29, .func (PySem.W.fnOf "is_rule" "is_rule" (defArgs s_is_rule) (defBody s_is_rule) (defScope s_is_rule) .none kV29 dc29 pm29 an29 cd29 ct29), sl29⟩) (c29 : PySem.W.codeIn K cd29 "is_rule" = true) (k29 : PySem.W.keepIn K (.ref f29) = true)
    {f30 : Addr} {od30 an30 : Option Addr} {sl30 : Array (Option Value)} {oc30 kV30 dc30 pm30 cd30 ct30 : Value}
    (a30 : PySem.W.nsIn K mainGlobals "is_lacks_part" = some (some (.ref f30))) (l30 : K.lookup f30 = some ⟨oc30, od30, .func (PySem.W.fnOf "is_lacks_part" "is_lacks_part" (defArgs s_is_lacks_part) (defBody s_is_lacks_part) (defScope s_is_lacks_part) .none kV30 dc30 pm30 an30 cd30 ct30), sl30⟩) (c30 : PySem.W.codeIn K cd30 "is_lacks_part" = true) (k30 : PySem.W.keepIn K (.ref f30) = true)
    {f31 : Addr} {od31 an31 : Option Addr} {sl31 : Array (Option Value)} {oc31 kV31 dc31 pm31 cd31 ct31 : Value}
    (a31 : PySem.W.nsIn K mainGlobals "is_low_part" = some (some (.ref f31))) (l31 : K.lookup f31 = some ⟨oc31, od31, .func (PySem.W.fnOf "is_low_part" "is_low_part" (defArgs s_is_low_part) (defBody s_is_low_part) (defScope s_is_low_part) .none kV31 dc31 pm31 an31 cd31 ct31), sl31⟩) (c31 : PySem.W.codeIn K cd31 "is_low_part" = true) (k31 : PySem.W.keepIn K (.ref f31) = true)
    {f32 : Addr} {od32 an32 : Option Addr} {sl32 : Array (Option Value)} {oc32 kV32 dc32 pm32 cd32 ct32 : Value}
    (a32 : PySem.W.nsIn K mainGlobals "is_high_part" = some (some (.ref f32))) (l32 : K.lookup f32 = some ⟨oc32, od32, .func (PySem.W.fnOf "is_high_part" "is_high_part" (defArgs s_is_high_part) (defBody s_is_high_part) (defScope s_is_high_part) .none kV32 dc32 pm32 an32 cd32 ct32), sl32⟩) (c32 : PySem.W.codeIn K cd32 "is_high_part" = true) (k32 : PySem.W.keepIn K (.ref f32) = true)
    {f33 : Addr} {od33 an33 : Option Addr} {sl33 : Array (Option Value)} {oc33 kV33 dc33 pm33 cd33 ct33 : Value}
    (a33 : PySem.W.nsIn K mainGlobals "is_lost" = some (some (.ref f33))) (l33 : K.lookup f33 = some ⟨oc33, od33, .func (PySem.W.fnOf "is_lost" "is_lost" (defArgs s_is_lost) (defBody s_is_lost) (defScope s_is_lost) .none kV33 dc33 pm33 an33 cd33 ct33), sl33⟩) (c33 : PySem.W.codeIn K cd33 "is_lost" = true) (k33 : PySem.W.keepIn K (.ref f33) = true)
    {f34 : Addr} {od34 an34 : Option Addr} {sl34 : Array (Option Value)} {oc34 kV34 dc34 pm34 cd34 ct34 : Value}
    (a34 : PySem.W.nsIn K mainGlobals "is_letter_number" = some (some (.ref f34))) (l34 : K.lookup f34 = some ⟨oc34, od34, .func (PySem.W.fnOf "is_letter_number" "is_letter_number" (defArgs s_is_letter_number) (defBody s_is_letter_number) (defScope s_is_letter_number) .none kV34 dc34 pm34 an34 cd34 ct34), sl34⟩) (c34 : PySem.W.codeIn K cd34 "is_letter_number" = true) (k34 : PySem.W.keepIn K (.ref f34) = true)
    {f35 : Addr} {od35 an35 : Option Addr} {sl35 : Array (Option Value)} {oc35 kV35 dc35 pm35 cd35 ct35 : Value}
    (a35 : PySem.W.nsIn K mainGlobals "is_page" = some (some (.ref f35))) (l35 : K.lookup f35 = some ⟨oc35, od35, .func (PySem.W.fnOf "is_page" "is_page" (defArgs s_is_page) (defBody s_is_page) (defScope s_is_page) .none kV35 dc35 pm35 an35 cd35 ct35), sl35⟩) (c35 : PySem.W.codeIn K cd35 "is_page" = true) (k35 : PySem.W.keepIn K (.ref f35) = true)
    {f36 : Addr} {od36 an36 : Option Addr} {sl36 : Array (Option Value)} {oc36 kV36 dc36 pm36 cd36 ct36 : Value}
    (a36 : PySem.W.nsIn K mainGlobals "is_note" = some (some (.ref f36))) (l36 : K.lookup f36 = some ⟨oc36, od36, .func (PySem.W.fnOf "is_note" "is_note" (defArgs s_is_note) (defBody s_is_note) (defScope s_is_note) .none kV36 dc36 pm36 an36 cd36 ct36), sl36⟩) (c36 : PySem.W.codeIn K cd36 "is_note" = true) (k36 : PySem.W.keepIn K (.ref f36) = true)
    {f37 : Addr} {od37 an37 : Option Addr} {sl37 : Array (Option Value)} {oc37 kV37 dc37 pm37 cd37 ct37 : Value}
    (a37 : PySem.W.nsIn K mainGlobals "are_counts" = some (some (.ref f37))) (l37 : K.lookup f37 = some ⟨oc37, od37, .func (PySem.W.fnOf "are_counts" "are_counts" (defArgs s_are_counts) (defBody s_are_counts) (defScope s_are_counts) .none kV37 dc37 pm37 an37 cd37 ct37), sl37⟩) (c37 : PySem.W.codeIn K cd37 "are_counts" = true) (k37 : PySem.W.keepIn K (.ref f37) = true)
    {f38 : Addr} {od38 an38 : Option Addr} {sl38 : Array (Option Value)} {oc38 kV38 dc38 pm38 cd38 ct38 : Value}
    (a38 : PySem.W.nsIn K mainGlobals "check_rule" = some (some (.ref f38))) (l38 : K.lookup f38 = some ⟨oc38, od38, .func (PySem.W.fnOf "check_rule" "check_rule" (defArgs s_check_rule) (defBody s_check_rule) (defScope s_check_rule) .none kV38 dc38 pm38 an38 cd38 ct38), sl38⟩) (c38 : PySem.W.codeIn K cd38 "check_rule" = true) (k38 : PySem.W.keepIn K (.ref f38) = true)
    {f39 : Addr} {od39 an39 : Option Addr} {sl39 : Array (Option Value)} {oc39 kV39 dc39 pm39 cd39 ct39 : Value}
    (a39 : PySem.W.nsIn K mainGlobals "check_page" = some (some (.ref f39))) (l39 : K.lookup f39 = some ⟨oc39, od39, .func (PySem.W.fnOf "check_page" "check_page" (defArgs s_check_page) (defBody s_check_page) (defScope s_check_page) .none kV39 dc39 pm39 an39 cd39 ct39), sl39⟩) (c39 : PySem.W.codeIn K cd39 "check_page" = true) (k39 : PySem.W.keepIn K (.ref f39) = true)
    {f40 : Addr} {od40 an40 : Option Addr} {sl40 : Array (Option Value)} {oc40 kV40 dc40 pm40 cd40 ct40 : Value}
    (a40 : PySem.W.nsIn K mainGlobals "check_note" = some (some (.ref f40))) (l40 : K.lookup f40 = some ⟨oc40, od40, .func (PySem.W.fnOf "check_note" "check_note" (defArgs s_check_note) (defBody s_check_note) (defScope s_check_note) .none kV40 dc40 pm40 an40 cd40 ct40), sl40⟩) (c40 : PySem.W.codeIn K cd40 "check_note" = true) (k40 : PySem.W.keepIn K (.ref f40) = true)
    {f41 : Addr} {od41 an41 : Option Addr} {sl41 : Array (Option Value)} {oc41 kV41 dc41 pm41 cd41 ct41 : Value}
    (a41 : PySem.W.nsIn K mainGlobals "note" = some (some (.ref f41))) (l41 : K.lookup f41 = some ⟨oc41, od41, .func (PySem.W.fnOf "note" "note" (defArgs s_note) (defBody s_note) (defScope s_note) .none kV41 dc41 pm41 an41 cd41 ct41), sl41⟩) (c41 : PySem.W.codeIn K cd41 "note" = true) (k41 : PySem.W.keepIn K (.ref f41) = true)
    {f42 : Addr} {od42 an42 : Option Addr} {sl42 : Array (Option Value)} {oc42 kV42 dc42 pm42 cd42 ct42 : Value}
    (a42 : PySem.W.nsIn K mainGlobals "lacks_note" = some (some (.ref f42))) (l42 : K.lookup f42 = some ⟨oc42, od42, .func (PySem.W.fnOf "lacks_note" "lacks_note" (defArgs s_lacks_note) (defBody s_lacks_note) (defScope s_lacks_note) .none kV42 dc42 pm42 an42 cd42 ct42), sl42⟩) (c42 : PySem.W.codeIn K cd42 "lacks_note" = true) (k42 : PySem.W.keepIn K (.ref f42) = true)
    {f43 : Addr} {od43 an43 : Option Addr} {sl43 : Array (Option Value)} {oc43 kV43 dc43 pm43 cd43 ct43 : Value}
    (a43 : PySem.W.nsIn K mainGlobals "low_note" = some (some (.ref f43))) (l43 : K.lookup f43 = some ⟨oc43, od43, .func (PySem.W.fnOf "low_note" "low_note" (defArgs s_low_note) (defBody s_low_note) (defScope s_low_note) .none kV43 dc43 pm43 an43 cd43 ct43), sl43⟩) (c43 : PySem.W.codeIn K cd43 "low_note" = true) (k43 : PySem.W.keepIn K (.ref f43) = true)
    {f44 : Addr} {od44 an44 : Option Addr} {sl44 : Array (Option Value)} {oc44 kV44 dc44 pm44 cd44 ct44 : Value}
    (a44 : PySem.W.nsIn K mainGlobals "high_note" = some (some (.ref f44))) (l44 : K.lookup f44 = some ⟨oc44, od44, .func (PySem.W.fnOf "high_note" "high_note" (defArgs s_high_note) (defBody s_high_note) (defScope s_high_note) .none kV44 dc44 pm44 an44 cd44 ct44), sl44⟩) (c44 : PySem.W.codeIn K cd44 "high_note" = true) (k44 : PySem.W.keepIn K (.ref f44) = true)
    {f45 : Addr} {od45 an45 : Option Addr} {sl45 : Array (Option Value)} {oc45 kV45 dc45 pm45 cd45 ct45 : Value}
    (a45 : PySem.W.nsIn K mainGlobals "least_texts" = some (some (.ref f45))) (l45 : K.lookup f45 = some ⟨oc45, od45, .func (PySem.W.fnOf "least_texts" "least_texts" (defArgs s_least_texts) (defBody s_least_texts) (defScope s_least_texts) .none kV45 dc45 pm45 an45 cd45 ct45), sl45⟩) (c45 : PySem.W.codeIn K cd45 "least_texts" = true) (k45 : PySem.W.keepIn K (.ref f45) = true)
    {f46 : Addr} {od46 an46 : Option Addr} {sl46 : Array (Option Value)} {oc46 kV46 dc46 pm46 cd46 ct46 : Value}
    (a46 : PySem.W.nsIn K mainGlobals "greatest_texts" = some (some (.ref f46))) (l46 : K.lookup f46 = some ⟨oc46, od46, .func (PySem.W.fnOf "greatest_texts" "greatest_texts" (defArgs s_greatest_texts) (defBody s_greatest_texts) (defScope s_greatest_texts) .none kV46 dc46 pm46 an46 cd46 ct46), sl46⟩) (c46 : PySem.W.codeIn K cd46 "greatest_texts" = true) (k46 : PySem.W.keepIn K (.ref f46) = true)
    {f47 : Addr} {od47 an47 : Option Addr} {sl47 : Array (Option Value)} {oc47 kV47 dc47 pm47 cd47 ct47 : Value}
    (a47 : PySem.W.nsIn K mainGlobals "texts_cut_to" = some (some (.ref f47))) (l47 : K.lookup f47 = some ⟨oc47, od47, .func (PySem.W.fnOf "texts_cut_to" "texts_cut_to" (defArgs s_texts_cut_to) (defBody s_texts_cut_to) (defScope s_texts_cut_to) .none kV47 dc47 pm47 an47 cd47 ct47), sl47⟩) (c47 : PySem.W.codeIn K cd47 "texts_cut_to" = true) (k47 : PySem.W.keepIn K (.ref f47) = true)
    {f48 : Addr} {od48 an48 : Option Addr} {sl48 : Array (Option Value)} {oc48 kV48 dc48 pm48 cd48 ct48 : Value}
    (a48 : PySem.W.nsIn K mainGlobals "texts_led_beyond" = some (some (.ref f48))) (l48 : K.lookup f48 = some ⟨oc48, od48, .func (PySem.W.fnOf "texts_led_beyond" "texts_led_beyond" (defArgs s_texts_led_beyond) (defBody s_texts_led_beyond) (defScope s_texts_led_beyond) .none kV48 dc48 pm48 an48 cd48 ct48), sl48⟩) (c48 : PySem.W.codeIn K cd48 "texts_led_beyond" = true) (k48 : PySem.W.keepIn K (.ref f48) = true)
    {f49 : Addr} {od49 an49 : Option Addr} {sl49 : Array (Option Value)} {oc49 kV49 dc49 pm49 cd49 ct49 : Value}
    (a49 : PySem.W.nsIn K mainGlobals "numbers_left" = some (some (.ref f49))) (l49 : K.lookup f49 = some ⟨oc49, od49, .func (PySem.W.fnOf "numbers_left" "numbers_left" (defArgs s_numbers_left) (defBody s_numbers_left) (defScope s_numbers_left) .none kV49 dc49 pm49 an49 cd49 ct49), sl49⟩) (c49 : PySem.W.codeIn K cd49 "numbers_left" = true) (k49 : PySem.W.keepIn K (.ref f49) = true)
    {f50 : Addr} {od50 an50 : Option Addr} {sl50 : Array (Option Value)} {oc50 kV50 dc50 pm50 cd50 ct50 : Value}
    (a50 : PySem.W.nsIn K mainGlobals "possible_numbers" = some (some (.ref f50))) (l50 : K.lookup f50 = some ⟨oc50, od50, .func (PySem.W.fnOf "possible_numbers" "possible_numbers" (defArgs s_possible_numbers) (defBody s_possible_numbers) (defScope s_possible_numbers) .none kV50 dc50 pm50 an50 cd50 ct50), sl50⟩) (c50 : PySem.W.codeIn K cd50 "possible_numbers" = true) (k50 : PySem.W.keepIn K (.ref f50) = true)
    {f51 : Addr} {od51 an51 : Option Addr} {sl51 : Array (Option Value)} {oc51 kV51 dc51 pm51 cd51 ct51 : Value}
    (a51 : PySem.W.nsIn K mainGlobals "can_have" = some (some (.ref f51))) (l51 : K.lookup f51 = some ⟨oc51, od51, .func (PySem.W.fnOf "can_have" "can_have" (defArgs s_can_have) (defBody s_can_have) (defScope s_can_have) .none kV51 dc51 pm51 an51 cd51 ct51), sl51⟩) (c51 : PySem.W.codeIn K cd51 "can_have" = true) (k51 : PySem.W.keepIn K (.ref f51) = true)
    {f52 : Addr} {od52 an52 : Option Addr} {sl52 : Array (Option Value)} {oc52 kV52 dc52 pm52 cd52 ct52 : Value}
    (a52 : PySem.W.nsIn K mainGlobals "ranges_with" = some (some (.ref f52))) (l52 : K.lookup f52 = some ⟨oc52, od52, .func (PySem.W.fnOf "ranges_with" "ranges_with" (defArgs s_ranges_with) (defBody s_ranges_with) (defScope s_ranges_with) .none kV52 dc52 pm52 an52 cd52 ct52), sl52⟩) (c52 : PySem.W.codeIn K cd52 "ranges_with" = true) (k52 : PySem.W.keepIn K (.ref f52) = true)
    {f53 : Addr} {od53 an53 : Option Addr} {sl53 : Array (Option Value)} {oc53 kV53 dc53 pm53 cd53 ct53 : Value}
    (a53 : PySem.W.nsIn K mainGlobals "in_both" = some (some (.ref f53))) (l53 : K.lookup f53 = some ⟨oc53, od53, .func (PySem.W.fnOf "in_both" "in_both" (defArgs s_in_both) (defBody s_in_both) (defScope s_in_both) .none kV53 dc53 pm53 an53 cd53 ct53), sl53⟩) (c53 : PySem.W.codeIn K cd53 "in_both" = true) (k53 : PySem.W.keepIn K (.ref f53) = true)
    {f54 : Addr} {od54 an54 : Option Addr} {sl54 : Array (Option Value)} {oc54 kV54 dc54 pm54 cd54 ct54 : Value}
    (a54 : PySem.W.nsIn K mainGlobals "possible_texts" = some (some (.ref f54))) (l54 : K.lookup f54 = some ⟨oc54, od54, .func (PySem.W.fnOf "possible_texts" "possible_texts" (defArgs s_possible_texts) (defBody s_possible_texts) (defScope s_possible_texts) .none kV54 dc54 pm54 an54 cd54 ct54), sl54⟩) (c54 : PySem.W.codeIn K cd54 "possible_texts" = true) (k54 : PySem.W.keepIn K (.ref f54) = true)
    {f55 : Addr} {od55 an55 : Option Addr} {sl55 : Array (Option Value)} {oc55 kV55 dc55 pm55 cd55 ct55 : Value}
    (a55 : PySem.W.nsIn K mainGlobals "can_lack" = some (some (.ref f55))) (l55 : K.lookup f55 = some ⟨oc55, od55, .func (PySem.W.fnOf "can_lack" "can_lack" (defArgs s_can_lack) (defBody s_can_lack) (defScope s_can_lack) .none kV55 dc55 pm55 an55 cd55 ct55), sl55⟩) (c55 : PySem.W.codeIn K cd55 "can_lack" = true) (k55 : PySem.W.keepIn K (.ref f55) = true)
    {f56 : Addr} {od56 an56 : Option Addr} {sl56 : Array (Option Value)} {oc56 kV56 dc56 pm56 cd56 ct56 : Value}
    (a56 : PySem.W.nsIn K mainGlobals "bars" = some (some (.ref f56))) (l56 : K.lookup f56 = some ⟨oc56, od56, .func (PySem.W.fnOf "bars" "bars" (defArgs s_bars) (defBody s_bars) (defScope s_bars) .none kV56 dc56 pm56 an56 cd56 ct56), sl56⟩) (c56 : PySem.W.codeIn K cd56 "bars" = true) (k56 : PySem.W.keepIn K (.ref f56) = true)
    {f57 : Addr} {od57 an57 : Option Addr} {sl57 : Array (Option Value)} {oc57 kV57 dc57 pm57 cd57 ct57 : Value}
    (a57 : PySem.W.nsIn K mainGlobals "grants" = some (some (.ref f57))) (l57 : K.lookup f57 = some ⟨oc57, od57, .func (PySem.W.fnOf "grants" "grants" (defArgs s_grants) (defBody s_grants) (defScope s_grants) .none kV57 dc57 pm57 an57 cd57 ct57), sl57⟩) (c57 : PySem.W.codeIn K cd57 "grants" = true) (k57 : PySem.W.keepIn K (.ref f57) = true)
    {f58 : Addr} {od58 an58 : Option Addr} {sl58 : Array (Option Value)} {oc58 kV58 dc58 pm58 cd58 ct58 : Value}
    (a58 : PySem.W.nsIn K mainGlobals "page_for" = some (some (.ref f58))) (l58 : K.lookup f58 = some ⟨oc58, od58, .func (PySem.W.fnOf "page_for" "page_for" (defArgs s_page_for) (defBody s_page_for) (defScope s_page_for) .none kV58 dc58 pm58 an58 cd58 ct58), sl58⟩) (c58 : PySem.W.codeIn K cd58 "page_for" = true) (k58 : PySem.W.keepIn K (.ref f58) = true)
    {f59 : Addr} {od59 an59 : Option Addr} {sl59 : Array (Option Value)} {oc59 kV59 dc59 pm59 cd59 ct59 : Value}
    (a59 : PySem.W.nsIn K mainGlobals "page_around" = some (some (.ref f59))) (l59 : K.lookup f59 = some ⟨oc59, od59, .func (PySem.W.fnOf "page_around" "page_around" (defArgs s_page_around) (defBody s_page_around) (defScope s_page_around) .none kV59 dc59 pm59 an59 cd59 ct59), sl59⟩) (c59 : PySem.W.codeIn K cd59 "page_around" = true) (k59 : PySem.W.keepIn K (.ref f59) = true)
    {f60 : Addr} {od60 an60 : Option Addr} {sl60 : Array (Option Value)} {oc60 kV60 dc60 pm60 cd60 ct60 : Value}
    (a60 : PySem.W.nsIn K mainGlobals "_law_bag" = some (some (.ref f60))) (l60 : K.lookup f60 = some ⟨oc60, od60, .func (PySem.W.fnOf "_law_bag" "_law_bag" (defArgs s__law_bag) (defBody s__law_bag) (defScope s__law_bag) .none kV60 dc60 pm60 an60 cd60 ct60), sl60⟩) (c60 : PySem.W.codeIn K cd60 "_law_bag" = true) (k60 : PySem.W.keepIn K (.ref f60) = true)
    {f61 : Addr} {od61 an61 : Option Addr} {sl61 : Array (Option Value)} {oc61 kV61 dc61 pm61 cd61 ct61 : Value}
    (a61 : PySem.W.nsIn K mainGlobals "_law_pick" = some (some (.ref f61))) (l61 : K.lookup f61 = some ⟨oc61, od61, .func (PySem.W.fnOf "_law_pick" "_law_pick" (defArgs s__law_pick) (defBody s__law_pick) (defScope s__law_pick) .none kV61 dc61 pm61 an61 cd61 ct61), sl61⟩) (c61 : PySem.W.codeIn K cd61 "_law_pick" = true) (k61 : PySem.W.keepIn K (.ref f61) = true)
    {f62 : Addr} {od62 an62 : Option Addr} {sl62 : Array (Option Value)} {oc62 kV62 dc62 pm62 cd62 ct62 : Value}
    (a62 : PySem.W.nsIn K mainGlobals "_law_spell" = some (some (.ref f62))) (l62 : K.lookup f62 = some ⟨oc62, od62, .func (PySem.W.fnOf "_law_spell" "_law_spell" (defArgs s__law_spell) (defBody s__law_spell) (defScope s__law_spell) .none kV62 dc62 pm62 an62 cd62 ct62), sl62⟩) (c62 : PySem.W.codeIn K cd62 "_law_spell" = true) (k62 : PySem.W.keepIn K (.ref f62) = true)
    {f63 : Addr} {od63 an63 : Option Addr} {sl63 : Array (Option Value)} {oc63 kV63 dc63 pm63 cd63 ct63 : Value}
    (a63 : PySem.W.nsIn K mainGlobals "_law_stems" = some (some (.ref f63))) (l63 : K.lookup f63 = some ⟨oc63, od63, .func (PySem.W.fnOf "_law_stems" "_law_stems" (defArgs s__law_stems) (defBody s__law_stems) (defScope s__law_stems) .none kV63 dc63 pm63 an63 cd63 ct63), sl63⟩) (c63 : PySem.W.codeIn K cd63 "_law_stems" = true) (k63 : PySem.W.keepIn K (.ref f63) = true)
    {f64 : Addr} {od64 an64 : Option Addr} {sl64 : Array (Option Value)} {oc64 kV64 dc64 pm64 cd64 ct64 : Value}
    (a64 : PySem.W.nsIn K mainGlobals "_law_near" = some (some (.ref f64))) (l64 : K.lookup f64 = some ⟨oc64, od64, .func (PySem.W.fnOf "_law_near" "_law_near" (defArgs s__law_near) (defBody s__law_near) (defScope s__law_near) .none kV64 dc64 pm64 an64 cd64 ct64), sl64⟩) (c64 : PySem.W.codeIn K cd64 "_law_near" = true) (k64 : PySem.W.keepIn K (.ref f64) = true)
    {f65 : Addr} {od65 an65 : Option Addr} {sl65 : Array (Option Value)} {oc65 kV65 dc65 pm65 cd65 ct65 : Value}
    (a65 : PySem.W.nsIn K mainGlobals "_law_page" = some (some (.ref f65))) (l65 : K.lookup f65 = some ⟨oc65, od65, .func (PySem.W.fnOf "_law_page" "_law_page" (defArgs s__law_page) (defBody s__law_page) (defScope s__law_page) .none kV65 dc65 pm65 an65 cd65 ct65), sl65⟩) (c65 : PySem.W.codeIn K cd65 "_law_page" = true) (k65 : PySem.W.keepIn K (.ref f65) = true)
    {f66 : Addr} {od66 an66 : Option Addr} {sl66 : Array (Option Value)} {oc66 kV66 dc66 pm66 cd66 ct66 : Value}
    (a66 : PySem.W.nsIn K mainGlobals "_law_rule" = some (some (.ref f66))) (l66 : K.lookup f66 = some ⟨oc66, od66, .func (PySem.W.fnOf "_law_rule" "_law_rule" (defArgs s__law_rule) (defBody s__law_rule) (defScope s__law_rule) .none kV66 dc66 pm66 an66 cd66 ct66), sl66⟩) (c66 : PySem.W.codeIn K cd66 "_law_rule" = true) (k66 : PySem.W.keepIn K (.ref f66) = true)
    {f67 : Addr} {od67 an67 : Option Addr} {sl67 : Array (Option Value)} {oc67 kV67 dc67 pm67 cd67 ct67 : Value}
    (a67 : PySem.W.nsIn K mainGlobals "_law_beyond" = some (some (.ref f67))) (l67 : K.lookup f67 = some ⟨oc67, od67, .func (PySem.W.fnOf "_law_beyond" "_law_beyond" (defArgs s__law_beyond) (defBody s__law_beyond) (defScope s__law_beyond) .none kV67 dc67 pm67 an67 cd67 ct67), sl67⟩) (c67 : PySem.W.codeIn K cd67 "_law_beyond" = true) (k67 : PySem.W.keepIn K (.ref f67) = true)
    {f68 : Addr} {od68 an68 : Option Addr} {sl68 : Array (Option Value)} {oc68 kV68 dc68 pm68 cd68 ct68 : Value}
    (a68 : PySem.W.nsIn K mainGlobals "_law_low" = some (some (.ref f68))) (l68 : K.lookup f68 = some ⟨oc68, od68, .func (PySem.W.fnOf "_law_low" "_law_low" (defArgs s__law_low) (defBody s__law_low) (defScope s__law_low) .none kV68 dc68 pm68 an68 cd68 ct68), sl68⟩) (c68 : PySem.W.codeIn K cd68 "_law_low" = true) (k68 : PySem.W.keepIn K (.ref f68) = true)
    {f69 : Addr} {od69 an69 : Option Addr} {sl69 : Array (Option Value)} {oc69 kV69 dc69 pm69 cd69 ct69 : Value}
    (a69 : PySem.W.nsIn K mainGlobals "_law_high" = some (some (.ref f69))) (l69 : K.lookup f69 = some ⟨oc69, od69, .func (PySem.W.fnOf "_law_high" "_law_high" (defArgs s__law_high) (defBody s__law_high) (defScope s__law_high) .none kV69 dc69 pm69 an69 cd69 ct69), sl69⟩) (c69 : PySem.W.codeIn K cd69 "_law_high" = true) (k69 : PySem.W.keepIn K (.ref f69) = true)
    {f70 : Addr} {od70 an70 : Option Addr} {sl70 : Array (Option Value)} {oc70 kV70 dc70 pm70 cd70 ct70 : Value}
    (a70 : PySem.W.nsIn K mainGlobals "_law_note" = some (some (.ref f70))) (l70 : K.lookup f70 = some ⟨oc70, od70, .func (PySem.W.fnOf "_law_note" "_law_note" (defArgs s__law_note) (defBody s__law_note) (defScope s__law_note) .none kV70 dc70 pm70 an70 cd70 ct70), sl70⟩) (c70 : PySem.W.codeIn K cd70 "_law_note" = true) (k70 : PySem.W.keepIn K (.ref f70) = true)
    {f71 : Addr} {od71 an71 : Option Addr} {sl71 : Array (Option Value)} {oc71 kV71 dc71 pm71 cd71 ct71 : Value}
    (a71 : PySem.W.nsIn K mainGlobals "_law_query" = some (some (.ref f71))) (l71 : K.lookup f71 = some ⟨oc71, od71, .func (PySem.W.fnOf "_law_query" "_law_query" (defArgs s__law_query) (defBody s__law_query) (defScope s__law_query) .none kV71 dc71 pm71 an71 cd71 ct71), sl71⟩) (c71 : PySem.W.codeIn K cd71 "_law_query" = true) (k71 : PySem.W.keepIn K (.ref f71) = true)
    {f72 : Addr} {od72 an72 : Option Addr} {sl72 : Array (Option Value)} {oc72 kV72 dc72 pm72 cd72 ct72 : Value}
    (a72 : PySem.W.nsIn K mainGlobals "_law_answer" = some (some (.ref f72))) (l72 : K.lookup f72 = some ⟨oc72, od72, .func (PySem.W.fnOf "_law_answer" "_law_answer" (defArgs s__law_answer) (defBody s__law_answer) (defScope s__law_answer) .none kV72 dc72 pm72 an72 cd72 ct72), sl72⟩) (c72 : PySem.W.codeIn K cd72 "_law_answer" = true) (k72 : PySem.W.keepIn K (.ref f72) = true)
    {f73 : Addr} {od73 an73 : Option Addr} {sl73 : Array (Option Value)} {oc73 kV73 dc73 pm73 cd73 ct73 : Value}
    (a73 : PySem.W.nsIn K mainGlobals "_law_others" = some (some (.ref f73))) (l73 : K.lookup f73 = some ⟨oc73, od73, .func (PySem.W.fnOf "_law_others" "_law_others" (defArgs s__law_others) (defBody s__law_others) (defScope s__law_others) .none kV73 dc73 pm73 an73 cd73 ct73), sl73⟩) (c73 : PySem.W.codeIn K cd73 "_law_others" = true) (k73 : PySem.W.keepIn K (.ref f73) = true)
    {f74 : Addr} {od74 an74 : Option Addr} {sl74 : Array (Option Value)} {oc74 kV74 dc74 pm74 cd74 ct74 : Value}
    (a74 : PySem.W.nsIn K mainGlobals "_law_shown" = some (some (.ref f74))) (l74 : K.lookup f74 = some ⟨oc74, od74, .func (PySem.W.fnOf "_law_shown" "_law_shown" (defArgs s__law_shown) (defBody s__law_shown) (defScope s__law_shown) .none kV74 dc74 pm74 an74 cd74 ct74), sl74⟩) (c74 : PySem.W.codeIn K cd74 "_law_shown" = true) (k74 : PySem.W.keepIn K (.ref f74) = true)
    {f75 : Addr} {od75 an75 : Option Addr} {sl75 : Array (Option Value)} {oc75 kV75 dc75 pm75 cd75 ct75 : Value}
    (a75 : PySem.W.nsIn K mainGlobals "law" = some (some (.ref f75))) (l75 : K.lookup f75 = some ⟨oc75, od75, .func (PySem.W.fnOf "law" "law" (defArgs s_law) (defBody s_law) (defScope s_law) .none kV75 dc75 pm75 an75 cd75 ct75), sl75⟩) (c75 : PySem.W.codeIn K cd75 "law" = true) (k75 : PySem.W.keepIn K (.ref f75) = true)
    {dN0 dN1 : Addr} {esN0 esN1 : Array DictEntry} {nN0 nN1 : Nat} {tN0_0 tN0_1 tN1_0 tN1_1 : Tok}
    (aN0 : PySem.W.nsIn K mainGlobals "NEXT_LETTERS" = some (some (.ref dN0)))
    (lN0 : K.lookup dN0 = some ⟨.type "dict", none, .dict esN0 nN0, #[]⟩)
    (kN0 : PySem.W.KeysLit w.params esN0.toList)
    (vN0_0 : PySem.W.nsIn K dN0 "a" = some (some (.str "b" tN0_0)))
    (vN0_1 : PySem.W.nsIn K dN0 "b" = some (some (.str "c" tN0_1)))
    (aN1 : PySem.W.nsIn K mainGlobals "LETTERS_BEFORE" = some (some (.ref dN1)))
    (lN1 : K.lookup dN1 = some ⟨.type "dict", none, .dict esN1 nN1, #[]⟩)
    (kN1 : PySem.W.KeysLit w.params esN1.toList)
    (vN1_0 : PySem.W.nsIn K dN1 "b" = some (some (.str "a" tN1_0)))
    (vN1_1 : PySem.W.nsIn K dN1 "c" = some (some (.str "b" tN1_1)))
    (lw1 : (dN1 == sysModules) = false)
    (ow0 : PySem.W.nsIn K dN1 "a" = some none)
    (ow1 : PySem.W.nsIn K dN1 "" = some none)
    {dN2 : Addr} {esN2 : Array DictEntry} {nN2 : Nat} {tN2_0 tN2_1 tN2_2 : Tok}
    (aN2 : PySem.W.nsIn K mainGlobals "TURNED" = some (some (.ref dN2)))
    (lN2 : K.lookup dN2 = some ⟨.type "dict", none, .dict esN2 nN2, #[]⟩)
    (kN2 : PySem.W.KeysLit w.params esN2.toList)
    (vN2_0 : PySem.W.nsIn K dN2 "yes" = some (some (.str "no" tN2_0)))
    (vN2_1 : PySem.W.nsIn K dN2 "no" = some (some (.str "yes" tN2_1)))
    (vN2_2 : PySem.W.nsIn K dN2 "open" = some (some (.str "open" tN2_2)))
    (lw2 : (dN2 == sysModules) = false)
    {eA eB : Addr} {odA odB : Option Addr} {nA nB : Nat} {slA slB : Array (Option Value)} {tE : Tok}
    (aE : PySem.W.nsIn K mainGlobals "EVERY_TEXT" = some (some (.ref eA)))
    (lEA : K.lookup eA = some ⟨.type "tuple", odA, .seq #[.ref eB] nA, slA⟩)
    (lEB : K.lookup eB = some ⟨.type "tuple", odB, .seq #[.str "" tE, .none] nB, slB⟩)
    (z0 : PySem.W.nsIn K mainGlobals "int" = some none)
    (z1 : PySem.W.nsIn K mainGlobals "len" = some none)
    (z2 : PySem.W.nsIn K mainGlobals "max" = some none)
    (z3 : PySem.W.nsIn K mainGlobals "min" = some none)
    (z4 : PySem.W.nsIn K mainGlobals "range" = some none)
    (z5 : PySem.W.nsIn K mainGlobals "type" = some none)
    (z6 : PySem.W.nsIn K mainGlobals "tuple" = some none)
    (z7 : PySem.W.nsIn K mainGlobals "list" = some none)
    (z8 : PySem.W.nsIn K mainGlobals "str" = some none)
    (z9 : PySem.W.nsIn K mainGlobals "bool" = some none)
    (z10 : PySem.W.nsIn K mainGlobals "all" = some none)
    (z11 : PySem.W.nsIn K mainGlobals "sorted" = some none)
    (z12 : PySem.W.nsIn K mainGlobals "set" = some none)
    (z13 : PySem.W.nsIn K mainGlobals "repr" = some none)
    (z14 : PySem.W.nsIn K mainGlobals "isinstance" = some none)
    (z15 : PySem.W.nsIn K mainGlobals "zip" = some none)
    (z16 : PySem.W.nsIn K mainGlobals "any" = some none)
    (z17 : PySem.W.nsIn K mainGlobals "enumerate" = some none)
    : ∃ fd : FuncData, (∀ (s : Shared) (v : Value), BindsTo s fd ⟨[v], []⟩ [("script", v)]) ∧ ∀ base : Heap, K.In base → base.Ns mainGlobals mg → FnG l.prog w K mg base 36 fa fd ["script"] (spLaw K) := by
  have e := hfa.symm.trans (PySem.W.mg_of X G a75)
  cases e
  have F_is_text := fun_mk (st := s_is_text) l0 c0 k0
  have D_is_text : Df K mg "is_text" s_is_text ["value"] f0 _ := ⟨F_is_text, PySem.W.mg_of X G a0, F_is_text.binds (ps := ["value"]) fun _ _ _ _ _ _ us hl => match us, hl with | [_], _ => rfl⟩
  have F_is_range := fun_mk (st := s_is_range) l1 c1 k1
  have D_is_range : Df K mg "is_range" s_is_range ["value"] f1 _ := ⟨F_is_range, PySem.W.mg_of X G a1, F_is_range.binds (ps := ["value"]) fun _ _ _ _ _ _ us hl => match us, hl with | [_], _ => rfl⟩
  have F_is_span := fun_mk (st := s_is_span) l2 c2 k2
  have D_is_span : Df K mg "is_span" s_is_span ["value"] f2 _ := ⟨F_is_span, PySem.W.mg_of X G a2, F_is_span.binds (ps := ["value"]) fun _ _ _ _ _ _ us hl => match us, hl with | [_], _ => rfl⟩
  have F_reaches := fun_mk (st := s_reaches) l3 c3 k3
  have D_reaches : Df K mg "reaches" s_reaches ["end", "first"] f3 _ := ⟨F_reaches, PySem.W.mg_of X G a3, F_reaches.binds (ps := ["end", "first"]) fun _ _ _ _ _ _ us hl => match us, hl with | [_, _], _ => rfl⟩
  have F_check_text := fun_mk (st := s_check_text) l4 c4 k4
  have D_check_text : Df K mg "check_text" s_check_text ["text"] f4 _ := ⟨F_check_text, PySem.W.mg_of X G a4, F_check_text.binds (ps := ["text"]) fun _ _ _ _ _ _ us hl => match us, hl with | [_], _ => rfl⟩
  have F_check_span := fun_mk (st := s_check_span) l5 c5 k5
  have D_check_span : Df K mg "check_span" s_check_span ["span"] f5 _ := ⟨F_check_span, PySem.W.mg_of X G a5, F_check_span.binds (ps := ["span"]) fun _ _ _ _ _ _ us hl => match us, hl with | [_], _ => rfl⟩
  have F_check_ranges := fun_mk (st := s_check_ranges) l6 c6 k6
  have D_check_ranges : Df K mg "check_ranges" s_check_ranges ["ranges"] f6 _ := ⟨F_check_ranges, PySem.W.mg_of X G a6, F_check_ranges.binds (ps := ["ranges"]) fun _ _ _ _ _ _ us hl => match us, hl with | [_], _ => rfl⟩
  have F_behind := fun_mk (st := s_behind) l7 c7 k7
  have D_behind : Df K mg "behind" s_behind ["text"] f7 _ := ⟨F_behind, PySem.W.mg_of X G a7, F_behind.binds (ps := ["text"]) fun _ _ _ _ _ _ us hl => match us, hl with | [_], _ => rfl⟩
  have F_beyond := fun_mk (st := s_beyond) l8 c8 k8
  have D_beyond : Df K mg "beyond" s_beyond ["text"] f8 _ := ⟨F_beyond, PySem.W.mg_of X G a8, F_beyond.binds (ps := ["text"]) fun _ _ _ _ _ _ us hl => match us, hl with | [_], _ => rfl⟩
  have F_later_end := fun_mk (st := s_later_end) l9 c9 k9
  have D_later_end : Df K mg "later_end" s_later_end ["end", "other_end"] f9 _ := ⟨F_later_end, PySem.W.mg_of X G a9, F_later_end.binds (ps := ["end", "other_end"]) fun _ _ _ _ _ _ us hl => match us, hl with | [_, _], _ => rfl⟩
  have F_ascending := fun_mk (st := s_ascending) l10 c10 k10
  have D_ascending : Df K mg "ascending" s_ascending ["texts"] f10 _ := ⟨F_ascending, PySem.W.mg_of X G a10, F_ascending.binds (ps := ["texts"]) fun _ _ _ _ _ _ us hl => match us, hl with | [_], _ => rfl⟩
  have F_span_of := fun_mk (st := s_span_of) l11 c11 k11
  have D_span_of : Df K mg "span_of" s_span_of ["ranges"] f11 _ := ⟨F_span_of, PySem.W.mg_of X G a11, F_span_of.binds (ps := ["ranges"]) fun _ _ _ _ _ _ us hl => match us, hl with | [_], _ => rfl⟩
  have F_has := fun_mk (st := s_has) l12 c12 k12
  have D_has : Df K mg "has" s_has ["span", "text"] f12 _ := ⟨F_has, PySem.W.mg_of X G a12, F_has.binds (ps := ["span", "text"]) fun _ _ _ _ _ _ us hl => match us, hl with | [_, _], _ => rfl⟩
  have F_opposite := fun_mk (st := s_opposite) l13 c13 k13
  have D_opposite : Df K mg "opposite" s_opposite ["span"] f13 _ := ⟨F_opposite, PySem.W.mg_of X G a13, F_opposite.binds (ps := ["span"]) fun _ _ _ _ _ _ us hl => match us, hl with | [_], _ => rfl⟩
  have F_joined := fun_mk (st := s_joined) l14 c14 k14
  have D_joined : Df K mg "joined" s_joined ["span", "other_span"] f14 _ := ⟨F_joined, PySem.W.mg_of X G a14, F_joined.binds (ps := ["span", "other_span"]) fun _ _ _ _ _ _ us hl => match us, hl with | [_, _], _ => rfl⟩
  have F_shared := fun_mk (st := s_shared) l15 c15 k15
  have D_shared : Df K mg "shared" s_shared ["span", "other_span"] f15 _ := ⟨F_shared, PySem.W.mg_of X G a15, F_shared.binds (ps := ["span", "other_span"]) fun _ _ _ _ _ _ us hl => match us, hl with | [_, _], _ => rfl⟩
  have F_least_text := fun_mk (st := s_least_text) l16 c16 k16
  have D_least_text : Df K mg "least_text" s_least_text ["span"] f16 _ := ⟨F_least_text, PySem.W.mg_of X G a16, F_least_text.binds (ps := ["span"]) fun _ _ _ _ _ _ us hl => match us, hl with | [_], _ => rfl⟩
  have F_is_value := fun_mk (st := s_is_value) l17 c17 k17
  have D_is_value : Df K mg "is_value" s_is_value ["value"] f17 _ := ⟨F_is_value, PySem.W.mg_of X G a17, F_is_value.binds (ps := ["value"]) fun _ _ _ _ _ _ us hl => match us, hl with | [_], _ => rfl⟩
  have F_is_filter := fun_mk (st := s_is_filter) l18 c18 k18
  have D_is_filter : Df K mg "is_filter" s_is_filter ["value"] f18 _ := ⟨F_is_filter, PySem.W.mg_of X G a18, F_is_filter.binds (ps := ["value"]) fun _ _ _ _ _ _ us hl => match us, hl with | [_], _ => rfl⟩
  have F_can_follow := fun_mk (st := s_can_follow) l19 c19 k19
  have D_can_follow : Df K mg "can_follow" s_can_follow ["word", "part"] f19 _ := ⟨F_can_follow, PySem.W.mg_of X G a19, F_can_follow.binds (ps := ["word", "part"]) fun _ _ _ _ _ _ us hl => match us, hl with | [_, _], _ => rfl⟩
  have F_check_filter := fun_mk (st := s_check_filter) l20 c20 k20
  have D_check_filter : Df K mg "check_filter" s_check_filter ["query"] f20 _ := ⟨F_check_filter, PySem.W.mg_of X G a20, F_check_filter.binds (ps := ["query"]) fun _ _ _ _ _ _ us hl => match us, hl with | [_], _ => rfl⟩
  have F_answer_to := fun_mk (st := s_answer_to) l21 c21 k21
  have D_answer_to : Df K mg "answer_to" s_answer_to ["query", "value"] f21 _ := ⟨F_answer_to, PySem.W.mg_of X G a21, F_answer_to.binds (ps := ["query", "value"]) fun _ _ _ _ _ _ us hl => match us, hl with | [_, _], _ => rfl⟩
  have F_yes_or_no := fun_mk (st := s_yes_or_no) l22 c22 k22
  have D_yes_or_no : Df K mg "yes_or_no" s_yes_or_no ["holds"] f22 _ := ⟨F_yes_or_no, PySem.W.mg_of X G a22, F_yes_or_no.binds (ps := ["holds"]) fun _ _ _ _ _ _ us hl => match us, hl with | [_], _ => rfl⟩
  have F_settled := fun_mk (st := s_settled) l23 c23 k23
  have D_settled : Df K mg "settled" s_settled ["answers", "deciding", "otherwise"] f23 _ := ⟨F_settled, PySem.W.mg_of X G a23, F_settled.binds (ps := ["answers", "deciding", "otherwise"]) fun _ _ _ _ _ _ us hl => match us, hl with | [_, _, _], _ => rfl⟩
  have F_matches := fun_mk (st := s_matches) l24 c24 k24
  have D_matches : Df K mg "matches" s_matches ["word", "wanted", "text"] f24 _ := ⟨F_matches, PySem.W.mg_of X G a24, F_matches.binds (ps := ["word", "wanted", "text"]) fun _ _ _ _ _ _ us hl => match us, hl with | [_, _, _], _ => rfl⟩
  have F_passing_texts := fun_mk (st := s_passing_texts) l25 c25 k25
  have D_passing_texts : Df K mg "passing_texts" s_passing_texts ["query"] f25 _ := ⟨F_passing_texts, PySem.W.mg_of X G a25, F_passing_texts.binds (ps := ["query"]) fun _ _ _ _ _ _ us hl => match us, hl with | [_], _ => rfl⟩
  have F_joined_all := fun_mk (st := s_joined_all) l26 c26 k26
  have D_joined_all : Df K mg "joined_all" s_joined_all ["spans"] f26 _ := ⟨F_joined_all, PySem.W.mg_of X G a26, F_joined_all.binds (ps := ["spans"]) fun _ _ _ _ _ _ us hl => match us, hl with | [_], _ => rfl⟩
  have F_matching_texts := fun_mk (st := s_matching_texts) l27 c27 k27
  have D_matching_texts : Df K mg "matching_texts" s_matching_texts ["word", "wanted"] f27 _ := ⟨F_matching_texts, PySem.W.mg_of X G a27, F_matching_texts.binds (ps := ["word", "wanted"]) fun _ _ _ _ _ _ us hl => match us, hl with | [_, _], _ => rfl⟩
  have F_passes := fun_mk (st := s_passes) l28 c28 k28
  have D_passes : Df K mg "passes" s_passes ["query", "value"] f28 _ := ⟨F_passes, PySem.W.mg_of X G a28, F_passes.binds (ps := ["query", "value"]) fun _ _ _ _ _ _ us hl => match us, hl with | [_, _], _ => rfl⟩
  have F_is_rule := fun_mk (st := s_is_rule) l29 c29 k29
  have D_is_rule : Df K mg "is_rule" s_is_rule ["value"] f29 _ := ⟨F_is_rule, PySem.W.mg_of X G a29, F_is_rule.binds (ps := ["value"]) fun _ _ _ _ _ _ us hl => match us, hl with | [_], _ => rfl⟩
  have F_is_lacks_part := fun_mk (st := s_is_lacks_part) l30 c30 k30
  have D_is_lacks_part : Df K mg "is_lacks_part" s_is_lacks_part ["part"] f30 _ := ⟨F_is_lacks_part, PySem.W.mg_of X G a30, F_is_lacks_part.binds (ps := ["part"]) fun _ _ _ _ _ _ us hl => match us, hl with | [_], _ => rfl⟩
  have F_is_low_part := fun_mk (st := s_is_low_part) l31 c31 k31
  have D_is_low_part : Df K mg "is_low_part" s_is_low_part ["part"] f31 _ := ⟨F_is_low_part, PySem.W.mg_of X G a31, F_is_low_part.binds (ps := ["part"]) fun _ _ _ _ _ _ us hl => match us, hl with | [_], _ => rfl⟩
  have F_is_high_part := fun_mk (st := s_is_high_part) l32 c32 k32
  have D_is_high_part : Df K mg "is_high_part" s_is_high_part ["part"] f32 _ := ⟨F_is_high_part, PySem.W.mg_of X G a32, F_is_high_part.binds (ps := ["part"]) fun _ _ _ _ _ _ us hl => match us, hl with | [_], _ => rfl⟩
  have F_is_lost := fun_mk (st := s_is_lost) l33 c33 k33
  have D_is_lost : Df K mg "is_lost" s_is_lost ["part"] f33 _ := ⟨F_is_lost, PySem.W.mg_of X G a33, F_is_lost.binds (ps := ["part"]) fun _ _ _ _ _ _ us hl => match us, hl with | [_], _ => rfl⟩
  have F_is_letter_number := fun_mk (st := s_is_letter_number) l34 c34 k34
  have D_is_letter_number : Df K mg "is_letter_number" s_is_letter_number ["part"] f34 _ := ⟨F_is_letter_number, PySem.W.mg_of X G a34, F_is_letter_number.binds (ps := ["part"]) fun _ _ _ _ _ _ us hl => match us, hl with | [_], _ => rfl⟩
  have F_is_page := fun_mk (st := s_is_page) l35 c35 k35
  have D_is_page : Df K mg "is_page" s_is_page ["value"] f35 _ := ⟨F_is_page, PySem.W.mg_of X G a35, F_is_page.binds (ps := ["value"]) fun _ _ _ _ _ _ us hl => match us, hl with | [_], _ => rfl⟩
  have F_is_note := fun_mk (st := s_is_note) l36 c36 k36
  have D_is_note : Df K mg "is_note" s_is_note ["rule", "value"] f36 _ := ⟨F_is_note, PySem.W.mg_of X G a36, F_is_note.binds (ps := ["rule", "value"]) fun _ _ _ _ _ _ us hl => match us, hl with | [_, _], _ => rfl⟩
  have F_are_counts := fun_mk (st := s_are_counts) l37 c37 k37
  have D_are_counts : Df K mg "are_counts" s_are_counts ["word", "many", "lacks"] f37 _ := ⟨F_are_counts, PySem.W.mg_of X G a37, F_are_counts.binds (ps := ["word", "many", "lacks"]) fun _ _ _ _ _ _ us hl => match us, hl with | [_, _, _], _ => rfl⟩
  have F_check_rule := fun_mk (st := s_check_rule) l38 c38 k38
  have D_check_rule : Df K mg "check_rule" s_check_rule ["rule"] f38 _ := ⟨F_check_rule, PySem.W.mg_of X G a38, F_check_rule.binds (ps := ["rule"]) fun _ _ _ _ _ _ us hl => match us, hl with | [_], _ => rfl⟩
  have F_check_page := fun_mk (st := s_check_page) l39 c39 k39
  have D_check_page : Df K mg "check_page" s_check_page ["page"] f39 _ := ⟨F_check_page, PySem.W.mg_of X G a39, F_check_page.binds (ps := ["page"]) fun _ _ _ _ _ _ us hl => match us, hl with | [_], _ => rfl⟩
  have F_check_note := fun_mk (st := s_check_note) l40 c40 k40
  have D_check_note : Df K mg "check_note" s_check_note ["rule", "note"] f40 _ := ⟨F_check_note, PySem.W.mg_of X G a40, F_check_note.binds (ps := ["rule", "note"]) fun _ _ _ _ _ _ us hl => match us, hl with | [_, _], _ => rfl⟩
  have F_note := fun_mk (st := s_note) l41 c41 k41
  have D_note : Df K mg "note" s_note ["rule", "page"] f41 _ := ⟨F_note, PySem.W.mg_of X G a41, F_note.binds (ps := ["rule", "page"]) fun _ _ _ _ _ _ us hl => match us, hl with | [_, _], _ => rfl⟩
  have F_lacks_note := fun_mk (st := s_lacks_note) l42 c42 k42
  have D_lacks_note : Df K mg "lacks_note" s_lacks_note ["lacks", "lacking"] f42 _ := ⟨F_lacks_note, PySem.W.mg_of X G a42, F_lacks_note.binds (ps := ["lacks", "lacking"]) fun _ _ _ _ _ _ us hl => match us, hl with | [_, _], _ => rfl⟩
  have F_low_note := fun_mk (st := s_low_note) l43 c43 k43
  have D_low_note : Df K mg "low_note" s_low_note ["low", "texts"] f43 _ := ⟨F_low_note, PySem.W.mg_of X G a43, F_low_note.binds (ps := ["low", "texts"]) fun _ _ _ _ _ _ us hl => match us, hl with | [_, _], _ => rfl⟩
  have F_high_note := fun_mk (st := s_high_note) l44 c44 k44
  have D_high_note : Df K mg "high_note" s_high_note ["high", "texts"] f44 _ := ⟨F_high_note, PySem.W.mg_of X G a44, F_high_note.binds (ps := ["high", "texts"]) fun _ _ _ _ _ _ us hl => match us, hl with | [_, _], _ => rfl⟩
  have F_least_texts := fun_mk (st := s_least_texts) l45 c45 k45
  have D_least_texts : Df K mg "least_texts" s_least_texts ["low", "noted"] f45 _ := ⟨F_least_texts, PySem.W.mg_of X G a45, F_least_texts.binds (ps := ["low", "noted"]) fun _ _ _ _ _ _ us hl => match us, hl with | [_, _], _ => rfl⟩
  have F_greatest_texts := fun_mk (st := s_greatest_texts) l46 c46 k46
  have D_greatest_texts : Df K mg "greatest_texts" s_greatest_texts ["high", "noted"] f46 _ := ⟨F_greatest_texts, PySem.W.mg_of X G a46, F_greatest_texts.binds (ps := ["high", "noted"]) fun _ _ _ _ _ _ us hl => match us, hl with | [_, _], _ => rfl⟩
  have F_texts_cut_to := fun_mk (st := s_texts_cut_to) l47 c47 k47
  have D_texts_cut_to : Df K mg "texts_cut_to" s_texts_cut_to ["noted", "letters"] f47 _ := ⟨F_texts_cut_to, PySem.W.mg_of X G a47, F_texts_cut_to.binds (ps := ["noted", "letters"]) fun _ _ _ _ _ _ us hl => match us, hl with | [_, _], _ => rfl⟩
  have F_texts_led_beyond := fun_mk (st := s_texts_led_beyond) l48 c48 k48
  have D_texts_led_beyond : Df K mg "texts_led_beyond" s_texts_led_beyond ["noted", "letters"] f48 _ := ⟨F_texts_led_beyond, PySem.W.mg_of X G a48, F_texts_led_beyond.binds (ps := ["noted", "letters"]) fun _ _ _ _ _ _ us hl => match us, hl with | [_, _], _ => rfl⟩
  have F_numbers_left := fun_mk (st := s_numbers_left) l49 c49 k49
  have D_numbers_left : Df K mg "numbers_left" s_numbers_left ["many", "lacks"] f49 _ := ⟨F_numbers_left, PySem.W.mg_of X G a49, F_numbers_left.binds (ps := ["many", "lacks"]) fun _ _ _ _ _ _ us hl => match us, hl with | [_, _], _ => rfl⟩
  have F_possible_numbers := fun_mk (st := s_possible_numbers) l50 c50 k50
  have D_possible_numbers : Df K mg "possible_numbers" s_possible_numbers ["rule", "note"] f50 _ := ⟨F_possible_numbers, PySem.W.mg_of X G a50, F_possible_numbers.binds (ps := ["rule", "note"]) fun _ _ _ _ _ _ us hl => match us, hl with | [_, _], _ => rfl⟩
  have F_can_have := fun_mk (st := s_can_have) l51 c51 k51
  have D_can_have : Df K mg "can_have" s_can_have ["rule", "note", "number"] f51 _ := ⟨F_can_have, PySem.W.mg_of X G a51, F_can_have.binds (ps := ["rule", "note", "number"]) fun _ _ _ _ _ _ us hl => match us, hl with | [_, _, _], _ => rfl⟩
  have F_ranges_with := fun_mk (st := s_ranges_with) l52 c52 k52
  have D_ranges_with : Df K mg "ranges_with" s_ranges_with ["rule", "note", "number"] f52 _ := ⟨F_ranges_with, PySem.W.mg_of X G a52, F_ranges_with.binds (ps := ["rule", "note", "number"]) fun _ _ _ _ _ _ us hl => match us, hl with | [_, _, _], _ => rfl⟩
  have F_in_both := fun_mk (st := s_in_both) l53 c53 k53
  have D_in_both : Df K mg "in_both" s_in_both ["one", "other"] f53 _ := ⟨F_in_both, PySem.W.mg_of X G a53, F_in_both.binds (ps := ["one", "other"]) fun _ _ _ _ _ _ us hl => match us, hl with | [_, _], _ => rfl⟩
  have F_possible_texts := fun_mk (st := s_possible_texts) l54 c54 k54
  have D_possible_texts : Df K mg "possible_texts" s_possible_texts ["rule", "note"] f54 _ := ⟨F_possible_texts, PySem.W.mg_of X G a54, F_possible_texts.binds (ps := ["rule", "note"]) fun _ _ _ _ _ _ us hl => match us, hl with | [_, _], _ => rfl⟩
  have F_can_lack := fun_mk (st := s_can_lack) l55 c55 k55
  have D_can_lack : Df K mg "can_lack" s_can_lack ["rule", "note"] f55 _ := ⟨F_can_lack, PySem.W.mg_of X G a55, F_can_lack.binds (ps := ["rule", "note"]) fun _ _ _ _ _ _ us hl => match us, hl with | [_, _], _ => rfl⟩
  have F_bars := fun_mk (st := s_bars) l56 c56 k56
  have D_bars : Df K mg "bars" s_bars ["rule", "note", "query"] f56 _ := ⟨F_bars, PySem.W.mg_of X G a56, F_bars.binds (ps := ["rule", "note", "query"]) fun _ _ _ _ _ _ us hl => match us, hl with | [_, _, _], _ => rfl⟩
  have F_grants := fun_mk (st := s_grants) l57 c57 k57
  have D_grants : Df K mg "grants" s_grants ["rule", "note", "query"] f57 _ := ⟨F_grants, PySem.W.mg_of X G a57, F_grants.binds (ps := ["rule", "note", "query"]) fun _ _ _ _ _ _ us hl => match us, hl with | [_, _, _], _ => rfl⟩
  have F_page_for := fun_mk (st := s_page_for) l58 c58 k58
  have D_page_for : Df K mg "page_for" s_page_for ["rule", "note", "query"] f58 _ := ⟨F_page_for, PySem.W.mg_of X G a58, F_page_for.binds (ps := ["rule", "note", "query"]) fun _ _ _ _ _ _ us hl => match us, hl with | [_, _, _], _ => rfl⟩
  have F_page_around := fun_mk (st := s_page_around) l59 c59 k59
  have D_page_around : Df K mg "page_around" s_page_around ["rule", "note", "number", "text"] f59 _ := ⟨F_page_around, PySem.W.mg_of X G a59, F_page_around.binds (ps := ["rule", "note", "number", "text"]) fun _ _ _ _ _ _ us hl => match us, hl with | [_, _, _, _], _ => rfl⟩
  have F__law_bag := fun_mk (st := s__law_bag) l60 c60 k60
  have D__law_bag : Df K mg "_law_bag" s__law_bag ["cell"] f60 _ := ⟨F__law_bag, PySem.W.mg_of X G a60, F__law_bag.binds (ps := ["cell"]) fun _ _ _ _ _ _ us hl => match us, hl with | [_], _ => rfl⟩
  have F__law_pick := fun_mk (st := s__law_pick) l61 c61 k61
  have D__law_pick : Df K mg "_law_pick" s__law_pick ["urn", "many"] f61 _ := ⟨F__law_pick, PySem.W.mg_of X G a61, F__law_pick.binds (ps := ["urn", "many"]) fun _ _ _ _ _ _ us hl => match us, hl with | [_, _], _ => rfl⟩
  have F__law_spell := fun_mk (st := s__law_spell) l62 c62 k62
  have D__law_spell : Df K mg "_law_spell" s__law_spell ["urn", "peak"] f62 _ := ⟨F__law_spell, PySem.W.mg_of X G a62, F__law_spell.binds (ps := ["urn", "peak"]) fun _ _ _ _ _ _ us hl => match us, hl with | [_, _], _ => rfl⟩
  have F__law_stems := fun_mk (st := s__law_stems) l63 c63 k63
  have D__law_stems : Df K mg "_law_stems" s__law_stems ["urn"] f63 _ := ⟨F__law_stems, PySem.W.mg_of X G a63, F__law_stems.binds (ps := ["urn"]) fun _ _ _ _ _ _ us hl => match us, hl with | [_], _ => rfl⟩
  have F__law_near := fun_mk (st := s__law_near) l64 c64 k64
  have D__law_near : Df K mg "_law_near" s__law_near ["urn", "roots"] f64 _ := ⟨F__law_near, PySem.W.mg_of X G a64, F__law_near.binds (ps := ["urn", "roots"]) fun _ _ _ _ _ _ us hl => match us, hl with | [_, _], _ => rfl⟩
  have F__law_page := fun_mk (st := s__law_page) l65 c65 k65
  have D__law_page : Df K mg "_law_page" s__law_page ["urn", "roots", "peak"] f65 _ := ⟨F__law_page, PySem.W.mg_of X G a65, F__law_page.binds (ps := ["urn", "roots", "peak"]) fun _ _ _ _ _ _ us hl => match us, hl with | [_, _, _], _ => rfl⟩
  have F__law_rule := fun_mk (st := s__law_rule) l66 c66 k66
  have D__law_rule : Df K mg "_law_rule" s__law_rule ["urn"] f66 _ := ⟨F__law_rule, PySem.W.mg_of X G a66, F__law_rule.binds (ps := ["urn"]) fun _ _ _ _ _ _ us hl => match us, hl with | [_], _ => rfl⟩
  have F__law_beyond := fun_mk (st := s__law_beyond) l67 c67 k67
  have D__law_beyond : Df K mg "_law_beyond" s__law_beyond ["text"] f67 _ := ⟨F__law_beyond, PySem.W.mg_of X G a67, F__law_beyond.binds (ps := ["text"]) fun _ _ _ _ _ _ us hl => match us, hl with | [_], _ => rfl⟩
  have F__law_low := fun_mk (st := s__law_low) l68 c68 k68
  have D__law_low : Df K mg "_law_low" s__law_low ["line", "text"] f68 _ := ⟨F__law_low, PySem.W.mg_of X G a68, F__law_low.binds (ps := ["line", "text"]) fun _ _ _ _ _ _ us hl => match us, hl with | [_, _], _ => rfl⟩
  have F__law_high := fun_mk (st := s__law_high) l69 c69 k69
  have D__law_high : Df K mg "_law_high" s__law_high ["line", "text"] f69 _ := ⟨F__law_high, PySem.W.mg_of X G a69, F__law_high.binds (ps := ["line", "text"]) fun _ _ _ _ _ _ us hl => match us, hl with | [_, _], _ => rfl⟩
  have F__law_note := fun_mk (st := s__law_note) l70 c70 k70
  have D__law_note : Df K mg "_law_note" s__law_note ["line", "leaf"] f70 _ := ⟨F__law_note, PySem.W.mg_of X G a70, F__law_note.binds (ps := ["line", "leaf"]) fun _ _ _ _ _ _ us hl => match us, hl with | [_, _], _ => rfl⟩
  have F__law_query := fun_mk (st := s__law_query) l71 c71 k71
  have D__law_query : Df K mg "_law_query" s__law_query ["urn", "room", "levels", "roots"] f71 _ := ⟨F__law_query, PySem.W.mg_of X G a71, F__law_query.binds (ps := ["urn", "room", "levels", "roots"]) fun _ _ _ _ _ _ us hl => match us, hl with | [_, _, _, _], _ => rfl⟩
  have F__law_answer := fun_mk (st := s__law_answer) l72 c72 k72
  have D__law_answer : Df K mg "_law_answer" s__law_answer ["quest", "thing"] f72 _ := ⟨F__law_answer, PySem.W.mg_of X G a72, F__law_answer.binds (ps := ["quest", "thing"]) fun _ _ _ _ _ _ us hl => match us, hl with | [_, _], _ => rfl⟩
  have F__law_others := fun_mk (st := s__law_others) l73 c73 k73
  have D__law_others : Df K mg "_law_others" s__law_others ["quest"] f73 _ := ⟨F__law_others, PySem.W.mg_of X G a73, F__law_others.binds (ps := ["quest"]) fun _ _ _ _ _ _ us hl => match us, hl with | [_], _ => rfl⟩
  have F__law_shown := fun_mk (st := s__law_shown) l74 c74 k74
  have D__law_shown : Df K mg "_law_shown" s__law_shown ["line", "told", "quest"] f74 _ := ⟨F__law_shown, PySem.W.mg_of X G a74, F__law_shown.binds (ps := ["line", "told", "quest"]) fun _ _ _ _ _ _ us hl => match us, hl with | [_, _, _], _ => rfl⟩
  have F_law := fun_mk (st := s_law) l75 c75 k75
  have D_law : Df K mg "law" s_law ["script"] fa _ := ⟨F_law, PySem.W.mg_of X G a75, F_law.binds (ps := ["script"]) fun _ _ _ _ _ _ us hl => match us, hl with | [_], _ => rfl⟩
  have T : Nm mg := ⟨PySem.W.mg_none_of X G z0, PySem.W.mg_none_of X G z1, PySem.W.mg_none_of X G z2, PySem.W.mg_none_of X G z3, PySem.W.mg_none_of X G z4, PySem.W.mg_none_of X G z5, PySem.W.mg_none_of X G z6, PySem.W.mg_none_of X G z7, PySem.W.mg_none_of X G z8, PySem.W.mg_none_of X G z9, PySem.W.mg_none_of X G z10, PySem.W.mg_none_of X G z11, PySem.W.mg_none_of X G z12, PySem.W.mg_none_of X G z13, PySem.W.mg_none_of X G z14, PySem.W.mg_none_of X G z15, PySem.W.mg_none_of X G z16, PySem.W.mg_none_of X G z17⟩
  have TG : Ng K w mg := ⟨dN2, PySem.W.mg_of X G aN2, (by exact ⟨esN2, nN2, _, lN2, kN2, vN2_0, ⟨_, rfl⟩⟩), (by exact ⟨esN2, nN2, _, lN2, kN2, vN2_1, ⟨_, rfl⟩⟩), (by exact ⟨esN2, nN2, _, lN2, kN2, vN2_2, ⟨_, rfl⟩⟩), ⟨esN2, nN2, _, ⟨lN2, kN2, lw2⟩, vN2_0, rfl⟩, ⟨esN2, nN2, _, ⟨lN2, kN2, lw2⟩, vN2_1, rfl⟩, ⟨esN2, nN2, _, ⟨lN2, kN2, lw2⟩, vN2_2, rfl⟩, eA, PySem.W.mg_of X G aE, eB, fun H => .inr ⟨_, _, _, lEA, rfl, rfl, (show (1 : Nat) ≤ sizeLine by decide), .cons rfl .nil⟩, fun H => .inr ⟨_, _, _, lEB, rfl, rfl, (show (2 : Nat) ≤ sizeLine by decide), .cons ⟨_, rfl⟩ (.cons rfl .nil)⟩, dN0, PySem.W.mg_of X G aN0, (by rw [← a_lit]; exact ⟨esN0, nN0, _, lN0, kN0, vN0_0, ⟨_, rfl⟩⟩), (by rw [← b_lit]; exact ⟨esN0, nN0, _, lN0, kN0, vN0_1, ⟨_, rfl⟩⟩), dN1, PySem.W.mg_of X G aN1, (by rw [← b_lit]; exact ⟨esN1, nN1, _, lN1, kN1, vN1_0, ⟨_, rfl⟩⟩), (by rw [← c_lit9]; exact ⟨esN1, nN1, _, lN1, kN1, vN1_1, ⟨_, rfl⟩⟩), (by rw [← b_lit]; exact ⟨esN1, nN1, _, ⟨lN1, kN1, lw1⟩, vN1_0, rfl⟩), (by rw [← c_lit9]; exact ⟨esN1, nN1, _, ⟨lN1, kN1, lw1⟩, vN1_1, rfl⟩), (by rw [← a_lit]; exact ⟨esN1, nN1, _, ⟨lN1, kN1, lw1⟩, ow0, rfl⟩), (by rw [← nil_lit]; exact ⟨esN1, nN1, _, ⟨lN1, kN1, lw1⟩, ow1, rfl⟩)⟩
  refine ⟨PySem.W.fnOf "law" "law" (defArgs s_law) (defBody s_law) (defScope s_law) .none kV75 dc75 pm75 an75 cd75 ct75, fun s v => .of_eq rfl, fun base _ _ => ?_⟩
  have c_lost := cl_is_lost (P := l.prog) (w := w) (base := base) D_is_lost T
  have c_num := cl_is_letter_number (P := l.prog) (w := w) (base := base) D_is_letter_number T
  have c_lac := cl_is_lacks_part (P := l.prog) (w := w) (base := base) D_is_lacks_part T
  have c_low := cl_is_low_part D_is_low_part T c_lost c_num
  have c_high := cl_is_high_part D_is_high_part T c_lost c_num
  have c_rule := cl_is_rule D_is_rule T c_lac c_low c_high
  have c_ist := cl_is_text (P := l.prog) (w := w) (base := base) D_is_text T
  have c_ckt := cl_check_text D_check_text T c_ist
  have c_ckr := cl_check_rule D_check_rule T c_rule
  have c_bey := cl_beyond D_beyond T TG c_ckt
  have c_asc := cl_ascending (P := l.prog) (w := w) (base := base) D_ascending T
  have c_bag := cl__law_bag (P := l.prog) (w := w) (base := base) D__law_bag T
  have c_pick := cl__law_pick (P := l.prog) (w := w) (base := base) D__law_pick T
  have c_spell := cl__law_spell D__law_spell T c_pick
  have c_stems := cl__law_stems D__law_stems T c_pick c_spell
  have c_near := cl__law_near D__law_near T c_pick c_spell
  have c_page := cl__law_page D__law_page T c_pick c_near
  have c_lru := cl__law_rule D__law_rule T c_pick
  have c_isv := cl_is_value D_is_value T c_ist
  have c_isp := cl_is_page D_is_page T c_isv
  have c_ckp := cl_check_page D_check_page T c_isp
  have c_lacn := cl_lacks_note (P := l.prog) (w := w) (base := base) D_lacks_note T
  have c_lon := cl_low_note (P := l.prog) (w := w) (base := base) D_low_note T
  have c_hin := cl_high_note D_high_note T c_bey
  have c_note := cl_note D_note T c_ckr c_ckp c_asc c_lacn c_lon c_hin
  have c_lbe := cl__law_beyond (P := l.prog) (w := w) (base := base) D__law_beyond T
  have c_llo := cl__law_low (P := l.prog) (w := w) (base := base) D__law_low T
  have c_lhi := cl__law_high D__law_high T c_lbe
  have c_lno := cl__law_note D__law_note T c_llo c_lhi
  have c_beh := cl_behind D_behind T c_ckt
  have c_cut := cl_texts_cut_to D_texts_cut_to T c_ist c_bey c_beh
  have c_led := cl_texts_led_beyond D_texts_led_beyond T TG c_ist c_beh
  have c_lea := cl_least_texts D_least_texts T c_cut
  have c_gre := cl_greatest_texts D_greatest_texts T c_cut c_led
  have c_bot := cl_in_both D_in_both T c_asc
  have c_rw := cl_ranges_with D_ranges_with T c_lea c_gre c_bot
  have c_can := cl_can_have D_can_have T c_rw
  have c_lef := cl_numbers_left (P := l.prog) (w := w) (base := base) D_numbers_left T
  have c_pos := cl_possible_numbers D_possible_numbers T c_lef c_can
  have c_cnt := cl_are_counts (P := l.prog) (w := w) (base := base) D_are_counts T
  have c_isn := cl_is_note D_is_note T c_ckr c_cnt c_pos
  have c_ckn := cl_check_note D_check_note T c_isn
  have c_isr := range_of (cl_is_range D_is_range T c_ist)
  have c_rea := cl_reachesG (P := l.prog) (w := w) (base := base) D_reaches T
  have c_ckg := cl_check_ranges D_check_ranges T c_isr
  have c_lat := cl_later_end (P := l.prog) (w := w) (base := base) D_later_end T
  have c_ascS := cl_ascendingS (P := l.prog) (w := w) (base := base) D_ascending T
  have c_spo := cl_span_of D_span_of T c_ckg c_lat c_ascS c_rea
  have c_ptx := cl_possible_texts D_possible_texts T c_pos c_rw c_spo
  have c_istF := cl_is_textF (P := l.prog) (w := w) (base := base) D_is_text T
  have c_isrF := cl_is_rangeF D_is_range T c_istF
  have c_reaF := cl_reaches (P := l.prog) (w := w) (base := base) D_reaches T
  have c_iss := cl_is_span D_is_span T c_isrF c_reaF
  have c_cks := cl_check_span D_check_span T c_iss
  have c_opp := cl_opposite D_opposite T c_cks
  have c_cktF := cl_check_textF D_check_text T c_istF
  have c_behF := cl_behindF D_behind T c_cktF
  have c_beyF := cl_beyondF D_beyond T TG c_cktF
  have c_mt := cl_matching_texts D_matching_texts T c_behF c_beyF
  have c_ja := cl_joined_all D_joined_all T c_spo
  have c_pass := pass_all D_passing_texts T TG c_opp c_ja c_spo c_behF c_mt 11
  have c_isf := (both_filter (P := l.prog) (w := w) (base := base) D_is_text D_is_filter D_can_follow T 11).1
  have c_ckf := cl_check_filter D_check_filter T c_isf
  have c_yes := cl_yes_or_no (P := l.prog) (w := w) (base := base) D_yes_or_no T
  have c_set := cl_settled (P := l.prog) (w := w) (base := base) D_settled T
  have c_mat := cl_matches (P := l.prog) (w := w) (base := base) D_matches T
  have c_ans := ans_all D_answer_to T TG c_yes c_set c_mat 11
  have c_pas := cl_passes D_passes T c_ans
  have c_jn := cl_joined D_joined T c_cks c_spo
  have c_sh := cl_shared D_shared T c_opp c_jn
  have c_clk := cl_can_lack D_can_lack T c_pos
  have c_bars := cl_bars (n := 11) D_bars T c_ckn c_ckf c_pas c_clk c_sh c_ptx c_pass (by decide) (by decide) (by decide)
  have c_gra := cl_grants (n := 11) D_grants T c_ckn c_ckf c_pas c_clk c_opp c_sh c_ptx c_pass (by decide) (by decide) (by decide)
  have c_ltx := cl_least_text D_least_text T c_cks
  have c_has := cl_has D_has T c_cks c_cktF
  have c_pa := cl_page_around D_page_around T c_lea c_gre c_has
  have c_pf := cl_page_for (n := 11) D_page_for T c_ckn c_ckf c_pas c_pos c_rw c_spo c_sh c_pass c_ltx c_pa (by decide) (by decide) (by decide)
  have c_lq := lq_all D__law_query T c_pick c_near 3
  have c_lan := lan_all (P := l.prog) (w := w) (base := base) D__law_answer T 11
  have c_oth := cl__law_others (n := 11) D__law_others T c_lan
  have c_shn := cl__law_shown (n := 11) D__law_shown T c_pf c_lan c_lno (by decide)
  exact cl_law D_law T c_bag c_pick c_stems c_page c_lru c_note c_lno c_lq c_lan c_oth c_bars c_gra c_pf c_shn
end
end Kq
open PySem PySem.W PyProof.Rows in
set_option maxRecDepth 100000 in
set_option maxHeartbeats 0 in
theorem PySem.Challenge.cw_pageskips_k26_whole_no_value_is_lost_holds : PySem.Challenge.rw_pageskips_k26_whole_no_value_is_lost.Holds := by
  w_on; o_law; k_head; (case hw => w_witness2)
  k_fill
  refine Pg.walk_g (l := PySem.Challenge.rw_pageskips_k26_whole_no_value_is_lost) (n := 63) (k := 36) (x := "script") (sp := fun w => Kq.spLaw _) rfl (by decide) rfl ⟨rfl, by decide, by decide⟩ (fun w h Y => PySem.W.kIn_of Y) ?F (fun _ _ a ns hl _ hS => ⟨a, ns, rfl, hS, hl, fun _ => rfl⟩)
  case F =>
    intro w mg fa h KX G hmg
    refine' Kq.all_mk KX G hmg ?a0 ?l0 ?c0 ?k0 ?a1 ?l1 ?c1 ?k1 ?a2 ?l2 ?c2 ?k2 ?a3 ?l3 ?c3 ?k3 ?a4 ?l4 ?c4 ?k4 ?a5 ?l5 ?c5 ?k5 ?a6 ?l6 ?c6 ?k6 ?a7 ?l7 ?c7 ?k7 ?a8 ?l8 ?c8 ?k8 ?a9 ?l9 ?c9 ?k9 ?a10 ?l10 ?c10 ?k10 ?a11 ?l11 ?c11 ?k11 ?a12 ?l12 ?c12 ?k12 ?a13 ?l13 ?c13 ?k13 ?a14 ?l14 ?c14 ?k14 ?a15 ?l15 ?c15 ?k15 ?a16 ?l16 ?c16 ?k16 ?a17 ?l17 ?c17 ?k17 ?a18 ?l18 ?c18 ?k18 ?a19 ?l19 ?c19 ?k19 ?a20 ?l20 ?c20 ?k20 ?a21 ?l21 ?c21 ?k21 ?a22 ?l22 ?c22 ?k22 ?a23 ?l23 ?c23 ?k23 ?a24 ?l24 ?c24 ?k24 ?a25 ?l25 ?c25 ?k25 ?a26 ?l26 ?c26 ?k26 ?a27 ?l27 ?c27 ?k27 ?a28 ?l28 ?c28 ?k28 ?a29 ?l29 ?c29 ?k29 ?a30 ?l30 ?c30 ?k30 ?a31 ?l31 ?c31 ?k31 ?a32 ?l32 ?c32 ?k32 ?a33 ?l33 ?c33 ?k33 ?a34 ?l34 ?c34 ?k34 ?a35 ?l35 ?c35 ?k35 ?a36 ?l36 ?c36 ?k36 ?a37 ?l37 ?c37 ?k37 ?a38 ?l38 ?c38 ?k38 ?a39 ?l39 ?c39 ?k39 ?a40 ?l40 ?c40 ?k40 ?a41 ?l41 ?c41 ?k41 ?a42 ?l42 ?c42 ?k42 ?a43 ?l43 ?c43 ?k43 ?a44 ?l44 ?c44 ?k44 ?a45 ?l45 ?c45 ?k45 ?a46 ?l46 ?c46 ?k46 ?a47 ?l47 ?c47 ?k47 ?a48 ?l48 ?c48 ?k48 ?a49 ?l49 ?c49 ?k49 ?a50 ?l50 ?c50 ?k50 ?a51 ?l51 ?c51 ?k51 ?a52 ?l52 ?c52 ?k52 ?a53 ?l53 ?c53 ?k53 ?a54 ?l54 ?c54 ?k54 ?a55 ?l55 ?c55 ?k55 ?a56 ?l56 ?c56 ?k56 ?a57 ?l57 ?c57 ?k57 ?a58 ?l58 ?c58 ?k58 ?a59 ?l59 ?c59 ?k59 ?a60 ?l60 ?c60 ?k60 ?a61 ?l61 ?c61 ?k61 ?a62 ?l62 ?c62 ?k62 ?a63 ?l63 ?c63 ?k63 ?a64 ?l64 ?c64 ?k64 ?a65 ?l65 ?c65 ?k65 ?a66 ?l66 ?c66 ?k66 ?a67 ?l67 ?c67 ?k67 ?a68 ?l68 ?c68 ?k68 ?a69 ?l69 ?c69 ?k69 ?a70 ?l70 ?c70 ?k70 ?a71 ?l71 ?c71 ?k71 ?a72 ?l72 ?c72 ?k72 ?a73 ?l73 ?c73 ?k73 ?a74 ?l74 ?c74 ?k74 ?a75 ?l75 ?c75 ?k75 ?aN0 ?lN0 ?kN0 ?vN0_0 ?vN0_1 ?aN1 ?lN1 ?kN1 ?vN1_0 ?vN1_1 ?lw1 ?ow0 ?ow1 ?aN2 ?lN2 ?kN2 ?vN2_0 ?vN2_1 ?vN2_2 ?lw2 ?aE ?lEA ?lEB ?z0 ?z1 ?z2 ?z3 ?z4 ?z5 ?z6 ?z7 ?z8 ?z9 ?z10 ?z11 ?z12 ?z13 ?z14 ?z15 ?z16 ?z17
    (case a0 => k_is)
    (case l0 => k_is)
    (case c0 => k_is)
    (case k0 => k_is)
    (case a1 => k_is)
    (case l1 => k_is)
    (case c1 => k_is)
    (case k1 => k_is)
    (case a2 => k_is)
    (case l2 => k_is)
    (case c2 => k_is)
    (case k2 => k_is)
    (case a3 => k_is)
    (case l3 => k_is)
    (case c3 => k_is)
    (case k3 => k_is)
    (case a4 => k_is)
    (case l4 => k_is)
    (case c4 => k_is)
    (case k4 => k_is)
    (case a5 => k_is)
    (case l5 => k_is)
    (case c5 => k_is)
    (case k5 => k_is)
    (case a6 => k_is)
    (case l6 => k_is)
    (case c6 => k_is)
    (case k6 => k_is)
    (case a7 => k_is)
    (case l7 => k_is)
    (case c7 => k_is)
    (case k7 => k_is)
    (case a8 => k_is)
    (case l8 => k_is)
    (case c8 => k_is)
    (case k8 => k_is)
    (case a9 => k_is)
    (case l9 => k_is)
    (case c9 => k_is)
    (case k9 => k_is)
    (case a10 => k_is)
    (case l10 => k_is)
    (case c10 => k_is)
    (case k10 => k_is)
    (case a11 => k_is)
    (case l11 => k_is)
    (case c11 => k_is)
    (case k11 => k_is)
    (case a12 => k_is)
    (case l12 => k_is)
    (case c12 => k_is)
    (case k12 => k_is)
    (case a13 => k_is)
    (case l13 => k_is)
    (case c13 => k_is)
    (case k13 => k_is)
    (case a14 => k_is)
    (case l14 => k_is)
    (case c14 => k_is)
    (case k14 => k_is)
    (case a15 => k_is)
    (case l15 => k_is)
    (case c15 => k_is)
    (case k15 => k_is)
    (case a16 => k_is)
    (case l16 => k_is)
    (case c16 => k_is)
    (case k16 => k_is)
    (case a17 => k_is)
    (case l17 => k_is)
    (case c17 => k_is)
    (case k17 => k_is)
    (case a18 => k_is)
    (case l18 => k_is)
    (case c18 => k_is)
    (case k18 => k_is)
    (case a19 => k_is)
    (case l19 => k_is)
    (case c19 => k_is)
    (case k19 => k_is)
    (case a20 => k_is)
    (case l20 => k_is)
    (case c20 => k_is)
    (case k20 => k_is)
    (case a21 => k_is)
    (case l21 => k_is)
    (case c21 => k_is)
    (case k21 => k_is)
    (case a22 => k_is)
    (case l22 => k_is)
    (case c22 => k_is)
    (case k22 => k_is)
    (case a23 => k_is)
    (case l23 => k_is)
    (case c23 => k_is)
    (case k23 => k_is)
    (case a24 => k_is)
    (case l24 => k_is)
    (case c24 => k_is)
    (case k24 => k_is)
    (case a25 => k_is)
    (case l25 => k_is)
    (case c25 => k_is)
    (case k25 => k_is)
    (case a26 => k_is)
    (case l26 => k_is)
    (case c26 => k_is)
    (case k26 => k_is)
    (case a27 => k_is)
    (case l27 => k_is)
    (case c27 => k_is)
    (case k27 => k_is)
    (case a28 => k_is)
    (case l28 => k_is)
    (case c28 => k_is)
    (case k28 => k_is)
    (case a29 => k_is)
    (case l29 => k_is)
    (case c29 => k_is)
    (case k29 => k_is)
    (case a30 => k_is)
    (case l30 => k_is)
    (case c30 => k_is)
    (case k30 => k_is)
    (case a31 => k_is)
    (case l31 => k_is)
    (case c31 => k_is)
    (case k31 => k_is)
    (case a32 => k_is)
    (case l32 => k_is)
    (case c32 => k_is)
    (case k32 => k_is)
    (case a33 => k_is)
    (case l33 => k_is)
    (case c33 => k_is)
    (case k33 => k_is)
    (case a34 => k_is)
    (case l34 => k_is)
    (case c34 => k_is)
    (case k34 => k_is)
    (case a35 => k_is)
    (case l35 => k_is)
    (case c35 => k_is)
    (case k35 => k_is)
    (case a36 => k_is)
    (case l36 => k_is)
    (case c36 => k_is)
    (case k36 => k_is)
    (case a37 => k_is)
    (case l37 => k_is)
    (case c37 => k_is)
    (case k37 => k_is)
    (case a38 => k_is)
    (case l38 => k_is)
    (case c38 => k_is)
    (case k38 => k_is)
    (case a39 => k_is)
    (case l39 => k_is)
    (case c39 => k_is)
    (case k39 => k_is)
    (case a40 => k_is)
    (case l40 => k_is)
    (case c40 => k_is)
    (case k40 => k_is)
    (case a41 => k_is)
    (case l41 => k_is)
    (case c41 => k_is)
    (case k41 => k_is)
    (case a42 => k_is)
    (case l42 => k_is)
    (case c42 => k_is)
    (case k42 => k_is)
    (case a43 => k_is)
    (case l43 => k_is)
    (case c43 => k_is)
    (case k43 => k_is)
    (case a44 => k_is)
    (case l44 => k_is)
    (case c44 => k_is)
    (case k44 => k_is)
    (case a45 => k_is)
    (case l45 => k_is)
    (case c45 => k_is)
    (case k45 => k_is)
    (case a46 => k_is)
    (case l46 => k_is)
    (case c46 => k_is)
    (case k46 => k_is)
    (case a47 => k_is)
    (case l47 => k_is)
    (case c47 => k_is)
    (case k47 => k_is)
    (case a48 => k_is)
    (case l48 => k_is)
    (case c48 => k_is)
    (case k48 => k_is)
    (case a49 => k_is)
    (case l49 => k_is)
    (case c49 => k_is)
    (case k49 => k_is)
    (case a50 => k_is)
    (case l50 => k_is)
    (case c50 => k_is)
    (case k50 => k_is)
    (case a51 => k_is)
    (case l51 => k_is)
    (case c51 => k_is)
    (case k51 => k_is)
    (case a52 => k_is)
    (case l52 => k_is)
    (case c52 => k_is)
    (case k52 => k_is)
    (case a53 => k_is)
    (case l53 => k_is)
    (case c53 => k_is)
    (case k53 => k_is)
    (case a54 => k_is)
    (case l54 => k_is)
    (case c54 => k_is)
    (case k54 => k_is)
    (case a55 => k_is)
    (case l55 => k_is)
    (case c55 => k_is)
    (case k55 => k_is)
    (case a56 => k_is)
    (case l56 => k_is)
    (case c56 => k_is)
    (case k56 => k_is)
    (case a57 => k_is)
    (case l57 => k_is)
    (case c57 => k_is)
    (case k57 => k_is)
    (case a58 => k_is)
    (case l58 => k_is)
    (case c58 => k_is)
    (case k58 => k_is)
    (case a59 => k_is)
    (case l59 => k_is)
    (case c59 => k_is)
    (case k59 => k_is)
    (case a60 => k_is)
    (case l60 => k_is)
    (case c60 => k_is)
    (case k60 => k_is)
    (case a61 => k_is)
    (case l61 => k_is)
    (case c61 => k_is)
    (case k61 => k_is)
    (case a62 => k_is)
    (case l62 => k_is)
    (case c62 => k_is)
    (case k62 => k_is)
    (case a63 => k_is)
    (case l63 => k_is)
    (case c63 => k_is)
    (case k63 => k_is)
    (case a64 => k_is)
    (case l64 => k_is)
    (case c64 => k_is)
    (case k64 => k_is)
    (case a65 => k_is)
    (case l65 => k_is)
    (case c65 => k_is)
    (case k65 => k_is)
    (case a66 => k_is)
    (case l66 => k_is)
    (case c66 => k_is)
    (case k66 => k_is)
    (case a67 => k_is)
    (case l67 => k_is)
    (case c67 => k_is)
    (case k67 => k_is)
    (case a68 => k_is)
    (case l68 => k_is)
    (case c68 => k_is)
    (case k68 => k_is)
    (case a69 => k_is)
    (case l69 => k_is)
    (case c69 => k_is)
    (case k69 => k_is)
    (case a70 => k_is)
    (case l70 => k_is)
    (case c70 => k_is)
    (case k70 => k_is)
    (case a71 => k_is)
    (case l71 => k_is)
    (case c71 => k_is)
    (case k71 => k_is)
    (case a72 => k_is)
    (case l72 => k_is)
    (case c72 => k_is)
    (case k72 => k_is)
    (case a73 => k_is)
    (case l73 => k_is)
    (case c73 => k_is)
    (case k73 => k_is)
    (case a74 => k_is)
    (case l74 => k_is)
    (case c74 => k_is)
    (case k74 => k_is)
    (case a75 => k_is)
    (case l75 => k_is)
    (case c75 => k_is)
    (case k75 => k_is)
    (case aN0 => k_is)
    (case lN0 => k_is)
    (case kN0 => k_keys)
    (case vN0_0 => k_is)
    (case vN0_1 => k_is)
    (case aN1 => k_is)
    (case lN1 => k_is)
    (case kN1 => k_keys)
    (case vN1_0 => k_is)
    (case vN1_1 => k_is)
    (case lw1 => first | rfl | decide | k_is)
    (case ow0 => k_is)
    (case ow1 => k_is)
    (case aN2 => k_is)
    (case lN2 => k_is)
    (case kN2 => k_keys)
    (case vN2_0 => k_is)
    (case vN2_1 => k_is)
    (case vN2_2 => k_is)
    (case lw2 => first | rfl | decide | k_is)
    (case aE => k_is)
    (case lEA => k_is)
    (case lEB => k_is)
    (case z0 => k_is)
    (case z1 => k_is)
    (case z2 => k_is)
    (case z3 => k_is)
    (case z4 => k_is)
    (case z5 => k_is)
    (case z6 => k_is)
    (case z7 => k_is)
    (case z8 => k_is)
    (case z9 => k_is)
    (case z10 => k_is)
    (case z11 => k_is)
    (case z12 => k_is)
    (case z13 => k_is)
    (case z14 => k_is)
    (case z15 => k_is)
    (case z16 => k_is)
    (case z17 => k_is)

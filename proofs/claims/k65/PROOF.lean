import PyProof.Rows.All
import Wide.All
import OpenK.AllK
import Wide.FinOn
import HandS.ForMost
import HandS.Wide
import HandS.TupAny
import HandS.ExcValue
import HandS.Style
import HandS.More
import HandS.Defaults
import HandS.EndBits
import HandS.Flow
import HandS.Zip
import HandS.Star
import HandS.StrMore
import HandS.Set
import HandS.SetTxt0
import HandS.IsInst
import HandS.ExcIs
import KE.KRevSl
import PyProof.Rows.SortShellAny
import HandS.RaiseMore
import HandS.Conv
import HandS.IsInst
import HandS.ExcIs
import KE.KRevSl
import PyProof.InstEq
import KE.DataMinMax
import HandS.SortKw
import HandS.ExcOwn
import HandS.ExcValue
import HandS.WordsExc
import HandS.ExcInit
import HandS.ExcField
import KE.KExcIs
import HandS.FStr
import HandS.Star
import HandS.NoneIn
import PyProof.StrLaws
import PyProof.Rows.StrFit
import PySem.Challenge.RW_pageskips_k65_nothing_to_write
set_option Elab.async false
set_option linter.all false
set_option maxRecDepth 100000
set_option maxHeartbeats 2000000
namespace Pg
open PySem PySem.Spec PyProof.Rows L2
/-! ### heaps: what a piece of the program keeps -/
/-- all that was tracked outside of S stands as it was; in S lists stay lists -/
structure Stp (S : List Addr) (H H' : Hp) : Prop where
  kp : ∀ a o, a ∉ S → H a = some o → H' a = some o
  ls : ∀ a xs, H a = some (.lst xs) → ∃ ys, H' a = some (.lst ys)
theorem Stp.refl (S : List Addr) (H : Hp) : Stp S H H := ⟨fun _ _ _ h => h, fun _ xs h => ⟨xs, h⟩⟩
theorem Stp.trans {S : List Addr} {H H1 H2 : Hp} (a : Stp S H H1) (b : Stp S H1 H2) : Stp S H H2 :=
  ⟨fun x o n h => b.kp x o n (a.kp x o n h), fun x xs h => by
    obtain ⟨ys, h1⟩ := a.ls x xs h
    exact b.ls x ys h1⟩
theorem Stp.sub {S S' : List Addr} {H H' : Hp} (a : Stp S H H') (h : ∀ x ∈ S, x ∈ S') : Stp S' H H' :=
  ⟨fun x o n q => a.kp x o (fun m => n (h x m)) q, a.ls⟩
theorem Stp.nil {S : List Addr} {H H' : Hp} (a : Stp [] H H') : Stp S H H' := a.sub fun _ h => nomatch h
theorem Stp.new {H : Hp} {p : Addr} {o : HO} (h : H p = none) (S : List Addr) : Stp S H (upd H p o) :=
  ⟨fun x u _ q => by rw [upd_ne (ne_of_none q h)]; exact q, fun x xs q => ⟨xs, by rw [upd_ne (ne_of_none q h)]; exact q⟩⟩
theorem Stp.put {S : List Addr} {H : Hp} {p : Addr} {ys : List V} (m : p ∈ S) : Stp S H (upd H p (.lst ys)) :=
  ⟨fun x u n q => by
    rw [upd_ne (fun e => n (by rw [e]; exact m))]
    exact q, fun x xs q => by
    by_cases e : x = p
    · subst e
      exact ⟨ys, upd_same⟩
    · exact ⟨xs, by rw [upd_ne e]; exact q⟩⟩
/-- a local object: it was not there -/
theorem Stp.loc {S : List Addr} {H H' : Hp} {p : Addr} (h : H p = none) (a : Stp (p :: S) H H') : Stp S H H' :=
  ⟨fun x o n q => a.kp x o (fun m => by
    rcases List.mem_cons.mp m with e | m
    · exact ne_of_none q h e
    · exact n m) q, a.ls⟩
theorem Stp.fresh {S : List Addr} {H H' : Hp} {p : Addr} (a : Stp S H H') (n : p ∉ S) (h : H' p = none) : H p = none := by
  cases e : H p with
  | none => rfl
  | some o =>
    rw [a.kp p o n e] at h
    cases h
/-- a list that was not there is changed -/
theorem Stp.mut {S : List Addr} {H H' : Hp} {p : Addr} {ys : List V} (a : Stp S H H') (h : H p = none) : Stp S H (upd H' p (.lst ys)) :=
  ⟨fun x o n q => by
    rw [upd_ne (ne_of_none q h)]
    exact a.kp x o n q, fun x xs q => by
    rw [upd_ne (ne_of_none q h)]
    exact a.ls x xs q⟩
theorem Stp.put' {S : List Addr} {H H' : Hp} {p : Addr} {ys : List V} (a : Stp S H H') (m : p ∈ S) : Stp S H (upd H' p (.lst ys)) := a.trans (Stp.put m)
theorem Stp.new' {S : List Addr} {H H' : Hp} {p : Addr} {o : HO} (a : Stp S H H') (h : H' p = none) : Stp S H (upd H' p o) := a.trans (Stp.new h S)
/-- only the list at p may differ -/
def Only (p : Addr) (H H' : Hp) : Prop := ∃ ys, H' = upd H p (.lst ys)
theorem Only.at {p q : Addr} {H H' : Hp} {o : HO} (h : Only p H H') (e : H q = some o) (n : q ≠ p) : H' q = some o := by
  obtain ⟨ys, rfl⟩ := h
  rw [upd_ne n]
  exact e
theorem Only.stp {p : Addr} {H H' : Hp} {S : List Addr} (h : Only p H H') (m : p ∈ S) : Stp S H H' := by
  obtain ⟨ys, rfl⟩ := h
  exact Stp.put m

/-! ### the draws -/
def BagV (x y z : Int) (n : Nat) : Prop := 0 ≤ x ∧ 0 ≤ y ∧ y < 2 ^ 40 ∧ 0 ≤ z ∧ z ≤ (n : Int)
/-- a bag stands at b, from which at most n draws have been made -/
def Bag (H : Hp) (b : Addr) (n : Nat) : Prop := ∃ x y z, H b = some (.lst [.int x, .int y, .int z]) ∧ BagV x y z n
theorem Bag.mono {H : Hp} {b : Addr} {n m : Nat} (h : Bag H b n) (e : n ≤ m) : Bag H b m := by
  obtain ⟨x, y, z, h1, h2, h3, h4, h5, h6⟩ := h
  exact ⟨x, y, z, h1, h2, h3, h4, h5, by omega⟩
theorem Bag.kp {H H' : Hp} {b : Addr} {n : Nat} {S : List Addr} (h : Bag H b n) (s : Stp S H H') (m : b ∉ S) : Bag H' b n := by
  obtain ⟨x, y, z, h1, h2⟩ := h
  exact ⟨x, y, z, s.kp _ _ m h1, h2⟩
theorem Bag.upd {H : Hp} {b p : Addr} {n : Nat} {o : HO} (h : Bag H b n) (e : b ≠ p) : Bag (L2.upd H p o) b n := by
  obtain ⟨x, y, z, h1, h2⟩ := h
  exact ⟨x, y, z, by rw [upd_ne e]; exact h1, h2⟩
theorem Bag.ne {H : Hp} {b p : Addr} {n : Nat} (h : Bag H b n) (q : H p = none) : b ≠ p := by
  obtain ⟨x, y, z, h1, h2⟩ := h
  exact ne_of_none h1 q
theorem cmul {i j : Int} (a b : Nat) (h1 : 0 ≤ i) (h2 : i < 2 ^ a) (h3 : 0 ≤ j) (h4 : j < 2 ^ b) (ha : 0 < a) (hb : 0 < b) (h : a + b ≤ 1000000) : CMulW i j := by
  refine wide_mul (a := a) (b := b) ?_ ?_ ha hb h
  · have e : ((i.natAbs : Nat) : Int) < ((2 ^ a : Nat) : Int) := by
      rw [Int.natAbs_of_nonneg h1, Int.natCast_pow]
      exact h2
    exact Int.ofNat_lt.mp e
  · have e : ((j.natAbs : Nat) : Int) < ((2 ^ b : Nat) : Int) := by
      rw [Int.natAbs_of_nonneg h3, Int.natCast_pow]
      exact h4
    exact Int.ofNat_lt.mp e
theorem cdiv {i j : Int} (b : Nat) (h1 : 0 < j) (h2 : j < 2 ^ b) (hb : 0 < b) (h9 : b ≤ 9000) : CDivW i j := by
  refine wide_div (b := b) h1 ?_ hb h9
  have e : ((j.natAbs : Nat) : Int) < ((2 ^ b : Nat) : Int) := by
    rw [Int.natAbs_of_nonneg (by omega), Int.natCast_pow]
    exact h2
  exact Int.ofNat_lt.mp e
theorem mul_lt {i j : Int} {a b : Nat} (h1 : 0 ≤ i) (h2 : i < 2 ^ a) (h3 : 0 ≤ j) (h4 : j < 2 ^ b) : 0 ≤ i * j ∧ i * j < 2 ^ (a + b) := by
  refine ⟨Int.mul_nonneg h1 h3, ?_⟩
  have e1 : i * j ≤ i * 2 ^ b := Int.mul_le_mul_of_nonneg_left (Int.le_of_lt h4) h1
  have hp : (0 : Int) < 2 ^ b := Int.pow_pos (by omega)
  have e2 : i * 2 ^ b < 2 ^ a * 2 ^ b := Int.mul_lt_mul_of_pos_right h2 hp
  rw [Int.pow_add]
  omega
/-- a letter for a number -/
theorem genQ {Q : V → Hp → Prop} {H : Hp} {i : Int} (h : ∀ t, t = i → Q (.int t) H) : Q (.int i) H := h i rfl
/-! ### rules of my own -/
section
variable {X : Cx}
/-- 'a' * n -/
theorem op_mul_str : OpR X (binaryOp .Mult) (fun x y H Q => ∃ i j, x = .str i ∧ y = .int j ∧ MulOk i j ∧ Q (.str (Txt.mul i j)) H) := by
  intro pins s σ H x y v u Q I rx ry h
  obtain ⟨i, j, rfl, rfl, hz, q⟩ := h
  obtain ⟨t, rfl⟩ := rx
  obtain ⟨t', rfl⟩ := ry
  exact SB.mul hz (fun t' k => ⟨.str (Txt.mul i j), H, I.tok _, ⟨_, rfl⟩, q⟩)
end
end Pg
namespace Pg
open PySem PySem.Spec PyProof.Rows L2
/-! ### a def of the text: where it stands, what it keeps -/
/-- a def of the text, found by its name -/
structure Df (K : PySem.W.Frag) (mg : Str → Option Value) (x : Str) (st : Stmt) (ps : List Str) (f : Addr) (fd : FuncData) : Prop where
  fn : Fun K x x st f fd
  at_ : mg x = some (.ref f)
  bd : Binds K fd ps []
/-- .. with its promise -/
structure Cl (P : Program) (w : World) (K : PySem.W.Frag) (mg : Str → Option Value) (base : Heap) (k : Nat) (x : Str) (st : Stmt) (ps : List Str) (sp : Sp) : Prop where
  ex : ∃ f fd, Df K mg x st ps f fd ∧ FnOk P w K mg base CX0 k f fd ps sp
theorem Cl.mono {P : Program} {w : World} {K : PySem.W.Frag} {mg : Str → Option Value} {base : Heap} {j k : Nat} {x : Str} {st : Stmt} {ps : List Str} {sp : Sp} (c : Cl P w K mg base j x st ps sp) (h : j ≤ k) : Cl P w K mg base k x st ps sp := by
  obtain ⟨f, fd, D, F⟩ := c.ex
  exact ⟨f, fd, D, F.mono h⟩
theorem Df.cl {P : Program} {w : World} {K : PySem.W.Frag} {mg : Str → Option Value} {base : Heap} {x : Str} {st : Stmt} {f : Addr} {fd : FuncData} {N ps : List Str} {k : Nat} {sp : Sp} (D : Df K mg x st ps f fd) (S : FnScope N ps (defScope st)) (len : ∀ vs H Q E, sp vs H Q E → vs.length = ps.length)
    (hbody : ∀ (cdv : Value) (A : Around) (outer : List Env) (s : Shared) (H : Hp) (vs : List V) (Q : VK) (E : XK), Room k (A.deeper (envOfC x (defScope st) s.heap.objs.size f cdv)) → sp vs H Q E →
      ∃ t, PSs (cxOf CX0 P w K mg base N x (defScope st) f cdv A outer s H E).nox (defBody st) t ∧ t { nx := fun _ H' => Q .non H', rt := Q } (start N vs) H) : Cl P w K mg base (k + 1) x st ps sp :=
  ⟨f, fd, D, D.fn.ok S len hbody⟩
def tCl (sp : Sp) (t : TA) : TE := fun σ H Q => t σ H fun vs H1 => sp vs H1 Q E0
section
variable {X : Cx} {j k : Nat} {st : Stmt} {ps : List Str} {sp : Sp} {x : Str} {p pos : Pos} {e : Expr} {es : List Expr} {t : TA}
theorem pe_cl (c : Cl X.prog X.w X.K X.mg X.base k x st ps sp) (hr : Room j X.A) (hk : k ≤ j) (ha : PA X (e :: es) t) (hg : Gl X x := by rfl) (hdb : (x == ("__debug__" : Str)) = false := by decide)
    (he : starEach (e :: es) X.env = (false, eval e X.env) :: starEach es X.env := by rfl) (hpl : (backTo pos (starEach es X.env)).any (·.1) = false := by rfl) :
    PE X (.Call (.Name x p) (e :: es) [] pos) (tCl sp t) := by
  obtain ⟨f, fd, D, F⟩ := c.ex
  refine ⟨fun pins s σ H Q I h => ?_⟩
  have q := (pe_call (E := E0) (p := p) (F.mono hk) hr hg D.at_ D.fn.kp D.bd .nil pass0 ha hdb he hpl).run pins s σ H Q I
  refine q ?_
  have h' : t σ H (fun vs H1 => sp vs H1 Q E0) := h
  show t σ H fun vs H1 => sp (vs ++ []) H1 Q E0
  simp only [List.append_nil]
  exact h'
theorem pe_cl0 (c : Cl X.prog X.w X.K X.mg X.base k x st ps sp) (hr : Room j X.A) (hk : k ≤ j) (hg : Gl X x := by rfl) (hdb : (x == ("__debug__" : Str)) = false := by decide) :
    PE X (.Call (.Name x p) [] [] pos) (tCl sp tNil) := by
  obtain ⟨f, fd, D, F⟩ := c.ex
  exact pe_call0 (E := E0) (F.mono hk) hr hg D.at_ D.fn.kp D.bd .nil pass0 hdb
/-- f(k = v, ..) -/
def tClK (sp : Sp) (gV : List V → List V → List V) (tk : TA) : TE := fun σ H Q => tk σ H fun zs H1 => sp (gV [] zs) H1 Q E0
theorem pe_clK {ks : List Str} {g : List Value → List Value → List Value} {gV : List V → List V → List V} {kws : List Keyword} {tk : TA} (c : Cl X.prog X.w X.K X.mg X.base k x st ps sp) (hr : Room j X.A) (hk : k ≤ j)
    (hb : ∀ f fd, Fun X.K x x st f fd → KBinds X.K fd ps ks g gV) (hkw : PK X kws tk)
    (hg : Gl X x := by rfl) (hall : (backToKw pos (keywordEach kws X.env)).all (·.1.isSome) = true := by rfl) (hks : (backToKw pos (keywordEach kws X.env)).filterMap (·.1) = ks := by rfl) (hdb : (x == ("__debug__" : Str)) = false := by decide)
    (hpl : ((backTo pos (starEach [] X.env)).any (·.1) || (backToKw pos (keywordEach kws X.env)).any (·.1.isNone)) = false := by rfl) :
    PE X (.Call (.Name x p) [] kws pos) (tClK sp gV tk) := by
  obtain ⟨f, fd, D, F⟩ := c.ex
  refine ⟨fun pins s σ H Q I h => ?_⟩
  refine wpAny_Call_Name_kw (ld_glob I hg D.at_ ?_ hdb)
  refine PySem.W.callWith_KW0 (h₀ := X.base) I.ok.mod.kin D.fn.kp hall ?_ hpl
  refine thn (hkw.run pos pins s σ H _ I h) fun ws s2 ⟨zs, H2, I2, rz, q2⟩ => ⟨I2.kIn, ?_⟩
  rw [hks]
  exact run_fnk (E := E0) (us := []) (vs := []) (F.mono hk) hr (hb f fd D.fn) pass0 I2 .nil rz q2
end
/-- keywords alone, in an order of their own -/
theorem kb_of {K : PySem.W.Frag} {x : Str} {st : Stmt} {f : Addr} {fd : FuncData} {ps ks : List Str} {g : List Value → List Value} {gV : List V → List V} (F : Fun K x x st f fd) (hne : ps ≠ [])
    (h : ∀ (kV doc pm : Value) (an : Option Addr) (cdv ct : Value) (ws : List Value), (g ws).length = ps.length → bindArgs (PySem.W.fnOf x x (defArgs st) (defBody st) (defScope st) .none kV doc pm an cdv ct) ⟨[], ks.zip ws⟩ = pure (ps.zip (g ws)))
    (r : ∀ {zs : List V} {ws : List Value}, Vals zs ws → Vals (gV zs) (g ws)) : KBinds K fd ps ks (fun us ws => match us with | [] => g ws | _ :: _ => []) (fun vs zs => match vs with | [] => gV zs | _ :: _ => []) := by
  obtain ⟨oc, od, kV, doc, pm, an, cdv, ct, osl, rfl, lk, hcd⟩ := F.ex
  refine ⟨fun s us ws _ hl => ?_, fun {vs us zs ws} r1 r2 => ?_⟩
  · cases us with
    | nil => exact .of_eq (h kV doc pm an cdv ct ws hl)
    | cons u us => exact absurd (List.length_eq_zero_iff.mp hl.symm) hne
  · cases r1 with
    | nil => exact r r2
    | cons _ _ => exact .nil
end Pg
namespace Pg
open PySem PySem.Spec PyProof.Rows L2
open Builtin Builtin.Str
/-! ### texts as lists of letters -/
/-- the text of these signs -/
abbrev tx (l : List Nat) : Str := ⟨l.toArray⟩
abbrev Tx (l : List Nat) : V := .str (tx l)
/-- letters a, b, c alone -/
def Abc (l : List Nat) : Prop := ∀ c ∈ l, c = 97 ∨ c = 98 ∨ c = 99
theorem tx_inj {a b : List Nat} (h : tx a = tx b) : a = b := by
  have q : (tx a).cps.toList = (tx b).cps.toList := by rw [h]
  simpa using q
theorem tx_of (s : Str) : ∃ l, s = tx l := ⟨s.cps.toList, by cases s; simp [tx]⟩
theorem tx_len (l : List Nat) : (tx l).length = l.length := by simp [Str.length]
theorem tx_app (a b : List Nat) : tx a ++ tx b = tx (a ++ b) := by
  show (⟨a.toArray ++ b.toArray⟩ : Str) = _
  simp [tx]
theorem tx_cut (l : List Nat) (lo hi : Option Int) : cutS (tx l) lo hi = tx ((l.drop (HT.sIx l.length 0 lo)).take (HT.sIx l.length l.length hi - HT.sIx l.length 0 lo)) := by
  unfold cutS
  rw [tx_len]
theorem tx_upto (l : List Nat) (k : Nat) : cutS (tx l) none (some (k : Int)) = tx (l.take k) := by
  rw [tx_cut, HT.sIx_none, HT.sIx_nat]
  rw [List.drop_zero, Nat.sub_zero]
  rcases Nat.le_total k l.length with h | h
  · rw [Nat.min_eq_left h]
  · rw [Nat.min_eq_right h, List.take_of_length_le (Nat.le_refl _), List.take_of_length_le h]
theorem tx_init (l : List Nat) : cutS (tx l) none (some (-1)) = tx l.dropLast := by
  rw [tx_cut, HT.sIx_none]
  have e : HT.sIx l.length l.length (some (-1)) = l.length - 1 := by
    show (if (-1 : Int) < 0 then ((-1 : Int) + (l.length : Int)).toNat else min (-1 : Int).toNat l.length) = _
    rw [if_pos (by decide)]
    omega
  rw [e, List.drop_zero, Nat.sub_zero, ← List.dropLast_eq_take]
theorem tx_last (l : List Nat) : cutS (tx l) (some (-1)) none = tx (l.drop (l.length - 1)) := by
  rw [tx_cut, HT.sIx_none]
  have e : HT.sIx l.length 0 (some (-1)) = l.length - 1 := by
    show (if (-1 : Int) < 0 then ((-1 : Int) + (l.length : Int)).toNat else min (-1 : Int).toNat l.length) = _
    rw [if_pos (by decide)]
    omega
  rw [e]
  congr 2
  rw [List.take_of_length_le]
  rw [List.length_drop]
  exact Nat.le_refl _
theorem foldl_app_rep {α : Type} (c : α) : ∀ (n : Nat) (acc : Array α), (List.replicate n #[c]).foldl (· ++ ·) acc = acc ++ (List.replicate n c).toArray
  | 0, acc => by simp
  | n + 1, acc => by
    rw [List.replicate_succ, List.foldl_cons, foldl_app_rep c n, List.replicate_succ]
    apply Array.ext'
    simp
theorem tx_mul (c : Nat) (n : Int) : Txt.mul (tx [c]) n = tx (List.replicate n.toNat c) := by
  unfold Txt.mul
  by_cases h : n < 1
  · rw [if_pos h, show n.toNat = 0 by omega]
    rfl
  · rw [if_neg h]
    by_cases h1 : n = 1
    · subst h1
      rfl
    · rw [if_neg (by simp [h1, Str.length])]
      show (⟨(List.replicate n.toNat #[c]).foldl (· ++ ·) #[]⟩ : Str) = _
      rw [foldl_app_rep]
      simp [tx]
theorem mulOk (c : Nat) {n : Int} (h0 : -1000 ≤ n) (h1 : n ≤ 100000) : MulOk (tx [c]) n := by
  refine ⟨by simp; omega, fun a b q => ?_, fun a b => ?_⟩
  · rw [tx_len] at q
    have e : (1 : Int) ≤ (2 ^ 63 - 1) / n := by
      have hp : 0 < n := by omega
      exact (Int.le_ediv_iff_mul_le hp).mpr (by omega)
    have q' : (([c].length : Nat) : Int) = 1 := rfl
    rw [q'] at q
    have e2 : (1 : Int) > (2 ^ 63 - 1) / n := q
    exact absurd e (by omega)
  · rw [tx_len]
    have e : ([c].length * n.toNat) ≤ sizeLine := Nat.le_trans (show [c].length * n.toNat ≤ 100000 by simp; omega) (by decide)
    unfold tooLong
    simpa using e
theorem foldl_app {α : Type} : ∀ (ps : List (List α)) (acc : Array α), (ps.map List.toArray).foldl (fun a p => a ++ p) acc = acc ++ ps.flatten.toArray
  | [], acc => by simp
  | p :: ps, acc => by
    rw [List.map_cons, List.foldl_cons, foldl_app ps, List.flatten_cons]
    apply Array.ext'
    simp
theorem join_abc (cs : List Nat) : Txt.join (tx []) (cs.map fun c => tx [c]) = tx cs := by
  cases cs with
  | nil => rfl
  | cons c cs =>
    show (⟨((cs.map fun c => tx [c])).foldl (fun acc p => acc ++ (tx []).cps ++ p.cps) (tx [c]).cps⟩ : Str) = _
    have e : ∀ (l : List Nat) (acc : Array Nat), (l.map fun c => tx [c]).foldl (fun acc p => acc ++ (tx []).cps ++ p.cps) acc = acc ++ l.toArray := by
      intro l
      induction l with
      | nil => intro acc; simp
      | cons x l ih =>
        intro acc
        rw [List.map_cons, List.foldl_cons, ih]
        apply Array.ext'
        simp
    rw [e]
    simp [tx]
theorem Abc.nil : Abc [] := fun _ h => nomatch h
theorem Abc.app {a b : List Nat} (h : Abc a) (g : Abc b) : Abc (a ++ b) := fun c m => (List.mem_append.mp m).elim (h c) (g c)
theorem Abc.take {a : List Nat} (h : Abc a) (n : Nat) : Abc (a.take n) := fun c m => h c (List.mem_of_mem_take m)
theorem Abc.drop {a : List Nat} (h : Abc a) (n : Nat) : Abc (a.drop n) := fun c m => h c (List.mem_of_mem_drop m)
theorem Abc.init {a : List Nat} (h : Abc a) : Abc a.dropLast := fun c m => h c (List.dropLast_subset _ m)
theorem Abc.rep (n : Nat) {c : Nat} (h : c = 97 ∨ c = 98 ∨ c = 99) : Abc (List.replicate n c) := fun x m => by
  rw [(List.mem_replicate.mp m).2]
  exact h
theorem Abc.one {c : Nat} (h : c = 97 ∨ c = 98 ∨ c = 99) : Abc [c] := fun x m => by
  rw [List.mem_singleton.mp m]
  exact h
theorem abc_lit : ("abc" : Str) = tx [97, 98, 99] := by decide +kernel
theorem nil_lit : ("" : Str) = tx [] := by decide +kernel
theorem goes_abc (c : Nat) : (tx [97, 98, 99]).cps.contains c = true ↔ (c = 97 ∨ c = 98 ∨ c = 99) := by
  simp [tx]
/-- strip('abc') leaves nothing just of letters alone -/
theorem strip_abc (l : List Nat) : (Txt.stripChars (tx l) (tx [97, 98, 99]) = tx []) ↔ Abc l := by
  unfold Txt.stripChars
  rw [stripBy_eq]
  obtain ⟨a1, a2, a3⟩ := lo_facts (tx [97, 98, 99]).cps.contains (tx l)
  obtain ⟨b1, b2, b3, b4⟩ := hi_facts (tx [97, 98, 99]).cps.contains (tx l) _ a1
  generalize stripLo (tx [97, 98, 99]).cps.contains true (tx l) = lo at *
  generalize stripHi (tx [97, 98, 99]).cps.contains true (tx l) lo = hi at *
  have gd : ∀ k, (tx l).cps.getD k 0 = l.getD k 0 := fun k => by rw [← getD_list]
  have hlen : (tx l).length = l.length := tx_len l
  rw [hlen] at a1 a3 b2 b3
  have size : (strSub (tx l) lo hi).length = hi - lo := by
    unfold strSub Str.length
    simp
    omega
  constructor
  · intro h
    have e : hi - lo = 0 := by rw [← size, h]; rfl
    have e2 : hi = lo := by omega
    subst e2
    have all : ∀ k, k < l.length → (tx [97, 98, 99]).cps.contains (l.getD k 0) = true := fun k hk => by
      rw [← gd]
      by_cases q : k < hi
      · exact a2 k q
      · exact b3 k (by omega) hk
    intro c m
    obtain ⟨k, hk, rfl⟩ := List.mem_iff_getElem.mp m
    have := all k hk
    rw [List.getD_eq_getElem?_getD, List.getElem?_eq_getElem hk] at this
    exact (goes_abc _).mp this
  · intro h
    have e : lo = l.length := by
      rcases a3 with e | e
      · exact e
      · by_cases q : lo < l.length
        · rw [gd, List.getD_eq_getElem?_getD, List.getElem?_eq_getElem q] at e
          have := (goes_abc _).mpr (h _ (List.getElem_mem q))
          rw [Option.getD_some] at e
          rw [e] at this
          cases this
        · omega
    have z : (strSub (tx l) lo hi).length = 0 := by omega
    have : (strSub (tx l) lo hi).cps = #[] := Array.eq_empty_of_size_eq_zero z
    cases hh : strSub (tx l) lo hi with
    | mk c =>
      rw [hh] at this
      show (⟨c⟩ : Str) = ⟨#[]⟩
      rw [show c = #[] from this]
/-! ### picking -/
theorem pick {α : Type} {xs : List α} {d : Int} (h0 : 0 ≤ d) (h1 : d < (xs.length : Int)) : ∃ v, v ∈ xs ∧ atI xs d = some v := by
  obtain ⟨k, rfl⟩ := Int.eq_ofNat_of_zero_le h0
  have hk : k < xs.length := by omega
  exact ⟨xs[k], List.getElem_mem hk, atI_nat (List.getElem?_eq_getElem hk)⟩
theorem pick_int {ns : List Int} {d : Int} (h0 : 0 ≤ d) (h1 : d < (ns.length : Int)) : ∃ v, v ∈ ns ∧ atI (ns.map V.int) d = some (.int v) := by
  obtain ⟨v, m, e⟩ := pick (xs := ns.map V.int) h0 (by rw [List.length_map]; exact h1)
  obtain ⟨n, hn, rfl⟩ := List.mem_map.mp m
  exact ⟨n, hn, e⟩
theorem at0 {α : Type} {a : α} {l : List α} : atI (a :: l) 0 = some a := atI_nat (j := 0) rfl
theorem at1 {α : Type} {a b : α} {l : List α} : atI (a :: b :: l) 1 = some b := atI_nat (j := 1) rfl
theorem sz {n : Nat} (h : n ≤ 100000) : n ≤ sizeLine := Nat.le_trans h (by decide)
theorem szt {l : List Nat} (h : l.length ≤ 100000) : (tx l).length ≤ sizeLine := by
  rw [tx_len]
  exact sz h
theorem inV_str (s : Str) : ∀ ws : List Str, inV (.str s) (ws.map V.str) = decide (s ∈ ws)
  | [] => rfl
  | x :: ws => by
    have ih := inV_str s ws
    unfold inV at ih ⊢
    rw [List.map_cons, List.any_cons, ih]
    show ((x == s) || decide (s ∈ ws)) = _
    by_cases e : x = s
    · subst e
      simp
    · have : (x == s) = false := beq_eq_false_iff_ne.mpr e
      rw [this]
      simp
      exact fun q => absurd q.symm e
end Pg
namespace Pg
open PySem PySem.Spec PyProof.Rows L2
/-! ### lists of texts, compared -/
theorem strOk_abc {l : List Nat} (h : Abc l) : PyData.canLay0 (.str (tx l)) = true := by
  unfold PyData.canLay0 PyData.strOk
  simp
  intro c m
  rcases h c m with e | e | e <;> subst e <;> decide
theorem canLay_strs : ∀ {ls : List (List Nat)}, (∀ l ∈ ls, Abc l) → PyData.canLayAll0 (ls.map fun l => .str (tx l)) = true
  | [], _ => rfl
  | l :: ls, h => by
    show (PyData.canLay0 (.str (tx l)) && PyData.canLayAll0 (ls.map fun l => .str (tx l))) = true
    rw [strOk_abc (h l List.mem_cons_self), canLay_strs fun m q => h m (List.mem_cons_of_mem _ q)]
    rfl
theorem depth_strs : ∀ (ls : List (List Nat)), PyData.depthAll (ls.map fun l => .str (tx l)) = 0
  | [] => rfl
  | l :: ls => by
    show max 0 (PyData.depthAll (ls.map fun l => .str (tx l))) = 0
    rw [depth_strs ls]
    rfl
theorem shaped_strs {ls : List (List Nat)} (h : ∀ l ∈ ls, Abc l) : SeqAt.shaped (.list (ls.map fun l => .str (tx l))) = true := by
  unfold SeqAt.shaped
  rw [show PyData.canLay0 (.list (ls.map fun l => .str (tx l))) = true from canLay_strs h]
  rw [show PyData.depth (.list (ls.map fun l => .str (tx l))) = 0 + 1 by show PyData.depthAll _ + 1 = _; rw [depth_strs]]
  rfl
theorem dp_strs {K : PySem.W.Frag} {H : Hp} : ∀ (ls : List (List Nat)), DpAll K H (ls.map Tx) (ls.map fun l => .str (tx l))
  | [] => .nil
  | l :: ls => .cons (.str _) (dp_strs ls)
theorem ne_nil_strs {K : PySem.W.Frag} {H : Hp} {p q : Addr} {ls : List (List Nat)} {Q : VK} (hp : SqL K H p (ls.map Tx)) (h : ∀ l ∈ ls, Abc l) (hq : H q = some (.lst [])) (k : Q (.bl (!ls.isEmpty)) H) : rNeD K (.ref p) (.ref q) H Q := by
  refine ⟨.list (ls.map fun l => .str (tx l)), .list [], .lst hp (dp_strs ls), .lst (SqL.of hq) .nil, shaped_strs h, rfl, ?_⟩
  have e : PyData.eqv (.list (ls.map fun l => .str (tx l))) (.list []) = ls.isEmpty := by
    cases ls with
    | nil => rfl
    | cons l ls => rfl
  rw [e]
  exact k
end Pg
namespace Pg
open PySem PySem.Spec PyProof.Rows L2
/-! ### any values: what they are, as far as the program looks -/
inductive Dt where
  | non | bl (b : Bool) | int (i : Int) | str (l : List Nat) | tup (ds : List Dt) | lst | obj
mutual
def Dt.dep : Dt → Nat
  | .tup ds => Dt.depL ds + 1
  | _ => 0
def Dt.depL : List Dt → Nat
  | [] => 0
  | d :: ds => max d.dep (Dt.depL ds)
end
theorem Dt.dep_mem : ∀ {ds : List Dt} {d : Dt}, d ∈ ds → d.dep ≤ Dt.depL ds
  | e :: ds, d, m => by
    rcases List.mem_cons.mp m with rfl | m
    · exact Nat.le_max_left _ _
    · exact Nat.le_trans (Dt.dep_mem m) (Nat.le_max_right _ _)
theorem Dt.depL_le : ∀ {ds : List Dt} {n : Nat}, (∀ d ∈ ds, d.dep ≤ n) → Dt.depL ds ≤ n
  | [], _, _ => Nat.zero_le _
  | d :: ds, n, h => Nat.max_le.mpr ⟨h d List.mem_cons_self, Dt.depL_le fun e m => h e (List.mem_cons_of_mem _ m)⟩
mutual
inductive Rp (K : PySem.W.Frag) (H : Hp) : V → Dt → Prop
  | non : Rp K H .non .non
  | bl (b : Bool) : Rp K H (.bl b) (.bl b)
  | int (i : Int) : Rp K H (.int i) (.int i)
  | str (l : List Nat) (h : l.length ≤ 100000) : Rp K H (Tx l) (.str l)
  | tup {a : Addr} {vs : List V} {ds : List Dt} : SqT K H a vs → vs.length ≤ 100000 → RpL K H vs ds → Rp K H (.ref a) (.tup ds)
  | lst {a : Addr} {vs : List V} : H a = some (.lst vs) → Rp K H (.ref a) .lst
  | obj {a C : Addr} : H a = some (ExO (.ref C) a) → Rp K H (.ref a) .obj
inductive RpL (K : PySem.W.Frag) (H : Hp) : List V → List Dt → Prop
  | nil : RpL K H [] []
  | cons {v : V} {vs : List V} {d : Dt} {ds : List Dt} : Rp K H v d → RpL K H vs ds → RpL K H (v :: vs) (d :: ds)
end
/-- S has nothing but lists -/
def Lsts (H : Hp) (S : List Addr) : Prop := ∀ p ∈ S, ∃ xs, H p = some (.lst xs)
theorem Lsts.nil {H : Hp} : Lsts H [] := fun _ m => nomatch m
theorem Lsts.one {H : Hp} {p : Addr} {xs : List V} (h : H p = some (.lst xs)) : Lsts H [p] := fun q m => by
  rw [List.mem_singleton.mp m]
  exact ⟨xs, h⟩
theorem Lsts.cons {H : Hp} {p : Addr} {S : List Addr} {xs : List V} (h : H p = some (.lst xs)) (t : Lsts H S) : Lsts H (p :: S) := fun q m => by
  rcases List.mem_cons.mp m with rfl | m
  · exact ⟨xs, h⟩
  · exact t q m
theorem Lsts.stp {H H' : Hp} {S S' : List Addr} (h : Lsts H S) (s : Stp S' H H') : Lsts H' S := fun p m => by
  obtain ⟨xs, e⟩ := h p m
  exact s.ls p xs e
theorem sqt_stp {K : PySem.W.Frag} {H H' : Hp} {S : List Addr} {a : Addr} {vs : List V} (s : Stp S H H') (l : Lsts H S) (h : SqT K H a vs) : SqT K H' a vs := by
  rcases h with (h | ⟨o, h⟩) | h
  · refine .inl (.inl (s.kp a _ (fun m => ?_) h))
    obtain ⟨xs, e⟩ := l a m
    rw [h] at e
    cases e
  · refine .inl (.inr ⟨o, s.kp a _ (fun m => ?_) h⟩)
    obtain ⟨xs, e⟩ := l a m
    rw [h] at e
    cases e
  · exact .inr h
mutual
theorem Rp.stp {K : PySem.W.Frag} {H H' : Hp} {S : List Addr} (s : Stp S H H') (l : Lsts H S) : ∀ {v : V} {d : Dt}, Rp K H v d → Rp K H' v d
  | _, .non, .non => .non
  | _, .bl _, .bl b => .bl b
  | _, .int _, .int i => .int i
  | _, .str _, .str x h => .str x h
  | _, .tup ds, .tup h n r => .tup (sqt_stp s l h) n (RpL.stp s l r)
  | _, .lst, .lst (a := a) (vs := vs) h => by
    obtain ⟨ys, e⟩ := s.ls a vs h
    exact .lst e
  | _, .obj, .obj (a := a) (C := C) h => by
    refine .obj (C := C) (s.kp a _ (fun m => ?_) h)
    obtain ⟨xs, e⟩ := l a m
    rw [h] at e
    cases e
theorem RpL.stp {K : PySem.W.Frag} {H H' : Hp} {S : List Addr} (s : Stp S H H') (l : Lsts H S) : ∀ {vs : List V} {ds : List Dt}, RpL K H vs ds → RpL K H' vs ds
  | _, [], .nil => .nil
  | _, _ :: _, .cons h r => .cons (Rp.stp s l h) (RpL.stp s l r)
end
theorem RpL.len {K : PySem.W.Frag} {H : Hp} : ∀ {vs : List V} {ds : List Dt}, RpL K H vs ds → vs.length = ds.length
  | _, [], .nil => rfl
  | _, _ :: _, .cons _ r => by rw [List.length_cons, List.length_cons, RpL.len r]
theorem RpL.get {K : PySem.W.Frag} {H : Hp} : ∀ {vs : List V} {ds : List Dt} {i : Nat} {v : V}, RpL K H vs ds → vs[i]? = some v → ∃ d, ds[i]? = some d ∧ Rp K H v d
  | _, [], _, _, .nil, e => by simp at e
  | _, d :: _, 0, _, .cons h _, e => by
    simp at e
    subst e
    exact ⟨d, rfl, h⟩
  | _, _ :: _, i + 1, v, .cons _ r, e => RpL.get (i := i) (v := v) r (by simpa using e)
theorem RpL.app {K : PySem.W.Frag} {H : Hp} : ∀ {vs ws : List V} {ds es : List Dt}, RpL K H vs ds → RpL K H ws es → RpL K H (vs ++ ws) (ds ++ es)
  | _, _, [], _, .nil, q => q
  | _, _, _ :: _, _, .cons h r, q => .cons h (RpL.app r q)
theorem RpL.one {K : PySem.W.Frag} {H : Hp} : ∀ {vs : List V} {ds : List Dt}, RpL K H vs ds → vs.length = 1 → ∃ v d, vs = [v] ∧ ds = [d] ∧ Rp K H v d
  | _, [], .nil, h => by simp at h
  | _, [d], .cons h .nil, _ => ⟨_, d, rfl, rfl, h⟩
  | _, _ :: _ :: _, .cons _ (.cons _ _), h => by simp at h
/-! ### type(x), is -/
/-- the name of a value's built-in class; none for an object of the package -/
def Dt.ty : Dt → Option String
  | .non => some "NoneType"
  | .bl _ => some "bool"
  | .int _ => some "int"
  | .str _ => some "str"
  | .tup _ => some "tuple"
  | .lst => some "list"
  | .obj => none
def rTy (K : PySem.W.Frag) : List V → Hp → VK → Prop := fun xs H Q => ∃ x d, xs = [x] ∧ Rp K H x d ∧ ∀ y, (∀ T, d.ty = some T → y = .ty T) → (d.ty = none → ∃ C, y = .ref C) → Q y H
section
variable {X : Cx}
theorem call_type : CallR X (.type "type") (rTy X.K) := by
  intro pins s σ H xs us Q I r h
  obtain ⟨x, d, rfl, rp, q⟩ := h
  have old : ∀ T, TyB X.K H x T → d.ty = some T → wpAny (model X.prog X.w) X.A (call (.type "type") us) (EP X pins σ Q) X.xe s := fun T t e => by
    refine call_type1 pins s σ H [x] us Q I r ⟨x, T, rfl, t, q _ (fun T' e' => ?_) (fun n => ?_)⟩
    · rw [e] at e'
      cases e'
      rfl
    · rw [e] at n
      cases n
  cases rp with
  | non => exact old _ .non rfl
  | bl b => exact old _ (.bl b) rfl
  | int i => exact old _ (.int i) rfl
  | str l hl => exact old _ (.str _) rfl
  | tup hs hn ha => exact old _ (.tup hs) rfl
  | lst hs => exact old _ (.lst (SqL.of hs)) rfl
  | obj ho =>
    rename_i a C
    obtain ⟨u, rfl, rx⟩ := vals1 r
    cases rx
    obtain ⟨⟨oe, vs, e1, ⟨e2, e3⟩, e4, _⟩, _⟩ := I.hok _ _ ho
    obtain ⟨hh, g, dd, t, os⟩ := s
    exact call_type_obj e1 (by rw [e2]; rfl) (by rw [e2]; exact ⟨.ref C, H, I, rfl, q _ (fun T e => nomatch e) (fun _ => ⟨C, rfl⟩)⟩)
def rTyIs (neg : Bool) : R2 := fun x y H Q => ∃ T, y = .ty T ∧ ((∃ T', x = .ty T' ∧ Q (.bl (neg ^^ decide (T' = T))) H) ∨ ∃ C, x = .ref C ∧ Q (.bl neg) H)
theorem op_isTy : OpR X (compareOp .Is) (rTyIs false) := by
  intro pins s σ H x y v u Q I rx ry h
  obtain ⟨T, rfl, ⟨T', rfl, q⟩ | ⟨C, rfl, q⟩⟩ := h
  · exact op_isTyB pins s σ H _ _ _ _ _ I rx ry ⟨T', T, rfl, rfl, by rwa [Bool.false_xor] at q⟩
  · cases (show v = Value.ref C from rx)
    cases (show u = Value.type T from ry)
    exact wpAny_is_other rfl (by intro e; cases e) ⟨.bl false, H, I, rfl, q⟩
theorem op_notTy : OpR X (compareOp .IsNot) (rTyIs true) := by
  intro pins s σ H x y v u Q I rx ry h
  obtain ⟨T, rfl, ⟨T', rfl, q⟩ | ⟨C, rfl, q⟩⟩ := h
  · exact op_notTyB pins s σ H _ _ _ _ _ I rx ry ⟨T', T, rfl, rfl, by rwa [Bool.true_xor] at q⟩
  · cases (show v = Value.ref C from rx)
    cases (show u = Value.type T from ry)
    exact wpAny_isNot_other rfl (by intro e; cases e) ⟨.bl true, H, I, rfl, q⟩
end
/-- type(x) is T, type(x) is not T -/
theorem ty_is {K : PySem.W.Frag} {H : Hp} {x : V} {d : Dt} {T : String} {neg : Bool} {Q : VK} (r : Rp K H x d) (k : Q (.bl (neg ^^ decide (d.ty = some T))) H) : rTy K [x] H fun y H1 => rTyIs neg y (.ty T) H1 Q := by
  refine ⟨x, d, rfl, r, fun y h1 h2 => ⟨T, rfl, ?_⟩⟩
  cases e : d.ty with
  | none =>
    obtain ⟨C, rfl⟩ := h2 e
    refine .inr ⟨C, rfl, ?_⟩
    rw [e] at k
    simpa using k
  | some T' =>
    rw [h1 T' e]
    refine .inl ⟨T', rfl, ?_⟩
    rw [e] at k
    simpa using k
/-! ### type(e) is T as one piece -/
def Mono (te : TE) : Prop := ∀ σ H (Q Q' : VK), (∀ v H', Q v H' → Q' v H') → te σ H Q → te σ H Q'
theorem Mono.var {i : Nat} : Mono (tVar i) := fun σ H Q Q' h ⟨v, e, q⟩ => ⟨v, e, h _ _ q⟩
theorem Mono.c {v : V} : Mono (tC v) := fun σ H Q Q' h q => h _ _ q
theorem Mono.op {r : R2} {ta tb : TE} (ha : Mono ta) (hb : Mono tb) (hr : ∀ x y H (Q Q' : VK), (∀ v H', Q v H' → Q' v H') → r x y H Q → r x y H Q') : Mono (tOp r ta tb) := fun σ H Q Q' h q =>
  ha σ H _ _ (fun x H1 q1 => hb σ H1 _ _ (fun y H2 q2 => hr x y H2 _ _ h q2) q1) q
theorem Mono.ixT {K : PySem.W.Frag} {ta tb : TE} (ha : Mono ta) (hb : Mono tb) : Mono (tOp (rIxT K) ta tb) := Mono.op ha hb fun _ _ _ _ _ h ⟨p, xs, i, v, e1, e2, e3, e4, q⟩ => ⟨p, xs, i, v, e1, e2, e3, e4, h _ _ q⟩
theorem Mono.ixL {K : PySem.W.Frag} {ta tb : TE} (ha : Mono ta) (hb : Mono tb) : Mono (tOp (rIxL K) ta tb) := Mono.op ha hb fun _ _ _ _ _ h ⟨p, xs, i, v, e1, e2, e3, e4, q⟩ => ⟨p, xs, i, v, e1, e2, e3, e4, h _ _ q⟩
def tTyIs (K : PySem.W.Frag) (neg : Bool) (T : String) (te : TE) : TE := fun σ H Q => te σ H fun x H1 => ∃ d, Rp K H1 x d ∧ Q (.bl (neg ^^ decide (d.ty = some T))) H1
def tTTyIs (K : PySem.W.Frag) (neg : Bool) (T : String) (te : TE) : TT := fun σ H Q => te σ H fun x H1 => ∃ d, Rp K H1 x d ∧ Q (neg ^^ decide (d.ty = some T)) H1
section
variable {X : Cx} {e : Expr} {te : TE} {T : String} {x : Str} {p pos q pos2 : Pos}
theorem pe_tyIs (hm : Mono te) (he : PE X e te) (hn : X.mg "type" = none) (hT : X.mg x = none) (hv : bootBuiltins x = some (Value.type T)) (hg : Gl X "type" := by rfl) (hgT : Gl X x := by rfl) (hnn : x ≠ "__name__" := by decide) (hd : (x == ("__debug__" : Str)) = false := by decide)
    (hs : starEach [e] X.env = (false, eval e X.env) :: starEach [] X.env := by rfl) (hpl : (backTo pos (starEach [] X.env)).any (·.1) = false := by rfl) :
    PE X (.Compare (.Call (.Name "type" p) [e] [] pos) [.Is] [.Name x q] pos2) (tTyIs X.K false T te) := by
  have h := pe_cmpR (X := X) (pos := pos2) op_isTy (pe_callTy (p := p) (pos := pos) call_type hg hn (by decide +kernel) (pa_cons he pa_nil (hs := hs)) (he := hs) (hpl := hpl)) (pe_bltn (v := .ty T) (pos := q) hgT hT hv rfl hnn hd) (nomark _)
  refine ⟨fun pins s σ H Q I hw => h.run pins s σ H Q I ?_⟩
  exact hm σ H _ _ (fun v H1 ⟨d, r, k⟩ => ty_is (neg := false) r k) hw
theorem pe_tyNot (hm : Mono te) (he : PE X e te) (hn : X.mg "type" = none) (hT : X.mg x = none) (hv : bootBuiltins x = some (Value.type T)) (hg : Gl X "type" := by rfl) (hgT : Gl X x := by rfl) (hnn : x ≠ "__name__" := by decide) (hd : (x == ("__debug__" : Str)) = false := by decide)
    (hs : starEach [e] X.env = (false, eval e X.env) :: starEach [] X.env := by rfl) (hpl : (backTo pos (starEach [] X.env)).any (·.1) = false := by rfl) :
    PE X (.Compare (.Call (.Name "type" p) [e] [] pos) [.IsNot] [.Name x q] pos2) (tTyIs X.K true T te) := by
  have h := pe_cmpR (X := X) (pos := pos2) op_notTy (pe_callTy (p := p) (pos := pos) call_type hg hn (by decide +kernel) (pa_cons he pa_nil (hs := hs)) (he := hs) (hpl := hpl)) (pe_bltn (v := .ty T) (pos := q) hgT hT hv rfl hnn hd) (nomark _)
  refine ⟨fun pins s σ H Q I hw => h.run pins s σ H Q I ?_⟩
  exact hm σ H _ _ (fun v H1 ⟨d, r, k⟩ => ty_is (neg := true) r k) hw
theorem pt_tyIs (hm : Mono te) (he : PE X e te) (hn : X.mg "type" = none) (hT : X.mg x = none) (hv : bootBuiltins x = some (Value.type T)) (hg : Gl X "type" := by rfl) (hgT : Gl X x := by rfl) (hnn : x ≠ "__name__" := by decide) (hd : (x == ("__debug__" : Str)) = false := by decide)
    (hs : starEach [e] X.env = (false, eval e X.env) :: starEach [] X.env := by rfl) (hpl : (backTo pos (starEach [] X.env)).any (·.1) = false := by rfl) :
    PT X (.Compare (.Call (.Name "type" p) [e] [] pos) [.Is] [.Name x q] pos2) (tTTyIs X.K false T te) := by
  have h := pt_cmpR (X := X) (pos := pos2) op_isTy (pe_callTy (p := p) (pos := pos) call_type hg hn (by decide +kernel) (pa_cons he pa_nil (hs := hs)) (he := hs) (hpl := hpl)) (pe_bltn (v := .ty T) (pos := q) hgT hT hv rfl hnn hd) (nomark _)
  refine ⟨fun pins s σ H Q I hw => h.run pins s σ H Q I ?_⟩
  exact hm σ H _ _ (fun v H1 ⟨d, r, k⟩ => ty_is (neg := false) (Q := fun x H' => ∃ k, x = .bl k ∧ Q k H') r ⟨_, rfl, k⟩) hw
theorem pt_tyNot (hm : Mono te) (he : PE X e te) (hn : X.mg "type" = none) (hT : X.mg x = none) (hv : bootBuiltins x = some (Value.type T)) (hg : Gl X "type" := by rfl) (hgT : Gl X x := by rfl) (hnn : x ≠ "__name__" := by decide) (hd : (x == ("__debug__" : Str)) = false := by decide)
    (hs : starEach [e] X.env = (false, eval e X.env) :: starEach [] X.env := by rfl) (hpl : (backTo pos (starEach [] X.env)).any (·.1) = false := by rfl) :
    PT X (.Compare (.Call (.Name "type" p) [e] [] pos) [.IsNot] [.Name x q] pos2) (tTTyIs X.K true T te) := by
  have h := pt_cmpR (X := X) (pos := pos2) op_notTy (pe_callTy (p := p) (pos := pos) call_type hg hn (by decide +kernel) (pa_cons he pa_nil (hs := hs)) (he := hs) (hpl := hpl)) (pe_bltn (v := .ty T) (pos := q) hgT hT hv rfl hnn hd) (nomark _)
  refine ⟨fun pins s σ H Q I hw => h.run pins s σ H Q I ?_⟩
  exact hm σ H _ _ (fun v H1 ⟨d, r, k⟩ => ty_is (neg := true) (Q := fun x H' => ∃ k, x = .bl k ∧ Q k H') r ⟨_, rfl, k⟩) hw
end
end Pg
namespace Pg
open PySem PySem.Spec PyProof.Rows L2
/-! ### readings are monotone: a piece may be cut off by what it leaves -/
def MonoT (t : TT) : Prop := ∀ σ H (Q Q' : Bool → Hp → Prop), (∀ b H', Q b H' → Q' b H') → t σ H Q → t σ H Q'
def MonoA (t : TA) : Prop := ∀ σ H (Q Q' : List V → Hp → Prop), (∀ vs H', Q vs H' → Q' vs H') → t σ H Q → t σ H Q'
def MonoS (sp : Sp) : Prop := ∀ vs H (Q Q' : VK) E, (∀ v H', Q v H' → Q' v H') → sp vs H Q E → sp vs H Q' E
def MonoR (r : R2) : Prop := ∀ x y H (Q Q' : VK), (∀ v H', Q v H' → Q' v H') → r x y H Q → r x y H Q'
def MonoC (r : List V → Hp → VK → Prop) : Prop := ∀ vs H (Q Q' : VK), (∀ v H', Q v H' → Q' v H') → r vs H Q → r vs H Q'
theorem Mono.cut {te : TE} (m : Mono te) {σ : L2.St} {H : Hp} {Q : VK} (P : V → Hp → Prop) (h : te σ H P) (k : ∀ v H', P v H' → Q v H') : te σ H Q := m σ H P Q k h
theorem MonoT.cut {t : TT} (m : MonoT t) {σ : L2.St} {H : Hp} {Q : Bool → Hp → Prop} (P : Bool → Hp → Prop) (h : t σ H P) (k : ∀ b H', P b H' → Q b H') : t σ H Q := m σ H P Q k h
theorem MonoR.i0 {g : Int → Int → V} : MonoR (rI0 g) := fun _ _ _ _ _ h ⟨i, j, e1, e2, q⟩ => ⟨i, j, e1, e2, h _ _ q⟩
theorem MonoR.i {C : Int → Int → Prop} {g : Int → Int → V} : MonoR (rI C g) := fun _ _ _ _ _ h ⟨i, j, e1, e2, c, q⟩ => ⟨i, j, e1, e2, c, h _ _ q⟩
theorem MonoR.eq : MonoR rEq := fun _ _ _ _ _ h ⟨s, q⟩ => ⟨s, h _ _ q⟩
theorem MonoR.ne : MonoR rNe := fun _ _ _ _ _ h ⟨s, q⟩ => ⟨s, h _ _ q⟩
theorem MonoR.ixL {K : PySem.W.Frag} : MonoR (rIxL K) := fun _ _ _ _ _ h ⟨p, xs, i, v, e1, e2, e3, e4, q⟩ => ⟨p, xs, i, v, e1, e2, e3, e4, h _ _ q⟩
theorem MonoR.ixT {K : PySem.W.Frag} : MonoR (rIxT K) := fun _ _ _ _ _ h ⟨p, xs, i, v, e1, e2, e3, e4, q⟩ => ⟨p, xs, i, v, e1, e2, e3, e4, h _ _ q⟩
theorem MonoR.ixS : MonoR rIxS := fun _ _ _ _ _ h ⟨z, i, c, e1, e2, e3, e4, q⟩ => ⟨z, i, c, e1, e2, e3, e4, h _ _ q⟩
theorem MonoR.inn {K : PySem.W.Frag} {neg : Bool} : MonoR (rIn K neg) := fun _ _ _ _ _ h ⟨p, xs, e1, e2, e3, e4, q⟩ => ⟨p, xs, e1, e2, e3, e4, h _ _ q⟩
theorem MonoR.neD {K : PySem.W.Frag} : MonoR (rNeD K) := fun _ _ _ _ _ h ⟨d, e, a, b, c, f, q⟩ => ⟨d, e, a, b, c, f, h _ _ q⟩
theorem MonoR.eqD {K : PySem.W.Frag} : MonoR (rEqD K) := fun _ _ _ _ _ h ⟨d, e, a, b, c, f, q⟩ => ⟨d, e, a, b, c, f, h _ _ q⟩
theorem MonoR.str {C : Str → Str → Prop} {g : Str → Str → V} : MonoR (fun x y H Q => ∃ i j, x = .str i ∧ y = .str j ∧ C i j ∧ Q (g i j) H) := fun _ _ _ _ _ h ⟨i, j, a, b, c, q⟩ => ⟨i, j, a, b, c, h _ _ q⟩
theorem MonoR.str0 {g : Str → Str → V} : MonoR (fun x y H Q => ∃ i j, x = .str i ∧ y = .str j ∧ Q (g i j) H) := fun _ _ _ _ _ h ⟨i, j, a, b, q⟩ => ⟨i, j, a, b, h _ _ q⟩
theorem Mono.op' {r : R2} {ta tb : TE} (hr : MonoR r) (ha : Mono ta) (hb : Mono tb) : Mono (tOp r ta tb) := Mono.op ha hb hr
theorem Mono.tif {t : TT} {ta tb : TE} (ht : MonoT t) (ha : Mono ta) (hb : Mono tb) : Mono (tIf t ta tb) := fun σ H Q Q' h q => ht σ H _ _ (fun b H1 q1 => by
  cases b with
  | true => exact ha σ H1 _ _ h q1
  | false => exact hb σ H1 _ _ h q1) q
theorem MonoT.test {te : TE} (h : Mono te) : MonoT (tTest te) := fun σ H Q Q' k q => h σ H _ _ (fun x H1 ⟨c, e, q1⟩ => ⟨c, e, k _ _ q1⟩) q
theorem MonoT.b {te : TE} (h : Mono te) : MonoT (tB te) := fun σ H Q Q' k q => h σ H _ _ (fun x H1 ⟨c, e, q1⟩ => ⟨c, e, k _ _ q1⟩) q
theorem MonoT.not {t : TT} (h : MonoT t) : MonoT (tNot t) := fun σ H Q Q' k q => h σ H _ _ (fun b H1 q1 => k _ _ q1) q
theorem MonoT.and {t u : TT} (h : MonoT t) (g : MonoT u) : MonoT (tAnd t u) := fun σ H Q Q' k q => h σ H _ _ (fun b H1 q1 => by
  cases b with
  | true => exact g σ H1 _ _ k q1
  | false => exact k _ _ q1) q
theorem MonoT.or {t u : TT} (h : MonoT t) (g : MonoT u) : MonoT (tOr t u) := fun σ H Q Q' k q => h σ H _ _ (fun b H1 q1 => by
  cases b with
  | true => exact k _ _ q1
  | false => exact g σ H1 _ _ k q1) q
theorem MonoA.nil : MonoA tNil := fun _ _ _ _ h q => h _ _ q
theorem MonoA.cons {te : TE} {ta : TA} (h : Mono te) (g : MonoA ta) : MonoA (tCons te ta) := fun σ H Q Q' k q => h σ H _ _ (fun x H1 q1 => g σ H1 _ _ (fun vs H2 q2 => k _ _ q2) q1) q
theorem Mono.cl {sp : Sp} {ta : TA} (hs : MonoS sp) (ha : MonoA ta) : Mono (tCl sp ta) := fun σ H Q Q' k q => ha σ H _ _ (fun vs H1 q1 => hs vs H1 _ _ E0 k q1) q
theorem Mono.cb {r : List V → Hp → VK → Prop} {ta : TA} (hs : MonoC r) (ha : MonoA ta) : Mono (tCB r ta) := fun σ H Q Q' k q => ha σ H _ _ (fun vs H1 q1 => hs vs H1 _ _ k q1) q
theorem Mono.tup {ta : TA} (ha : MonoA ta) : Mono (tTup ta) := fun σ H Q Q' k q => ha σ H _ _ (fun vs H1 ⟨l, q1⟩ => ⟨l, fun p hp => k _ _ (q1 p hp)⟩) q
theorem Mono.lst {ta : TA} (ha : MonoA ta) : Mono (tLst ta) := fun σ H Q Q' k q => ha σ H _ _ (fun vs H1 ⟨l, q1⟩ => ⟨l, fun p hp => k _ _ (q1 p hp)⟩) q
/-- one of two constants -/
theorem ite_tC {c : Prop} [Decidable c] {a b : V} {σ : L2.St} {H : Hp} {Q : VK} (h : ∀ v, v = a ∨ v = b → Q v H) : if c then tC a σ H Q else tC b σ H Q := by
  split
  · exact h a (.inl rfl)
  · exact h b (.inr rfl)
theorem MonoC.two {g : Int → Int → V} : MonoC (fun xs H Q => ∃ i j, xs = [.int i, .int j] ∧ Q (g i j) H) := fun _ _ _ _ h ⟨i, j, e, q⟩ => ⟨i, j, e, h _ _ q⟩
theorem MonoC.int1 : MonoC (fun xs H Q => (∃ i, xs = [.int i] ∧ Q (.int i) H) ∨ ∃ k : Bool, xs = [.bl k] ∧ Q (.int (if k then 1 else 0)) H) := fun _ _ _ _ h q => by
  rcases q with ⟨i, e, q⟩ | ⟨i, e, q⟩
  · exact .inl ⟨i, e, h _ _ q⟩
  · exact .inr ⟨i, e, h _ _ q⟩
theorem RpL.strs {K : PySem.W.Frag} {H : Hp} : ∀ {ws : List (List Nat)}, (∀ l ∈ ws, l.length ≤ 100000) → RpL K H (ws.map Tx) (ws.map Dt.str)
  | [], _ => .nil
  | l :: ws, h => .cons (.str l (h l List.mem_cons_self)) (RpL.strs fun m q => h m (List.mem_cons_of_mem _ q))
theorem dep_strs : ∀ (ws : List (List Nat)), Dt.depL (ws.map Dt.str) = 0
  | [] => rfl
  | l :: ws => by
    show max 0 (Dt.depL (ws.map Dt.str)) = 0
    rw [dep_strs ws]
    rfl
/-- a text of the program's own as a value -/
theorem Rp.lit {K : PySem.W.Frag} {H : Hp} (s : Str) (h : s.cps.toList.length ≤ 100000 := by decide +kernel) : Rp K H (.str s) (.str s.cps.toList) := by
  have := Rp.str (K := K) (H := H) s.cps.toList h
  have e : tx s.cps.toList = s := by cases s <;> simp [tx]
  rwa [Tx, e] at this
end Pg
namespace Pg
open PySem PySem.Spec PyProof.Rows L2
/-! ### expressions that build data: what they evaluate to -/
def EvD (K : PySem.W.Frag) (te : TE) (σ : L2.St) (H : Hp) (d : Dt) : Prop := ∀ H1, Stp [] H H1 → ∀ Q : VK, (∀ v H2, Stp [] H1 H2 → Rp K H2 v d → Q v H2) → te σ H1 Q
def EvDA (K : PySem.W.Frag) (ta : TA) (σ : L2.St) (H : Hp) (ds : List Dt) : Prop := ∀ H1, Stp [] H H1 → ∀ Q : List V → Hp → Prop, (∀ vs H2, Stp [] H1 H2 → RpL K H2 vs ds → Q vs H2) → ta σ H1 Q
section
variable {K : PySem.W.Frag} {te : TE} {ta : TA} {σ : L2.St} {H : Hp} {d : Dt} {ds : List Dt}
theorem EvD.bl {b : Bool} : EvD K (tC (.bl b)) σ H (.bl b) := fun H1 _ _ k => k _ H1 (Stp.refl _ _) (.bl b)
theorem EvD.int {i : Int} : EvD K (tC (.int i)) σ H (.int i) := fun H1 _ _ k => k _ H1 (Stp.refl _ _) (.int i)
theorem EvD.non : EvD K (tC .non) σ H .non := fun H1 _ _ k => k _ H1 (Stp.refl _ _) .non
theorem EvD.str {s : Str} (h : s.cps.toList.length ≤ 100000 := by decide +kernel) : EvD K (tC (.str s)) σ H (.str s.cps.toList) := fun H1 _ _ k => k _ H1 (Stp.refl _ _) (Rp.lit s h)
theorem EvD.var {i : Nat} {v : V} (r : Rp K H v d) (e : σ[i]? = some (some v) := by rfl) : EvD K (tVar i) σ H d := fun H1 s _ k => ⟨v, e, k v H1 (Stp.refl _ _) (r.stp s Lsts.nil)⟩
theorem EvDA.nil : EvDA K tNil σ H [] := fun H1 _ _ k => k [] H1 (Stp.refl _ _) .nil
theorem EvDA.cons (h : EvD K te σ H d) (g : EvDA K ta σ H ds) : EvDA K (tCons te ta) σ H (d :: ds) := fun H1 s Q k =>
  h H1 s _ fun v H2 s2 r => g H2 (s.trans s2) _ fun vs H3 s3 rs => k (v :: vs) H3 (s2.trans s3) (.cons (r.stp s3 Lsts.nil) rs)
theorem EvD.tup (h : EvDA K ta σ H ds) (hl : ds.length ≤ 1000) : EvD K (tTup ta) σ H (.tup ds) := fun H1 s Q k =>
  h H1 s _ fun vs H2 s2 rs => ⟨sz (by rw [rs.len]; omega), fun p np => k _ _ (s2.new' np) (.tup (SqT.of upd_same) (by rw [rs.len]; omega) (rs.stp (Stp.new np []) Lsts.nil))⟩
theorem EvD.lst (h : EvDA K ta σ H ds) (hl : ds.length ≤ 1000) : EvD K (tLst ta) σ H .lst := fun H1 s Q k =>
  h H1 s _ fun vs H2 s2 rs => ⟨sz (by rw [rs.len]; omega), fun p np => k _ _ (s2.new' np) (.lst upd_same)⟩
theorem EvD.exc {C : Addr} (h : EvD K te σ H d) : EvD K (fun σ H Q => te σ H fun _ H1 => ∀ a, H1 a = none → Q (.ref a) (upd H1 a (ExO (.ref C) a))) σ H .obj := fun H1 s Q k =>
  h H1 s _ fun v H2 s2 _ => fun a na => k _ _ (s2.new' na) (.obj upd_same)
theorem EvD.cat {tb : TE} {a b : List Nat} (h : EvD K te σ H (.str a)) (g : EvD K tb σ H (.str b)) (hl : a.length + b.length ≤ 100000) : EvD K (tOp (fun x y H Q => ∃ i j, x = .str i ∧ y = .str j ∧ i.length + j.length ≤ sizeLine ∧ Q (.str (i ++ j)) H) te tb) σ H (.str (a ++ b)) := fun H1 s Q k =>
  h H1 s _ fun v H2 s2 r => g H2 (s.trans s2) _ fun u H3 s3 q => by
    cases r with
    | str _ h1 =>
      cases q with
      | str _ h2 =>
        refine ⟨tx a, tx b, rfl, rfl, by rw [tx_len, tx_len]; exact sz hl, ?_⟩
        rw [tx_app]
        exact k _ _ (s2.trans s3) (.str _ (by rw [List.length_append]; exact hl))
theorem EvD.pow {i j : Int} (h : CPow i j) : EvD K (tOp (rI CPow fun i j => .int (i ^ j.toNat)) (tC (.int i)) (tC (.int j))) σ H (.int (i ^ j.toNat)) := fun H1 s Q k =>
  ⟨i, j, rfl, rfl, h, k _ _ (Stp.refl _ _) (.int _)⟩
theorem EvD.neg {i : Int} : EvD K (tUn (rU fun i => .int (-i)) (tC (.int i))) σ H (.int (-i)) := fun H1 s Q k => ⟨i, rfl, k _ _ (Stp.refl _ _) (.int _)⟩
/-- list(t) of a tuple -/
theorem EvD.list (h : EvD K te σ H (.tup ds)) : EvD K (tCB (fun xs H Q => ∃ p ys, xs = [.ref p] ∧ (SqL K H p ys ∨ SqT K H p ys) ∧ ∀ l, H l = none → Q (.ref l) (upd H l (.lst ys))) (tCons te tNil)) σ H .lst := fun H1 s Q k =>
  h H1 s _ fun v H2 s2 r => by
    cases r with
    | tup hs hn rl => exact ⟨_, _, rfl, .inr hs, fun l nl => k _ _ (s2.new' nl) (.lst upd_same)⟩
theorem EvDA.use (h : EvDA K ta σ H ds) {Q : List V → Hp → Prop} (k : ∀ vs H2, Stp [] H H2 → RpL K H2 vs ds → Q vs H2) : ta σ H Q := h H (Stp.refl _ _) Q k
theorem EvD.use (h : EvD K te σ H d) {Q : VK} (k : ∀ v H2, Stp [] H H2 → Rp K H2 v d → Q v H2) : te σ H Q := h H (Stp.refl _ _) Q k
/-- a new list of data -/
theorem EvDA.newl (h : EvDA K ta σ H ds) (hl : ds.length ≤ 1000) {Q : VK} (k : ∀ p vs H2, Stp [] H H2 → H p = none → H2 p = some (.lst vs) → RpL K H2 vs ds → Q (.ref p) H2) : tLst ta σ H Q :=
  h.use fun vs H2 s rs => ⟨sz (by rw [rs.len]; omega), fun p np => k p vs _ (s.new' np) (s.fresh (fun m => nomatch m) np) upd_same (rs.stp (Stp.new np []) Lsts.nil)⟩
end
/-! ### tuples put together, cut -/
theorem catA_use {K : PySem.W.Frag} {H : Hp} {a b : Addr} {xs ys : List V} {Q : VK} (ha : SqT K H a xs) (hb : SqT K H b ys) (hl : xs.length + ys.length ≤ 100000) (k : ∀ p H', Stp [] H H' → SqT K H' p (xs ++ ys) → Q (.ref p) H') : rCatA K (.ref a) (.ref b) H Q := by
  refine ⟨a, b, xs, ys, rfl, rfl, ha, hb, sz hl, fun e => ?_, fun _ e => ?_, fun _ _ p np => ?_⟩
  · subst e
    exact k b H (Stp.refl _ _) hb
  · subst e
    refine k a H (Stp.refl _ _) ?_
    rw [List.append_nil]
    exact ha
  · exact k p _ (Stp.new np _) (SqT.of upd_same)
theorem slA_use {K : PySem.W.Frag} {H : Hp} {a : Addr} {xs : List V} {lo hi : Option Int} {Q : VK} (ha : SqT K H a xs) (k : ∀ p H', Stp [] H H' → SqT K H' p (cutV xs lo hi) → Q (.ref p) H') : rSlA K (.ref a) lo hi H Q := by
  refine ⟨a, xs, rfl, ha, fun ⟨e1, e2⟩ => ?_, fun _ p np => ?_⟩
  · refine k a H (Stp.refl _ _) ?_
    have e : cutV xs lo hi = xs := by
      unfold cutV
      rw [e1, e2, List.drop_zero, Nat.sub_zero, List.take_length]
    rw [e]
    exact ha
  · exact k p _ (Stp.new np _) (SqT.of upd_same)
theorem cut_upto {xs : List V} (k : Nat) : cutV xs none (some (k : Int)) = xs.take k := by
  unfold cutV
  rw [HT.sIx_none, HT.sIx_nat, List.drop_zero, Nat.sub_zero]
  rcases Nat.le_total k xs.length with h | h
  · rw [Nat.min_eq_left h]
  · rw [Nat.min_eq_right h, List.take_of_length_le (Nat.le_refl _), List.take_of_length_le h]
theorem cut_from {xs : List V} (k : Nat) : cutV xs (some (k : Int)) none = xs.drop k := by
  unfold cutV
  rw [HT.sIx_none, HT.sIx_nat]
  rcases Nat.le_total k xs.length with h | h
  · rw [Nat.min_eq_left h, List.take_of_length_le (by rw [List.length_drop]; exact Nat.le_refl _)]
  · rw [Nat.min_eq_right h, List.drop_length, List.drop_of_length_le h, List.take_nil]
theorem RpL.take {K : PySem.W.Frag} {H : Hp} : ∀ {vs : List V} {ds : List Dt} (n : Nat), RpL K H vs ds → RpL K H (vs.take n) (ds.take n)
  | _, _, 0, _ => by rw [List.take_zero, List.take_zero]; exact .nil
  | _, [], _ + 1, .nil => .nil
  | _, _ :: _, n + 1, .cons h r => .cons h (RpL.take n r)
theorem RpL.drop {K : PySem.W.Frag} {H : Hp} : ∀ {vs : List V} {ds : List Dt} (n : Nat), RpL K H vs ds → RpL K H (vs.drop n) (ds.drop n)
  | _, _, 0, r => r
  | _, [], _ + 1, .nil => .nil
  | _, _ :: _, n + 1, .cons _ r => RpL.drop n r
/-! ### heads of statements -/
theorem asg_name {te : TE} {i : Nat} {u : TS} {D : Ends} {σ : L2.St} {H : Hp} (h : te σ H fun x H1 => u D (σ.set i (some x)) H1) : tSeq (tAsg te (gName i)) u D σ H := h
theorem op_var {r : R2} {i : Nat} {tb : TE} {σ : L2.St} {H : Hp} {Q : VK} {v : V} (e : σ[i]? = some (some v)) (h : tb σ H fun y H2 => r v y H2 Q) : tOp r (tVar i) tb σ H Q := ⟨v, e, h⟩
theorem nopart {σ : L2.St} {H : Hp} {Q : Option Int → Hp → Prop} (h : Q none H) : tNoPart σ H Q := h
end Pg
namespace Pv
open PySem PySem.Spec PyProof.Rows L2 Pg
/-! ### values with all that is in them -/
inductive D where
  | non | bl (b : Bool) | int (i : Int) | str (l : List Nat) | tup (ds : List D) | lst (ds : List D) | obj (C : Addr)
mutual
def D.old : D → Dt
  | .non => .non
  | .bl b => .bl b
  | .int i => .int i
  | .str l => .str l
  | .tup ds => .tup (D.olds ds)
  | .lst _ => .lst
  | .obj _ => .obj
def D.olds : List D → List Dt
  | [] => []
  | d :: ds => d.old :: D.olds ds
end
def D.ty (d : D) : Option String := d.old.ty
/-- isinstance(d, T) -/
def D.isi (T : String) : D → Bool
  | .bl _ => T == "bool" || T == "int"
  | .int _ => T == "int"
  | .str _ => T == "str"
  | .tup _ => T == "tuple"
  | .lst _ => T == "list"
  | _ => false
/-- what the class of an object says -/
structure OkC (K : PySem.W.Frag) (C : Addr) : Prop where
  exc : ExcC K C
  is_str : PySem.W.kitOne K (.ref C) (.type "str") = some false
  is_int : PySem.W.kitOne K (.ref C) (.type "int") = some false
  is_bool : PySem.W.kitOne K (.ref C) (.type "bool") = some false
  is_tuple : PySem.W.kitOne K (.ref C) (.type "tuple") = some false
  is_list : PySem.W.kitOne K (.ref C) (.type "list") = some false
mutual
/-- v is d; no list in it stands at an address of S -/
inductive Rv (K : PySem.W.Frag) (S : List Addr) (H : Hp) : V → D → Prop
  | non : Rv K S H .non .non
  | bl (b : Bool) : Rv K S H (.bl b) (.bl b)
  | int (i : Int) : Rv K S H (.int i) (.int i)
  | str (l : List Nat) (h : l.length ≤ 100000) : Rv K S H (Tx l) (.str l)
  | tup {a : Addr} {vs : List V} {ds : List D} : SqT K H a vs → vs.length ≤ 100000 → RvL K S H vs ds → Rv K S H (.ref a) (.tup ds)
  | lst {a : Addr} {vs : List V} {ds : List D} : H a = some (.lst vs) → a ∉ S → vs.length ≤ 100000 → RvL K S H vs ds → Rv K S H (.ref a) (.lst ds)
  | obj {a C : Addr} : H a = some (ExO (.ref C) a) → OkC K C → Rv K S H (.ref a) (.obj C)
inductive RvL (K : PySem.W.Frag) (S : List Addr) (H : Hp) : List V → List D → Prop
  | nil : RvL K S H [] []
  | cons {v : V} {vs : List V} {d : D} {ds : List D} : Rv K S H v d → RvL K S H vs ds → RvL K S H (v :: vs) (d :: ds)
end
section
variable {K : PySem.W.Frag} {S : List Addr} {H H' : Hp}
mutual
theorem Rv.old : ∀ {v : V} {d : D}, Rv K S H v d → Rp K H v d.old
  | _, .non, .non => .non
  | _, .bl _, .bl b => .bl b
  | _, .int _, .int i => .int i
  | _, .str _, .str x h => .str x h
  | _, .tup ds, .tup h n r => .tup h n (RvL.old r)
  | _, .lst _, .lst h _ _ _ => .lst h
  | _, .obj _, .obj h _ => .obj h
theorem RvL.old : ∀ {vs : List V} {ds : List D}, RvL K S H vs ds → RpL K H vs (D.olds ds)
  | _, [], .nil => .nil
  | _, _ :: _, .cons h r => .cons (Rv.old h) (RvL.old r)
end
mutual
theorem Rv.fr {S' : List Addr} (s : Stp S' H H') (l : Lsts H S') (sub : ∀ x ∈ S', x ∈ S) : ∀ {v : V} {d : D}, Rv K S H v d → Rv K S H' v d
  | _, .non, .non => .non
  | _, .bl _, .bl b => .bl b
  | _, .int _, .int i => .int i
  | _, .str _, .str x h => .str x h
  | _, .tup ds, .tup h n r => .tup (sqt_stp s l h) n (RvL.fr s l sub r)
  | _, .lst ds, .lst h o n r => .lst (s.kp _ _ (fun m => o (sub _ m)) h) o n (RvL.fr s l sub r)
  | _, .obj _, .obj (a := a) (C := C) h k => by
    refine .obj (C := C) (s.kp a _ (fun m => ?_) h) k
    obtain ⟨xs, e⟩ := l a m
    rw [h] at e
    cases e
theorem RvL.fr {S' : List Addr} (s : Stp S' H H') (l : Lsts H S') (sub : ∀ x ∈ S', x ∈ S) : ∀ {vs : List V} {ds : List D}, RvL K S H vs ds → RvL K S H' vs ds
  | _, [], .nil => .nil
  | _, _ :: _, .cons h r => .cons (Rv.fr s l sub h) (RvL.fr s l sub r)
end
theorem Rv.stp {v : V} {d : D} (r : Rv K S H v d) (s : Stp S H H') (l : Lsts H S) : Rv K S H' v d := Rv.fr s l (fun _ m => m) r
theorem RvL.stp {vs : List V} {ds : List D} (r : RvL K S H vs ds) (s : Stp S H H') (l : Lsts H S) : RvL K S H' vs ds := RvL.fr s l (fun _ m => m) r
theorem Rv.up {v : V} {d : D} (r : Rv K S H v d) (s : Stp [] H H') : Rv K S H' v d := Rv.fr s Lsts.nil (fun _ m => nomatch m) r
theorem RvL.up {vs : List V} {ds : List D} (r : RvL K S H vs ds) (s : Stp [] H H') : RvL K S H' vs ds := RvL.fr s Lsts.nil (fun _ m => nomatch m) r
mutual
theorem Rv.sub {S' : List Addr} (h : ∀ x ∈ S', x ∈ S) : ∀ {v : V} {d : D}, Rv K S H v d → Rv K S' H v d
  | _, .non, .non => .non
  | _, .bl _, .bl b => .bl b
  | _, .int _, .int i => .int i
  | _, .str _, .str x h => .str x h
  | _, .tup ds, .tup q n r => .tup q n (RvL.sub h r)
  | _, .lst ds, .lst q o n r => .lst q (fun m => o (h _ m)) n (RvL.sub h r)
  | _, .obj _, .obj q k => .obj q k
theorem RvL.sub {S' : List Addr} (h : ∀ x ∈ S', x ∈ S) : ∀ {vs : List V} {ds : List D}, RvL K S H vs ds → RvL K S' H vs ds
  | _, [], .nil => .nil
  | _, _ :: _, .cons q r => .cons (Rv.sub h q) (RvL.sub h r)
end
theorem RvL.len : ∀ {vs : List V} {ds : List D}, RvL K S H vs ds → vs.length = ds.length
  | _, [], .nil => rfl
  | _, _ :: _, .cons _ r => by rw [List.length_cons, List.length_cons, RvL.len r]
theorem RvL.get : ∀ {vs : List V} {ds : List D} {i : Nat} {v : V}, RvL K S H vs ds → vs[i]? = some v → ∃ d, ds[i]? = some d ∧ Rv K S H v d
  | _, [], _, _, .nil, e => by simp at e
  | _, d :: _, 0, _, .cons h _, e => by
    simp at e
    subst e
    exact ⟨d, rfl, h⟩
  | _, _ :: _, i + 1, v, .cons _ r, e => RvL.get (i := i) (v := v) r (by simpa using e)
theorem RvL.app : ∀ {vs ws : List V} {ds es : List D}, RvL K S H vs ds → RvL K S H ws es → RvL K S H (vs ++ ws) (ds ++ es)
  | _, _, [], _, .nil, q => q
  | _, _, _ :: _, _, .cons h r, q => .cons h (RvL.app r q)
theorem RvL.take : ∀ {vs : List V} {ds : List D} (n : Nat), RvL K S H vs ds → RvL K S H (vs.take n) (ds.take n)
  | _, _, 0, _ => by rw [List.take_zero, List.take_zero]; exact .nil
  | _, [], _ + 1, .nil => .nil
  | _, _ :: _, n + 1, .cons h r => .cons h (RvL.take n r)
theorem RvL.drop : ∀ {vs : List V} {ds : List D} (n : Nat), RvL K S H vs ds → RvL K S H (vs.drop n) (ds.drop n)
  | _, _, 0, r => r
  | _, [], _ + 1, .nil => .nil
  | _, _ :: _, n + 1, .cons _ r => RvL.drop n r
theorem RvL.rev : ∀ {vs : List V} {ds : List D}, RvL K S H vs ds → RvL K S H vs.reverse ds.reverse
  | _, [], .nil => .nil
  | _, _ :: _, .cons h r => by
    rw [List.reverse_cons, List.reverse_cons]
    exact RvL.app (RvL.rev r) (.cons h .nil)
theorem RvL.pick {vs : List V} {ds : List D} {i : Int} (r : RvL K S H vs ds) (h0 : 0 ≤ i) (h1 : i < (ds.length : Int)) : ∃ v d, d ∈ ds ∧ Rv K S H v d ∧ atI vs i = some v := by
  obtain ⟨k, rfl⟩ := Int.eq_ofNat_of_zero_le h0
  have hk : k < vs.length := by rw [r.len]; omega
  obtain ⟨d, hd, rd⟩ := r.get (List.getElem?_eq_getElem hk)
  exact ⟨vs[k], d, List.mem_of_getElem? hd, rd, atI_nat (List.getElem?_eq_getElem hk)⟩
/-- a text of the program's own -/
def wd (s : Str) : D := .str s.cps.toList
theorem tx_cps (s : Str) : tx s.cps.toList = s := by cases s <;> simp [tx]
theorem Rv.lit (s : Str) (h : s.cps.toList.length ≤ 100000 := by decide +kernel) : Rv K S H (.str s) (wd s) := by
  have := Rv.str (K := K) (S := S) (H := H) s.cps.toList h
  rwa [Tx, tx_cps] at this
theorem out_new {p : Addr} (l : Lsts H S) (h : H p = none) : p ∉ S := fun m => by
  obtain ⟨xs, e⟩ := l p m
  rw [h] at e
  cases e
/-- a new tuple, a new list -/
theorem Rv.newT {p : Addr} {vs : List V} {ds : List D} (np : H p = none) (r : RvL K S H vs ds) (h : ds.length ≤ 100000) : Rv K S (upd H p (.tup vs)) (.ref p) (.tup ds) := .tup (SqT.of upd_same) (by rw [r.len]; exact h) (r.up (Stp.new np []))
theorem Rv.newL {p : Addr} {vs : List V} {ds : List D} (l : Lsts H S) (np : H p = none) (r : RvL K S H vs ds) (h : ds.length ≤ 100000) : Rv K S (upd H p (.lst vs)) (.ref p) (.lst ds) := .lst upd_same (out_new l np) (by rw [r.len]; exact h) (r.up (Stp.new np []))
theorem Lsts.up {H H' : Hp} (l : Lsts H S) (s : Stp [] H H') : Lsts H' S := l.stp s
end
/-! ### type(x) is T -/
theorem D.ty_old (d : D) : d.old.ty = d.ty := rfl
theorem ty_non : D.non.ty = some "NoneType" := rfl
theorem ty_bl {b : Bool} : (D.bl b).ty = some "bool" := rfl
theorem ty_int {i : Int} : (D.int i).ty = some "int" := rfl
theorem ty_str {l : List Nat} : (D.str l).ty = some "str" := rfl
theorem ty_tup {ds : List D} : (D.tup ds).ty = some "tuple" := by unfold D.ty D.old; rfl
theorem ty_lst {ds : List D} : (D.lst ds).ty = some "list" := by unfold D.ty D.old; rfl
theorem ty_obj {C : Addr} : (D.obj C).ty = none := rfl
theorem D.lst_of {d : D} (h : d.ty = some "list") : ∃ ds, d = .lst ds := by
  cases d with
  | lst ds => exact ⟨ds, rfl⟩
  | tup ds => rw [ty_tup] at h; exact absurd h (by decide)
  | obj C => rw [ty_obj] at h; cases h
  | non => exact absurd h (by rw [ty_non]; decide)
  | bl b => exact absurd h (by rw [ty_bl]; decide)
  | int i => exact absurd h (by rw [ty_int]; decide)
  | str l => exact absurd h (by rw [ty_str]; decide)
theorem D.tup_of {d : D} (h : d.ty = some "tuple") : ∃ ds, d = .tup ds := by
  cases d with
  | tup ds => exact ⟨ds, rfl⟩
  | lst ds => rw [ty_lst] at h; exact absurd h (by decide)
  | obj C => rw [ty_obj] at h; cases h
  | non => exact absurd h (by rw [ty_non]; decide)
  | bl b => exact absurd h (by rw [ty_bl]; decide)
  | int i => exact absurd h (by rw [ty_int]; decide)
  | str l => exact absurd h (by rw [ty_str]; decide)
theorem D.str_of {d : D} (h : d.ty = some "str") : ∃ l, d = .str l := by
  cases d with
  | str ds => exact ⟨ds, rfl⟩
  | lst ds => rw [ty_lst] at h; exact absurd h (by decide)
  | tup ds => rw [ty_tup] at h; exact absurd h (by decide)
  | obj C => rw [ty_obj] at h; cases h
  | non => exact absurd h (by rw [ty_non]; decide)
  | bl b => exact absurd h (by rw [ty_bl]; decide)
  | int i => exact absurd h (by rw [ty_int]; decide)
theorem D.int_of {d : D} (h : d.ty = some "int") : ∃ i, d = .int i := by
  cases d with
  | int i => exact ⟨i, rfl⟩
  | lst ds => rw [ty_lst] at h; exact absurd h (by decide)
  | tup ds => rw [ty_tup] at h; exact absurd h (by decide)
  | obj C => rw [ty_obj] at h; cases h
  | non => exact absurd h (by rw [ty_non]; decide)
  | bl b => exact absurd h (by rw [ty_bl]; decide)
  | str l => exact absurd h (by rw [ty_str]; decide)
/-! ### isinstance -/
def rIsD (K : PySem.W.Frag) (T : String) : List V → Hp → VK → Prop := fun xs H Q => ∃ (S : List Addr) (x : V) (d : D), xs = [x, .ty T] ∧ Rv K S H x d ∧ Q (.bl (d.isi T)) H
section
variable {X : Cx} {T : String}
theorem tyx_of {K : PySem.W.Frag} {S : List Addr} {H : Hp} {x : V} {d : D} (r : Rv K S H x d) (t : String) (h : d.ty = some t) : TyX K H x (.type t) := by
  cases r with
  | non => rw [ty_non] at h; cases h; exact .base .non
  | bl b => rw [ty_bl] at h; cases h; exact .base (.bl b)
  | int i => rw [ty_int] at h; cases h; exact .base (.int i)
  | str l hl => rw [ty_str] at h; cases h; exact .base (.str _)
  | lst hs _ _ _ => rw [ty_lst] at h; cases h; exact .base (.lst hs)
  | obj ho _ => rw [ty_obj] at h; cases h
  | tup hs _ _ =>
    rw [ty_tup] at h
    cases h
    rcases hs with (hs | ⟨o, hs⟩) | ⟨o, its, n, e, c, _⟩
    · exact .base (.tup hs)
    · exact .fTuple hs
    · exact .kTuple e c
theorem kit_str : ∀ t : String, t ∈ ["NoneType", "bool", "int", "str", "tuple", "list"] → kitB t "str" = some (t == "str") := by decide +kernel
theorem kit_int : ∀ t : String, t ∈ ["NoneType", "bool", "int", "str", "tuple", "list"] → kitB t "int" = some (t == "bool" || t == "int") := by decide +kernel
theorem kit_bool : ∀ t : String, t ∈ ["NoneType", "bool", "int", "str", "tuple", "list"] → kitB t "bool" = some (t == "bool") := by decide +kernel
theorem kit_tuple : ∀ t : String, t ∈ ["NoneType", "bool", "int", "str", "tuple", "list"] → kitB t "tuple" = some (t == "tuple") := by decide +kernel
theorem kit_list : ∀ t : String, t ∈ ["NoneType", "bool", "int", "str", "tuple", "list"] → kitB t "list" = some (t == "list") := by decide +kernel
theorem kit_d {d : D} {t : String} (h : d.ty = some t) (hT : T ∈ ["str", "int", "bool", "tuple", "list"]) : kitB t T = some (d.isi T) := by
  simp only [List.mem_cons, List.not_mem_nil, or_false] at hT
  have go : ∀ u, d.ty = some u → u = t := fun u e => by rw [h] at e; exact (Option.some.inj e).symm
  rcases hT with rfl | rfl | rfl | rfl | rfl <;> cases d
  all_goals first
    | (have q := go _ ty_non; subst q; first | exact kit_str _ (by decide) | exact kit_int _ (by decide) | exact kit_bool _ (by decide) | exact kit_tuple _ (by decide) | exact kit_list _ (by decide))
    | (have q := go _ ty_bl; subst q; first | exact kit_str _ (by decide) | exact kit_int _ (by decide) | exact kit_bool _ (by decide) | exact kit_tuple _ (by decide) | exact kit_list _ (by decide))
    | (have q := go _ ty_int; subst q; first | exact kit_str _ (by decide) | exact kit_int _ (by decide) | exact kit_bool _ (by decide) | exact kit_tuple _ (by decide) | exact kit_list _ (by decide))
    | (have q := go _ ty_str; subst q; first | exact kit_str _ (by decide) | exact kit_int _ (by decide) | exact kit_bool _ (by decide) | exact kit_tuple _ (by decide) | exact kit_list _ (by decide))
    | (have q := go _ ty_tup; subst q; first | exact kit_str _ (by decide) | exact kit_int _ (by decide) | exact kit_bool _ (by decide) | exact kit_tuple _ (by decide) | exact kit_list _ (by decide))
    | (have q := go _ ty_lst; subst q; first | exact kit_str _ (by decide) | exact kit_int _ (by decide) | exact kit_bool _ (by decide) | exact kit_tuple _ (by decide) | exact kit_list _ (by decide))
    | (rw [ty_obj] at h; cases h)
theorem D.has_ty (d : D) : (∃ t, d.ty = some t) ∨ ∃ C, d = .obj C := by
  cases d with
  | obj C => exact .inr ⟨C, rfl⟩
  | non => exact .inl ⟨_, ty_non⟩
  | bl b => exact .inl ⟨_, ty_bl⟩
  | int i => exact .inl ⟨_, ty_int⟩
  | str l => exact .inl ⟨_, ty_str⟩
  | tup ds => exact .inl ⟨_, ty_tup⟩
  | lst ds => exact .inl ⟨_, ty_lst⟩
theorem call_isiD (hT : T ∈ ["str", "int", "bool", "tuple", "list"]) : CallR X (.builtin "isinstance") (rIsD X.K T) := by
  intro pins s σ H xs us Q I r h
  obtain ⟨S, x, d, rfl, rv, q⟩ := h
  rcases d.has_ty with ⟨t, ht⟩ | ⟨C, rfl⟩
  · exact call_isi pins s σ H _ us Q I r ⟨x, .ty T, _, _, d.isi T, rfl, .ty T, tyx_of rv t ht, kit_ty (kit_d ht hT), q⟩
  · cases rv with
    | obj ho ok =>
      rename_i a
      obtain ⟨u1, u2, rfl, r1, r2⟩ := vals2 r
      cases r1
      cases (show u2 = Value.type T from r2)
      obtain ⟨⟨oe, vs, e1, ⟨e2, e3⟩, e4, _⟩, _⟩ := I.hok _ _ ho
      have J : PySem.W.InstAt s.heap a oe C none := by
        obtain ⟨oc, od, oda, osl⟩ := oe
        dsimp only at e2 e3 e4
        subst e2 e3 e4
        exact ⟨e1, rfl, rfl, trivial⟩
      have kit : PySem.W.kitOne X.K (.ref C) (.type T) = some ((D.obj C).isi T) := by
        simp only [List.mem_cons, List.not_mem_nil, or_false] at hT
        rcases hT with rfl | rfl | rfl | rfl | rfl
        · exact ok.is_str
        · exact ok.is_int
        · exact ok.is_bool
        · exact ok.is_tuple
        · exact ok.is_list
      exact PySem.W.kia_one (PySem.W.handS_kitx_exc ok.exc.hg ok.exc.hk ok.exc.hs ok.exc.hd ok.exc.ha ok.exc.hn ok.exc.ht ok.exc.hm) I.kIn J kit (fun z => nomatch z) fun tk => ⟨.bl ((D.obj C).isi T), H, I.kept (t' := tk) fun _ _ z => z, rfl, q⟩
end
theorem call_isiDK {X : Cx} {T : String} {K : PySem.W.Frag} (hK : X.K = K) (hT : T ∈ ["str", "int", "bool", "tuple", "list"]) : CallR X (.builtin "isinstance") (rIsD K T) := by
  subst hK
  exact call_isiD hT
/-! ### t[::-1] -/
section
variable {prog : Program} {w : World} {A : Around} {E : Value → Shared → Prop} {s : Shared}
open HT
theorem sliceApplied_rev {sl : Addr} {vl vu vs : Value} {n : Nat} {Q : Int × Int × Nat → Shared → Prop} (hs : s.heap.IsSliceOf sl vl vu vs) (pl : IsPart vl none) (pu : IsPart vu none) (ps : IsPart vs (some (-1)))
    (h : Q ((n : Int) - 1, -1, n) s) : wpAny (model prog w) A (Builtin.Slice.sliceApplied (.ref sl) (pure (n : Int))) Q E s := by
  obtain ⟨os, hos, hcs, hds⟩ := id hs
  unfold Builtin.Slice.sliceApplied Builtin.Slice.sliceFields
  refine wpAny_bind (wpAny_bind (wpAny_field hos hds (x := vl) rfl (wpAny_bind (wpAny_field hos hds (x := vu) rfl (wpAny_bind (wpAny_field hos hds (x := vs) rfl (wpAny_pure ?_)))))))
  refine wpAny_bind (slicePart_ ps ?_)
  show wpAny _ _ (if ((-1 : Int) == 0) = true then _ else _) _ _ s
  rw [if_neg (by decide)]
  refine wpAny_bind (slicePart_ pl (wpAny_bind (slicePart_ pu (wpAny_bind (wpAny_pure ?_)))))
  show wpAny _ _ (pure ((n : Int) - 1, (-1 : Int), Builtin.Slice.slicePlaces ((n : Int) - 1) (-1) (-1))) _ _ s
  have e : Builtin.Slice.slicePlaces ((n : Int) - 1) (-1) (-1) = n := by
    unfold Builtin.Slice.slicePlaces
    rw [if_neg (by decide)]
    by_cases c : (n : Int) - 1 > -1
    · rw [if_pos c, show (- -1 : Int) = 1 by decide, Int.ediv_one]
      omega
    · rw [if_neg c]
      omega
  rw [e]
  exact wpAny_pure h
theorem pick_rev (xs : Array Value) : ((List.range xs.size).filterMap fun (k : Nat) => xs[((xs.size : Int) - 1 + (k : Int) * (-1)).toNat]?).toArray = xs.toList.reverse.toArray := by
  have e : (fun (k : Nat) => xs[((xs.size : Int) - 1 + (k : Int) * (-1)).toNat]?) = (fun k => xs[xs.size - 1 - k]?) := by
    funext k
    have : ((xs.size : Int) - 1 + (k : Int) * (-1)).toNat = xs.size - 1 - k := by omega
    rw [this]
  rw [e]
  have e2 : (fun k => xs[xs.size - 1 - k]?) = (fun k => xs[k]?) ∘ fun k => xs.size - 1 - k := rfl
  rw [e2, ← List.filterMap_map, PySem.W.krv_range, List.filterMap_reverse, PySem.W.krv_all]
theorem getItem_tuple_rev {t sl : Addr} {items : Array Value} {vl vu vs : Value} {Q : Value → Shared → Prop} (ht : IsTup s.heap t items) (hs : s.heap.IsSliceOf sl vl vu vs) (pl : IsPart vl none) (pu : IsPart vu none) (ps : IsPart vs (some (-1)))
    (h : Q (.ref s.heap.objs.size) { s with heap := s.heap.push { cls := .type "tuple", data := .seq items.toList.reverse.toArray } })
    (hsz : items.size ≤ sizeLine) : wpAny (model prog w) A (getItem (.ref t) (.ref sl)) Q E s := by
  have htake : sizeOk (.seq items.toList.reverse.toArray) := by
    show items.toList.reverse.toArray.size ≤ sizeLine
    rw [List.size_toArray, List.length_reverse, Array.length_toList]
    exact hsz
  obtain ⟨os, hos, hcs, hds⟩ := id hs
  have hTs : s.TypeIs (.ref sl) "slice" := ⟨os, hos, hcs⟩
  unfold getItem
  try with_reducible refine wpAny_holding ?_
  first | refine wpAny_bind (wpAny_pure ?_) | skip
  refine wpAny_bind (wpAny_sequenceKey ht.typeIs (by decide) ?_)
  refine wpAny_bind (wpAny_callSpecial?_slot (name := Str.ofString "__getitem__") ht.typeIs PyProof.Rows.slot_tuple_getitem
    (wpAny_call_entry PyProof.Rows.slot_tuple_getitem ht.typeIs entry_tuple_getitem ?_ (args_tuple_getitem _ _)))
  show wpAny _ _ (Builtin.Tuple.tupleItemsOf (.ref t) >>= _) _ _ s
  refine wpAny_bind (tupleItemsOf_ ht ?_)
  refine wpAny_bind (wpAny_typeOf hTs ?_)
  rw [if_pos (by decide)]
  refine wpAny_bind (sliceApplied_rev hs pl pu ps ?_)
  have hno : ¬ ((((items.size : Int) - 1) == 0 && (-1 : Int) == 1 && items.size == items.size) = true) := by
    intro q
    rw [Bool.and_eq_true, Bool.and_eq_true] at q
    exact absurd q.1.2 (by decide)
  show wpAny _ _ (if (((items.size : Int) - 1) == 0 && (-1 : Int) == 1 && items.size == items.size) = true then _ else _) _ _ s
  rw [if_neg hno, pick_rev]
  first
    | exact wpAny_bind (m := Builtin.Tuple.tupleExact _) (wpAny_newObj_type (wpAny_pure ⟨_, rfl, wpAny_pure h⟩) htake)
    | exact wpAny_bind (m := Builtin.Tuple.tupleExact _) (wpAny_newObj_type (wpAny_bind (wpAny_pure (wpAny_pure ⟨_, rfl, wpAny_pure h⟩))) htake)
    | exact wpAny_bind (wpAny_bind (m := Builtin.Tuple.tupleExact _) (wpAny_newObj_type (wpAny_pure (wpAny_pure ⟨_, rfl, wpAny_pure h⟩)) htake))
    | exact wpAny_bind (wpAny_bind (m := Builtin.Tuple.tupleExact _) (wpAny_newObj_type (wpAny_pure ⟨_, rfl, wpAny_pure h⟩) htake))
end
section
variable {X : Cx}
def tRevT (K : PySem.W.Frag) (te : TE) : TE := fun σ H Q => te σ H fun x H1 => ∃ a xs, x = .ref a ∧ SqT K H1 a xs ∧ ∀ p, H1 p = none → Q (.ref p) (upd H1 p (.tup xs.reverse))
theorem pe_revT {e : Expr} {te : TE} {k : Nat} {p1 p2 p3 pos : Pos} (he : PE X e te) : PE X (.Subscript e (.Slice none none (some (.UnaryOp .USub (.Constant (.int 1) k p1) p2)) p3) pos) (tRevT X.K te) := by
  refine ⟨fun pins s σ H Q I h => ?_⟩
  refine Subscript_ (thn (he.run pins s σ H _ I h) fun v s1 ⟨x, H1, I1, r1, q1⟩ => ?_)
  obtain ⟨a, xs, ex, hx, q⟩ := q1
  subst ex
  cases r1
  have hst : PO X (some (.UnaryOp .USub (.Constant (.int 1) k p1) p2)) (tPart (tUn (rU fun i => .int (-i)) (tC (.int 1)))) := po_some (pe_un un_neg pe_int)
  refine wpAny_Slice (thn (po_none.run pins s1 σ H1 (fun o H2 => o = none ∧ H2 = H1) I1 ⟨rfl, rfl⟩) fun vl s2 ⟨l, H2, I2, pl, el, e2⟩ => ?_)
  subst el e2
  refine thn (po_none.run pins s2 σ H2 (fun o H3 => o = none ∧ H3 = H2) I2 ⟨rfl, rfl⟩) fun vu s3 ⟨u, H3, I3, pu, eu, e3⟩ => ?_
  subst eu e3
  refine thn (hst.run pins s3 σ H3 (fun o H4 => o = some (-1) ∧ H4 = H3) I3 ⟨1, rfl, -1, rfl, rfl, rfl⟩) fun vs s4 ⟨o, H4, I4, ps, eo, e4⟩ => ?_
  subst eo e4
  have I5 : Inv X pins σ H4 { s4 with heap := s4.heap.push { cls := .type "slice", data := .fields #[vl, vu, vs] } } := I4.kept (t' := s4.toks) fun b ob q => Heap.get?_push_of_some _ q
  obtain ⟨its, r, ht, hz⟩ := I5.tuple hx
  have hlen := r.length
  show wpAny (model X.prog X.w) X.A (subscriptTail e (.Slice none none (some (.UnaryOp .USub (.Constant (.int 1) k p1) p2)) p3) (.ref a) (.ref s4.heap.objs.size)) (EP X pins σ Q) X.xe { s4 with heap := s4.heap.push { cls := .type "slice", data := .fields #[vl, vu, vs] } }
  refine tail_any (ops := [.ref a, .ref s4.heap.objs.size]) ht.typeIs (PyProof.Rows.slot_tuple_getitem.lookup) ?_ (by with_unfolding_all rfl)
  refine getItem_tuple_rev ht (Heap.IsSliceOf.new _ vl vu vs) pl pu ps ?_ (by rw [List.size_toArray]; omega)
  refine ⟨.ref _, _, I5.laid (t' := s4.toks) (o := .tup xs.reverse) (fun b ob q => Heap.get?_push_of_some _ q) (Nat.le_refl _) ?_, rfl, q _ (I5.hok.fresh (Nat.le_refl _))⟩
  exact ⟨by rw [List.length_reverse]; exact hz, _, r.reverse, IsTup.new _ _⟩
end
/-! ### expressions that build values -/
def EvD (K : PySem.W.Frag) (S : List Addr) (te : TE) (σ : L2.St) (H : Hp) (d : D) : Prop := ∀ H1, Stp [] H H1 → ∀ Q : VK, (∀ v H2, Stp [] H1 H2 → Rv K S H2 v d → Q v H2) → te σ H1 Q
def EvDA (K : PySem.W.Frag) (S : List Addr) (ta : TA) (σ : L2.St) (H : Hp) (ds : List D) : Prop := ∀ H1, Stp [] H H1 → ∀ Q : List V → Hp → Prop, (∀ vs H2, Stp [] H1 H2 → RvL K S H2 vs ds → Q vs H2) → ta σ H1 Q
section
variable {K : PySem.W.Frag} {S : List Addr} {te : TE} {ta : TA} {σ : L2.St} {H : Hp} {d : D} {ds : List D}
theorem EvD.bl {b : Bool} : EvD K S (tC (.bl b)) σ H (.bl b) := fun H1 _ _ k => k _ H1 (Stp.refl _ _) (.bl b)
theorem EvD.int {i : Int} : EvD K S (tC (.int i)) σ H (.int i) := fun H1 _ _ k => k _ H1 (Stp.refl _ _) (.int i)
theorem EvD.non : EvD K S (tC .non) σ H .non := fun H1 _ _ k => k _ H1 (Stp.refl _ _) .non
theorem EvD.str {s : Str} (h : s.cps.toList.length ≤ 100000 := by decide +kernel) : EvD K S (tC (.str s)) σ H (wd s) := fun H1 _ _ k => k _ H1 (Stp.refl _ _) (Rv.lit s h)
theorem EvD.var {i : Nat} {v : V} (r : Rv K S H v d) (e : σ[i]? = some (some v) := by rfl) : EvD K S (tVar i) σ H d := fun H1 s _ k => ⟨v, e, k v H1 (Stp.refl _ _) (r.up s)⟩
theorem EvDA.nil : EvDA K S tNil σ H [] := fun H1 _ _ k => k [] H1 (Stp.refl _ _) .nil
theorem EvDA.cons (h : EvD K S te σ H d) (g : EvDA K S ta σ H ds) : EvDA K S (tCons te ta) σ H (d :: ds) := fun H1 s Q k =>
  h H1 s _ fun v H2 s2 r => g H2 (s.trans s2) _ fun vs H3 s3 rs => k (v :: vs) H3 (s2.trans s3) (.cons (r.up s3) rs)
theorem EvD.tup (h : EvDA K S ta σ H ds) (hl : ds.length ≤ 1000) : EvD K S (tTup ta) σ H (.tup ds) := fun H1 s Q k =>
  h H1 s _ fun vs H2 s2 rs => ⟨sz (by rw [rs.len]; omega), fun p np => k _ _ (s2.new' np) (Rv.newT np rs (by omega))⟩
theorem EvD.lst (L : Lsts H S) (h : EvDA K S ta σ H ds) (hl : ds.length ≤ 1000) : EvD K S (tLst ta) σ H (.lst ds) := fun H1 s Q k =>
  h H1 s _ fun vs H2 s2 rs => ⟨sz (by rw [rs.len]; omega), fun p np => k _ _ (s2.new' np) (Rv.newL (Pv.Lsts.up L (s.trans s2)) np rs (by omega))⟩
theorem EvD.exc {C : Addr} (ok : OkC K C) (h : EvD K S te σ H d) : EvD K S (fun σ H Q => te σ H fun _ H1 => ∀ a, H1 a = none → Q (.ref a) (upd H1 a (ExO (.ref C) a))) σ H (.obj C) := fun H1 s Q k =>
  h H1 s _ fun v H2 s2 _ => fun a na => k _ _ (s2.new' na) (.obj upd_same ok)
theorem EvD.pow {i j : Int} (h : CPow i j) : EvD K S (tOp (rI CPow fun i j => .int (i ^ j.toNat)) (tC (.int i)) (tC (.int j))) σ H (.int (i ^ j.toNat)) := fun H1 s Q k =>
  ⟨i, j, rfl, rfl, h, k _ _ (Stp.refl _ _) (.int _)⟩
theorem EvD.neg {i : Int} : EvD K S (tUn (rU fun i => .int (-i)) (tC (.int i))) σ H (.int (-i)) := fun H1 s Q k => ⟨i, rfl, k _ _ (Stp.refl _ _) (.int _)⟩
theorem EvDA.use (h : EvDA K S ta σ H ds) {Q : List V → Hp → Prop} (k : ∀ vs H2, Stp [] H H2 → RvL K S H2 vs ds → Q vs H2) : ta σ H Q := h H (Stp.refl _ _) Q k
theorem EvD.use (h : EvD K S te σ H d) {Q : VK} (k : ∀ v H2, Stp [] H H2 → Rv K S H2 v d → Q v H2) : te σ H Q := h H (Stp.refl _ _) Q k
theorem EvDA.newl (h : EvDA K S ta σ H ds) (hl : ds.length ≤ 1000) {Q : VK} (k : ∀ p vs H2, Stp [] H H2 → H p = none → H2 p = some (.lst vs) → RvL K S H2 vs ds → Q (.ref p) H2) : tLst ta σ H Q :=
  h.use fun vs H2 s rs => ⟨sz (by rw [rs.len]; omega), fun p np => k p vs _ (s.new' np) (s.fresh (fun m => nomatch m) np) upd_same (rs.up (Stp.new np []))⟩
end
/-! ### lists of truths, compared -/
theorem dp_bools {K : PySem.W.Frag} {H : Hp} : ∀ (bs : List Bool), DpAll K H (bs.map V.bl) (bs.map PyData.bool)
  | [] => .nil
  | b :: bs => .cons (.bl b) (dp_bools bs)
theorem lay_bools : ∀ (bs : List Bool), PyData.canLayAll0 (bs.map PyData.bool) = true
  | [] => rfl
  | b :: bs => by
    show (PyData.canLay0 (.bool b) && PyData.canLayAll0 (bs.map PyData.bool)) = true
    rw [lay_bools bs]
    rfl
theorem dep_bools : ∀ (bs : List Bool), PyData.depthAll (bs.map PyData.bool) = 0
  | [] => rfl
  | b :: bs => by
    show max 0 (PyData.depthAll (bs.map PyData.bool)) = 0
    rw [dep_bools bs]
    rfl
theorem shaped_bools (bs : List Bool) : SeqAt.shaped (.list (bs.map PyData.bool)) = true := by
  unfold SeqAt.shaped
  rw [show PyData.canLay0 (.list (bs.map PyData.bool)) = true from lay_bools bs]
  rw [show PyData.depth (.list (bs.map PyData.bool)) = 0 + 1 by show PyData.depthAll _ + 1 = _; rw [dep_bools]]
  rfl
/-- the same list of truths twice: != says no -/
theorem ne_bools {K : PySem.W.Frag} {H : Hp} {p q : Addr} {bs : List Bool} {Q : VK} (hp : SqL K H p (bs.map V.bl)) (hq : SqL K H q (bs.map V.bl)) (k : Q (.bl false) H) : rNeD K (.ref p) (.ref q) H Q := by
  refine ⟨.list (bs.map PyData.bool), .list (bs.map PyData.bool), .lst hp (dp_bools bs), .lst hq (dp_bools bs), shaped_bools bs, shaped_bools bs, ?_⟩
  rw [SeqAt.eqv_refl _ (show PyData.canLay0 (.list (bs.map PyData.bool)) = true from lay_bools bs)]
  exact k
end Pv
namespace Pv
open PySem PySem.Spec PyProof.Rows L2 Pg
/-- the ways of an expression, joined by what they leave -/
theorem te_join {te : TE} {σ : L2.St} {H : Hp} {Q : VK} (I : V → Hp → Prop) (h : (∀ v H', I v H' → Q v H') → te σ H Q) (k : ∀ v H', I v H' → Q v H') : te σ H Q := h k
/-- xs + ys, new lists of values -/
theorem cat_use {K : PySem.W.Frag} {S : List Addr} {H : Hp} {a b : Addr} {xs ys : List V} {ds es : List D} {Q : VK} (ha : H a = some (.lst xs)) (hb : H b = some (.lst ys)) (ra : RvL K S H xs ds) (rb : RvL K S H ys es) (hl : ds.length + es.length ≤ 100000)
    (k : ∀ p, H p = none → ∀ H' zs, Stp [] H H' → H' p = some (.lst zs) → RvL K S H' zs (ds ++ es) → Q (.ref p) H') : rCat (.ref a) (.ref b) H Q :=
  ⟨a, b, xs, ys, rfl, rfl, ha, hb, by rw [ra.len, rb.len]; exact sz hl, fun p np => k p np _ _ (Stp.new np _) upd_same ((ra.app rb).up (Stp.new np _))⟩
/-- xs + ys, also of a list that is locked -/
def rCatS (K : PySem.W.Frag) : R2 := fun x y H Q => ∃ l b xs zs, x = .ref l ∧ y = .ref b ∧ SqL K H l xs ∧ SqL K H b zs ∧ xs.length + zs.length ≤ sizeLine ∧ ∀ p, H p = none → Q (.ref p) (upd H p (.lst (xs ++ zs)))
theorem op_catS {X : Cx} : OpR X (binaryOp .Add) (rCatS X.K) := by
  intro pins s σ H x y v u Q I rx ry h
  obtain ⟨l, b, xs, zs, rfl, rfl, hH, hB, hz, q⟩ := h
  cases rx
  cases ry
  obtain ⟨its, r, pl, _⟩ := I.list hH
  obtain ⟨its2, r2, pl2, _⟩ := I.list hB
  have hl := r.length
  have hl2 := r2.length
  have ea : its.toArray ++ its2.toArray = (its ++ its2).toArray := by simp
  obtain ⟨⟨cls, dd, data, sl⟩, ho, hc, n, hd⟩ := pl.isList
  obtain ⟨⟨cls2, dd2, data2, sl2⟩, ho2, hc2, n2, hd2⟩ := pl2.isList
  simp only at hc hd hc2 hd2
  subst hc hd hc2 hd2
  refine concat_meets ⟨_, ho, rfl⟩ ⟨_, ho2, rfl⟩ noFill_list_add seq_list_add PySem.F.slot_list_add PySem.F.entry_list_add (PySem.F.args_list_add_2 _ _) (list_addW l b its.toArray its2.toArray n n2 dd dd2 sl sl2 (by rw [List.size_toArray, List.size_toArray]; omega)) ⟨ho, ho2, ?_⟩
  rw [ea]
  exact ⟨.ref _, _, I.lnew (t' := s.toks) (r.append r2) (by rw [List.length_append]; omega), rfl, q _ I.fresh⟩
theorem out_of {b p : Addr} {H : Hp} {o : HO} (h : H b = some o) (np : H p = none) : p ∉ [b] := fun m => by
  rw [List.mem_singleton.mp m, h] at np
  cases np
end Pv
namespace Pv
open PySem PySem.Spec PyProof.Rows L2 Pg
section
variable {K : PySem.W.Frag} {S : List Addr} {te : TE} {ta : TA} {σ : L2.St} {H : Hp} {d : D} {ds es : List D}
theorem catT {a b : Addr} {xs ys : List V} {Q : VK} (ha : SqT K H a xs) (hb : SqT K H b ys) (ra : RvL K S H xs ds) (rb : RvL K S H ys es) (hl : ds.length + es.length ≤ 100000)
    (k : ∀ p zs H', Stp [] H H' → SqT K H' p zs → RvL K S H' zs (ds ++ es) → Q (.ref p) H') : rCatA K (.ref a) (.ref b) H Q :=
  catA_use ha hb (by rw [ra.len, rb.len]; exact hl) fun p H' s h => k p _ H' s h ((ra.app rb).up s)
theorem upT {a : Addr} {xs : List V} {n : Nat} {Q : VK} (ha : SqT K H a xs) (ra : RvL K S H xs ds) (k : ∀ p zs H', Stp [] H H' → SqT K H' p zs → RvL K S H' zs (ds.take n) → Q (.ref p) H') : rSlA K (.ref a) none (some (n : Int)) H Q :=
  slA_use ha fun p H' s h => k p _ H' s (by rwa [cut_upto] at h) ((ra.take n).up s)
theorem fromT {a : Addr} {xs : List V} {n : Nat} {Q : VK} (ha : SqT K H a xs) (ra : RvL K S H xs ds) (k : ∀ p zs H', Stp [] H H' → SqT K H' p zs → RvL K S H' zs (ds.drop n) → Q (.ref p) H') : rSlA K (.ref a) (some (n : Int)) none H Q :=
  slA_use ha fun p H' s h => k p _ H' s (by rwa [cut_from] at h) ((ra.drop n).up s)
theorem fromT1 {a : Addr} {xs : List V} {n : Nat} {Q : VK} (ha : SqT K H a xs) (ra : RvL K S H xs ds) (k : ∀ p zs H', Stp [] H H' → SqT K H' p zs → RvL K S H' zs (ds.drop (n + 1)) → Q (.ref p) H') : rSlA K (.ref a) (some ((n : Int) + 1)) none H Q :=
  Pv.fromT (n := n + 1) ha ra k
/-! more expressions -/
theorem Rv.tupE {a : V} (r : Rv K S H a (.tup ds)) : ∃ p vs, a = .ref p ∧ SqT K H p vs ∧ vs.length ≤ 100000 ∧ RvL K S H vs ds := by
  cases r with
  | tup h n r => exact ⟨_, _, rfl, h, n, r⟩
theorem EvD.list (L : Lsts H S) (h : EvD K S te σ H (.tup ds)) : EvD K S (tCB (fun xs H Q => ∃ p ys, xs = [.ref p] ∧ (SqL K H p ys ∨ SqT K H p ys) ∧ ∀ l, H l = none → Q (.ref l) (upd H l (.lst ys))) (tCons te tNil)) σ H (.lst ds) := fun H1 s Q k =>
  h H1 s _ fun v H2 s2 r => by
    obtain ⟨p, vs, rfl, hs, n, rl⟩ := r.tupE
    exact ⟨_, _, rfl, .inr hs, fun l nl => k _ _ (s2.new' nl) (Rv.newL (Pg.Lsts.stp L (s.trans s2)) nl rl (by rw [← rl.len]; exact n))⟩
theorem EvD.upT {n : Nat} (h : EvD K S te σ H (.tup ds)) : EvD K S (tSl (rSlA K) te tNoPart (tPart (tC (.int (n : Int))))) σ H (.tup (ds.take n)) := fun H1 s Q k =>
  h H1 s _ fun v H2 s2 r => by
    obtain ⟨p, vs, rfl, hs, n, rl⟩ := r.tupE
    exact ⟨_, rfl, Pv.upT hs rl fun p zs H' s3 h2 r2 => k _ _ (s2.trans s3) (.tup h2 (by rw [r2.len, List.length_take, ← rl.len]; omega) r2)⟩
theorem EvD.fromT {n : Nat} (h : EvD K S te σ H (.tup ds)) : EvD K S (tSl (rSlA K) te (tPart (tC (.int (n : Int)))) tNoPart) σ H (.tup (ds.drop n)) := fun H1 s Q k =>
  h H1 s _ fun v H2 s2 r => by
    obtain ⟨p, vs, rfl, hs, n, rl⟩ := r.tupE
    exact ⟨_, rfl, Pv.fromT hs rl fun p zs H' s3 h2 r2 => k _ _ (s2.trans s3) (.tup h2 (by rw [r2.len, List.length_drop, ← rl.len]; omega) r2)⟩
theorem EvD.catT {tb : TE} (h : EvD K S te σ H (.tup ds)) (g : EvD K S tb σ H (.tup es)) (hl : ds.length + es.length ≤ 100000) : EvD K S (tOp (rCatA K) te tb) σ H (.tup (ds ++ es)) := fun H1 s Q k =>
  h H1 s _ fun v H2 s2 r => g H2 (s.trans s2) _ fun u H3 s3 q => by
    obtain ⟨p, vs, rfl, hs, n, rl⟩ := (r.up s3).tupE
    obtain ⟨p2, vs2, rfl, hs2, n2, rl2⟩ := q.tupE
    exact Pv.catT hs hs2 rl rl2 hl fun p zs H' s4 h2 r2 => k _ _ ((s2.trans s3).trans s4) (.tup h2 (by rw [r2.len, List.length_append]; exact hl) r2)
theorem EvD.ixT {i : Nat} (h : EvD K S te σ H (.tup ds)) (e : ds[i]? = some d) : EvD K S (tOp (rIxT K) te (tC (.int (i : Int)))) σ H d := fun H1 s Q k =>
  h H1 s _ fun v H2 s2 r => by
    obtain ⟨p, vs, rfl, hs, n, rl⟩ := r.tupE
    have hi : i < vs.length := by
      rw [rl.len]
      exact (List.getElem?_eq_some_iff.mp e).1
    obtain ⟨d', e', r'⟩ := rl.get (List.getElem?_eq_getElem hi)
    rw [e] at e'
    cases e'
    exact ⟨p, vs, _, _, rfl, rfl, hs, atI_nat (List.getElem?_eq_getElem hi), k _ _ s2 r'⟩
theorem EvD.revT (h : EvD K S te σ H (.tup ds)) : EvD K S (tRevT K te) σ H (.tup ds.reverse) := fun H1 s Q k =>
  h H1 s _ fun v H2 s2 r => by
    obtain ⟨p, vs, rfl, hs, n, rl⟩ := r.tupE
    exact ⟨p, vs, rfl, hs, fun p np => k _ _ (s2.new' np) (Rv.newT np rl.rev (by rw [List.length_reverse, ← rl.len]; exact n))⟩
theorem op_newl {r : R2} {tb : TE} {Q : VK} (h : EvDA K S ta σ H ds) (hl : ds.length ≤ 1000) (k : ∀ p vs H2, Stp [] H H2 → H p = none → H2 p = some (.lst vs) → RvL K S H2 vs ds → tb σ H2 fun y H3 => r (.ref p) y H3 Q) : tOp r (tLst ta) tb σ H Q := h.newl hl k
theorem EvDA.one (h : EvD K S te σ H d) : EvDA K S (tCons te tNil) σ H [d] := .cons h .nil
end
end Pv
namespace Pv
open PySem PySem.Spec PyProof.Rows L2 Pg
/-! ### xs == [], xs any values -/
def rEqNil (K : PySem.W.Frag) : R2 := fun x y H Q => ∃ a b xs, x = .ref a ∧ y = .ref b ∧ a ≠ b ∧ SqL K H a xs ∧ SqL K H b [] ∧ Q (.bl xs.isEmpty) H
def rNeNil (K : PySem.W.Frag) : R2 := fun x y H Q => ∃ a b xs, x = .ref a ∧ y = .ref b ∧ a ≠ b ∧ SqL K H a xs ∧ SqL K H b [] ∧ Q (.bl (!xs.isEmpty)) H
theorem op_eqNil {X : Cx} (hu : X.A.units + 64 < cLine) : OpR X (compareOp .Eq) (rEqNil X.K) := by
  intro pins s σ H x y v u Q I rx ry h
  obtain ⟨a, b, xs, rfl, rfl, ne, hH, hB, q⟩ := h
  cases rx
  cases ry
  obtain ⟨its, r, pl, _⟩ := I.list hH
  obtain ⟨its2, r2, pl2, _⟩ := I.list hB
  cases r2
  cases xs with
  | nil =>
    cases r
    refine SeqAt.RcAt.lists (e := fun _ => true) pl.isList pl2.isList rfl (by omega) (fun j h1 h2 => absurd h1 (by simp)) _ _ _ _ ?_
    exact ⟨.bl true, H, I, rfl, q⟩
  | cons x xs =>
    cases r with
    | cons r1 r =>
      refine SeqAt.RcAt.lists_lengths pl.isList pl2.isList (by simp) (by omega) _ _ _ _ ?_
      exact ⟨.bl false, H, I, rfl, q⟩
theorem op_neNil {X : Cx} (hu : X.A.units + 64 < cLine) : OpR X (compareOp .NotEq) (rNeNil X.K) := by
  intro pins s σ H x y v u Q I rx ry h
  obtain ⟨a, b, xs, rfl, rfl, ne, hH, hB, q⟩ := h
  cases rx
  cases ry
  obtain ⟨its, r, pl, _⟩ := I.list hH
  obtain ⟨its2, r2, pl2, _⟩ := I.list hB
  cases r2
  cases xs with
  | nil =>
    cases r
    refine SeqAt.RcNeAt.lists (e := fun _ => true) pl.isList pl2.isList rfl (by omega) (fun j h1 h2 => absurd h1 (by simp)) _ _ _ _ ?_
    exact ⟨.bl false, H, I, rfl, q⟩
  | cons x xs =>
    cases r with
    | cons r1 r =>
      refine SeqAt.RcNeAt.lists_lengths pl.isList pl2.isList (by simp) (by omega) _ _ _ _ ?_
      exact ⟨.bl true, H, I, rfl, q⟩
/-- one value told twice -/
theorem eq_rel {v : V} {d : D} {K : PySem.W.Frag} {S : List Addr} {H : Hp} {u u' : Value} (h : Rv K S H v d) (r : RelV v u) (r' : RelV v u') (A : Around) (s : Shared) : SeqAt.EqAt A s u u' true := by
  cases h with
  | non => cases r; cases r'; exact SeqAt.EqAt.same _
  | bl b => cases r; cases r'; exact SeqAt.EqAt.same _
  | int i =>
    obtain ⟨t, rfl⟩ := r
    obtain ⟨t', rfl⟩ := r'
    have := (MeetsSeq.EqGives.int i i t t').at A s
    rwa [show (i == i) = true from beq_self_eq_true i] at this
  | str l hl =>
    obtain ⟨t, rfl⟩ := r
    obtain ⟨t', rfl⟩ := r'
    have := (SeqRoads2.EqGives.str (tx l) (tx l) t t').at A s
    rwa [show ((tx l).cps.toList == (tx l).cps.toList) = true from beq_self_eq_true _] at this
  | tup _ _ _ => cases r; cases r'; exact SeqAt.EqAt.same _
  | lst _ _ _ _ => cases r; cases r'; exact SeqAt.EqAt.same _
  | obj _ _ => cases r; cases r'; exact SeqAt.EqAt.same _
theorem vals_at : ∀ {vs : List V} {us us' : List Value} {ds : List D} {K : PySem.W.Frag} {S : List Addr} {H : Hp}, RvL K S H vs ds → Vals vs us → Vals vs us' → ∀ (A : Around) (s : Shared) (j : Nat) (h1 : j < us.length) (h2 : j < us'.length), SeqAt.EqAt A s us[j] us'[j] true
  | _, _, _, _, _, _, _, .nil, .nil, .nil, _, _, _, h1, _ => absurd h1 (Nat.not_lt_zero _)
  | _, _, _, _, _, _, _, .cons h _, .cons r _, .cons r' _, A, s, 0, _, _ => eq_rel h r r' A s
  | _, _, _, _, _, _, _, .cons _ h, .cons _ r, .cons _ r', A, s, j + 1, h1, h2 => vals_at h r r' A s j (Nat.lt_of_succ_lt_succ h1) (Nat.lt_of_succ_lt_succ h2)
/-- xs != ys, both hold the same values -/
def rNeL (K : PySem.W.Frag) : R2 := fun x y H Q => ∃ (S : List Addr) (a b : Addr) (xs : List V) (ds : List D), x = .ref a ∧ y = .ref b ∧ SqL K H a xs ∧ SqL K H b xs ∧ RvL K S H xs ds ∧ Q (.bl false) H
theorem op_neL {X : Cx} (hu : X.A.units + 64 < cLine) : OpR X (compareOp .NotEq) (rNeL X.K) := by
  intro pins s σ H x y v u Q I rx ry h
  obtain ⟨S, a, b, xs, ds, rfl, rfl, hH, hB, rv, q⟩ := h
  cases rx
  cases ry
  obtain ⟨its, r, pl, _⟩ := I.list hH
  obtain ⟨its2, r2, pl2, _⟩ := I.list hB
  have e1 := Vals.length r
  have e2 := Vals.length r2
  refine SeqAt.RcNeAt.lists (e := fun _ => true) pl.isList pl2.isList (by simp; omega) (by omega) (fun j h1 h2 => ?_) _ _ _ _ ?_
  · have := vals_at rv r r2 X.A.in1 s j (by simpa using h1) (by simpa using h2)
    simpa using this
  · refine ⟨.bl _, H, I, rfl, ?_⟩
    rw [show ((List.range its.toArray.size).all fun _ => true) = true from by simp]
    exact q
end Pv
namespace PySem.W
open PySem PySem.Spec PySem.Calls PyProof.Rows Sem
/-- what a class says of == and != : no own ones -/
structure SameC (K : Frag) (D : Addr) : Prop where
  eq : findIn K (.ref D) "__eq__" = some (some (.builtin "object.__eq__"))
  ne : findIn K (.ref D) "__ne__" = some (some (.builtin "object.__ne__"))
  sub : subIn K (.ref D) (.type "object") = some true
section
variable {prog : Program} {w : World} {A : Around} {E : Value → Shared → Prop} {K : Frag} {x D : Addr} {ox : Obj} {h : Heap} {g : Array GenState} {d : Drawn} {t : Nat} {os : OsState}
theorem sp_same {name : Str} {id : String} {args : List Value} {Q : Option Value → Shared → Prop} (LS : Looks (model prog w) h (specialOf (.ref x) name) (some (.builtin id))) (S : PySem.Slot "object" name id)
    (hcall : wpAny (model prog w) A (call (.builtin id) (.ref x :: args)) (fun v => Q (some v)) E ⟨h, g, d, t, os⟩) : wpAny (model prog w) A (callSpecialIfBound? (.ref x) name args) Q E ⟨h, g, d, t, os⟩ := by
  simp only [callSpecialIfBound?, bindSpecialIfBound?]
  refine wpAny_holding (wpAny_bind (wpAny_bind (LS.at ?_)))
  simp only [S.bind]
  refine wpAny_bind (wpAny_askSetting (wpAny_ite ?_))
  have fin : wpAny (model prog w) A (call (.builtin id) ([.ref x] ++ args) >>= fun v => Pure.pure (some v)) Q E ⟨h, g, d, t, os⟩ :=
    wpAny_bind (wpAny_mono hcall (fun v s' h' => wpAny_pure h') fun _ _ h' => h')
  split
  · exact wpAny_bind (wpAny_pure (wpAny_pure fin))
  · exact wpAny_tryCatch (wpAny_bind (wpAny_pure (wpAny_pure fin)))
theorem eq_same (C : SameC K D) (X : K.In h) (I : InstAt h x ox D none) {Q : Option Value → Shared → Prop} (hq : Q (some (.bool true)) ⟨h, g, d, t, os⟩) :
    wpAny (model prog w) A (callSpecialIfBound? (.ref x) "__eq__" [.ref x]) Q E ⟨h, g, d, t, os⟩ := by
  have L0 := I.type (M := model prog w)
  have sub : Looks (model prog w) h (isInstance (.ref x) (.type "object")) true := L0.andThen (looks_subIn X C.sub)
  refine sp_same (L0.andThen (looks_findIn X C.eq)) PySem.F.cmp_object.eq ?_
  refine wpAny_call (codeAny_call_builtin PySem.F.cmp_object.eq.plain PySem.F.cmpEntry_eq ?_)
  exact @check_slot (model prog w) _ _ ⟨h, g, d, t, os⟩ "object.__eq__" "object" "__eq__" (.ref x) [.ref x] [] _ PySem.F.cmpKind_eq PySem.F.cmpSplit_eq sub (PySem.F.cmpArgs_eq _ _) (objEq_entry_same hq)
theorem ne_same (C : SameC K D) (X : K.In h) (I : InstAt h x ox D none) (hu : A.units + 1 < cLine) {Q : Option Value → Shared → Prop} (hq : Q (some (.bool false)) ⟨h, g, d, t, os⟩) :
    wpAny (model prog w) A (callSpecialIfBound? (.ref x) "__ne__" [.ref x]) Q E ⟨h, g, d, t, os⟩ := by
  have L0 := I.type (M := model prog w)
  have sub : Looks (model prog w) h (isInstance (.ref x) (.type "object")) true := L0.andThen (looks_subIn X C.sub)
  refine sp_same (L0.andThen (looks_findIn X C.ne)) PySem.F.cmp_object.ne ?_
  refine wpAny_call (codeAny_call_builtin PySem.F.cmp_object.ne.plain PySem.F.cmpEntry_ne ?_)
  refine @check_slot (model prog w) _ _ ⟨h, g, d, t, os⟩ "object.__ne__" "object" "__ne__" (.ref x) [.ref x] [] _ PySem.F.cmpKind_ne PySem.F.cmpSplit_ne sub (PySem.F.cmpArgs_ne _ _) ?_
  unfold Builtin.«object.__ne__»
  repeat (first | with_reducible refine wpAny_cRoomFor hu ?_ | with_reducible refine eq_same C X I ?_ | wp_step)
  exact hq
theorem compare_ne_same (C : SameC K D) (X : K.In h) (I : InstAt h x ox D none) (hu : A.units + 1 < cLine) {Q : Value → Shared → Prop} (hq : Q (.bool false) ⟨h, g, d, t, os⟩) :
    wpAny (model prog w) A (compareOp .NotEq (.ref x) (.ref x)) Q E ⟨h, g, d, t, os⟩ := by
  have hu0 : A.units < cLine := Nat.lt_of_succ_lt hu
  show wpAny (model prog w) A (richCompare .NotEq (.ref x) (.ref x)) Q E ⟨h, g, d, t, os⟩
  simp only [richCompare, cmpInfo_NotEq, oneThing_ref]
  have L0 := I.type (M := model prog w)
  have tc : ∀ {Q : Option Value → Shared → Prop}, Q (some (.bool false)) ⟨h, g, d, t, os⟩ → wpAny (model prog w) A (tryCompare (.ref x) "__ne__" (.ref x)) Q E ⟨h, g, d, t, os⟩ := fun hq => by
    simp only [tryCompare]
    exact wpAny_bind (ne_same C X I hu (wpAny_pure hq))
  repeat (first | with_reducible refine wpAny_cRoomFor hu0 ?_ | with_reducible refine L0.at ?_ | with_reducible refine tc ?_ | wp_step)
  exact hq
end
end PySem.W
namespace Pv
open PySem PySem.Spec PyProof.Rows L2 Pg
/-- x != x, any value -/
def rNeV (K : PySem.W.Frag) : R2 := fun x y H Q => x = y ∧ ∃ (S : List Addr) (d : D), Rv K S H x d ∧ (∀ C, d = .obj C → PySem.W.SameC K C) ∧ Q (.bl false) H
/-- kept != due: lists of the same values, or one value -/
def rNeK (K : PySem.W.Frag) : R2 := fun x y H Q => rNeL K x y H Q ∨ rNeV K x y H Q
theorem op_neK {X : Cx} (hu : X.A.units + 64 < cLine) : OpR X (compareOp .NotEq) (rNeK X.K) := by
  intro pins s σ H x y v u Q I rx ry h
  rcases h with h | ⟨rfl, S, d, rv, ob, q⟩
  · exact op_neL hu pins s σ H x y v u Q I rx ry h
  · have sc := fun e => op_ne pins s σ H x x v u Q I rx ry ⟨e, by rw [decide_eq_true rfl]; exact q⟩
    cases rv with
    | non => exact sc rfl
    | bl b => exact sc rfl
    | int i => exact sc rfl
    | str l hl => exact sc rfl
    | lst ha hn hl rl => exact op_neL hu pins s σ H _ _ v u Q I rx ry ⟨S, _, _, _, _, rfl, rfl, SqL.of ha, SqL.of ha, rl, q⟩
    | tup hs hl rl =>
      cases rx
      cases ry
      obtain ⟨its, r, pl, _⟩ := I.tuple hs
      refine SeqAt.RcNeAt.tuples (e := fun _ => true) pl pl (by omega) (fun j h1 h2 => SeqAt.EqAt.same _) _ _ _ _ ?_
      refine ⟨.bl _, H, I, rfl, ?_⟩
      have e : ∀ n : Nat, ((List.range n).all fun _ => true) = true := fun n => List.all_eq_true.mpr fun _ _ => rfl
      rw [e]
      simpa using q
    | obj ho ok =>
      rename_i a C
      cases rx
      cases ry
      obtain ⟨⟨oe, vs, e1, ⟨e2, e3⟩, e4, _⟩, _⟩ := I.hok _ _ ho
      have J : PySem.W.InstAt s.heap a oe C none := by
        obtain ⟨oc, od, oda, osl⟩ := oe
        dsimp only at e2 e3 e4
        subst e2 e3 e4
        exact ⟨e1, rfl, rfl, trivial⟩
      obtain ⟨hp, g, d, t, os⟩ := s
      refine PySem.W.compare_ne_same (ob C rfl) I.kIn J (by omega) ⟨.bl false, H, I, rfl, q⟩
end Pv
namespace Pg
open PySem PySem.Spec PyProof.Rows L2 PySem.Froz
/-! ### sets of texts, with what their order leans on -/
/-- the payload D holds the texts l; its table rises, and its order is to be told -/
structure TxR (P : Program) (w : World) (D : SD) (l : List Str) : Prop where
  ok : TxOk P w D l
  all : ∃ us : List Tok, us.length = l.length ∧ D.1.toList.Perm ((l.zip us).map fun p => (hashStr w p.1, Value.str p.1 p.2))
  nd : l.Nodup
  ris : Ris D.2.2.place.toList
  led : w.params.followText "set-order" = true ∨ D.2.2.led = true
section
variable {P : Program} {w : World} {A : Around} {E : Value → Shared → Prop} {s : Shared}
theorem tail_ris {ep : Nat} {xs : Array (Int × Value)} {t : SetTable} {b : Bool} (h : Ris t.place.toList) : Ris (tailTx ep xs t b).2.2.place.toList := by
  unfold tailTx
  by_cases c : (!b && t.tooFull) = true
  · rw [if_pos c]; exact relayAll_ris _ _ _
  · rw [if_neg c]; exact h
theorem tail_led {ep : Nat} {xs : Array (Int × Value)} {t : SetTable} {b : Bool} : (tailTx ep xs t b).2.2.led = t.led := by
  unfold tailTx
  by_cases c : (!b && t.tooFull) = true
  · rw [if_pos c]; exact relayAll_led _ _ _
  · rw [if_neg c]
theorem tail_all {ep : Nat} {xs : Array (Int × Value)} {t : SetTable} {b : Bool} : (tailTx ep xs t b).1.toList.Perm xs.toList := by
  unfold tailTx
  by_cases c : (!b && t.tooFull) = true
  · rw [if_pos c]; exact relayAll_perm _ _ _
  · rw [if_neg c]
theorem TxR.add {D : SD} {l : List Str} {k : Str} (u : Tok) (R : TxR P w D l) (hk : k ∉ l) : TxR P w (addTx (hashStr w k) (.str k u) D) (k :: l) := by
  obtain ⟨us, hu, hp⟩ := R.all
  refine ⟨add_ok u R.ok, ⟨u :: us, by rw [List.length_cons, List.length_cons, hu], ?_⟩, List.nodup_cons.mpr ⟨hk, R.nd⟩, ?_, ?_⟩
  · have p1 : (addTx (hashStr w k) (.str k u) D).1.toList.Perm (D.1.push (hashStr w k, .str k u)).toList := tail_all.trans (layNew_perm _ _ _ _)
    rw [Array.toList_push] at p1
    exact p1.trans ((List.perm_append_singleton _ _).trans (hp.cons _))
  · refine tail_ris ?_
    have q := layNew_ris D.2.2 D.1 (hashStr w k) (.str k u) R.ris
    split
    · exact q
    · exact q
  · have e1 : (addTx (hashStr w k) (.str k u) D).2.2.led = D.2.2.led := by
      unfold addTx
      rw [tail_led]
      have q := layNew_led D.2.2 D.1 (hashStr w k) (.str k u)
      split
      · exact q
      · exact q
    exact R.led.imp id fun z => e1.trans z
/-- a text that is there already is put in -/
theorem add_old {a : Addr} {T : String} {D : SD} {l : List Str} {k : Str} {u : Tok} {Q : Bool → Shared → Prop} (at_ : s.heap.get? a = some (sObj T D)) (F : TxOk P w D l) (hk : k ∈ l) (hb : l.length < scanBound)
    (h : Q false s) : wpAny (model P w) A (setAddHashed a (.str k u) (hashStr w k)) Q E s := by
  obtain ⟨xs, ep, t⟩ := D
  obtain ⟨e, he, hq⟩ := (F.mem k).mp hk
  have size : xs.size < scanBound := by have e : xs.size = l.length := F.sz; omega
  obtain ⟨j, hj⟩ : ∃ j, List.findIdx? (fun e => (strKind P w).is k e.2) xs.toList = some j := by
    cases c : List.findIdx? (fun e => (strKind P w).is k e.2) xs.toList with
    | some j => exact ⟨j, rfl⟩
    | none =>
      have := List.findIdx?_eq_none_iff.mp c e he
      rw [hq] at this
      cases this
  have dat : (sObj T (xs, ep, t)).data = .set xs ep t := rfl
  unfold setAddHashed setAddHashedIn
  refine wpAny_holding (wpAny_bind (wpAny_setState_of at_ dat F.fit ?_)); dsimp only
  rw [byScan_of rfl size F.el]; simp only [↓reduceIte]
  unfold setAddByScan
  refine wpAny_bind (wpAny_bind (wpAny_rule (wpAny_bind (wpAny_setScan_of (knd := strKind P w) (k := k) (is_str k u) at_ dat F.fit F.el ?_))))
  rw [hj]; dsimp only
  exact wpAny_pure (wpAny_pure h)
end
end Pg
namespace Pg
open PySem PySem.Spec PyProof.Rows L2 PySem.Froz
/-- of some texts each once: in the order in which a set takes them -/
def onceL (acc : List Str) : List Str → List Str
  | [] => acc
  | x :: xs => onceL (if x ∈ acc then acc else x :: acc) xs
theorem once_mem : ∀ (xs acc : List Str) (k : Str), k ∈ onceL acc xs ↔ k ∈ acc ∨ k ∈ xs
  | [], acc, k => by show k ∈ acc ↔ _; simp
  | x :: xs, acc, k => by
    show k ∈ onceL (if x ∈ acc then acc else x :: acc) xs ↔ _
    rw [once_mem xs]
    by_cases h : x ∈ acc
    · rw [if_pos h, List.mem_cons]
      constructor
      · rintro (q | q)
        · exact .inl q
        · exact .inr (.inr q)
      · rintro (q | rfl | q)
        · exact .inl q
        · exact .inl h
        · exact .inr q
    · rw [if_neg h, List.mem_cons, List.mem_cons]
      constructor
      · rintro ((q | q) | q)
        · exact .inr (.inl q)
        · exact .inl q
        · exact .inr (.inr q)
      · rintro (q | q | q)
        · exact .inl (.inr q)
        · exact .inl (.inl q)
        · exact .inr q
theorem once_len : ∀ (xs acc : List Str), (onceL acc xs).length ≤ acc.length + xs.length
  | [], acc => Nat.le_refl _
  | x :: xs, acc => by
    have h := once_len xs (if x ∈ acc then acc else x :: acc)
    show (onceL (if x ∈ acc then acc else x :: acc) xs).length ≤ _
    have e : (if x ∈ acc then acc else x :: acc).length ≤ acc.length + 1 := by split <;> simp
    rw [List.length_cons]
    omega
/-- a set of these texts stands at a -/
def SetS (P : Program) (w : World) (h : Heap) (a : Addr) (l : List Str) : Prop := ∃ D, h.get? a = some (sObj "set" D) ∧ TxR P w D l
section
variable {P : Program} {w : World} {A : Around} {E : Value → Shared → Prop} {s : Shared}
/-- one text is put in, new or not -/
theorem put_txt {a : Addr} {l : List Str} {k : Str} {u : Tok} {Q : Bool → Shared → Prop} (R : SetS P w s.heap a l) (hb : l.length + 1 < scanBound)
    (h : ∀ (b : Bool) h', Heap.SameBut a s.heap h' → SetS P w h' a (if k ∈ l then l else k :: l) → Q b { s with heap := h' }) : wpAny (model P w) A (setAddHashed a (.str k u) (hashStr w k)) Q E s := by
  obtain ⟨D, at_, R⟩ := R
  by_cases hk : k ∈ l
  · refine add_old at_ R.ok hk (by omega) ?_
    exact h false s.heap (Heap.SameBut.refl _ _) (by rw [if_pos hk]; exact ⟨D, at_, R⟩)
  · refine add_x at_ R.ok hk hb ?_
    refine h true _ (Heap.SameBut.update s.heap a _) ?_
    rw [if_neg hk]
    exact ⟨_, get_upd _ at_ rfl, R.add u hk⟩
end
section
variable {prog : Program} {w : World} {A : Around} {R : Result → Shared → Prop} {I : Addr} {fp wr : List Addr} {G : Array GenState → Array GenState → Prop} {n : Nat} {P : Nat → Value → Prop} {St : Nat → Shared → Prop}
theorem SetS.moved {h h' : Heap} {a : Addr} {l : List Str} (R : SetS prog w h a l) (k : ∀ o, h.get? a = some o → h'.get? a = some o) : SetS prog w h' a l := by
  obtain ⟨D, at_, q⟩ := R
  exact ⟨D, k _ at_, q⟩
/-- the loop that puts the items of a walk in -/
theorem puts (W : WalksS prog w A.in1 I fp wr G n P St) {D : Addr} (out : D ∉ fp) (xs : List Str) (len : xs.length = n) (few : n + 1 < scanBound) (is : ∀ i v, P i v → ∃ t, v = .str (xs.getD i Str.empty) t) :
    ∀ (m i : Nat) (s : Shared) (acc : List Str), n - i = m → i ≤ n → acc.length ≤ i → St i s → SetS prog w s.heap D acc →
      (∀ s', Moved (D :: wr) G s s' → SetS prog w s'.heap D (onceL acc (xs.drop i)) → R (.ok (.ret .none)) s') →
      codeAny (model prog w) A (.builtin "set.update.loop" ⟨[.ref D, .ref I], []⟩) R s := by
  have offw : D ∉ wr := fun q => out (W.sub _ q)
  have up : ∀ b ∈ wr, b ∈ D :: wr := fun b q => List.mem_cons_of_mem _ q
  intro m
  induction m with
  | zero =>
    intro i s acc hm hi _ st S fin
    obtain rfl : i = n := by omega
    refine codeAny_builtin PyProof.Rows.F.entry_set_update_loop ?_
    rw [Around.under_plainId PyProof.Rows.F.plain_set_update_loop _]
    refine wpAny_bind (W.done s _ _ st fun s' mv => wpAny_pure (fin s' (mv.mono up) ?_))
    rw [List.drop_of_length_le (by omega)]
    exact S.moved fun o e => mv.heap D o offw e
  | succ m ih =>
    intro i s acc hm hi ha st S fin
    have lt : i < n := by omega
    refine codeAny_builtin PyProof.Rows.F.entry_set_update_loop ?_
    rw [Around.under_plainId PyProof.Rows.F.plain_set_update_loop _]
    refine wpAny_bind (W.item i s _ _ lt st fun v s' pv st' mv => ?_)
    obtain ⟨t, rfl⟩ := is i v pv
    have S' : SetS prog w s'.heap D acc := S.moved fun o e => mv.heap D o offw e
    show wpAny _ A.in1 (holding [Value.str (xs.getD i Str.empty) t] (setAdd D (.str (xs.getD i Str.empty) t)) >>= _) _ _ s'
    refine wpAny_bind (wpAny_holding ?_)
    unfold setAdd
    refine wpAny_holding (wpAny_bind ((PySem.strKind prog w).pyHash (k := xs.getD i Str.empty) (strKind_is _ _ _ _) ?_))
    refine put_txt (s := { s' with toks := s'.toks + 1 }) S' (by omega) fun b h' sb S2 => ?_
    have dr : xs.drop i = xs.getD i Str.empty :: xs.drop (i + 1) := by
      rw [List.drop_eq_getElem_cons (by omega), List.getD_eq_getElem?_getD, List.getElem?_eq_getElem (by omega)]
      rfl
    refine wpAny_pure ⟨plainId_quiet PyProof.Rows.F.plain_set_update_loop _, ih (i + 1) _ (if xs.getD i Str.empty ∈ acc then acc else xs.getD i Str.empty :: acc) (by omega) lt ?_ (W.frame _ s' _ _ st' (Nat.le_succ _) fun b hb o e => ?_) S2 fun s'' mv2 S3 => ?_⟩
    · split
      · omega
      · rw [List.length_cons]; omega
    · rw [sb.2 b fun z => out (z ▸ hb)]; exact e
    · refine fin s'' (Moved.trans W.gtrans ((mv.mono up).then_heap (Nat.le_succ _) fun b o hb e => ?_) mv2) ?_
      · rw [sb.2 b fun z => hb (z ▸ List.mem_cons_self)]; exact e
      · rw [dr]; exact S3
end
end Pg
namespace Pg
open PySem PySem.Spec PyProof.Rows L2 PySem.Froz
section
variable {prog : Program} {w : World} {A : Around} {E : Value → Shared → Prop} {s : Shared}
/-- an empty set as it is laid -/
abbrev set0 (w : World) : Obj := { cls := .type "set", dict := none, data := .set #[] 0 (.fresh 0 0 (!w.params.followText "set-order")) }
theorem code_new1 (x : Value) {Z : Value → Shared → Prop} (h : Z (.ref s.heap.objs.size) { s with heap := s.heap.push (set0 w) }) : codeAny (model prog w) A (.call (.builtin "set.__new__") ⟨[.type "set", x], []⟩) (wants Z E) s := by
  refine codeAny_of_tree ?_
  show wpAny _ A.in1 (do checkBuiltinCall "set.__new__" ⟨[.type "set", x], []⟩; again (.builtin "set.__new__" ⟨[.type "set", x], []⟩)) _ _ s
  refine wpAny_bind (wpAny_of_eq (PySem.F.newCall_set_1 x) (wpAny_pure ⟨plainId_quiet PySem.F.plain_set_new _, codeAny_builtin PySem.F.entry_set_new ?_⟩)); rw [Around.under_plainId PySem.F.plain_set_new _]
  unfold Builtin.«set.__new__» Builtin.Frozenset.newClass
  have _sub := sub_set_self
  obtain ⟨heap, gens, drawn, toks, os⟩ := s; dsimp only; wp_walk
  refine wpAny_askSetting (wpAny_pure ?_); dsimp only; simp only [newObj]
  exact wpAny_bind (wpAny_alloc (wpAny_pure (wpAny_pure h)))
theorem set0_ok {h : Heap} : SetS prog w (h.push (set0 w)) h.objs.size [] := by
  refine ⟨(#[], 0, .fresh 0 0 (!w.params.followText "set-order")), Heap.get?_push_size _ rfl, TxOk.nil (by rfl), ⟨[], rfl, List.Perm.refl _⟩, List.nodup_nil, List.Pairwise.nil, ?_⟩
  show _ ∨ (!w.params.followText "set-order") = true
  cases w.params.followText "set-order" with
  | true => exact .inl rfl
  | false => exact .inr rfl
theorem str_at : ∀ {vs : List Value} {xs : List Str}, StrsAre vs xs → ∀ (i : Nat) (v : Value), vs[i]? = some v → ∃ t, v = .str (xs.getD i Str.empty) t
  | _, _, .nil, i, v, h => by simp at h
  | _, _, .cons n t r, 0, v, h => by
    rw [List.getElem?_cons_zero] at h
    exact ⟨t, (Option.some.inj h).symm⟩
  | _, _, .cons n t r, i + 1, v, h => str_at r i v h
set_option maxHeartbeats 4000000 in
/-- set(xs), xs a list of texts -/
theorem call_set_txt {l : Addr} {items : Array Value} {xs : List Str} {Q : Value → Shared → Prop} (hh : A.handled = none) (hl : s.heap.IsList l items) (his : StrsAre items.toList xs) (few : xs.length + 1 < scanBound)
    (h : ∀ (h' : Heap) (tk : Nat), SetS prog w h' s.heap.objs.size (onceL [] xs) → (∀ b o, s.heap.get? b = some o → h'.get? b = some o) → Q (.ref s.heap.objs.size) { s with heap := h', toks := tk }) :
    wpAny (model prog w) A (call (.type "set") [.ref l]) Q E s := by
  obtain ⟨cc, tt, mro⟩ := PySem.F.called_set.mro
  have g1 := PySem.F.called_set.made; have g2 := PySem.F.called_set.sub
  refine wpAny_call (codeAny_of_tree (wpAny_pure ⟨Code.quiet_builtin _ (by decide +kernel), codeAny_builtin PySem.F.entry_type_call ?_⟩))
  rw [Around.under_plain (weight_type_call_type "set" [.ref l] []) rfl]
  have g3 := PySem.F.called_set.notType; have g4 := PySem.F.called_set.canCreate; have g5 := PySem.F.typeCall_set_1 (.ref l)
  repeat (any_goals (first | assumption | wp_step))
  refine codeAny_mono (code_new1 (prog := prog) (.ref l) (E := E) (Z := fun obj z => obj = .ref s.heap.objs.size ∧ z = { s with heap := s.heap.push (set0 w) }) ⟨rfl, rfl⟩) fun r z hr => ?_
  cases r with
  | error e => exact hr
  | ok fl =>
    cases fl with
    | ret obj =>
      obtain ⟨rfl, rfl⟩ := hr
      have at0 : (s.heap.push (set0 w)).get? s.heap.objs.size = some (set0 w) := Heap.get?_push_size _ rfl
      have ty : Shared.TypeIs { s with heap := s.heap.push (set0 w) } (.ref s.heap.objs.size) "set" := ⟨_, at0, rfl⟩
      have g6 := PySem.F.called_set.init.lookup; have g7 := PySem.F.called_set.init.bind (.ref s.heap.objs.size)
      repeat (any_goals (first | assumption | wp_step))
      refine codeAny_mono (codeAny_call_builtin (R := wants (fun r z => r = .none ∧ ∃ h' tk, z = { s with heap := h', toks := tk } ∧ SetS prog w h' s.heap.objs.size (onceL [] xs) ∧ (∀ b o, s.heap.get? b = some o → h'.get? b = some o)) E)
        PySem.F.called_set.init.plain PySem.F.entry_set_init (check_set_init_1 ty ?_)) fun r2 z2 hr2 => ?_
      · obtain ⟨⟨oc, od, odata, osl⟩, hol, hcl, nl, hdl⟩ := hl
        simp only at hcl hdl
        subst hcl hdl
        have hol2 : (s.heap.push (set0 w)).get? l = some { cls := .type "list", dict := od, data := .seq items nl, slots := osl } := Heap.get?_push_of_some _ hol
        have hl2 : (s.heap.push (set0 w)).IsList l items := ⟨_, hol2, rfl, nl, rfl⟩
        have q1 := PySem.F.sub_list_set; have q2 := PySem.F.sub_list_frozenset
        have q3 : (Value.type "list" == Value.type "dict") = false := by decide
        unfold Builtin.«set.__init__» noKeywords Builtin.Frozenset.updateFrom
        generalize hp : pyIter = pi
        wp_walk
        subst hp
        refine wpAny_pyIter_list hl2 (wpAny_bind (wpAny_runValue ?_))
        have lt : l < s.heap.objs.size := Heap.lt_size hol
        have handled : A.in1.in1.in1.handled = none := by simp [hh]
        have sz1 : (s.heap.push (set0 w)).objs.size = s.heap.objs.size + 1 := Heap.size_push _ _
        have ne : l ≠ (s.heap.push (set0 w)).objs.size := by rw [sz1]; exact Nat.ne_of_lt (Nat.lt_succ_of_lt lt)
        have out : s.heap.objs.size ∉ [(s.heap.push (set0 w)).objs.size, l] := by
          rw [sz1]
          intro m
          rcases List.mem_cons.mp m with m | m
          · exact absurd m (Nat.ne_of_lt (Nat.lt_succ_self _))
          · exact absurd (List.mem_singleton.mp m) (Nat.ne_of_gt lt)
        have len : xs.length = items.size := by rw [← StrsAre.len_eq his, Array.length_toList]
        have is : ∀ (i : Nat) (v : Value), items[i]? = some v → ∃ t, v = .str (xs.getD i Str.empty) t := fun i v hv => str_at his i v (by rw [Array.getElem?_toList]; exact hv)
        refine puts ((Walks.list handled _ l ne items).toS) out xs len (by rw [← len]; exact few) is (items.size - 0) 0 _ [] (by omega) (Nat.zero_le _) (Nat.le_refl _) ⟨⟨_, Heap.get?_push_size _ rfl, rfl, rfl⟩, hl2.push _⟩ (set0_ok.moved fun o e => Heap.get?_push_of_some _ e) ?_
        rintro ⟨h', g', d', tk', os'⟩ mv S
        obtain rfl : g' = s.gens := mv.gens
        obtain rfl : d' = s.drawn := mv.drawn
        obtain rfl : os' = s.os := mv.os
        refine wpAny_pure ?_
        refine wpAny_pure ⟨rfl, h', tk', rfl, S, fun b o e => ?_⟩
        have hb : b < s.heap.objs.size := Heap.lt_size e
        refine mv.heap b o (fun m => ?_) (Heap.get?_push_of_some _ (Heap.get?_push_of_some _ e))
        rcases List.mem_cons.mp m with m | m
        · exact absurd m (Nat.ne_of_lt hb)
        · have q := List.mem_singleton.mp m
          rw [sz1] at q
          exact absurd q (Nat.ne_of_lt (Nat.lt_succ_of_lt hb))
      · cases r2 with
        | error e => exact hr2
        | ok fl2 =>
          cases fl2 with
          | ret r =>
            obtain ⟨rfl, h', tk, rfl, a1, a2⟩ := hr2
            repeat (any_goals (first | assumption | wp_step))
            exact h _ _ a1 a2
          | _ => exact hr2.elim
    | _ => exact hr.elim
end
end Pg
namespace Pg
open PySem PySem.Spec PyProof.Rows L2 PySem.Froz
section
variable {prog : Program} {w : World} {A : Around} {E : Value → Shared → Prop} {s : Shared}
/-- the values of a set of texts, in some order, are texts -/
theorem vals_strs : ∀ {vs : List Value} {ps : List (Str × Tok)}, vs.Perm (ps.map fun p => Value.str p.1 p.2) → StrsAre vs (vs.map strOf) ∧ (vs.map strOf).Perm (ps.map Prod.fst) := fun {vs ps} h => by
  refine ⟨strsAre_map vs fun v m => ?_, ?_⟩
  · obtain ⟨p, _, rfl⟩ := List.mem_map.mp (h.mem_iff.mp m)
    exact ⟨p.1, p.2, rfl⟩
  · have q := h.map strOf
    rw [List.map_map] at q
    exact q.trans (List.Perm.of_eq rfl)
theorem zip_fst {α β : Type} : ∀ (l : List α) (us : List β), us.length = l.length → (l.zip us).map Prod.fst = l
  | [], _, _ => rfl
  | x :: l, [], h => by simp at h
  | x :: l, u :: us, h => by rw [List.zip_cons_cons, List.map_cons, zip_fst l us (by simpa using h)]
/-- sorted(a), a set of texts -/
theorem sorted_txt {a : Addr} {l : List Str} {Q : Value → Shared → Prop} (R : SetS prog w s.heap a l) (hh : A.handled = none) (few : l.length < 4000)
    (h : ∀ z p (out : Array Value) (n : Nat) (ys : List Str), (∀ b o, s.heap.get? b = some o → z.heap.get? b = some o) → z.gens = s.gens → z.os = s.os → s.heap.objs.size ≤ p → z.heap.get? p = some (seqObj "list" out n) →
      StrsAre out.toList ys → ys.Perm l → sortedS ys = true → Q (.ref p) z) : wpAny (model prog w) A (call (.builtin "sorted") [.ref a]) Q E s := by
  obtain ⟨⟨es, ep, t⟩, at_, R⟩ := R
  obtain ⟨us, hu, pm⟩ := R.all
  have sz : es.size = l.length := R.ok.sz
  have scan : es.size < scanBound := by rw [sz]; exact Nat.lt_of_lt_of_le few (by decide)
  refine Calls.call_function_entry kind_sorted plain_sorted entry_sorted (args_sorted1 _) ?_
  unfold Builtin.«sorted»
  refine wpAny_bind (m := checkCount "sorted" 1 1 _) (wpAny_pure (wpAny_bind (collect_set (A := A.in1) hh ⟨_, at_, rfl, rfl⟩ R.ok.fit scan R.ris R.led fun z vs k1 hz g1 o1 pv => ?_)))
  have pv2 : vs.Perm ((l.zip us).map fun p => Value.str p.1 p.2) := by
    have q := pv.trans (pm.map (·.2))
    rw [List.map_map] at q
    exact q
  obtain ⟨st, ps⟩ := vals_strs pv2
  rw [zip_fst l us hu] at ps
  have vlen : vs.length = l.length := by
    have := ps.length_eq
    rwa [List.length_map] at this
  refine wpAny_bind (wpAny_newList ?_ (by rw [vlen, sizeLine_eq]; omega))
  have new : (z.heap.push (seqObj "list" vs.toArray 0)).get? z.heap.objs.size = some (seqObj "list" vs.toArray 0) := Heap.get?_push_size _ rfl
  refine wpAny_bind (wpAny_holding (wpAny_call_entry slot_list_sort ⟨_, new, rfl⟩ entry_list_sort (list_sort_treeKAny strKind_oneLt new st.keysOf (fun v1 v2 rest e => keyKind_strs (by rw [← e]; exact st)) (by rw [vlen, sizeLine_eq]; omega) fun st' hp hs => ?_) (args_list_sort _)))
  obtain ⟨ys, y1, y2, y3⟩ := sorted_out_str st hp hs
  obtain ⟨n, hn⟩ := sortedHeap_at (vs := vs) (out := (arrOf st').map (·.2)) new
  refine ⟨_, rfl, wpAny_pure ⟨_, rfl, h _ z.heap.objs.size _ n ys (fun b o e => ?_) g1 o1 hz hn y1 (y2.trans ps) y3⟩⟩
  have q := k1 b o e
  have lt := Heap.lt_size q
  show (sortedHeap (z.heap.push (seqObj "list" vs.toArray 0)) z.heap.objs.size vs _).get? b = some o
  rw [sortedHeap_old (Nat.ne_of_lt lt) (by rw [size_push']; exact Nat.lt_succ_of_lt lt)]
  exact Heap.get?_push_of_some _ q
end
end Pg
namespace Pg
open PySem PySem.Spec PyProof.Rows L2
/-! ### defs that are called where no text is being written of anything -/
structure FnG (P : Program) (w : World) (K : PySem.W.Frag) (mg : Str → Option Value) (base : Heap) (k : Nat) (f : Addr) (fd : FuncData) (ps : List Str) (sp : Sp) : Prop where
  ln : ∀ vs H Q E, sp vs H Q E → vs.length = ps.length
  go : ∀ (A : Around), A.guards = some [] → Room k A → ∀ (outer : List Env) (s : Shared) (H : Hp), Env0 P w K mg base A outer s H →
    ∀ (args : Args) (us : List Value) (vs : List V) (Q : VK) (E : XK), BindsTo s fd args (ps.zip us) → Vals vs us → sp vs H Q E →
    codeAny (model P w) A (.call (.ref f) args) (CR CX0 outer P w H s Q E) s
section
variable {P : Program} {w : World} {K : PySem.W.Frag} {mg : Str → Option Value} {base : Heap}
theorem FnG.of {k : Nat} {f : Addr} {fd : FuncData} {ps : List Str} {sp : Sp} (F : FnOk P w K mg base CX0 k f fd ps sp) : FnG P w K mg base k f fd ps sp :=
  ⟨F.len, fun A _ r outer s H e args us vs Q E b v h => F.run A outer s H args us vs Q E r e b v h⟩
theorem FnG.mono {j k : Nat} {f : Addr} {fd : FuncData} {ps : List Str} {sp : Sp} (F : FnG P w K mg base j f fd ps sp) (h : j ≤ k) : FnG P w K mg base k f fd ps sp :=
  ⟨F.ln, fun A g r => F.go A g (r.mono h)⟩
/-- a def by its body -/
theorem Df.g {x : Str} {st : Stmt} {f : Addr} {fd : FuncData} {N ps : List Str} {k : Nat} {sp : Sp} (D : Df K mg x st ps f fd) (S : FnScope N ps (defScope st)) (len : ∀ vs H Q E, sp vs H Q E → vs.length = ps.length)
    (hb : ∀ (cdv : Value) (A : Around) (outer : List Env) (s : Shared) (H : Hp) (vs : List V) (Q : VK) (E : XK), (A.deeper (envOfC x (defScope st) s.heap.objs.size f cdv)).guards = some [] →
      Room k (A.deeper (envOfC x (defScope st) s.heap.objs.size f cdv)) → sp vs H Q E →
      ∃ t, PSs (cxOf CX0 P w K mg base N x (defScope st) f cdv A outer s H E).nox (defBody st) t ∧ t { nx := fun _ H' => Q .non H', rt := Q } (start N vs) H) : FnG P w K mg base (k + 1) f fd ps sp := by
  obtain ⟨oc, od, kV, doc, pm, an, cdv, ct, osl, rfl, lk, hcd⟩ := D.fn.ex
  refine ⟨len, fun A g hr outer s H e0 args us vs Q E bt rv hsp => ?_⟩
  have hlen := len _ _ _ _ hsp
  have KX : K.In s.heap := e0.mod.kin.keeps fun b o e => (e0.bs b o e).1
  have lim : s.heap.NoLimit := e0.mod.nolimit.keeps fun b o e => (e0.bs b o e).1
  refine codeAny_call_function hr.depth (KX _ _ lk) rfl S.co S.gen rfl (PySem.W.codeRec_of KX hcd) (bt _ _ _ _ ?_)
  refine wpAny_newFunctionEnv_cells S.kind (fun y hy => ?_) fun env he s1 x1 => ?_
  · have hp : y.1 ∈ ps := (List.of_mem_zip (show (y.1, y.2) ∈ ps.zip us from hy)).1
    refine (S.par y.1 hp).imp id fun q => ⟨q, ?_⟩
    exact PySem.W.cellsFrom_some _ _ _ (.inl q)
  subst he
  refine ⟨lim.keeps x1.toInCall.keep, codeAny_func ?_⟩
  obtain ⟨t, ht, hq⟩ := hb cdv A outer s H vs Q E (by rw [← g]; rfl) (hr.deeper _) hsp
  refine wpAny_mono (ht.nox.run [] s1 (start N vs) H _ (inv_start S hr.hd e0 hlen rv x1) hq) (fun fl s' hs => ?_) fun e s' hs => hs
  cases fl with
  | ret u =>
    obtain ⟨v, σ', H', J, rv', q⟩ := hs
    exact ⟨v, H', J.os, J.bare, J.base, J.hok, rv', q⟩
  | next =>
    obtain ⟨σ', H', J, q⟩ := hs
    exact ⟨.non, H', J.os, J.bare, J.base, J.hok, rfl, q⟩
  | brk =>
    obtain ⟨_, _, _, q⟩ := hs
    exact q.elim
  | cont =>
    obtain ⟨_, _, _, q⟩ := hs
    exact q.elim
end
/-- a def of the text with such a promise -/
structure ClG (P : Program) (w : World) (K : PySem.W.Frag) (mg : Str → Option Value) (base : Heap) (k : Nat) (x : Str) (st : Stmt) (ps : List Str) (sp : Sp) : Prop where
  ex : ∃ f fd, Df K mg x st ps f fd ∧ FnG P w K mg base k f fd ps sp
section
variable {X : Cx} {j k : Nat} {st : Stmt} {f : Addr} {fd : FuncData} {ps : List Str} {sp : Sp} {x : Str} {p pos : Pos} {e : Expr} {es : List Expr} {t : TA}
theorem run_g {pins : List (Addr × Obj)} {σ : L2.St} {H : Hp} {s : Shared} {Q : VK} {us : List Value} {vs : List V} (F : FnG X.prog X.w X.K X.mg X.base k f fd ps sp) (hG : X.A.guards = some []) (hr : Room k X.A) (hb : Binds X.K fd ps [])
    (I : Inv X pins σ H s) (r : Vals vs us) (h : sp vs H Q E0) : wpAny (model X.prog X.w) X.A (call (.ref f) us) (EP X pins σ Q) X.xe s := by
  have hl : (us ++ []).length = ps.length := by rw [List.append_nil, ← r.length]; exact F.ln _ _ _ _ h
  have bt := hb s us I.kIn hl
  rw [List.append_nil] at bt
  refine wpAny_call (codeAny_mono (F.go X.A hG hr X.stack s H I.env0 ⟨us, []⟩ us vs Q E0 bt r h) fun r s' hq => ?_)
  cases r with
  | error e => exact (pass0 (X := X) pins σ H s e s' I hq)
  | ok fl =>
    cases fl with
    | ret u => exact I.after hq
    | next => exact hq.elim
    | brk => exact hq.elim
    | cont => exact hq.elim
theorem pe_clG (c : ClG X.prog X.w X.K X.mg X.base k x st ps sp) (hG : X.A.guards = some []) (hr : Room j X.A) (hk : k ≤ j) (ha : PA X (e :: es) t) (hg : Gl X x := by rfl) (hdb : (x == ("__debug__" : Str)) = false := by decide)
    (he : starEach (e :: es) X.env = (false, eval e X.env) :: starEach es X.env := by rfl) (hpl : (backTo pos (starEach es X.env)).any (·.1) = false := by rfl) :
    PE X (.Call (.Name x p) (e :: es) [] pos) (tCl sp t) := by
  obtain ⟨f, fd, D, F⟩ := c.ex
  refine ⟨fun pins s σ H Q I h => ?_⟩
  refine wpAny_Call_Name_kw (ld_glob I hg D.at_ ?_ hdb)
  refine PySem.W.callWith_K (h₀ := X.base) I.ok.mod.kin D.fn.kp (thn (ha.run pos pins s σ H _ I h) fun us s1 ⟨vs, H1, I1, r, q⟩ => ⟨I1.kIn, ?_⟩) he hpl
  exact run_g (F.mono hk) hG hr D.bd I1 r q
end
end Pg
namespace Pg
open PySem PySem.Spec PyProof.Rows L2
/-! ### the end of a law, from a promise that is kept where no text is being written -/
section
variable {P : Program} {w : World} {K : PySem.W.Frag} {mg mb : Str → Option Value} {h : Heap} {a : Addr} {ob : Obj} {xs : List V}
/-- what is known of the store at first: the script, where it is no object of the module -/
def H0 (K : PySem.W.Frag) (a : Addr) (ob : Obj) (xs : List V) : Hp := fun b => if b = a ∧ K.lookup a = none then some (.frz ob (.lst xs)) else none
theorem h0_cases (b : Addr) : H0 K a ob xs b = none ∨ (b = a ∧ K.lookup a = none ∧ H0 K a ob xs b = some (.frz ob (.lst xs))) := by
  by_cases c : b = a ∧ K.lookup a = none
  · exact .inr ⟨c.1, c.2, if_pos c⟩
  · exact .inl (if_neg c)
theorem h0_none {b : Addr} (n : b ≠ a) : H0 K a ob xs b = none := if_neg fun c => n c.1
theorem h0_base {b : Addr} {o : Obj} (e : h.get? b = some o) (n : H0 K a ob xs b = none) : (hidT h (H0 K a ob xs)).get? b = some o := hidT_get e n
theorem h0_ns {b : Addr} {m : Str → Option Value} {l : List Value} {n : Nat} (ha : h.get? a = some { cls := .type "list", data := .seq l.toArray n }) (q : h.Ns b m) : (hidT h (H0 K a ob xs)).Ns b m := by
  obtain ⟨o, es, ep, e, d, r⟩ := q
  refine ⟨o, es, ep, h0_base e (h0_none fun z => ?_), d, r⟩
  subst z
  rw [ha] at e
  cases e
  exact Data.noConfusion d
theorem law_g {k : Nat} {fa : Addr} {fd : FuncData} {x : Str} {sp : Sp} {s₁ : Shared} {vs : List Value} {ns : List Int}
    (KX : K.In s₁.heap) (hns : s₁.heap.Ns mainGlobals mg) (hb : s₁.heap.Ns builtinsNs mb) (hbb : ∀ x : Str, x ≠ "__name__" → mb x = bootBuiltins x) (hlim : s₁.heap.NoLimit) (hg : s₁.gens = #[])
    (ha : s₁.heap.get? a = some { cls := .type "list", data := .seq vs.toArray }) (hi : IntsAre vs ns) (hl : ns.length ≤ sizeLine) (hr : Room k callerA)
    (F : ∀ base : Heap, K.In base → base.Ns mainGlobals mg → FnG P w K mg base k fa fd [x] sp) (hbind : ∀ (s : Shared) (u : Value), BindsTo s fd ⟨[u], []⟩ [(x, u)])
    (hsp : ∀ H : Hp, L2.Only H → SqL K H a (ns.map V.int) → sp [.ref a] H (fun v _ => v = .bl true) fun _ _ _ => False) :
    codeAny (model P w) callerA (.call (.ref fa) ⟨[.ref a], []⟩) (fun r s' => r = .ok (.ret (.bool true)) ∧ OldK s₁.heap s'.heap ∧ s'.os = s₁.os ∧ AllBare s'.gens) s₁ := by
  have rv := vals_ints hi
  have hlen : (ns.map V.int).length ≤ sizeLine := by rw [List.length_map]; exact hl
  have hK : K.In (hidT s₁.heap (H0 K a { cls := .type "list", data := .seq vs.toArray } (ns.map V.int))) := fun b o e => h0_base (KX b o e) (by
    rcases h0_cases (K := K) (a := a) (ob := { cls := .type "list", data := .seq vs.toArray }) (xs := ns.map V.int) b with q | ⟨rfl, q, _⟩
    · exact q
    · rw [q] at e
      cases e)
  have hM : Mod K mg (hidT s₁.heap (H0 K a { cls := .type "list", data := .seq vs.toArray } (ns.map V.int))) := by
    obtain ⟨mc, l1, l2⟩ := hlim
    exact ⟨hK, h0_ns ha hns, ⟨mb, h0_ns ha hb, hbb⟩, ⟨mc, h0_ns ha l1, l2⟩⟩
  have hok : HOk P w (H0 K a { cls := .type "list", data := .seq vs.toArray } (ns.map V.int)) s₁.heap := fun b u z => by
    rcases h0_cases (K := K) (a := a) (ob := { cls := .type "list", data := .seq vs.toArray }) (xs := ns.map V.int) b with q | ⟨rfl, _, q⟩
    · rw [q] at z
      cases z
    · rw [q] at z
      cases z
      exact ⟨ha, hlen, vs, _, rv, ha⟩
  have e0 : Env0 P w K mg (hidT s₁.heap (H0 K a { cls := .type "list", data := .seq vs.toArray } (ns.map V.int))) callerA [] s₁ (H0 K a { cls := .type "list", data := .seq vs.toArray } (ns.map V.int)) :=
    ⟨rfl, hM, fun b o e => of_hidT e, Nat.le_of_eq (hidT_size _ _), trivial, fun b z => absurd (show b ∈ ([] : List Addr) from z) (by simp), hok, .of_eq hg⟩
  have hO : L2.Only (H0 K a { cls := .type "list", data := .seq vs.toArray } (ns.map V.int)) := fun b => by
    rcases h0_cases (K := K) (a := a) (ob := { cls := .type "list", data := .seq vs.toArray }) (xs := ns.map V.int) b with q | ⟨_, _, q⟩
    · exact .inl q
    · exact .inr ⟨_, _, q⟩
  have hS : SqL K (H0 K a { cls := .type "list", data := .seq vs.toArray } (ns.map V.int)) a (ns.map V.int) := by
    cases hk : K.lookup a with
    | none => exact .inl (.inr ⟨_, if_pos ⟨rfl, hk⟩⟩)
    | some o =>
      have e := KX a o hk
      rw [ha] at e
      cases e
      exact .inr ⟨_, vs.toArray, _, hk, rfl, rfl, rfl, by rw [List.size_toArray, hi.length]; exact hl, by simpa using rv⟩
  refine codeAny_mono ((F _ hK (h0_ns ha hns)).go callerA rfl hr [] s₁ _ e0 ⟨[.ref a], []⟩ [.ref a] [.ref a] _ _ (hbind s₁ (.ref a)) (.cons rfl .nil) (hsp _ hO hS)) fun r s' q => ?_
  cases r with
  | error e => exact q.elim
  | ok fl =>
    cases fl with
    | next => exact q.elim
    | brk => exact q.elim
    | cont => exact q.elim
    | ret u =>
      obtain ⟨v, H', os, bare, un, hok', r', q⟩ := q
      have q' : v = .bl true := q
      subst q'
      obtain rfl : u = Value.bool true := r'
      refine ⟨rfl, OldK.of_keep fun b o e => ?_, os, bare⟩
      rcases h0_cases (K := K) (a := a) (ob := { cls := .type "list", data := .seq vs.toArray }) (xs := ns.map V.int) b with z | ⟨_, _, z⟩
      · exact un.keep b o e z (fun z => absurd (show b ∈ ([] : List Addr) from z) (by simp)) (by simp)
      · obtain ⟨e1, _⟩ := hok b _ z
        obtain ⟨e2, _⟩ := hok' b _ (un.frzs b _ _ z)
        rw [e] at e1
        cases e1
        exact e2
end
/-- the goal that the end of a law leaves -/
theorem walk_g {l : PySem.W.OpenLaw} {n k : Nat} {q : Program} {loose : List Str} {XP : (Str → Option Value) → Heap → Prop} {YP : World → Heap → Prop} {d : DefRec} {K : Params → PySem.W.Frag} {sp : World → Sp} {x : Str}
    (hn : l.most = some n) (hn2 : n ≤ sizeLine) (hdf : d.params.defaults = []) (hr : Room k callerA) (hY : ∀ (w : World) (h : Heap), YP w h → (K w.params).In h)
    (F : ∀ (w : World) (mg : Str → Option Value) (fa : Addr) (h : Heap), (K w.params).In h → h.Ns mainGlobals mg → mg d.name = some (.ref fa) →
      ∃ fd : FuncData, (∀ (s : Shared) (u : Value), BindsTo s fd ⟨[u], []⟩ [(x, u)]) ∧ ∀ base : Heap, (K w.params).In base → base.Ns mainGlobals mg → FnG l.prog w (K w.params) mg base k fa fd [x] (sp w))
    (hsp : ∀ (w : World) (H : Hp) (a : Addr) (ns : List Int), ns.length ≤ n → L2.Only H → SqL (K w.params) H a (ns.map V.int) → sp w [.ref a] H (fun v _ => v = .bl true) fun _ _ _ => False) :
    PySem.W.WalkO q loose XP YP l.row.toRowW d [] (fun f vs => PySem.call f vs) :=
  Att.attach_call hn hdf fun w _ s₁ mg _ fa _ _ _ _ a _ ns G Y _ _ _ hmg hobj hints hlen hg => by
    obtain ⟨fd, hb, hF⟩ := F w mg fa _ (hY w _ Y) G.T.g hmg
    exact law_g (hY w _ Y) G.T.g G.T.b G.T.builtins G.T.nolimit hg hobj hints (Nat.le_trans hlen hn2) hr hF hb fun H hO hS => hsp w H a ns hlen hO hS
end Pg
namespace Pg
open PySem PySem.Spec PyProof.Rows L2
/-! ### repr of data -/
mutual
theorem dp_plain {K : PySem.W.Frag} {H : Hp} : ∀ (d : PyData) {v : V}, Dp K H v d → d.hasDict = false
  | .none, _, _ => by simp only [PyData.hasDict]
  | .bool _, _, _ => by simp only [PyData.hasDict]
  | .int _, _, _ => by simp only [PyData.hasDict]
  | .str _, _, _ => by simp only [PyData.hasDict]
  | .list ds, _, h => by
    cases h with
    | lst _ q =>
      simp only [PyData.hasDict]
      exact dps_plain ds q
  | .tuple ds, _, h => by
    cases h with
    | tup _ q =>
      simp only [PyData.hasDict]
      exact dps_plain ds q
  | .dict _, _, h => by cases h
theorem dps_plain {K : PySem.W.Frag} {H : Hp} : ∀ (ds : List PyData) {vs : List V}, DpAll K H vs ds → PyData.hasDictAll ds = false
  | [], _, _ => by simp only [PyData.hasDictAll]
  | d :: ds, _, h => by
    cases h with
    | cons a b => simp only [PyData.hasDictAll, dp_plain d a, dps_plain ds b, Bool.or_self]
end
def rRepr (K : PySem.W.Frag) : List V → Hp → VK → Prop := fun xs H Q => ∃ v d, xs = [v] ∧ Dp K H v d ∧ d.showable = true ∧ d.depth ≤ 100 ∧ d.shown.length ≤ sizeLine ∧ Q (.str d.shown) H
theorem call_repr {X : Cx} {j : Nat} (hG : X.A.guards = some []) (hr : Room j X.A) : CallR X (.builtin "repr") (rRepr X.K) := by
  intro pins s σ H xs us Q I r h
  obtain ⟨v, d, rfl, dp, sh, dd, sz, q⟩ := h
  obtain ⟨u, rfl, rv⟩ := vals1 r
  have hu : X.A.units + (d.depth + 1) < cLine := by have := hr.un; omega
  obtain ⟨as, rd⟩ := Dp.reads I d v u dp rv
  have nd : d.hasDict = true → sysModules ∉ as := PyData.noDict_hsm (dp_plain d dp)
  have deep : ∀ a, u = .ref a → wpAny (model X.prog X.w) X.A (call (.builtin "repr") [u]) (EP X pins σ Q) X.xe s := fun a e => by
    subst e
    exact repr_of_reads' rd sh nd hG hu (fun _ _ e => e) (fun h' t tk k => ⟨.str d.shown, H, I.kept k, ⟨t, rfl⟩, q⟩) sz
  cases rd with
  | none => exact PySem.P.repr_of_none ⟨.str _, H, I.tok _, ⟨_, rfl⟩, by simpa only [PyData.shown] using q⟩
  | bool b => exact PySem.P.repr_of_bool ⟨.str _, H, I.tok _, ⟨_, rfl⟩, by simpa only [PyData.shown] using q⟩
  | int i t => exact PySem.P.repr_of_int (by simpa [PyData.showable] using sh) ⟨.str _, H, I.tok _, ⟨_, rfl⟩, by simpa only [PyData.shown] using q⟩
  | str x t => exact PySem.P.repr_of_str ⟨.str _, H, I.tok _, ⟨_, rfl⟩, by simpa only [PyData.shown] using q⟩ (by simpa only [PyData.shown] using sz)
  | list _ _ _ _ => exact deep _ rfl
  | tuple _ _ _ _ => exact deep _ rfl
  | dict _ _ _ _ _ => exact deep _ rfl
-- a bound for the signs of data whose texts are short: 4 more for every part, 402 for a text
mutual
def dW : PyData → Nat
  | .none => 4
  | .bool _ => 5
  | .int _ => 30
  | .str _ => 402
  | .list ds => dWs ds + 4
  | .tuple ds => dWs ds + 4
  | .dict _ => 0
def dWs : List PyData → Nat
  | [] => 0
  | d :: ds => dW d + 2 + dWs ds
end
-- no ints, texts of 40 letters at most
mutual
inductive Neat : PyData → Prop
  | non : Neat .none
  | bl (b : Bool) : Neat (.bool b)
  | str {x : Str} (h : x.length ≤ 40) (c : ∀ n ∈ x.cps.toList, n < 16 ^ 8) : Neat (.str x)
  | lst {ds : List PyData} : Neats ds → Neat (.list ds)
  | tup {ds : List PyData} : Neats ds → Neat (.tuple ds)
inductive Neats : List PyData → Prop
  | nil : Neats []
  | cons {d : PyData} {ds : List PyData} : Neat d → Neats ds → Neats (d :: ds)
end
mutual
theorem neat_sh : ∀ (d : PyData), Neat d → d.showable = true
  | .none, _ => by simp only [PyData.showable]
  | .bool _, _ => by simp only [PyData.showable]
  | .str _, _ => by simp only [PyData.showable]
  | .int _, h => by cases h
  | .list ds, .lst q => by
    simp only [PyData.showable]
    exact neats_sh ds q
  | .tuple ds, .tup q => by
    simp only [PyData.showable]
    exact neats_sh ds q
  | .dict _, h => by cases h
theorem neats_sh : ∀ (ds : List PyData), Neats ds → PyData.showableAll ds = true
  | [], _ => by simp only [PyData.showableAll]
  | d :: ds, .cons a b => by simp only [PyData.showableAll, neat_sh d a, neats_sh ds b, Bool.and_self]
end
theorem textFrom_le : ∀ (ts : List Str) (k : Nat) (acc : Str), (textFrom k acc ts).length ≤ acc.length + (ts.map fun t => t.length + 2).sum
  | [], k, acc => by
    show acc.length ≤ _
    simp
  | t :: ts, k, acc => by
    have ih := textFrom_le ts (k + 1) (acc ++ (if k > 0 then ", " else "" : String) ++ t)
    have e : (acc ++ (if k > 0 then ", " else "" : String) ++ t).length ≤ acc.length + 2 + t.length := by
      rw [strLen_append, strLen_append]
      by_cases c : k > 0
      · rw [if_pos c]
        have : (Str.ofString ", ").length = 2 := rfl
        omega
      · rw [if_neg c]
        have : (Str.ofString "").length = 0 := rfl
        omega
    rw [List.map_cons, List.sum_cons]
    show (textFrom (k + 1) (acc ++ (if k > 0 then ", " else "" : String) ++ t) ts).length ≤ _
    omega
theorem piled_sum : ∀ ts : List Str, piled ts = (ts.map fun t => t.length + 2).sum
  | [] => rfl
  | t :: ts => by simp [piled, piled_sum ts]
theorem tupleText_le (ts : List Str) : (tupleText ts).length ≤ (ts.map fun t => t.length + 2).sum + 4 := by
  have e1 : (Str.ofString "(").length = 1 := rfl
  have e2 : (Str.ofString (if ts.length == 1 then ",)" else ")")).length ≤ 2 := by split <;> decide
  have e3 : (Str.join (Str.ofString ", ") ts).length ≤ (ts.map fun t => t.length + 2).sum := by
    cases ts with
    | nil => exact Nat.zero_le _
    | cons t ts =>
      have q := join_length_add (t :: ts) (by simp)
      rw [piled_sum] at q
      omega
  unfold tupleText
  rw [strLen_append, strLen_append]
  omega
theorem listText_le (ts : List Str) : (listText ts).length ≤ (ts.map fun t => t.length + 2).sum + 4 := by
  have e1 : (Str.ofString "[").length = 1 := rfl
  have e2 : (Str.ofString "]").length = 1 := rfl
  have q := textFrom_le ts 0 (Str.ofString "[")
  show (textFrom 0 "[" ts ++ "]").length ≤ _
  rw [strLen_append]
  omega
mutual
theorem neat_le : ∀ (d : PyData), Neat d → d.shown.length ≤ dW d
  | .none, _ => by
    simp only [PyData.shown, dW]
    decide
  | .bool b, _ => by
    cases b <;> simp only [PyData.shown, dW] <;> decide
  | .str x, .str h c => by
    simp only [PyData.shown, dW]
    have := StrLaws.reprText_len x c
    omega
  | .int _, h => by cases h
  | .list ds, .lst q => by
    simp only [PyData.shown, dW]
    have a := listText_le (PyData.shownAll ds)
    have b := neats_le ds q
    omega
  | .tuple ds, .tup q => by
    simp only [PyData.shown, dW]
    have a := tupleText_le (PyData.shownAll ds)
    have b := neats_le ds q
    omega
  | .dict _, h => by cases h
theorem neats_le : ∀ (ds : List PyData), Neats ds → ((PyData.shownAll ds).map fun t => t.length + 2).sum ≤ dWs ds
  | [], _ => by
    simp only [PyData.shownAll, dWs]
    decide
  | d :: ds, .cons a b => by
    have p := neat_le d a
    have q := neats_le ds b
    simp only [PyData.shownAll, dWs, List.map_cons, List.sum_cons]
    omega
end
/-- repr of data with short texts and no ints -/
def rNeat (K : PySem.W.Frag) : List V → Hp → VK → Prop := fun xs H Q => ∃ v d, xs = [v] ∧ Dp K H v d ∧ Neat d ∧ d.depth ≤ 100 ∧ dW d ≤ 10000000 ∧ Q (.str d.shown) H
theorem call_repr_neat {X : Cx} {j : Nat} (hG : X.A.guards = some []) (hr : Room j X.A) : CallR X (.builtin "repr") (rNeat X.K) := fun pins s σ H xs us Q I r h => by
  obtain ⟨v, d, e, dp, n, dd, sz, q⟩ := h
  exact call_repr hG hr pins s σ H xs us Q I r ⟨v, d, e, dp, neat_sh d n, dd, Nat.le_trans (neat_le d n) (Nat.le_trans sz (by decide)), q⟩
end Pg
namespace Pg
open PySem PySem.Spec PyProof.Rows L2
/-! ### sorted(set(xs)), texts -/
theorem once_nodup : ∀ (xs acc : List Str), acc.Nodup → (onceL acc xs).Nodup
  | [], _, h => h
  | x :: xs, acc, h => by
    show (onceL (if x ∈ acc then acc else x :: acc) xs).Nodup
    refine once_nodup xs _ ?_
    by_cases c : x ∈ acc
    · rw [if_pos c]
      exact h
    · rw [if_neg c]
      exact List.nodup_cons.mpr ⟨c, h⟩
theorem txt_lt_of {a b : List Nat} (n : ¬ b < a) (d : a ≠ b) : a < b := by
  by_cases h : a < b
  · exact h
  · exact absurd (List.le_antisymm (List.not_lt.mp n) (List.not_lt.mp h)) d
theorem rising_pw : ∀ (zs : List (List Nat)) (p : List Nat), (p :: zs).Nodup → risingS (tx p) (zs.map tx) = true → (p :: zs).Pairwise (· < ·)
  | [], p, _, _ => List.pairwise_singleton _ _
  | z :: zs, p, nd, h => by
    have h' : (!ltCps z p && risingS (tx z) (zs.map tx)) = true := by simpa [risingS] using h
    rw [ltCps_eq] at h'
    obtain ⟨h1, h2⟩ := Bool.and_eq_true_iff.mp h'
    obtain ⟨n1, n2⟩ := List.nodup_cons.mp nd
    have ih := rising_pw zs z n2 h2
    have pz : p < z := txt_lt_of (by simpa using h1) fun e => n1 (by rw [e]; exact List.mem_cons_self)
    refine List.pairwise_cons.mpr ⟨fun y m => ?_, ih⟩
    rcases List.mem_cons.mp m with rfl | m
    · exact pz
    · exact List.lt_trans pz ((List.pairwise_cons.mp ih).1 y m)
theorem sorted_pw {ls : List (List Nat)} {ys : List Str} (pm : ys.Perm (onceL [] (ls.map tx))) (so : sortedS ys = true) : ∃ zs : List (List Nat), ys = zs.map tx ∧ zs.Pairwise (· < ·) ∧ (∀ l, l ∈ zs ↔ l ∈ ls) ∧ zs.length ≤ ls.length := by
  have e : ys = (ys.map fun s => s.cps.toList).map tx := by
    rw [List.map_map]
    conv => lhs; rw [← List.map_id ys]
    rfl
  have nd : ys.Nodup := pm.nodup_iff.mpr (once_nodup _ _ List.nodup_nil)
  have mem : ∀ s, s ∈ ys ↔ s ∈ ls.map tx := fun s => by
    rw [pm.mem_iff, once_mem]
    simp
  refine ⟨ys.map fun s => s.cps.toList, e, ?_, fun l => ?_, ?_⟩
  · have nd2 : (ys.map fun s => s.cps.toList).Nodup := by
      rw [e] at nd
      exact List.Pairwise.of_map tx (fun a b h e => h (by rw [e])) nd
    revert nd2
    rw [e] at so
    generalize (ys.map fun s => s.cps.toList) = zs at so
    intro nd2
    cases zs with
    | nil => exact List.Pairwise.nil
    | cons z zs => exact rising_pw zs z nd2 so
  · constructor
    · intro m
      obtain ⟨s, m1, rfl⟩ := List.mem_map.mp m
      obtain ⟨l, m2, rfl⟩ := List.mem_map.mp ((mem s).mp m1)
      simpa using m2
    · intro m
      exact List.mem_map.mpr ⟨tx l, (mem _).mpr (List.mem_map.mpr ⟨l, m, rfl⟩), by simp⟩
  · rw [List.length_map, pm.length_eq]
    have := once_len (ls.map tx) []
    simpa using this
/-- sorted(set(xs)): xs texts, under 64 of them; strictly ascending -/
def tSS (K : PySem.W.Frag) (te : TE) : TE := fun σ H Q => te σ H fun v H1 => ∃ (a : Addr) (ls : List (List Nat)), v = .ref a ∧ SqL K H1 a (ls.map Tx) ∧ ls.length < 4000 ∧
  ∀ (zs : List (List Nat)) (p : Addr), zs.Pairwise (· < ·) → (∀ l, l ∈ zs ↔ l ∈ ls) → zs.length ≤ ls.length → H1 p = none → Q (.ref p) (upd H1 p (.lst (zs.map Tx)))
theorem pe_sortset {X : Cx} {e : Expr} {te : TE} {p p2 pos pos2 : Pos} (hh : X.A.handled = none) (g1 : Gl X "sorted") (m1 : X.mg "sorted" = none) (g2 : Gl X "set") (m2 : X.mg "set" = none) (he : PE X e te)
    (hs : starEach [e] X.env = (false, eval e X.env) :: starEach [] X.env := by rfl)
    (hs2 : starEach [Expr.Call (.Name "set" p2) [e] [] pos2] X.env = (false, eval (Expr.Call (.Name "set" p2) [e] [] pos2) X.env) :: starEach [] X.env := by rfl) :
    PE X (.Call (.Name "sorted" p) [.Call (.Name "set" p2) [e] [] pos2] [] pos) (tSS X.K te) := by
  refine ⟨fun pins s σ H Q I h => ?_⟩
  refine wpAny_Call_Name_kw (ld_blt I g1 m1 (by rfl) ?_ (by decide) (by decide))
  refine PyProof.Rows.callWith_builtin1 ?_ hs2 (by rfl)
  rw [hs2]
  show wpAny _ _ (spliced ((false, eval (Expr.Call (.Name "set" p2) [e] [] pos2) X.env) :: backTo pos (starEach [] X.env))) _ _ s
  refine Calls.spliced_cons ?_
  refine wpAny_Call_Name_kw (ld_blt I g2 m2 (by rfl) ?_ (by decide) (by decide))
  refine PyProof.Rows.callWith_type1 ?_ hs (by rfl)
  rw [hs]
  show wpAny _ _ (spliced ((false, eval e X.env) :: backTo pos2 (starEach [] X.env))) _ _ s
  refine Calls.spliced_cons (thn (he.run pins s σ H _ I h) fun u s1 ⟨v, H1, I1, r1, q1⟩ => Calls.spliced_nil ?_)
  obtain ⟨a, ls, rfl, hl, few, q⟩ := q1
  obtain rfl : u = .ref a := r1
  obtain ⟨its, rv, pl, _⟩ := I1.list hl
  have st : StrsAre its.toArray.toList (ls.map tx) := by
    have : ls.map Tx = (ls.map tx).map V.str := by rw [List.map_map]; rfl
    rw [this] at rv
    exact rv.strs
  refine call_set_txt hh pl.isList st (by rw [List.length_map]; exact Nat.lt_of_lt_of_le (Nat.succ_lt_succ few) (by decide)) fun h' tk S k => ?_
  refine Calls.spliced_nil ?_
  have few2 : (onceL [] (ls.map tx)).length < 4000 := by
    have := once_len (ls.map tx) []
    rw [List.length_map] at this
    simp at this
    omega
  refine sorted_txt (s := { s1 with heap := h', toks := tk }) S hh few2 fun z p out n ys k2 hg ho hp hat hst pm so => ?_
  obtain ⟨zs, rfl, pw, mem, len⟩ := sorted_pw pm so
  have k3 : ∀ b u, s1.heap.get? b = some u → z.heap.get? b = some u := fun b u e => k2 b u (k b u e)
  have sz : s1.heap.objs.size ≤ p := by
    obtain ⟨D, at_, _⟩ := S
    exact Nat.le_trans (Nat.le_of_lt (Heap.lt_size at_)) hp
  have fr := I1.hok.fresh sz
  refine ⟨.ref p, upd H1 p (.lst (zs.map Tx)), ?_, rfl, q zs p pw mem len fr⟩
  have ok : ObjOk X.prog X.w (upd H1 p (.lst (zs.map Tx))) z.heap p (.lst (zs.map Tx)) :=
    ⟨by rw [List.length_map]; exact Nat.le_trans len (Nat.le_of_lt (Nat.lt_of_lt_of_le few (by decide))), out.toList, n, by
      have := vals_of_strs hst
      rw [List.map_map] at this
      exact this, hat⟩
  exact I1.call' (ch := []) ho (Un.laid k3 sz fr) (I1.hok.laid k3 sz ok) (by rw [hg]; exact I1.bare) (fun b z => absurd z (by simp))
end Pg
namespace Pg
open PySem PySem.Spec PyProof.Rows L2
/-! ### comprehensions that give values -/
theorem sql_up {K : PySem.W.Frag} {H H' : Hp} {a : Addr} {xs : List V} (s : Stp [] H H') (h : SqL K H a xs) : SqL K H' a xs := by
  rcases h with (h | ⟨o, h⟩) | h
  · exact .inl (.inl (s.kp _ _ (fun m => nomatch m) h))
  · exact .inl (.inr ⟨o, s.kp _ _ (fun m => nomatch m) h⟩)
  · exact .inr h
theorem ix_listK {X : Cx} {K : PySem.W.Frag} (hK : X.K = K) : IxR X (rIxL K) := by
  subst hK
  exact ix_list
theorem tn {σ : L2.St} {H : Hp} {Q : List V → Hp → Prop} (h : Q [] H) : tNil σ H Q := h
theorem RpL.snoc {K : PySem.W.Frag} {H : Hp} {vs : List V} {ds : List Dt} {i : Nat} {v : V} {d : Dt} (r : RpL K H vs (ds.take i)) (e : ds[i]? = some d) (h : Rp K H v d) : RpL K H (vs ++ [v]) (ds.take (i + 1)) := by
  rw [List.take_add_one, e]
  exact r.app (.cons h .nil)
theorem rpl_strs {K : PySem.W.Frag} {H : Hp} : ∀ {ls : List (List Nat)} {vs : List V}, RpL K H vs (ls.map Dt.str) → vs = ls.map Tx
  | [], _, .nil => rfl
  | l :: ls, _, .cons h r => by
    cases h
    rw [List.map_cons, rpl_strs r]
theorem rpl_bls {K : PySem.W.Frag} {H : Hp} : ∀ {bs : List Bool} {vs : List V}, RpL K H vs (bs.map Dt.bl) → vs = bs.map V.bl
  | [], _, .nil => rfl
  | b :: bs, _, .cons h r => by
    cases h
    rw [List.map_cons, rpl_bls r]
section
variable {K : PySem.W.Frag} {a : Addr} {xs : List V} {ds : List Dt} {g : TG} {te : TE} {vs : List Nat} {σ : L2.St} {H1 : Hp} {D : Addr} {Qd : Hp → Prop}
theorem lc_mapL (nD : H1 D = none) (hs : SqL K H1 a xs) (hl : ds.length = xs.length) (hz : xs.length ≤ 90000)
    (step : ∀ (i : Nat) x d H, xs[i]? = some x → ds[i]? = some d → Stp [] H1 H → ∀ Q : VK, (∀ y H', Stp [] H H' → Rp K H' y d → Q y H') → g x (wipe σ vs) H fun σ2 H2 => wipe σ2 vs = wipe σ vs ∧ te σ2 H2 Q)
    (hd : ∀ ws H, Stp [] H1 H → H D = some (.lst ws) → RpL K H ws ds → Qd H) :
    ∃ W : Nat → Nat → Hp → Prop, (∃ m, W 0 m (upd H1 D (.lst []))) ∧ ∀ i m H, W i m H →
      ((Itl K a).stop i H ∧ Qd H) ∨ ((Itl K a).go i H ∧ ∃ Nx : Hp → Prop, (∀ H', Nx H' → ∃ m', m' < m ∧ W (i + 1) m' H') ∧ ∀ x H', (Itl K a).yld i H x H' → g x (wipe σ vs) H' fun σ2 H2 => wipe σ2 vs = wipe σ vs ∧ tYes σ2 H2 fun b H3 =>
        if b = true then te σ2 H3 fun y H4 => ∃ acc, H4 D = some (.lst acc) ∧ acc.length < sizeLine ∧ Nx (upd H4 D (.lst (acc ++ [y]))) else Nx H3) := by
  refine lc_list (a := a) (xs := xs) (fun i H => ∃ ws, H D = some (.lst ws) ∧ RpL K H ws (ds.take i) ∧ Stp [] H1 H) ⟨[], upd_same, .nil, Stp.new nD _⟩ (fun i H _ ⟨_, _, _, S⟩ => sql_up S hs) ?_ ?_
  · rintro i x H hi ⟨ws, hL, rv, S⟩
    have il : i < ds.length := by rw [hl]; exact (List.getElem?_eq_some_iff.mp hi).1
    refine step i x ds[i] H hi (List.getElem?_eq_getElem il) S _ fun y H' S' ry => ?_
    refine ⟨ws, S'.kp _ _ (fun m => nomatch m) hL, ?_, ws ++ [y], upd_same, ?_, (S.trans S').mut nD⟩
    · rw [rv.len, List.length_take]
      exact Nat.lt_of_le_of_lt (show min i ds.length ≤ 90000 by omega) (by decide)
    · have s4 : Stp [D] H' (upd H' D (.lst (ws ++ [y]))) := Stp.put (by simp)
      have hL' := S'.kp _ _ (fun m => nomatch m) hL
      exact RpL.snoc ((rv.stp S' Lsts.nil).stp s4 (.one hL')) (List.getElem?_eq_getElem il) (ry.stp s4 (.one hL'))
  · rintro H ⟨ws, hL, rv, S⟩
    rw [← hl, List.take_length] at rv
    exact hd ws H S hL rv
theorem lc_mapT (nD : H1 D = none) (hs : SqT K H1 a xs) (hl : ds.length = xs.length) (hz : xs.length ≤ 90000)
    (step : ∀ (i : Nat) x d H, xs[i]? = some x → ds[i]? = some d → Stp [] H1 H → ∀ Q : VK, (∀ y H', Stp [] H H' → Rp K H' y d → Q y H') → g x (wipe σ vs) H fun σ2 H2 => wipe σ2 vs = wipe σ vs ∧ te σ2 H2 Q)
    (hd : ∀ ws H, Stp [] H1 H → H D = some (.lst ws) → RpL K H ws ds → Qd H) :
    ∃ W : Nat → Nat → Hp → Prop, (∃ m, W 0 m (upd H1 D (.lst []))) ∧ ∀ i m H, W i m H →
      ((Itt K a).stop i H ∧ Qd H) ∨ ((Itt K a).go i H ∧ ∃ Nx : Hp → Prop, (∀ H', Nx H' → ∃ m', m' < m ∧ W (i + 1) m' H') ∧ ∀ x H', (Itt K a).yld i H x H' → g x (wipe σ vs) H' fun σ2 H2 => wipe σ2 vs = wipe σ vs ∧ tYes σ2 H2 fun b H3 =>
        if b = true then te σ2 H3 fun y H4 => ∃ acc, H4 D = some (.lst acc) ∧ acc.length < sizeLine ∧ Nx (upd H4 D (.lst (acc ++ [y]))) else Nx H3) := by
  refine lc_tup (a := a) (xs := xs) (fun i H => ∃ ws, H D = some (.lst ws) ∧ RpL K H ws (ds.take i) ∧ Stp [] H1 H) ⟨[], upd_same, .nil, Stp.new nD _⟩ (fun i H _ ⟨_, _, _, S⟩ => sqt_stp S Lsts.nil hs) ?_ ?_
  · rintro i x H hi ⟨ws, hL, rv, S⟩
    have il : i < ds.length := by rw [hl]; exact (List.getElem?_eq_some_iff.mp hi).1
    refine step i x ds[i] H hi (List.getElem?_eq_getElem il) S _ fun y H' S' ry => ?_
    refine ⟨ws, S'.kp _ _ (fun m => nomatch m) hL, ?_, ws ++ [y], upd_same, ?_, (S.trans S').mut nD⟩
    · rw [rv.len, List.length_take]
      exact Nat.lt_of_le_of_lt (show min i ds.length ≤ 90000 by omega) (by decide)
    · have s4 : Stp [D] H' (upd H' D (.lst (ws ++ [y]))) := Stp.put (by simp)
      have hL' := S'.kp _ _ (fun m => nomatch m) hL
      exact RpL.snoc ((rv.stp S' Lsts.nil).stp s4 (.one hL')) (List.getElem?_eq_getElem il) (ry.stp s4 (.one hL'))
  · rintro H ⟨ws, hL, rv, S⟩
    rw [← hl, List.take_length] at rv
    exact hd ws H S hL rv
theorem lc_mapR {n : Nat} (nD : H1 D = none) (hl : ds.length = n) (hz : n ≤ 90000)
    (step : ∀ (i : Nat) d H, ds[i]? = some d → Stp [] H1 H → ∀ Q : VK, (∀ y H', Stp [] H H' → Rp K H' y d → Q y H') → g (.int ((0 : Int) + (i : Int))) (wipe σ vs) H fun σ2 H2 => wipe σ2 vs = wipe σ vs ∧ te σ2 H2 Q)
    (hd : ∀ ws H, Stp [] H1 H → H D = some (.lst ws) → RpL K H ws ds → Qd H) :
    ∃ W : Nat → Nat → Hp → Prop, (∃ m, W 0 m (upd H1 D (.lst []))) ∧ ∀ i m H, W i m H →
      ((Itr 0 n).stop i H ∧ Qd H) ∨ ((Itr 0 n).go i H ∧ ∃ Nx : Hp → Prop, (∀ H', Nx H' → ∃ m', m' < m ∧ W (i + 1) m' H') ∧ ∀ x H', (Itr 0 n).yld i H x H' → g x (wipe σ vs) H' fun σ2 H2 => wipe σ2 vs = wipe σ vs ∧ tYes σ2 H2 fun b H3 =>
        if b = true then te σ2 H3 fun y H4 => ∃ acc, H4 D = some (.lst acc) ∧ acc.length < sizeLine ∧ Nx (upd H4 D (.lst (acc ++ [y]))) else Nx H3) := by
  refine lc_range (lo := 0) (n := n) (fun i H => ∃ ws, H D = some (.lst ws) ∧ RpL K H ws (ds.take i) ∧ Stp [] H1 H) ⟨[], upd_same, .nil, Stp.new nD _⟩ ?_ ?_
  · rintro i H hi ⟨ws, hL, rv, S⟩
    have il : i < ds.length := by rw [hl]; exact hi
    refine step i ds[i] H (List.getElem?_eq_getElem il) S _ fun y H' S' ry => ?_
    refine ⟨ws, S'.kp _ _ (fun m => nomatch m) hL, ?_, ws ++ [y], upd_same, ?_, (S.trans S').mut nD⟩
    · rw [rv.len, List.length_take]
      exact Nat.lt_of_le_of_lt (show min i ds.length ≤ 90000 by omega) (by decide)
    · have s4 : Stp [D] H' (upd H' D (.lst (ws ++ [y]))) := Stp.put (by simp)
      have hL' := S'.kp _ _ (fun m => nomatch m) hL
      exact RpL.snoc ((rv.stp S' Lsts.nil).stp s4 (.one hL')) (List.getElem?_eq_getElem il) (ry.stp s4 (.one hL'))
  · rintro H ⟨ws, hL, rv, S⟩
    rw [← hl, List.take_length] at rv
    exact hd ws H S hL rv
end
end Pg
namespace Pg
open PySem PySem.Spec PyProof.Rows L2
/-- a new object is changed -/
theorem Stp.mutO {S : List Addr} {H H' : Hp} {p : Addr} {o : HO} (a : Stp S H H') (h : H p = none) : Stp S H (upd H' p o) :=
  ⟨fun x u n q => by
    rw [upd_ne (ne_of_none q h)]
    exact a.kp x u n q, fun x xs q => by
    rw [upd_ne (ne_of_none q h)]
    exact a.ls x xs q⟩
/-- sorted(xs), texts, any number of them -/
def rSortedSA (K : PySem.W.Frag) : List V → Hp → VK → Prop := fun vs H Q => ∃ (a : Addr) (ls : List (List Nat)), vs = [V.ref a] ∧ SqL K H a (ls.map Tx) ∧
  ∀ (zs : List (List Nat)) (p : Addr), zs.Perm ls → zs.Pairwise (· ≤ ·) → H p = none → Q (.ref p) (upd H p (.lst (zs.map Tx)))
theorem rising_le : ∀ (zs : List (List Nat)) (p : List Nat), risingS (tx p) (zs.map tx) = true → (p :: zs).Pairwise (· ≤ ·)
  | [], p, _ => List.pairwise_singleton _ _
  | z :: zs, p, h => by
    have h' : (!ltCps z p && risingS (tx z) (zs.map tx)) = true := by simpa [risingS] using h
    rw [ltCps_eq] at h'
    obtain ⟨h1, h2⟩ := Bool.and_eq_true_iff.mp h'
    have ih := rising_le zs z h2
    have pz : p ≤ z := List.not_lt.mp (by simpa using h1)
    refine List.pairwise_cons.mpr ⟨fun y m => ?_, ih⟩
    rcases List.mem_cons.mp m with rfl | m
    · exact pz
    · exact List.le_trans pz ((List.pairwise_cons.mp ih).1 y m)
theorem cr_sortedSA {X : Cx} : CallR X (.builtin "sorted") (rSortedSA X.K) := by
  intro pins s σ H vs us Q I r h
  obtain ⟨a, ls, rfl, hs, q⟩ := h
  obtain ⟨its, rv, hl, hz⟩ := I.list hs
  rw [Vals.ref1 r]
  have st : StrsAre its (ls.map tx) := by
    have : ls.map Tx = (ls.map tx).map V.str := by rw [List.map_map]; rfl
    rw [this] at rv
    exact rv.strs
  refine sorted_strsAny hl.isList st (by rw [← rv.length]; exact hz) fun out ys h1 h2 h3 => ?_
  have e : ys = (ys.map fun s => s.cps.toList).map tx := by
    rw [List.map_map]
    conv => lhs; rw [← List.map_id ys]
    rfl
  have pm : (ys.map fun s => s.cps.toList).Perm ls := by
    have := h2.map fun s : Str => s.cps.toList
    rw [List.map_map] at this
    refine this.trans (List.Perm.of_eq ?_)
    conv => rhs; rw [← List.map_id ls]
    refine List.map_congr_left fun l _ => ?_
    simp
  have so : (ys.map fun s => s.cps.toList).Pairwise (· ≤ ·) := by
    rw [e] at h3
    generalize (ys.map fun s => s.cps.toList) = zs at h3
    cases zs with
    | nil => exact List.Pairwise.nil
    | cons z zs => exact rising_le zs z h3
  obtain ⟨ep, he'⟩ := PyProof.Rows.sortedAll_at s.heap its out
  rw [e] at h1
  have hv := vals_of_strs h1
  rw [List.map_map] at hv
  have hv : Vals ((ys.map fun s => s.cps.toList).map Tx) out.toList := hv
  have hlen : ((ys.map fun s => s.cps.toList).map Tx).length ≤ sizeLine := by
    rw [List.length_map, pm.length_eq]
    rw [List.length_map] at hz
    exact hz
  exact ⟨.ref _, upd H (s.heap.objs.size + 1) (.lst ((ys.map fun s => s.cps.toList).map Tx)), I.laid (t' := s.toks) (fun _ _ => PyProof.Rows.sortedAll_old) (Nat.le_succ _) ⟨hlen, out.toList, ep, hv, he'⟩, rfl, q _ _ pm so (I.hok.fresh (Nat.le_succ _))⟩
end Pg
namespace Pg
open PySem PySem.Spec PyProof.Rows L2
theorem RpL.rev {K : PySem.W.Frag} {H : Hp} : ∀ {vs : List V} {ds : List Dt}, RpL K H vs ds → RpL K H vs.reverse ds.reverse
  | _, [], .nil => .nil
  | _, _ :: _, .cons h r => by
    rw [List.reverse_cons, List.reverse_cons]
    exact RpL.app (RpL.rev r) (.cons h .nil)
theorem RpL.erase {K : PySem.W.Frag} {H : Hp} {α : Type} {f : α → Dt} : ∀ {vs : List V} {ps : List α} {k : Nat}, RpL K H vs (ps.map f) → RpL K H (vs.eraseIdx k) ((ps.eraseIdx k).map f)
  | _, [], _, .nil => .nil
  | _, _ :: _, 0, .cons _ r => r
  | _, _ :: _, k + 1, .cons h r => .cons h (RpL.erase (k := k) r)
theorem seqIx {n : Nat} {d : Int} (h0 : 0 ≤ d) (h1 : d < (n : Int)) : seqIndex? d n = some d.toNat := (ixN_seq (by unfold ixN; rw [if_pos h0, if_pos h1])).1
/-! ### t[::-1] -/
section
variable {prog : Program} {w : World} {A : Around} {E : Value → Shared → Prop} {s : Shared}
open HT
theorem sliceApplied_rev {sl : Addr} {vl vu vs : Value} {n : Nat} {Q : Int × Int × Nat → Shared → Prop} (hs : s.heap.IsSliceOf sl vl vu vs) (pl : IsPart vl none) (pu : IsPart vu none) (ps : IsPart vs (some (-1)))
    (h : Q ((n : Int) - 1, -1, n) s) : wpAny (model prog w) A (Builtin.Slice.sliceApplied (.ref sl) (pure (n : Int))) Q E s := by
  obtain ⟨os, hos, hcs, hds⟩ := id hs
  unfold Builtin.Slice.sliceApplied Builtin.Slice.sliceFields
  refine wpAny_bind (wpAny_bind (wpAny_field hos hds (x := vl) rfl (wpAny_bind (wpAny_field hos hds (x := vu) rfl (wpAny_bind (wpAny_field hos hds (x := vs) rfl (wpAny_pure ?_)))))))
  refine wpAny_bind (slicePart_ ps ?_)
  show wpAny _ _ (if ((-1 : Int) == 0) = true then _ else _) _ _ s
  rw [if_neg (by decide)]
  refine wpAny_bind (slicePart_ pl (wpAny_bind (slicePart_ pu (wpAny_bind (wpAny_pure ?_)))))
  show wpAny _ _ (pure ((n : Int) - 1, (-1 : Int), Builtin.Slice.slicePlaces ((n : Int) - 1) (-1) (-1))) _ _ s
  have e : Builtin.Slice.slicePlaces ((n : Int) - 1) (-1) (-1) = n := by
    unfold Builtin.Slice.slicePlaces
    rw [if_neg (by decide)]
    by_cases c : (n : Int) - 1 > -1
    · rw [if_pos c, show (- -1 : Int) = 1 by decide, Int.ediv_one]
      omega
    · rw [if_neg c]
      omega
  rw [e]
  exact wpAny_pure h
theorem pick_rev (xs : Array Value) : ((List.range xs.size).filterMap fun (k : Nat) => xs[((xs.size : Int) - 1 + (k : Int) * (-1)).toNat]?).toArray = xs.toList.reverse.toArray := by
  have e : (fun (k : Nat) => xs[((xs.size : Int) - 1 + (k : Int) * (-1)).toNat]?) = (fun k => xs[xs.size - 1 - k]?) := by
    funext k
    have : ((xs.size : Int) - 1 + (k : Int) * (-1)).toNat = xs.size - 1 - k := by omega
    rw [this]
  rw [e]
  have e2 : (fun k => xs[xs.size - 1 - k]?) = (fun k => xs[k]?) ∘ fun k => xs.size - 1 - k := rfl
  rw [e2, ← List.filterMap_map, PySem.W.krv_range, List.filterMap_reverse, PySem.W.krv_all]
theorem getItem_tuple_rev {t sl : Addr} {items : Array Value} {vl vu vs : Value} {Q : Value → Shared → Prop} (ht : IsTup s.heap t items) (hs : s.heap.IsSliceOf sl vl vu vs) (pl : IsPart vl none) (pu : IsPart vu none) (ps : IsPart vs (some (-1)))
    (h : Q (.ref s.heap.objs.size) { s with heap := s.heap.push { cls := .type "tuple", data := .seq items.toList.reverse.toArray } })
    (hsz : items.size ≤ sizeLine) : wpAny (model prog w) A (getItem (.ref t) (.ref sl)) Q E s := by
  have htake : sizeOk (.seq items.toList.reverse.toArray) := by
    show items.toList.reverse.toArray.size ≤ sizeLine
    rw [List.size_toArray, List.length_reverse, Array.length_toList]
    exact hsz
  obtain ⟨os, hos, hcs, hds⟩ := id hs
  have hTs : s.TypeIs (.ref sl) "slice" := ⟨os, hos, hcs⟩
  unfold getItem
  try with_reducible refine wpAny_holding ?_
  first | refine wpAny_bind (wpAny_pure ?_) | skip
  refine wpAny_bind (wpAny_sequenceKey ht.typeIs (by decide) ?_)
  refine wpAny_bind (wpAny_callSpecial?_slot (name := Str.ofString "__getitem__") ht.typeIs PyProof.Rows.slot_tuple_getitem
    (wpAny_call_entry PyProof.Rows.slot_tuple_getitem ht.typeIs entry_tuple_getitem ?_ (args_tuple_getitem _ _)))
  show wpAny _ _ (Builtin.Tuple.tupleItemsOf (.ref t) >>= _) _ _ s
  refine wpAny_bind (tupleItemsOf_ ht ?_)
  refine wpAny_bind (wpAny_typeOf hTs ?_)
  rw [if_pos (by decide)]
  refine wpAny_bind (sliceApplied_rev hs pl pu ps ?_)
  have hno : ¬ ((((items.size : Int) - 1) == 0 && (-1 : Int) == 1 && items.size == items.size) = true) := by
    intro q
    rw [Bool.and_eq_true, Bool.and_eq_true] at q
    exact absurd q.1.2 (by decide)
  show wpAny _ _ (if (((items.size : Int) - 1) == 0 && (-1 : Int) == 1 && items.size == items.size) = true then _ else _) _ _ s
  rw [if_neg hno, pick_rev]
  first
    | exact wpAny_bind (m := Builtin.Tuple.tupleExact _) (wpAny_newObj_type (wpAny_pure ⟨_, rfl, wpAny_pure h⟩) htake)
    | exact wpAny_bind (m := Builtin.Tuple.tupleExact _) (wpAny_newObj_type (wpAny_bind (wpAny_pure (wpAny_pure ⟨_, rfl, wpAny_pure h⟩))) htake)
    | exact wpAny_bind (wpAny_bind (m := Builtin.Tuple.tupleExact _) (wpAny_newObj_type (wpAny_pure (wpAny_pure ⟨_, rfl, wpAny_pure h⟩)) htake))
    | exact wpAny_bind (wpAny_bind (m := Builtin.Tuple.tupleExact _) (wpAny_newObj_type (wpAny_pure ⟨_, rfl, wpAny_pure h⟩) htake))
end
section
variable {X : Cx}
def tRevT (K : PySem.W.Frag) (te : TE) : TE := fun σ H Q => te σ H fun x H1 => ∃ a xs, x = .ref a ∧ SqT K H1 a xs ∧ ∀ p, H1 p = none → Q (.ref p) (upd H1 p (.tup xs.reverse))
theorem pe_revT {e : Expr} {te : TE} {k : Nat} {p1 p2 p3 pos : Pos} (he : PE X e te) : PE X (.Subscript e (.Slice none none (some (.UnaryOp .USub (.Constant (.int 1) k p1) p2)) p3) pos) (tRevT X.K te) := by
  refine ⟨fun pins s σ H Q I h => ?_⟩
  refine Subscript_ (thn (he.run pins s σ H _ I h) fun v s1 ⟨x, H1, I1, r1, q1⟩ => ?_)
  obtain ⟨a, xs, ex, hx, q⟩ := q1
  subst ex
  cases r1
  have hst : PO X (some (.UnaryOp .USub (.Constant (.int 1) k p1) p2)) (tPart (tUn (rU fun i => .int (-i)) (tC (.int 1)))) := po_some (pe_un un_neg pe_int)
  refine wpAny_Slice (thn (po_none.run pins s1 σ H1 (fun o H2 => o = none ∧ H2 = H1) I1 ⟨rfl, rfl⟩) fun vl s2 ⟨l, H2, I2, pl, el, e2⟩ => ?_)
  subst el e2
  refine thn (po_none.run pins s2 σ H2 (fun o H3 => o = none ∧ H3 = H2) I2 ⟨rfl, rfl⟩) fun vu s3 ⟨u, H3, I3, pu, eu, e3⟩ => ?_
  subst eu e3
  refine thn (hst.run pins s3 σ H3 (fun o H4 => o = some (-1) ∧ H4 = H3) I3 ⟨1, rfl, -1, rfl, rfl, rfl⟩) fun vs s4 ⟨o, H4, I4, ps, eo, e4⟩ => ?_
  subst eo e4
  have I5 : Inv X pins σ H4 { s4 with heap := s4.heap.push { cls := .type "slice", data := .fields #[vl, vu, vs] } } := I4.kept (t' := s4.toks) fun b ob q => Heap.get?_push_of_some _ q
  obtain ⟨its, r, ht, hz⟩ := I5.tuple hx
  have hlen := r.length
  show wpAny (model X.prog X.w) X.A (subscriptTail e (.Slice none none (some (.UnaryOp .USub (.Constant (.int 1) k p1) p2)) p3) (.ref a) (.ref s4.heap.objs.size)) (EP X pins σ Q) X.xe { s4 with heap := s4.heap.push { cls := .type "slice", data := .fields #[vl, vu, vs] } }
  refine tail_any (ops := [.ref a, .ref s4.heap.objs.size]) ht.typeIs (PyProof.Rows.slot_tuple_getitem.lookup) ?_ (by with_unfolding_all rfl)
  refine getItem_tuple_rev ht (Heap.IsSliceOf.new _ vl vu vs) pl pu ps ?_ (by rw [List.size_toArray]; omega)
  refine ⟨.ref _, _, I5.laid (t' := s4.toks) (o := .tup xs.reverse) (fun b ob q => Heap.get?_push_of_some _ q) (Nat.le_refl _) ?_, rfl, q _ (I5.hok.fresh (Nat.le_refl _))⟩
  exact ⟨by rw [List.length_reverse]; exact hz, _, r.reverse, IsTup.new _ _⟩
end
end Pg
namespace Pg
open PySem PySem.Spec PyProof.Rows L2
theorem pe_clG0 {X : Cx} {j k : Nat} {st : Stmt} {ps : List Str} {sp : Sp} {x : Str} {p pos : Pos} (c : ClG X.prog X.w X.K X.mg X.base k x st ps sp) (hG : X.A.guards = some []) (hr : Room j X.A) (hk : k ≤ j) (hg : Gl X x := by rfl) (hdb : (x == ("__debug__" : Str)) = false := by decide) :
    PE X (.Call (.Name x p) [] [] pos) (tCl sp tNil) := by
  obtain ⟨f, fd, D, F⟩ := c.ex
  refine ⟨fun pins s σ H Q I h => ?_⟩
  refine wpAny_Call_Name_kw (ld_glob I hg D.at_ ?_ hdb)
  exact PySem.W.callWith_K0 I.kIn D.fn.kp (run_g (us := []) (F.mono hk) hG hr D.bd I .nil h)
end Pg
namespace Pv
open PySem PySem.Spec PyProof.Rows L2 Pg
/-! ### values as data, told by repr -/
mutual
def D.py : D → PyData
  | .non => .none
  | .bl b => .bool b
  | .int i => .int i
  | .str l => .str (tx l)
  | .tup ds => .tuple (D.pys ds)
  | .lst ds => .list (D.pys ds)
  | .obj _ => .none
def D.pys : List D → List PyData
  | [] => []
  | d :: ds => d.py :: D.pys ds
end
mutual
/-- signs at most -/
def D.wt : D → Nat
  | .non => 4
  | .bl _ => 5
  | .int _ => 12
  | .str l => 10 * l.length + 2
  | .tup ds => D.wts ds + 4
  | .lst ds => D.wts ds + 4
  | .obj _ => 0
def D.wts : List D → Nat
  | [] => 0
  | d :: ds => d.wt + 2 + D.wts ds
end
mutual
def D.deep : D → Nat
  | .tup ds => D.deeps ds + 1
  | .lst ds => D.deeps ds + 1
  | _ => 0
def D.deeps : List D → Nat
  | [] => 0
  | d :: ds => max d.deep (D.deeps ds)
end
mutual
/-- no objects, small numbers, signs that are signs -/
def D.fair : D → Bool
  | .non => true
  | .bl _ => true
  | .int i => decide (i.natAbs < 10 ^ 10)
  | .str l => l.all fun n => decide (n < 16 ^ 8)
  | .tup ds => D.fairs ds
  | .lst ds => D.fairs ds
  | .obj _ => false
def D.fairs : List D → Bool
  | [] => true
  | d :: ds => d.fair && D.fairs ds
end
section
variable {K : PySem.W.Frag} {S : List Addr} {H : Hp}
mutual
theorem rv_dp : ∀ {v : V} {d : D}, Rv K S H v d → d.fair = true → Dp K H v d.py
  | _, .non, .non, _ => by unfold D.py; exact .non
  | _, .bl _, .bl b, _ => by unfold D.py; exact .bl b
  | _, .int _, .int i, _ => by unfold D.py; exact .int i
  | _, .str _, .str x h, _ => by unfold D.py; exact .str _
  | _, .tup ds, .tup h n r, f => by
    unfold D.py
    unfold D.fair at f
    exact .tup h (rvs_dp r f)
  | _, .lst ds, .lst h o n r, f => by
    unfold D.py
    unfold D.fair at f
    exact .lst (SqL.of h) (rvs_dp r f)
  | _, .obj _, .obj _ _, f => by
    unfold D.fair at f
    cases f
theorem rvs_dp : ∀ {vs : List V} {ds : List D}, RvL K S H vs ds → D.fairs ds = true → DpAll K H vs (D.pys ds)
  | _, [], .nil, _ => by unfold D.pys; exact .nil
  | _, _ :: _, .cons h r, f => by
    unfold D.pys
    unfold D.fairs at f
    obtain ⟨f1, f2⟩ := Bool.and_eq_true_iff.mp f
    exact .cons (rv_dp h f1) (rvs_dp r f2)
end
end
mutual
theorem D.shw : ∀ (d : D), d.fair = true → d.py.showable = true
  | .non, _ => by unfold D.py; simp only [PyData.showable]
  | .bl _, _ => by unfold D.py; simp only [PyData.showable]
  | .int i, f => by
    unfold D.py
    unfold D.fair at f
    simp only [PyData.showable]
    have h := of_decide_eq_true f
    refine decide_eq_true ?_
    by_cases z : i.natAbs = 0
    · rw [z]; decide
    · exact (Nat.log2_lt z).mpr (Nat.lt_trans h (by decide +kernel))
  | .str _, _ => by unfold D.py; simp only [PyData.showable]
  | .tup ds, f => by
    unfold D.py
    unfold D.fair at f
    simp only [PyData.showable]
    exact D.shws ds f
  | .lst ds, f => by
    unfold D.py
    unfold D.fair at f
    simp only [PyData.showable]
    exact D.shws ds f
  | .obj _, f => by
    unfold D.fair at f
    cases f
theorem D.shws : ∀ (ds : List D), D.fairs ds = true → PyData.showableAll (D.pys ds) = true
  | [], _ => by unfold D.pys; simp only [PyData.showableAll]
  | d :: ds, f => by
    unfold D.pys
    unfold D.fairs at f
    obtain ⟨f1, f2⟩ := Bool.and_eq_true_iff.mp f
    simp only [PyData.showableAll, D.shw d f1, D.shws ds f2, Bool.and_self]
end
mutual
theorem D.dpt : ∀ (d : D), d.py.depth = d.deep
  | .non => by unfold D.py D.deep; rfl
  | .bl _ => by unfold D.py D.deep; rfl
  | .int _ => by unfold D.py D.deep; rfl
  | .str _ => by unfold D.py D.deep; rfl
  | .obj _ => by unfold D.py D.deep; rfl
  | .tup ds => by
    unfold D.py D.deep
    show PyData.depthAll _ + 1 = _
    rw [D.dpts ds]
  | .lst ds => by
    unfold D.py D.deep
    show PyData.depthAll _ + 1 = _
    rw [D.dpts ds]
theorem D.dpts : ∀ (ds : List D), PyData.depthAll (D.pys ds) = D.deeps ds
  | [] => by unfold D.pys D.deeps; rfl
  | d :: ds => by
    unfold D.pys D.deeps
    show max d.py.depth (PyData.depthAll (D.pys ds)) = _
    rw [D.dpt d, D.dpts ds]
end
mutual
theorem D.sgn : ∀ (d : D), d.fair = true → d.py.shown.length ≤ d.wt
  | .non, _ => by
    unfold D.py D.wt
    simp only [PyData.shown]
    decide
  | .bl b, _ => by
    unfold D.py D.wt
    cases b <;> simp only [PyData.shown] <;> decide
  | .int i, f => by
    unfold D.py D.wt
    unfold D.fair at f
    simp only [PyData.shown]
    have h := int_text_length_le10 (k := 10) (by decide) (of_decide_eq_true f)
    show (Str.ofString (toString i)).length ≤ 12
    rw [PySem.ofString_length]
    omega
  | .str l, f => by
    unfold D.py D.wt
    unfold D.fair at f
    simp only [PyData.shown]
    have := StrLaws.reprText_len (tx l) (fun c m => of_decide_eq_true (List.all_eq_true.mp f c (by simpa using m)))
    rw [tx_len] at this
    exact this
  | .tup ds, f => by
    unfold D.py D.wt
    unfold D.fair at f
    simp only [PyData.shown]
    have a := tupleText_le (PyData.shownAll (D.pys ds))
    have b := D.sgns ds f
    omega
  | .lst ds, f => by
    unfold D.py D.wt
    unfold D.fair at f
    simp only [PyData.shown]
    have a := listText_le (PyData.shownAll (D.pys ds))
    have b := D.sgns ds f
    omega
  | .obj _, f => by
    unfold D.fair at f
    cases f
theorem D.sgns : ∀ (ds : List D), D.fairs ds = true → ((PyData.shownAll (D.pys ds)).map fun t => t.length + 2).sum ≤ D.wts ds
  | [], _ => by
    unfold D.pys D.wts
    simp only [PyData.shownAll]
    decide
  | d :: ds, f => by
    unfold D.pys D.wts
    unfold D.fairs at f
    obtain ⟨f1, f2⟩ := Bool.and_eq_true_iff.mp f
    have p := D.sgn d f1
    have q := D.sgns ds f2
    simp only [PyData.shownAll, List.map_cons, List.sum_cons]
    omega
end
/-- what repr tells of a value -/
def D.told (d : D) : Str := d.py.shown
structure D.Fine (d : D) : Prop where
  fair : d.fair = true
  deep : d.deep ≤ 100
  wt : d.wt ≤ 1000000
/-- repr of values -/
def rReprD (K : PySem.W.Frag) : List V → Hp → VK → Prop := fun xs H Q => ∃ (S : List Addr) (v : V) (d : D), xs = [v] ∧ Rv K S H v d ∧ d.Fine ∧ Q (.str d.told) H
theorem call_reprD {X : Cx} {j : Nat} (hG : X.A.guards = some []) (hr : Room j X.A) : CallR X (.builtin "repr") (rReprD X.K) := fun pins s σ H xs us Q I r h => by
  obtain ⟨S, v, d, e, rv, ⟨f, dd, sz⟩, q⟩ := h
  exact call_repr hG hr pins s σ H xs us Q I r ⟨v, d.py, e, rv_dp rv f, D.shw d f, by rw [D.dpt]; exact dd, Nat.le_trans (D.sgn d f) (Nat.le_trans sz (by decide)), q⟩
/-! ### list.count of flat items -/
def rCntF (K : PySem.W.Frag) : V → List V → Hp → VK → Prop := fun x xs H Q => ∃ (p : Addr) (ys : List V) (y : V), x = .ref p ∧ xs = [y] ∧ SqL K H p ys ∧ flatV y = true ∧ ys.all flatV = true ∧ Q (.int ((ys.countP fun z => eqV z y : Nat) : Int)) H
theorem count_eqU {x : V} : ∀ {ys : List V} {us : List Value}, Vals ys us → ys.all flatV = true → us.countP (eqU x) = ys.countP fun z => eqV z x
  | [], _, .nil, _ => rfl
  | y :: ys, _, .cons r t, f => by
    rw [List.all_cons, Bool.and_eq_true] at f
    rw [List.countP_cons, List.countP_cons, count_eqU t f.2, eqU_of r f.1]
theorem mt_lcountF {X : Cx} : MtR X "list.count" (rCntF X.K) := by
  intro pins s σ H x xs v us Q I rx rxs h
  obtain ⟨p, ys, y, rfl, rfl, hs, fy, fys, q⟩ := h
  cases rx
  obtain ⟨u, rfl, ru⟩ := rxs.one
  obtain ⟨its, rv, ⟨⟨cls, dd, data, sl⟩, n, ho, hc, hdn, hd⟩, hlen⟩ := I.list hs
  simp only at hc hd
  subst hc hd
  refine call_meets PySem.F.slot_list_count ⟨_, ho, rfl⟩ PySem.F.entry_list_count (PySem.F.args_list_count_2 _ _)
    (SeqAt.list_countAt p its.toArray n dd sl u (eqU y)) ⟨ho, fun u' hu' => mem_eqAt ru fy rv fys u' (by simpa using hu'), ?_⟩
  have ec : its.toArray.toList.countP (eqU y) = ys.countP fun z => eqV z y := count_eqU rv fys
  refine ⟨.int ((ys.countP fun z => eqV z y : Nat) : Int), H, I.tok _, ⟨s.toks, ?_⟩, q⟩
  show Value.int ((its.toArray.toList.countP (eqU y) : Nat) : Int) s.toks = _
  rw [ec]
/-! ### str.index of what is there -/
def rIdxS : V → List V → Hp → VK → Prop := fun x xs H Q => ∃ (a b : Str) (k : Nat), x = .str a ∧ xs = [.str b] ∧ Txt.index0 a b = some k ∧ Q (.int (k : Int)) H
theorem mt_idxS {X : Cx} : MtR X "str.index" rIdxS := by
  intro pins s σ H x xs v us Q I rx rs h
  obtain ⟨a, b, k, rfl, rfl, hk, w⟩ := h
  obtain ⟨t, rfl⟩ := rx
  cases rs with
  | cons r1 rs =>
    cases rs
    obtain ⟨u, rfl⟩ := r1
    cases q : Builtin.Str.occurrences a b 0 a.length 1 with
    | nil =>
      unfold Txt.index0 at hk
      rw [q] at hk
      cases hk
    | cons k' rest =>
      unfold Txt.index0 at hk
      rw [q] at hk
      cases hk
      exact PySem.SC.index q ⟨.int (k : Nat), H, I.tok _, ⟨_, rfl⟩, w⟩
/-! ### xs == ys, both hold the same values -/
def rEqL (K : PySem.W.Frag) : R2 := fun x y H Q => ∃ (S : List Addr) (a b : Addr) (xs : List V) (ds : List D), x = .ref a ∧ y = .ref b ∧ SqL K H a xs ∧ SqL K H b xs ∧ RvL K S H xs ds ∧ Q (.bl true) H
theorem op_eqL {X : Cx} (hu : X.A.units + 64 < cLine) : OpR X (compareOp .Eq) (rEqL X.K) := by
  intro pins s σ H x y v u Q I rx ry h
  obtain ⟨S, a, b, xs, ds, rfl, rfl, hH, hB, rv, q⟩ := h
  cases rx
  cases ry
  obtain ⟨its, r, pl, _⟩ := I.list hH
  obtain ⟨its2, r2, pl2, _⟩ := I.list hB
  have e1 := Vals.length r
  have e2 := Vals.length r2
  refine SeqAt.RcAt.lists (e := fun _ => true) pl.isList pl2.isList (by simp; omega) (by omega) (fun j h1 h2 => ?_) _ _ _ _ ?_
  · have := vals_at rv r r2 X.A.in1 s j (by simpa using h1) (by simpa using h2)
    simpa using this
  · refine ⟨.bl _, H, I, rfl, ?_⟩
    rw [show ((List.range its.toArray.size).all fun _ => true) = true from by simp]
    exact q
/-! ### letters c at the end -/
/-- without the letters c at its end -/
def cOff (l : List Nat) : List Nat := l.take (l.length - (l.reverse.takeWhile fun c => c == 99).length)
theorem cOff_rev (l : List Nat) : cOff l = (l.reverse.dropWhile fun c => c == 99).reverse := by
  unfold cOff
  have e := List.takeWhile_append_dropWhile (p := fun c => c == 99) (l := l.reverse)
  have e2 : l = (l.reverse.dropWhile fun c => c == 99).reverse ++ (l.reverse.takeWhile fun c => c == 99).reverse := by
    rw [← List.reverse_append, e, List.reverse_reverse]
  have hl : l.length = (l.reverse.dropWhile fun c => c == 99).length + (l.reverse.takeWhile fun c => c == 99).length := by
    have := congrArg List.length e2
    simpa using this
  generalize (l.reverse.dropWhile fun c => c == 99) = A at *
  generalize (l.reverse.takeWhile fun c => c == 99) = B at *
  rw [e2, List.length_append, List.length_reverse, List.length_reverse, Nat.add_sub_cancel, ← List.length_reverse (as := A), List.take_left]
theorem contains_c (n : Nat) : (tx [99]).cps.contains n = (n == 99) := by
  by_cases h : n = 99
  · subst h
    decide +kernel
  · rw [show (n == 99) = false from beq_eq_false_iff_ne.mpr h]
    simp [tx]
    exact fun q => h (by omega)
theorem rstrip_c (l : List Nat) : Txt.rstripChars (tx l) (tx [99]) = tx (cOff l) := by
  unfold Txt.rstripChars
  rw [PyProof.Rows.stripBy_eq]
  have e : (tx [99]).cps.contains = fun n => n == 99 := funext contains_c
  rw [e]
  unfold stripLo stripHi Builtin.Str.strSub cOff
  simp [tx, Str.length]
theorem drop_all : ∀ {l : List Nat}, (l.dropWhile fun c => c == 99) = [] → ∀ c ∈ l, c = 99
  | x :: l, h, c, m => by
    rw [List.dropWhile_cons] at h
    by_cases z : (x == 99) = true
    · rw [if_pos z] at h
      rcases List.mem_cons.mp m with rfl | m
      · exact beq_iff_eq.mp z
      · exact drop_all h c m
    · rw [if_neg z] at h
      cases h
theorem cOff_nil {l : List Nat} (h : cOff l = []) : ∀ c ∈ l, c = 99 := fun c m => by
  rw [cOff_rev] at h
  exact drop_all (List.reverse_eq_nil_iff.mp h) c (List.mem_reverse.mpr m)
theorem cOff_last {l : List Nat} (h : cOff l ≠ []) : ∃ i c, cOff l = i ++ [c] ∧ c ≠ 99 := by
  rw [cOff_rev] at h ⊢
  cases e : (l.reverse.dropWhile fun c => c == 99) with
  | nil => rw [e] at h; exact absurd rfl h
  | cons c t =>
    refine ⟨t.reverse, c, by rw [List.reverse_cons], fun z => ?_⟩
    have := List.head?_dropWhile_not (fun c => c == 99) l.reverse
    rw [e] at this
    simp at this
    exact this z
theorem abc_cOff {l : List Nat} (h : Abc l) : Abc (cOff l) := h.take _
theorem cOff_len (l : List Nat) : (cOff l).length ≤ l.length := by
  unfold cOff
  rw [List.length_take]
  omega
/-- the text beyond -/
def bey (l : List Nat) : Option (List Nat) := if cOff l = [] then none else some ((cOff l).dropLast ++ [(cOff l).getLastD 0 + 1])
theorem abc_bey {l m : List Nat} (h : Abc l) (e : bey l = some m) : Abc m ∧ m.length ≤ l.length := by
  unfold bey at e
  by_cases z : cOff l = []
  · rw [if_pos z] at e; cases e
  · rw [if_neg z] at e
    obtain ⟨i, c, hc, n⟩ := cOff_last z
    have hl := cOff_len l
    have ha := abc_cOff h
    rw [hc] at e hl ha
    simp at e
    subst e
    refine ⟨Abc.app (fun x m => ha x (List.mem_append_left _ m)) (Abc.one ?_), by simpa using hl⟩
    rcases ha c (List.mem_append_right _ List.mem_cons_self) with q | q | q <;> omega
end Pv
namespace Pv
open PySem PySem.Spec PyProof.Rows L2 Pg
theorem bag_ls {H : Hp} {b : Addr} {n : Nat} (B : Bag H b n) : Lsts H [b] := by
  obtain ⟨x, y, z, hb, _⟩ := B
  exact .one hb
theorem catle {a b : List Nat} (h : a.length ≤ 12) (g : b.length ≤ 1000) : a.length + b.length ≤ 100000 := by omega
theorem catle' {a b : List Nat} (h : a.length ≤ 1000) (g : b.length ≤ 12) : a.length + b.length ≤ 100000 := by omega
theorem EvD.cat {K : PySem.W.Frag} {S : List Addr} {te tb : TE} {σ : L2.St} {H : Hp} {a b : List Nat} (h : EvD K S te σ H (.str a)) (g : EvD K S tb σ H (.str b)) (hl : a.length + b.length ≤ 100000) : EvD K S (tOp (fun x y H Q => ∃ i j, x = .str i ∧ y = .str j ∧ i.length + j.length ≤ sizeLine ∧ Q (.str (i ++ j)) H) te tb) σ H (.str (a ++ b)) := fun H1 s Q k =>
  h H1 s _ fun v H2 s2 r => g H2 (s.trans s2) _ fun u H3 s3 q => by
    cases r with
    | str _ h1 =>
      cases q with
      | str _ h2 =>
        refine ⟨tx a, tx b, rfl, rfl, by rw [tx_len, tx_len]; exact sz hl, ?_⟩
        rw [tx_app]
        exact k _ _ (s2.trans s3) (.str _ (by rw [List.length_append]; exact hl))
/-! ### t == () -/
def rEqNilT (K : PySem.W.Frag) : R2 := fun x y H Q => ∃ a b xs, x = .ref a ∧ y = .ref b ∧ SqT K H a xs ∧ SqT K H b [] ∧ Q (.bl xs.isEmpty) H
theorem op_eqNilT {X : Cx} (hu : X.A.units + 64 < cLine) : OpR X (compareOp .Eq) (rEqNilT X.K) := by
  intro pins s σ H x y v u Q I rx ry h
  obtain ⟨a, b, xs, rfl, rfl, hH, hB, q⟩ := h
  cases rx
  cases ry
  obtain ⟨its, r, pl, _⟩ := I.tuple hH
  obtain ⟨its2, r2, pl2, _⟩ := I.tuple hB
  cases r2
  have e1 := Vals.length r
  refine SeqAt.RcAt.tuples (e := fun _ => true) pl pl2 (by omega) (fun j h1 h2 => absurd h2 (by simp)) _ _ _ _ ?_
  refine ⟨.bl _, H, I, rfl, ?_⟩
  have e : ((List.range (min its.toArray.size ([] : List Value).toArray.size)).all (fun _ => true) && its.toArray.size == ([] : List Value).toArray.size) = xs.isEmpty := by
    cases r with
    | nil => rfl
    | cons _ _ => simp
  rw [e]
  exact q
end Pv
namespace Pg
open PySem PySem.Spec PyProof.Rows L2
/-! ### min, max of a list of ints with default= -/
theorem ints_reads {h : Heap} : ∀ {its : List Value} {ns : List Int}, IntsAre its ns → ∃ as, ReadsAll h its (ns.map PyData.int) as
  | _, _, .nil => ⟨_, ReadsAll.nil⟩
  | _, _, .cons a t hi => by
    obtain ⟨as, r⟩ := ints_reads (h := h) hi
    exact ⟨_, ReadsAll.cons (Reads.int a t) r⟩
def foldMin (ns : List Int) (d : Int) : Int := match ns with | [] => d | n :: r => r.foldl min n
def foldMax (ns : List Int) (d : Int) : Int := match ns with | [] => d | n :: r => r.foldl max n
theorem alike_ints (ns : List Int) : PySem.W.AlikeAll (ns.map PyData.int) := by
  refine ⟨fun x hx y hy => ?_, fun x hx => ?_⟩
  · obtain ⟨i, _, rfl⟩ := List.mem_map.mp hx
    obtain ⟨j, _, rfl⟩ := List.mem_map.mp hy
    rfl
  · obtain ⟨i, _, rfl⟩ := List.mem_map.mp hx
    exact fun e => nomatch e
theorem depth_ints : ∀ ns : List Int, PyData.depthAll (ns.map PyData.int) ≤ 1
  | [] => Nat.zero_le _
  | n :: ns => Nat.max_le.mpr ⟨(Nat.zero_le 1 : PyData.depth (.int n) ≤ 1), depth_ints ns⟩
section
variable {X : Cx}
def rMinDf (K : PySem.W.Frag) : List V → List V → Hp → VK → Prop := fun vs zs H Q => ∃ (a : Addr) (ns : List Int) (d : Int), vs = [V.ref a] ∧ zs = [.int d] ∧ SqL K H a (ns.map V.int) ∧ Q (.int (foldMin ns d)) H
def rMaxDf (K : PySem.W.Frag) : List V → List V → Hp → VK → Prop := fun vs zs H Q => ∃ (a : Addr) (ns : List Int) (d : Int), vs = [V.ref a] ∧ zs = [.int d] ∧ SqL K H a (ns.map V.int) ∧ Q (.int (foldMax ns d)) H
theorem cr_minDf (hc : X.calm = true) (hu : X.A.units + 64 < cLine) : CallRK X (.builtin "min") [Str.ofString "default"] (rMinDf X.K) := by
  intro pins s σ H vs zs us ws Q I r rz h
  obtain ⟨a, ns, d, rfl, rfl, hs, q⟩ := h
  obtain rfl := Vals.ref1 r
  obtain ⟨w1, rfl, e1⟩ := vals1 rz
  obtain ⟨t1, rfl⟩ := e1
  obtain ⟨its, rv, hl, _⟩ := I.list hs
  obtain ⟨as, ra⟩ := ints_reads (h := s.heap) rv.ints
  refine PySem.W.min_list_default (I.ok.hd hc) hl.isList ra ?_ ?_ (fun e h' tk hk => ?_) fun y ys i v h' tk bs e hv rd hk => ?_
  · exact alike_ints ns
  · have := depth_ints ns
    omega
  · have : ns = [] := List.map_eq_nil_iff.mp e
    subst this
    exact ⟨.int _, H, I.kept hk, ⟨_, rfl⟩, q⟩
  · cases ns with
    | nil => cases e
    | cons n ns =>
      cases e
      rw [PySem.W.minD_ints] at rd
      cases rd
      exact ⟨.int _, H, I.kept hk, ⟨_, rfl⟩, q⟩
theorem cr_maxDf (hc : X.calm = true) (hu : X.A.units + 64 < cLine) : CallRK X (.builtin "max") [Str.ofString "default"] (rMaxDf X.K) := by
  intro pins s σ H vs zs us ws Q I r rz h
  obtain ⟨a, ns, d, rfl, rfl, hs, q⟩ := h
  obtain rfl := Vals.ref1 r
  obtain ⟨w1, rfl, e1⟩ := vals1 rz
  obtain ⟨t1, rfl⟩ := e1
  obtain ⟨its, rv, hl, _⟩ := I.list hs
  obtain ⟨as, ra⟩ := ints_reads (h := s.heap) rv.ints
  refine PySem.W.max_list_default (I.ok.hd hc) hl.isList ra ?_ ?_ (fun e h' tk hk => ?_) fun y ys i v h' tk bs e hv rd hk => ?_
  · exact alike_ints ns
  · have := depth_ints ns
    omega
  · have : ns = [] := List.map_eq_nil_iff.mp e
    subst this
    exact ⟨.int _, H, I.kept hk, ⟨_, rfl⟩, q⟩
  · cases ns with
    | nil => cases e
    | cons n ns =>
      cases e
      rw [PySem.W.maxD_ints] at rd
      cases rd
      exact ⟨.int _, H, I.kept hk, ⟨_, rfl⟩, q⟩
end
section
variable {K : PySem.W.Frag} {a : Addr} {xs : List V} {ds : List Dt} {g : TG} {te : TE} {vs : List Nat} {σ : L2.St} {H1 : Hp} {D : Addr} {Qd : Hp → Prop}
theorem lc_mapT9 (nD : H1 D = none) (hs : SqT K H1 a xs) (hl : ds.length = xs.length) (hz : xs.length ≤ 100000)
    (step : ∀ (i : Nat) x d H, xs[i]? = some x → ds[i]? = some d → Stp [] H1 H → ∀ Q : VK, (∀ y H', Stp [] H H' → Rp K H' y d → Q y H') → g x (wipe σ vs) H fun σ2 H2 => wipe σ2 vs = wipe σ vs ∧ te σ2 H2 Q)
    (hd : ∀ ws H, Stp [] H1 H → H D = some (.lst ws) → RpL K H ws ds → Qd H) :
    ∃ W : Nat → Nat → Hp → Prop, (∃ m, W 0 m (upd H1 D (.lst []))) ∧ ∀ i m H, W i m H →
      ((Itt K a).stop i H ∧ Qd H) ∨ ((Itt K a).go i H ∧ ∃ Nx : Hp → Prop, (∀ H', Nx H' → ∃ m', m' < m ∧ W (i + 1) m' H') ∧ ∀ x H', (Itt K a).yld i H x H' → g x (wipe σ vs) H' fun σ2 H2 => wipe σ2 vs = wipe σ vs ∧ tYes σ2 H2 fun b H3 =>
        if b = true then te σ2 H3 fun y H4 => ∃ acc, H4 D = some (.lst acc) ∧ acc.length < sizeLine ∧ Nx (upd H4 D (.lst (acc ++ [y]))) else Nx H3) := by
  refine lc_tup (a := a) (xs := xs) (fun i H => ∃ ws, H D = some (.lst ws) ∧ RpL K H ws (ds.take i) ∧ Stp [] H1 H) ⟨[], upd_same, .nil, Stp.new nD _⟩ (fun i H _ ⟨_, _, _, S⟩ => sqt_stp S Lsts.nil hs) ?_ ?_
  · rintro i x H hi ⟨ws, hL, rv, S⟩
    have il : i < ds.length := by rw [hl]; exact (List.getElem?_eq_some_iff.mp hi).1
    refine step i x ds[i] H hi (List.getElem?_eq_getElem il) S _ fun y H' S' ry => ?_
    refine ⟨ws, S'.kp _ _ (fun m => nomatch m) hL, ?_, ws ++ [y], upd_same, ?_, (S.trans S').mut nD⟩
    · rw [rv.len, List.length_take]
      exact Nat.lt_of_lt_of_le (show min i ds.length < 100000 by omega) (by decide)
    · have s4 : Stp [D] H' (upd H' D (.lst (ws ++ [y]))) := Stp.put (by simp)
      have hL' := S'.kp _ _ (fun m => nomatch m) hL
      exact RpL.snoc ((rv.stp S' Lsts.nil).stp s4 (.one hL')) (List.getElem?_eq_getElem il) (ry.stp s4 (.one hL'))
  · rintro H ⟨ws, hL, rv, S⟩
    rw [← hl, List.take_length] at rv
    exact hd ws H S hL rv
end
end Pg
namespace Pg
open PySem PySem.Spec PyProof.Rows L2
/-! ### an exception that was caught, kept as a value -/
/-- an exception object of the class cls, raised and caught, without a dict of its own, at a -/
def ExK (cls : Value) (a : Addr) : HO := .ext fun h => ∃ (oe : Obj) (vs : Array Value), h.get? a = some oe ∧ Zc cls none oe ∧ oe.data = .fields vs
theorem exK_ok {P : Program} {w : World} {H : Hp} {h : Heap} {a : Addr} {cls : Value} {oe : Obj} {vs : Array Value} (e : h.get? a = some oe) (z : Zc cls none oe) (d : oe.data = .fields vs) : ObjOk P w H h a (ExK cls a) :=
  ⟨⟨oe, vs, e, z, d⟩, ⟨oe, e⟩, fun _ _ ⟨o, v, q, r⟩ k => ⟨o, v, k o q, r⟩⟩
section
variable {X : Cx} {pins : List (Addr × Obj)} {σ : L2.St} {H : Hp} {s : Shared}
/-- an object that stands in the heap, new since the entry, is tracked from here on -/
theorem track {a : Addr} {o : HO} {oe : Obj} {vs : Array Value} (I : Inv X pins σ H s) (na : H a = none) (n0 : X.s_0.heap.get? a = none) (ha : s.heap.get? a = some oe) (hd : oe.data = .fields vs) (nL : a ≠ X.env.locals) (np : ∀ p ∈ X.pn ++ pins, p.1 ≠ a)
    (new : ObjOk X.prog X.w (upd H a o) s.heap a o) : Inv X pins σ (upd H a o) s := by
  have ne : ∀ {b : Addr} {u : HO}, H b = some u → b ≠ a := fun e z => by rw [z, na] at e; cases e
  refine ⟨I.ok, I.os, I.bare, ⟨I.base.keep, I.base.slot, fun b u e n hx => ?_, I.base.there, fun b xs e => ?_, fun b u z e => ?_, fun b ps e => ?_⟩, I.loc, I.cell, ?_, fun x c e => ?_, fun p hp => ?_, fun b u e => ?_, I.len⟩
  · rw [upd_ne (fun z => by rw [z, n0] at e; cases e)]
    exact I.base.free b u e n hx
  · have q := I.base.tups b xs e
    rw [upd_ne (ne q)]
    exact q
  · have q := I.base.frzs b u z e
    rw [upd_ne (ne q)]
    exact q
  · obtain ⟨m, q⟩ := I.base.tbls b ps e
    exact ⟨m, by rw [upd_ne (ne q)]; exact q⟩
  · rw [upd_ne nL.symm]
    exact I.free
  · have : c ≠ a := fun z => by
      obtain ⟨v, ob, ho, hc⟩ := I.cell x c e
      rw [z, ha] at ho
      cases ho
      rw [hd] at hc
      cases hc
    rw [upd_ne this]
    exact I.freeC x c e
  · obtain ⟨e, n, n1, n2, d⟩ := I.pin p hp
    exact ⟨e, by rw [upd_ne (np p hp)]; exact n, n1, n2, d⟩
  · by_cases hb : b = a
    · subst hb
      rw [upd_same] at e
      cases e
      exact new
    · rw [upd_ne hb] at e
      exact (I.hok b u e).stay (fun _ _ _ q => q) (fun c q => by rw [upd_ne (ne q)]; exact q) fun c xs q => by rw [upd_ne (ne q)]; exact q
theorem toSuite (I : Inv X pins σ H s) (a : Addr) : Inv (X.suite a (X.pn ++ pins)) [] σ H s :=
  ⟨I.ok.suite _ _, I.os, I.bare, I.base, I.loc, I.cell, I.free, I.freeC, fun p hp => I.pin p (by rw [List.append_nil] at hp; exact hp), I.hok, I.len⟩
theorem ofSuite {a : Addr} {pn' : List (Addr × Obj)} (I : Inv (X.suite a (X.pn ++ pins)) pn' σ H s) (ok : X.Ok) : Inv X pins σ H s :=
  ⟨ok, I.os, I.bare, I.base, I.loc, I.cell, I.free, I.freeC, fun p hp => I.pin p (List.mem_append_left _ hp), I.hok, I.len⟩
end
/-- what the clause 'except x as n' wishes, where what was caught is kept: slot i is n's -/
def wKeep (K : PySem.W.Frag) (c : Value) (i : Nat) (ts : TS) (Wout : WX) (D : Ends) : WX := fun cls d σ H =>
  ∃ b, PySem.W.exmOne K cls c = some b ∧ (b = true → d = none ∧ ∀ a, H a = none → ts { nx := fun σ' H' => D.nx (σ'.set i none) H', rt := D.rt, bk := fun σ' H' => D.bk (σ'.set i none) H', ct := fun σ' H' => D.ct (σ'.set i none) H' } (σ.set i (some (.ref a))) (upd H a (ExK cls a))) ∧
    (b = false → Wout cls d σ H)
section
variable {X : Cx} {x n : Str} {c : Value} {i : Nat} {body suite : List Stmt} {b₀ : Stmt} {np pos pos' : Pos} {tb : WX → TS} {ts : TS} {Wout : WX}
theorem ps_try_keep (hs : X.stack = X.env :: X.outer) (hf : X.env.frame = some X.env.locals) (hx : X.ex = []) (hN : X.N.Nodup) (hi : X.N[i]? = some n) (hln : X.env.kindOf n = some .local) (hc : Names X x c) (tk : Takes X Wout)
    (hb : ∀ (W : WX) (pn : List (Addr × Obj)) (xe : Value → Shared → Prop), Takes (X.tr pn xe) W → PassesOwn (model X.prog X.w) X.A X.env xe → PSs (X.tr pn xe) body (tb W))
    (hsu : ∀ (a : Addr) (pn : List (Addr × Obj)), PSs (X.suite a pn) (b₀ :: suite) ts) :
    PS X (.Try body [.ExceptHandler (some (.Name x np)) (some n) (b₀ :: suite) pos'] [] [] pos) (fun D σ H => tb (wKeep X.K c i ts Wout D) D σ H) := by
  refine ⟨fun pins s σ H D I h => ?_⟩
  have ok := I.ok
  have hfr : X.A.frames = some (X.env :: X.outer) := by rw [ok.frames, hs]
  have hloc : Loc X.env.scope n := .inl hln
  refine wpAny_Try_except ?_
  refine wpAny_mono ((hb (wKeep X.K c i ts Wout D) (X.pn ++ pins) (fun e s₁ => wpAny (model X.prog X.w) X.A (noteFrame e X.env) (fun _ s₂ => wpAny (model X.prog X.w) X.A (setFlight e none) (fun _ s₃ =>
    wpAny (model X.prog X.w) X.A (handleBy e X.env [.ExceptHandler (some (.Name x np)) (some n) (b₀ :: suite) pos']) (SP X pins D) X.xe s₃) X.xe s₂) X.xe s₁) (fun u s' xx => ?_) PassesOwn.looking).run [] s σ H D (I.toTry _) h) (fun f s1 hsp => ?_) (fun e s1 he => he)
  · -- the catch
    obtain ⟨a, B, sI, pins', σ', H', cls, d, rfl, J', nb, up, sky, na, os, ag, b, hb1, hyes, hno⟩ := xx
    have J : Inv X pins σ' H' sI := J'.ofTry ok
    have sky' : Sky B (X.env :: X.outer) a (Zc cls d) X.env.locals s'.heap := by rw [← hs]; exact sky
    show wpAny (model X.prog X.w) X.A (noteFrame (.ref a) X.env) _ _ _
    refine Sky.land Zc.steady hfr hf sky' fun h3 fl3 up3 => ?_
    have J3 : Inv X pins σ' H' { s' with heap := h3 } := J.landed nb fl3.1 (up.trans up3) os ag
    obtain ⟨oe3, vs3, he3, hz3, hd3⟩ := fl3.there
    have notFr : ∀ {h : Heap} {o : Obj} {vs : Array Value}, h.FunFrames B (X.env :: X.outer) → h.get? a = some o → o.data = .fields vs → a ∉ frs (X.env :: X.outer) := fun {h o vs} ff e dd hm => by
      obtain ⟨_, o', e', hnf⟩ := ff.mem hm
      rw [e] at e'; cases e'
      exact hnf _ dd
    have nfr := notFr fl3.2.2.1 he3 hd3
    have nL : a ≠ X.env.locals := fun z => nfr (List.mem_filterMap.mpr ⟨X.env, List.mem_cons_self, by rw [hf, z]⟩)
    have nF : a ∉ X.fs := fun hm => by
      obtain ⟨e, he, q⟩ := List.mem_filterMap.mp hm
      exact nfr (List.mem_filterMap.mpr ⟨e, List.mem_cons_of_mem _ he, q⟩)
    have nI : sI.heap.get? a = none := by
      cases e : sI.heap.get? a with
      | none => rfl
      | some o =>
        have q := nb a o e (by rw [hs]; exact nfr)
        rw [fl3.2.1] at q
        cases q
    have n0 : X.s_0.heap.get? a = none := by
      cases e : X.s_0.heap.get? a with
      | none => rfl
      | some o =>
        obtain ⟨o', q⟩ := J.base.there a o e (by rw [hx]; exact fun z => nomatch z)
        rw [nI] at q
        cases q
    have npn : ∀ p ∈ X.pn ++ pins, p.1 ≠ a := fun p hp z => by
      have q := (J.pin p hp).1
      rw [z, nI] at q
      cases q
    have S3 := J3.suite he3 hd3 na nL nF
    refine wpAny_handleBy_cons (codeAny_handlers_test ?_) (by intro q; cases q)
    have LT : PySem.W.Looks (model X.prog X.w) h3 (typeOf (.ref a)) cls := fun A Q E s k q => wpAny_typeOf_ref (k _ _ he3) (by rw [hz3.1]; exact q)
    have LM := PySem.W.exm_one (M := model X.prog X.w) (J3.kIn) LT hb1
    have test : ∀ {Q : Value → Shared → Prop} {E : Value → Shared → Prop}, Q c { s' with heap := h3 } → wpAny (model X.prog X.w) (X.A.mark (some (.ref a))) (eval (.Name x np) X.env) Q E { s' with heap := h3 } := fun {Q E} q => by
      obtain ⟨hg, hdbg, hm | ⟨hm, hv, hnn⟩⟩ := hc
      · exact ld_glob (X := X.suite a ((a, oe3) :: (X.pn ++ pins))) S3 hg hm q hdbg
      · exact ld_blt (X := X.suite a ((a, oe3) :: (X.pn ++ pins))) S3 hg hm hv q hnn hdbg
    refine test (LM.here ?_)
    cases b with
    | true =>
      obtain ⟨ed, hy⟩ := hyes rfl
      subst ed
      refine codeAny_handlers_suite_as ?_
      refine HandSPX.lands_againZ fl3 fun h4 fl4 up4 => ?_
      have J4 : Inv X pins σ' H' { s' with heap := h4 } := J.landed nb fl4.1 ((up.trans up3).trans up4) os ag
      obtain ⟨oe4, vs4, he4, hz4, hd4⟩ := fl4.there
      have S4 := toSuite (track (o := ExK cls a) J4 na n0 he4 hd4 nL npn (exK_ok he4 hz4 hd4)) a
      refine store_ok (X := X.suite a (X.pn ++ pins)) (v := .ref a) S4 hN hi hloc rfl (fun s5 S5 => ?_) (.inr hln)
      refine wpAny_mono ((hsu a (X.pn ++ pins)).run [] s5 _ _ _ S5 (hy a na)) (fun f s6 hsp => ?_) (fun _ _ z => False.elim z)
      have end_ : ∀ {σ6 : L2.St} {H6 : Hp} {Q : Shared → Prop}, Inv (X.suite a (X.pn ++ pins)) [] σ6 H6 s6 → (∀ s7, Inv X pins (σ6.set i none) H6 s7 → Q s7) →
          wpAny (model X.prog X.w) X.A (do bindName X.env n .none; unbindBehindTheSuite X.env n pos') (fun _ s7 => Q s7) X.xe s6 := fun {σ6 H6 Q} S6 hq => gone_ok (ofSuite S6 ok) hN hi hln hq
      cases f with
      | next =>
        obtain ⟨σ6, H6, S6, q6⟩ := hsp
        exact end_ S6 fun s7 J7 => ⟨_, _, J7, q6⟩
      | brk =>
        obtain ⟨σ6, H6, S6, q6⟩ := hsp
        exact end_ S6 fun s7 J7 => ⟨_, _, J7, q6⟩
      | cont =>
        obtain ⟨σ6, H6, S6, q6⟩ := hsp
        exact end_ S6 fun s7 J7 => ⟨_, _, J7, q6⟩
      | ret u =>
        obtain ⟨v6, σ6, H6, S6, r6, q6⟩ := hsp
        exact end_ S6 fun s7 J7 => ⟨_, _, _, J7, r6, q6⟩
    | false =>
      show wpAny _ X.A (handleBy (.ref a) X.env []) _ _ _
      refine wpAny_handleBy_nil ?_
      obtain ⟨k1, k2, k3, oe, vs, T, oT, ts', he, hz, hd, h1, hr⟩ := id fl3
      unfold PySem.passOn
      refine wpAny_bind (wpAny_field he hd h1 ?_)
      rw [if_neg (show ¬ ((Value.ref T == Value.none) = true) from by simp)]
      have fin : wpAny (model X.prog X.w) X.A (setFlight (.ref a) X.env.frame) (fun _ s4 => wpAny (model X.prog X.w) X.A (throw (.ref a) : Sem Flow) (SP X pins D) X.xe s4) X.xe { s' with heap := h3 } := by
        rw [hf]
        refine HandSPX.setFlight_upZ fl3 fun h4 hh4 up4 => wpAny_throw (tk _ _ ?_)
        exact ⟨a, B, sI, pins, σ', H', cls, d, rfl, J, nb, (up.trans up3).trans up4, .inr (.inr (by rw [hs]; exact hh4)), na, os, ag, hno rfl⟩
      first
        | exact wpAny_bind (wpAny_pure (wpAny_bind fin))
        | exact wpAny_bind fin
  · cases f with
    | next =>
      obtain ⟨σ', H', J', q⟩ := hsp
      exact wpAny_execs_nil ⟨σ', H', J'.ofTry ok, q⟩
    | brk =>
      obtain ⟨σ', H', J', q⟩ := hsp
      exact ⟨σ', H', J'.ofTry ok, q⟩
    | cont =>
      obtain ⟨σ', H', J', q⟩ := hsp
      exact ⟨σ', H', J'.ofTry ok, q⟩
    | ret u =>
      obtain ⟨v, σ', H', J', r, q⟩ := hsp
      exact ⟨v, σ', H', J'.ofTry ok, r, q⟩
end
/-- isinstance(e, c), e an exception that is kept -/
def rIsK (K : PySem.W.Frag) : List V → Hp → VK → Prop := fun xs H Q => ∃ (a D : Addr) (c : V) (cv : Value) (b : Bool), xs = [.ref a, c] ∧ ExcC K D ∧ H a = some (ExK (.ref D) a) ∧ (∀ u, RelV c u → u = cv) ∧ PySem.W.kitOne K (.ref D) cv = some b ∧ Q (.bl b) H
theorem call_isK {X : Cx} : CallR X (.builtin "isinstance") (rIsK X.K) := by
  intro pins s σ H xs us Q I r h
  obtain ⟨a, D, c, cv, b, rfl, C, ha, hcv, e, q⟩ := h
  cases r with
  | cons rx rr =>
    cases rr with
    | cons rt rr =>
      cases rr
      cases rx
      have ec := hcv _ rt
      subst ec
      obtain ⟨⟨oe, vs, hget, hz, hv⟩, _, _⟩ := I.hok a _ ha
      have J : PySem.W.InstAt s.heap a oe D none := by
        obtain ⟨oc, od, oda, osl⟩ := oe
        obtain ⟨h1, h2⟩ := hz
        dsimp only at h1 h2 hv
        subst h1 h2 hv
        exact ⟨hget, rfl, rfl, trivial⟩
      exact PySem.W.kia_one (PySem.W.handS_kitx_exc C.hg C.hk C.hs C.hd C.ha C.hn C.ht C.hm) I.kIn J e (fun z => nomatch z) fun tk => ⟨.bl b, H, I.kept (t' := tk) fun _ _ z => z, rfl, q⟩
end Pg
namespace Pg
open PySem PySem.Spec PyProof.Rows L2
/-! ### defs that may raise -/
/-- a def's promise, what it lets out told too -/
structure ClX (P : Program) (w : World) (K : PySem.W.Frag) (mg : Str → Option Value) (base : Heap) (k : Nat) (x : Str) (st : Stmt) (ps : List Str) (sp : Sp) : Prop where
  ex : ∃ f fd, Df K mg x st ps f fd ∧ FnOk P w K mg base (L2.CX P w) k f fd ps sp
theorem ClX.mono {P : Program} {w : World} {K : PySem.W.Frag} {mg : Str → Option Value} {base : Heap} {j k : Nat} {x : Str} {st : Stmt} {ps : List Str} {sp : Sp} (c : ClX P w K mg base j x st ps sp) (h : j ≤ k) : ClX P w K mg base k x st ps sp := by
  obtain ⟨f, fd, D, F⟩ := c.ex
  exact ⟨f, fd, D, F.mono h⟩
theorem Df.clX {P : Program} {w : World} {K : PySem.W.Frag} {mg : Str → Option Value} {base : Heap} {x : Str} {st : Stmt} {f : Addr} {fd : FuncData} {N ps : List Str} {k : Nat} {sp : Sp} (D : Df K mg x st ps f fd) (S : FnScope N ps (defScope st)) (len : ∀ vs H Q E, sp vs H Q E → vs.length = ps.length)
    (hbody : ∀ (cdv : Value) (A : Around) (outer : List Env) (s : Shared) (H : Hp) (vs : List V) (Q : VK) (E : XK), Room k (A.deeper (envOfC x (defScope st) s.heap.objs.size f cdv)) → sp vs H Q E →
      Takes (cxOf (L2.CX P w) P w K mg base N x (defScope st) f cdv A outer s H E) (fun cls d _ H => E cls d H) →
      ∃ t, PSs (cxOf (L2.CX P w) P w K mg base N x (defScope st) f cdv A outer s H E) (defBody st) t ∧ t { nx := fun _ H' => Q .non H', rt := Q } (start N vs) H) : ClX P w K mg base (k + 1) x st ps sp :=
  ⟨f, fd, D, D.fn.okX S len fun cdv A outer s H vs Q E hr h => hbody cdv A outer s H vs Q E hr h (takes_of rfl rfl rfl rfl)⟩
/-- f(e, ..): what it lets out is what W wants -/
def tClX (sp : Sp) (W : WX) (t : TA) : TE := fun σ H Q => t σ H fun vs H1 => sp vs H1 Q fun cls d H' => W cls d σ H'
def tClXK (sp : Sp) (gV : List V → List V → List V) (W : WX) (tk : TA) : TE := fun σ H Q => tk σ H fun zs H1 => sp (gV [] zs) H1 Q fun cls d H' => W cls d σ H'
section
variable {X : Cx} {j k : Nat} {st : Stmt} {ps : List Str} {sp : Sp} {x : Str} {p pos : Pos} {e : Expr} {es : List Expr} {t : TA} {W : WX}
theorem pe_clX (c : ClX X.prog X.w X.K X.mg X.base k x st ps sp) (tk : Takes X W) (hr : Room j X.A) (hk : k ≤ j) (ha : PA X (e :: es) t) (hg : Gl X x := by rfl) (hdb : (x == ("__debug__" : Str)) = false := by decide)
    (he : starEach (e :: es) X.env = (false, eval e X.env) :: starEach es X.env := by rfl) (hpl : (backTo pos (starEach es X.env)).any (·.1) = false := by rfl) :
    PE X (.Call (.Name x p) (e :: es) [] pos) (tClX sp W t) := by
  obtain ⟨f, fd, D, F⟩ := c.ex
  exact pe_callS (E := WE W) (F.mono hk) hr hg D.at_ D.fn.kp D.bd (passAt tk) ha hdb he hpl
theorem run_fnkS {CX : CXT} {f : Addr} {fd : FuncData} {E : XK} {ks : List Str} {g : List Value → List Value → List Value} {gV : List V → List V → List V} {pins : List (Addr × Obj)} {σ : L2.St} {H : Hp} {s : Shared} {Q : VK} {us ws : List Value} {vs zs : List V} (F : FnOk X.prog X.w X.K X.mg X.base CX k f fd ps sp) (hr : Room k X.A) (hb : KBinds X.K fd ps ks g gV) (hx : PassesAt CX X σ E)
    (I : Inv X pins σ H s) (r : Vals vs us) (rz : Vals zs ws) (h : sp (gV vs zs) H Q E) : wpAny (model X.prog X.w) X.A (call (.ref f) us (ks.zip ws)) (EP X pins σ Q) X.xe s := by
  have r2 := hb.rel r rz
  have hl : (g us ws).length = ps.length := by rw [← r2.length]; exact F.len _ _ _ _ h
  refine wpAny_call (codeAny_mono (F.run X.A X.stack s H ⟨us, ks.zip ws⟩ (g us ws) (gV vs zs) Q E hr I.env0 (hb.to s us ws I.kIn hl) r2 h) fun r s' hq => ?_)
  cases r with
  | error e => exact hx pins H s e s' I hq
  | ok fl =>
    cases fl with
    | ret u => exact I.after hq
    | next => exact False.elim hq
    | brk => exact False.elim hq
    | cont => exact False.elim hq
theorem pe_clXK {ks : List Str} {g : List Value → List Value → List Value} {gV : List V → List V → List V} {kws : List Keyword} {tkw : TA} (c : ClX X.prog X.w X.K X.mg X.base k x st ps sp) (tk : Takes X W) (hr : Room j X.A) (hk : k ≤ j)
    (hb : ∀ f fd, Fun X.K x x st f fd → KBinds X.K fd ps ks g gV) (hkw : PK X kws tkw)
    (hg : Gl X x := by rfl) (hall : (backToKw pos (keywordEach kws X.env)).all (·.1.isSome) = true := by rfl) (hks : (backToKw pos (keywordEach kws X.env)).filterMap (·.1) = ks := by rfl) (hdb : (x == ("__debug__" : Str)) = false := by decide)
    (hpl : ((backTo pos (starEach [] X.env)).any (·.1) || (backToKw pos (keywordEach kws X.env)).any (·.1.isNone)) = false := by rfl) :
    PE X (.Call (.Name x p) [] kws pos) (tClXK sp gV W tkw) := by
  obtain ⟨f, fd, D, F⟩ := c.ex
  refine ⟨fun pins s σ H Q I h => ?_⟩
  refine wpAny_Call_Name_kw (ld_glob I hg D.at_ ?_ hdb)
  refine PySem.W.callWith_KW0 (h₀ := X.base) I.ok.mod.kin D.fn.kp hall ?_ hpl
  refine thn (hkw.run pos pins s σ H _ I h) fun ws s2 ⟨zs, H2, I2, rz, q2⟩ => ⟨I2.kIn, ?_⟩
  rw [hks]
  exact run_fnkS (us := []) (vs := []) (F.mono hk) hr (hb f fd D.fn) (passAt tk σ) I2 .nil rz q2
end
/-- an own class of errors, made with a text and raised -/
structure Err (K : PySem.W.Frag) (mg : Str → Option Value) (x : Str) (C : Addr) : Prop where
  g : mg x = some (.ref C)
  x : PySem.W.excIn K C [.type "ValueError", .type "Exception", .type "BaseException", .type "object"] "ValueError.__new__" = true
  k : PySem.W.keepIn K (.ref C) = true
  b : PySem.W.subIn K (.ref C) (.type "BaseException") = some true
  t : PySem.W.typeIn K (.ref C) = some (.type "type")
theorem ps_raise1 {X : Cx} {W : WX} {C : Addr} {x m : Str} {j : Nat} {p p2 pos pos2 : Pos} (hc : X.calm = true) (tk : Takes X W) (E : Err X.K X.mg x C) (hg : Gl X x := by rfl) (hdb : (x == ("__debug__" : Str)) = false := by decide) :
    PS X (.Raise (some (.Call (.Name x p) [.Constant (.str m) j p2] [] pos)) none pos2) (fun _ σ H => W (.ref C) none σ H) :=
  ps_raise hc tk (pmk_own PySem.F.excBase_ValueError E.x E.g E.k (raises_own E.b E.t) hg hdb)
end Pg
namespace Pg
open PySem PySem.Spec PyProof.Rows L2
/-! ### a def's promises, joined: what is kept, what is let out -/
theorem FnOk.lift {P : Program} {w : World} {K : PySem.W.Frag} {mg : Str → Option Value} {base : Heap} {k : Nat} {f : Addr} {fd : FuncData} {ps : List Str} {sp : Sp} (F : FnOk P w K mg base CX0 k f fd ps sp) : FnOk P w K mg base (L2.CX P w) k f fd ps sp :=
  ⟨F.len, fun A outer s H args us vs Q E hr he hb hv hs => codeAny_mono (F.run A outer s H args us vs Q E hr he hb hv hs) fun r s' h => by
    cases r with
    | error e => exact False.elim h
    | ok fl => cases fl <;> exact h⟩
theorem FnOk.or {P : Program} {w : World} {K : PySem.W.Frag} {mg : Str → Option Value} {base : Heap} {CX : CXT} {k : Nat} {f : Addr} {fd : FuncData} {ps : List Str} {sp sp' : Sp} (F : FnOk P w K mg base CX k f fd ps sp) (G : FnOk P w K mg base CX k f fd ps sp') :
    FnOk P w K mg base CX k f fd ps (fun vs H Q E => sp vs H Q E ∨ sp' vs H Q E) :=
  ⟨fun vs H Q E h => h.elim (F.len vs H Q E) (G.len vs H Q E), fun A outer s H args us vs Q E hr he hb hv hs => hs.elim (F.run A outer s H args us vs Q E hr he hb hv) (G.run A outer s H args us vs Q E hr he hb hv)⟩
theorem Df.uniq {K : PySem.W.Frag} {mg : Str → Option Value} {x : Str} {st : Stmt} {ps : List Str} {f f' : Addr} {fd fd' : FuncData} (D : Df K mg x st ps f fd) (D' : Df K mg x st ps f' fd') : f' = f ∧ fd' = fd := by
  have e := D.at_.symm.trans D'.at_
  cases e
  obtain ⟨oc, od, kV, doc, pm, an, cdv, ct, osl, e1, lk, _⟩ := D.fn.ex
  obtain ⟨oc', od', kV', doc', pm', an', cdv', ct', osl', e1', lk', _⟩ := D'.fn.ex
  refine ⟨rfl, ?_⟩
  have e2 := lk.symm.trans lk'
  injection e2 with e2
  injection e2 with _ _ e3 _
  injection e3 with e3
  exact e3.symm
section
variable {P : Program} {w : World} {K : PySem.W.Frag} {mg : Str → Option Value} {base : Heap} {k : Nat} {x : Str} {st : Stmt} {ps : List Str} {sp sp' : Sp}
/-- a def that lets nothing out, among those that may -/
theorem Cl.lx (c : Cl P w K mg base k x st ps sp) : ClX P w K mg base k x st ps sp := by
  obtain ⟨f, fd, D, F⟩ := c.ex
  exact ⟨f, fd, D, FnOk.lift F⟩
theorem ClX.or (c : ClX P w K mg base k x st ps sp) (c' : ClX P w K mg base k x st ps sp') : ClX P w K mg base k x st ps (fun vs H Q E => sp vs H Q E ∨ sp' vs H Q E) := by
  obtain ⟨f, fd, D, F⟩ := c.ex
  obtain ⟨f', fd', D', F'⟩ := c'.ex
  obtain ⟨rfl, rfl⟩ := D.uniq D'
  exact ⟨_, _, D, FnOk.or F F'⟩
theorem ClX.imp (c : ClX P w K mg base k x st ps sp) (h : ∀ vs H Q E, sp' vs H Q E → sp vs H Q E) : ClX P w K mg base k x st ps sp' := by
  obtain ⟨f, fd, D, F⟩ := c.ex
  exact ⟨f, fd, D, F.imp h⟩
theorem Cl.imp (c : Cl P w K mg base k x st ps sp) (h : ∀ vs H Q E, sp' vs H Q E → sp vs H Q E) : Cl P w K mg base k x st ps sp' := by
  obtain ⟨f, fd, D, F⟩ := c.ex
  exact ⟨f, fd, D, F.imp h⟩
end
/-! ### data, what stands in a list told too -/
/-- no float, no bytes -/
def Sc : V → Prop
  | .flt _ => False
  | .byt _ => False
  | _ => True
theorem eq_sc {v : V} {u u' : Value} (h : Sc v) (r : RelV v u) (r' : RelV v u') (A : Around) (s : Shared) : SeqAt.EqAt A s u u' true := by
  cases v with
  | non => cases r; cases r'; exact SeqAt.EqAt.same _
  | bl b => cases r; cases r'; exact SeqAt.EqAt.same _
  | int i =>
    obtain ⟨t, rfl⟩ := r
    obtain ⟨t', rfl⟩ := r'
    have := (MeetsSeq.EqGives.int i i t t').at A s
    rwa [show (i == i) = true from beq_self_eq_true i] at this
  | str x =>
    obtain ⟨t, rfl⟩ := r
    obtain ⟨t', rfl⟩ := r'
    have := (SeqRoads2.EqGives.str x x t t').at A s
    rwa [show (x.cps.toList == x.cps.toList) = true from beq_self_eq_true _] at this
  | byt b => exact False.elim h
  | flt b => exact False.elim h
  | ref a => cases r; cases r'; exact SeqAt.EqAt.same _
  | ty n => cases r; cases r'; exact SeqAt.EqAt.same _
theorem vals_sc : ∀ {vs : List V} {us us' : List Value}, (∀ v ∈ vs, Sc v) → Vals vs us → Vals vs us' → ∀ (A : Around) (s : Shared) (j : Nat) (h1 : j < us.length) (h2 : j < us'.length), SeqAt.EqAt A s us[j] us'[j] true
  | _, _, _, _, .nil, .nil, _, _, _, h1, _ => absurd h1 (Nat.not_lt_zero _)
  | _, _, _, h, .cons r _, .cons r' _, A, s, 0, _, _ => eq_sc (h _ List.mem_cons_self) r r' A s
  | _, _, _, h, .cons _ r, .cons _ r', A, s, j + 1, h1, h2 => vals_sc (fun v m => h v (List.mem_cons_of_mem _ m)) r r' A s j (Nat.lt_of_succ_lt_succ h1) (Nat.lt_of_succ_lt_succ h2)
/-- xs != ys, both hold the same values -/
def rNeS (K : PySem.W.Frag) : R2 := fun x y H Q => ∃ (a b : Addr) (xs : List V), x = .ref a ∧ y = .ref b ∧ SqL K H a xs ∧ SqL K H b xs ∧ (∀ v ∈ xs, Sc v) ∧ Q (.bl false) H
theorem op_neS {X : Cx} (hu : X.A.units + 64 < cLine) : OpR X (compareOp .NotEq) (rNeS X.K) := by
  intro pins s σ H x y v u Q I rx ry h
  obtain ⟨a, b, xs, rfl, rfl, hH, hB, sc, q⟩ := h
  cases rx
  cases ry
  obtain ⟨its, r, pl, _⟩ := I.list hH
  obtain ⟨its2, r2, pl2, _⟩ := I.list hB
  have e1 := Vals.length r
  have e2 := Vals.length r2
  refine SeqAt.RcNeAt.lists (e := fun _ => true) pl.isList pl2.isList (by simp; omega) (by omega) (fun j h1 h2 => ?_) _ _ _ _ ?_
  · have := vals_sc sc r r2 X.A.in1 s j (by simpa using h1) (by simpa using h2)
    simpa using this
  · refine ⟨.bl _, H, I, rfl, ?_⟩
    rw [show ((List.range its.toArray.size).all fun _ => true) = true from by simp]
    exact q
theorem Rp.sc {K : PySem.W.Frag} {H : Hp} {v : V} {d : Dt} (r : Rp K H v d) : Sc v := by cases r <;> trivial
theorem RpL.sc {K : PySem.W.Frag} {H : Hp} : ∀ {vs : List V} {ds : List Dt}, RpL K H vs ds → ∀ v ∈ vs, Sc v
  | _, _, .nil, _, m => nomatch m
  | _, _, .cons h r, v, m => by
    rcases List.mem_cons.mp m with rfl | m
    · exact h.sc
    · exact RpL.sc r v m
/-- what is to be known of a list, of an object -/
structure Rq (K : PySem.W.Frag) (H : Hp) (v : V) (d : Dt) : Prop where
  rp : Rp K H v d
  ls : d = .lst → ∃ a xs, v = .ref a ∧ H a = some (.lst xs) ∧ ∀ x ∈ xs, Sc x
  ob : d = .obj → ∃ a C, v = .ref a ∧ H a = some (ExO (.ref C) a) ∧ Pv.OkC K C
theorem Rq.of {K : PySem.W.Frag} {H : Hp} {v : V} {d : Dt} (r : Rp K H v d) (h : d ≠ .lst) (g : d ≠ .obj) : Rq K H v d := ⟨r, fun e => absurd e h, fun e => absurd e g⟩
theorem Rq.tup {K : PySem.W.Frag} {H : Hp} {v : V} {ds : List Dt} (r : Rp K H v (.tup ds)) : Rq K H v (.tup ds) := .of r (fun e => nomatch e) (fun e => nomatch e)
theorem Rq.stp {K : PySem.W.Frag} {H H' : Hp} {v : V} {d : Dt} (r : Rq K H v d) (s : Stp [] H H') (l : Lsts H []) : Rq K H' v d :=
  ⟨r.rp.stp s l, fun e => by
    obtain ⟨a, xs, h1, h2, h3⟩ := r.ls e
    exact ⟨a, xs, h1, s.kp _ _ (fun m => nomatch m) h2, h3⟩, fun e => by
    obtain ⟨a, C, h1, h2, h3⟩ := r.ob e
    exact ⟨a, C, h1, s.kp _ _ (fun m => nomatch m) h2, h3⟩⟩
/-- behind draws -/
theorem Rq.draw {K : PySem.W.Frag} {H H' : Hp} {v : V} {d : Dt} {b : Addr} {n m : Nat} (r : Rq K H v d) (s : Stp [b] H H') (B : Bag H b n) (B' : Bag H' b m) : Rq K H' v d :=
  ⟨r.rp.stp s (fun p q => by
      obtain ⟨x, y, z, h, _⟩ := B
      rw [List.mem_singleton.mp q]
      exact ⟨_, h⟩), fun e => by
    obtain ⟨a, xs, h1, h2, h3⟩ := r.ls e
    by_cases ab : a = b
    · subst ab
      obtain ⟨x, y, z, h, _⟩ := B'
      exact ⟨a, _, h1, h, fun v m => by
        simp only [List.mem_cons, List.not_mem_nil, or_false] at m
        rcases m with rfl | rfl | rfl <;> trivial⟩
    · exact ⟨a, xs, h1, s.kp _ _ (fun m => ab (List.mem_singleton.mp m)) h2, h3⟩, fun e => by
    obtain ⟨a, C, h1, h2, h3⟩ := r.ob e
    refine ⟨a, C, h1, s.kp _ _ (fun m => ?_) h2, h3⟩
    obtain ⟨x, y, z, h, _⟩ := B
    rw [List.mem_singleton.mp m, h] at h2
    cases h2⟩
inductive RqL (K : PySem.W.Frag) (H : Hp) : List V → List Dt → Prop
  | nil : RqL K H [] []
  | cons {v : V} {vs : List V} {d : Dt} {ds : List Dt} : Rq K H v d → RqL K H vs ds → RqL K H (v :: vs) (d :: ds)
theorem RqL.rp {K : PySem.W.Frag} {H : Hp} : ∀ {vs : List V} {ds : List Dt}, RqL K H vs ds → RpL K H vs ds
  | _, _, .nil => .nil
  | _, _, .cons h r => .cons h.rp r.rp
theorem RqL.len {K : PySem.W.Frag} {H : Hp} {vs : List V} {ds : List Dt} (r : RqL K H vs ds) : vs.length = ds.length := r.rp.len
theorem RqL.stp {K : PySem.W.Frag} {H H' : Hp} (s : Stp [] H H') (l : Lsts H []) : ∀ {vs : List V} {ds : List Dt}, RqL K H vs ds → RqL K H' vs ds
  | _, _, .nil => .nil
  | _, _, .cons h r => .cons (h.stp s l) (RqL.stp s l r)
theorem RqL.app {K : PySem.W.Frag} {H : Hp} : ∀ {vs ws : List V} {ds es : List Dt}, RqL K H vs ds → RqL K H ws es → RqL K H (vs ++ ws) (ds ++ es)
  | _, _, _, _, .nil, q => q
  | _, _, _, _, .cons h r, q => .cons h (RqL.app r q)
theorem RqL.get {K : PySem.W.Frag} {H : Hp} : ∀ {vs : List V} {ds : List Dt} {i : Nat} {v : V}, RqL K H vs ds → vs[i]? = some v → ∃ d, ds[i]? = some d ∧ Rq K H v d
  | _, _, _, _, .nil, e => by simp at e
  | _, _, 0, _, .cons (d := d) h _, e => by
    simp at e
    subst e
    exact ⟨d, rfl, h⟩
  | _, _, i + 1, v, .cons _ r, e => RqL.get (i := i) (v := v) r (by simpa using e)
theorem RqL.rep {K : PySem.W.Frag} {H : Hp} {v : V} {d : Dt} (r : Rq K H v d) : ∀ n : Nat, RqL K H (List.replicate n v) (List.replicate n d)
  | 0 => .nil
  | n + 1 => .cons r (RqL.rep r n)
def EvQ (K : PySem.W.Frag) (te : TE) (σ : L2.St) (H : Hp) (d : Dt) : Prop := ∀ H1, Stp [] H H1 → ∀ Q : VK, (∀ v H2, Stp [] H1 H2 → Rq K H2 v d → Q v H2) → te σ H1 Q
def EvQA (K : PySem.W.Frag) (ta : TA) (σ : L2.St) (H : Hp) (ds : List Dt) : Prop := ∀ H1, Stp [] H H1 → ∀ Q : List V → Hp → Prop, (∀ vs H2, Stp [] H1 H2 → RqL K H2 vs ds → Q vs H2) → ta σ H1 Q
section
variable {K : PySem.W.Frag} {te : TE} {ta : TA} {σ : L2.St} {H : Hp} {d : Dt} {ds : List Dt}
theorem EvQ.of (h : EvD K te σ H d) (h1 : d ≠ .lst := by intro e; cases e) (h2 : d ≠ .obj := by intro e; cases e) : EvQ K te σ H d := fun H1 s Q k => h H1 s Q fun v H2 s2 r => k v H2 s2 (.of r h1 h2)
theorem EvQ.bl {b : Bool} : EvQ K (tC (.bl b)) σ H (.bl b) := .of EvD.bl
theorem EvQ.int {i : Int} : EvQ K (tC (.int i)) σ H (.int i) := .of EvD.int
theorem EvQ.non : EvQ K (tC .non) σ H .non := .of EvD.non
theorem EvQ.str {s : Str} (h : s.cps.toList.length ≤ 100000 := by decide +kernel) : EvQ K (tC (.str s)) σ H (.str s.cps.toList) := .of (EvD.str h)
theorem EvQ.var {i : Nat} {v : V} (r : Rq K H v d) (e : σ[i]? = some (some v) := by rfl) : EvQ K (tVar i) σ H d := fun H1 s _ k => ⟨v, e, k v H1 (Stp.refl _ _) (r.stp s Lsts.nil)⟩
theorem EvQA.nil : EvQA K tNil σ H [] := fun H1 _ _ k => k [] H1 (Stp.refl _ _) .nil
theorem EvQA.cons (h : EvQ K te σ H d) (g : EvQA K ta σ H ds) : EvQA K (tCons te ta) σ H (d :: ds) := fun H1 s Q k =>
  h H1 s _ fun v H2 s2 r => g H2 (s.trans s2) _ fun vs H3 s3 rs => k (v :: vs) H3 (s2.trans s3) (.cons (r.stp s3 Lsts.nil) rs)
theorem EvQA.rp (h : EvQA K ta σ H ds) : EvDA K ta σ H ds := fun H1 s Q k => h H1 s Q fun vs H2 s2 r => k vs H2 s2 r.rp
theorem EvQ.rp (h : EvQ K te σ H d) : EvD K te σ H d := fun H1 s Q k => h H1 s Q fun vs H2 s2 r => k vs H2 s2 r.rp
theorem EvQ.tup (h : EvQA K ta σ H ds) (hl : ds.length ≤ 1000) : EvQ K (tTup ta) σ H (.tup ds) := .of (EvD.tup h.rp hl)
theorem EvQ.lst (h : EvQA K ta σ H ds) (hl : ds.length ≤ 1000) : EvQ K (tLst ta) σ H .lst := fun H1 s Q k =>
  h H1 s _ fun vs H2 s2 rs => ⟨sz (by rw [rs.len]; omega), fun p np => k _ _ (s2.new' np) ⟨.lst upd_same, fun _ => ⟨p, vs, rfl, upd_same, rs.rp.sc⟩, (fun e => nomatch e)⟩⟩
theorem EvQ.exc {C : Addr} (ok : Pv.OkC K C) (h : EvQ K te σ H d) : EvQ K (fun σ H Q => te σ H fun _ H1 => ∀ a, H1 a = none → Q (.ref a) (upd H1 a (ExO (.ref C) a))) σ H .obj := fun H1 s Q k =>
  h H1 s _ fun v H2 s2 _ => fun a na => k _ _ (s2.new' na) ⟨.obj upd_same, (fun e => nomatch e), fun _ => ⟨a, C, rfl, upd_same, ok⟩⟩
theorem EvQ.cat {tb : TE} {a b : List Nat} (h : EvQ K te σ H (.str a)) (g : EvQ K tb σ H (.str b)) (hl : a.length + b.length ≤ 100000) : EvQ K (tOp (fun x y H Q => ∃ i j, x = .str i ∧ y = .str j ∧ i.length + j.length ≤ sizeLine ∧ Q (.str (i ++ j)) H) te tb) σ H (.str (a ++ b)) := .of (EvD.cat h.rp g.rp hl)
theorem EvQ.pow {i j : Int} (h : CPow i j) : EvQ K (tOp (rI CPow fun i j => .int (i ^ j.toNat)) (tC (.int i)) (tC (.int j))) σ H (.int (i ^ j.toNat)) := .of (EvD.pow h)
theorem EvQ.neg {i : Int} : EvQ K (tUn (rU fun i => .int (-i)) (tC (.int i))) σ H (.int (-i)) := .of EvD.neg
theorem EvQ.list (h : EvQ K te σ H (.tup ds)) : EvQ K (tCB (fun xs H Q => ∃ p ys, xs = [.ref p] ∧ (SqL K H p ys ∨ SqT K H p ys) ∧ ∀ l, H l = none → Q (.ref l) (upd H l (.lst ys))) (tCons te tNil)) σ H .lst := fun H1 s Q k =>
  h H1 s _ fun v H2 s2 r => by
    cases r.rp with
    | tup hs hn rl => exact ⟨_, _, rfl, .inr hs, fun l nl => k _ _ (s2.new' nl) ⟨.lst upd_same, fun _ => ⟨l, _, rfl, upd_same, rl.sc⟩, (fun e => nomatch e)⟩⟩
theorem EvQA.use (h : EvQA K ta σ H ds) {Q : List V → Hp → Prop} (k : ∀ vs H2, Stp [] H H2 → RqL K H2 vs ds → Q vs H2) : ta σ H Q := h H (Stp.refl _ _) Q k
theorem EvQ.use (h : EvQ K te σ H d) {Q : VK} (k : ∀ v H2, Stp [] H H2 → Rq K H2 v d → Q v H2) : te σ H Q := h H (Stp.refl _ _) Q k
theorem EvQA.newl (h : EvQA K ta σ H ds) (hl : ds.length ≤ 1000) {Q : VK} (k : ∀ p vs H2, Stp [] H H2 → H p = none → H2 p = some (.lst vs) → RqL K H2 vs ds → Q (.ref p) H2) : tLst ta σ H Q :=
  h.use fun vs H2 s rs => ⟨sz (by rw [rs.len]; omega), fun p np => k p vs _ (s.new' np) (s.fresh (fun m => nomatch m) np) upd_same (rs.stp (Stp.new np []) Lsts.nil)⟩
end
/-- a value with its contents -/
theorem Rq.ofRv {K : PySem.W.Frag} {S : List Addr} {H : Hp} {v : V} {d : Pv.D} (r : Pv.Rv K S H v d) : Rq K H v d.old := by
  cases r with
  | non => exact .of .non (fun e => nomatch e) (fun e => nomatch e)
  | bl b => exact .of (.bl b) (fun e => nomatch e) (fun e => nomatch e)
  | int i => exact .of (.int i) (fun e => nomatch e) (fun e => nomatch e)
  | str l h => exact .of (.str l h) (fun e => nomatch e) (fun e => nomatch e)
  | tup h n r => exact ⟨(Pv.Rv.tup h n r).old, (fun e => nomatch e), (fun e => nomatch e)⟩
  | lst h o n r => exact ⟨.lst h, fun _ => ⟨_, _, rfl, h, r.old.sc⟩, (fun e => nomatch e)⟩
  | obj h k => exact ⟨.obj h, (fun e => nomatch e), fun _ => ⟨_, _, rfl, h, k⟩⟩
/-! ### isinstance(x, list) -/
def isL : Dt → Bool
  | .lst => true
  | _ => false
def rIsQ (K : PySem.W.Frag) : List V → Hp → VK → Prop := fun xs H Q => ∃ (x : V) (d : Dt), xs = [x, .ty "list"] ∧ Rq K H x d ∧ Q (.bl (isL d)) H
theorem call_isiQ {X : Cx} : CallR X (.builtin "isinstance") (rIsQ X.K) := by
  intro pins s σ H xs us Q I r h
  obtain ⟨x, d, rfl, rq, q⟩ := h
  have go : ∀ (t : String), TyX X.K H x (.type t) → t ∈ ["NoneType", "bool", "int", "str", "tuple", "list"] → isL d = (t == "list") → wpAny (model X.prog X.w) X.A (call (.builtin "isinstance") us) (EP X pins σ Q) X.xe s := fun t ty m e =>
    call_isi pins s σ H _ us Q I r ⟨x, .ty "list", _, _, isL d, rfl, .ty "list", ty, kit_ty (by rw [e]; exact Pv.kit_list t m), q⟩
  cases rq.rp with
  | non => exact go "NoneType" (.base .non) (by decide) rfl
  | bl b => exact go "bool" (.base (.bl b)) (by decide) rfl
  | int i => exact go "int" (.base (.int i)) (by decide) rfl
  | str l hl => exact go "str" (.base (.str _)) (by decide) rfl
  | lst hs => exact go "list" (.base (.lst hs)) (by decide) rfl
  | tup hs _ _ =>
    refine go "tuple" ?_ (by decide) rfl
    rcases hs with (hs | ⟨o, hs⟩) | ⟨o, its, n, e, c, _⟩
    · exact .base (.tup hs)
    · exact .fTuple hs
    · exact .kTuple e c
  | obj hs =>
    obtain ⟨a, C, e, ho, ok⟩ := rq.ob rfl
    rw [e] at r
    exact Pv.call_isiD (T := "list") (by decide) pins s σ H _ us Q I r ⟨[], .ref a, .obj C, rfl, .obj ho ok, q⟩
theorem call_isiQK {X : Cx} {K : PySem.W.Frag} (hK : X.K = K) : CallR X (.builtin "isinstance") (rIsQ K) := by
  subst hK
  exact call_isiQ
end Pg
namespace Pg
open PySem PySem.Spec PyProof.Rows L2
/-! ### own errors with an __init__ of their own, made as values -/
section
variable {X : Cx} {e : Expr} {es : List Expr} {ta : TA} {te : TE} {x n : Str} {C : Addr} {p p1 p2 pos : Pos}
/-- C.__init__(self, ..), C an own class over ValueError without an __init__ of its own -/
theorem pe_skinit {pl : Sem Bool} (hg : Gl X x) (hm : X.mg x = some (.ref C)) (sg : PySem.W.specialIn X.K (.ref C) "__getattribute__" = some (some (.builtin "type.__getattribute__"))) (rd : PySem.W.readsIn (mc := .type "type") X.K C = true)
    (fc : PySem.W.findCls X.K (.ref C) (.type "type") "__init__" = some (.val (.builtin "ValueError.__init__"))) (ha : PA X (e :: es) ta) (hdb : (x == ("__debug__" : Str)) = false := by decide)
    (hc : eval (.Call (.Attribute (.Name x p1) "__init__" p2) (e :: es) [] pos) X.env = (do
      let ov ← eval (.Name x p1) X.env
      standAt p2.atName
      let (f, first) ← holding [ov] (getMethod ov "__init__" pl)
      callWith pos f first (backTo pos (starEach (e :: es) X.env)) (backToKw pos (keywordEach [] X.env))) := by rfl)
    (he : starEach (e :: es) X.env = (false, eval e X.env) :: starEach es X.env := by rfl) (hpl : (backTo pos (starEach es X.env)).any (·.1) = false := by rfl) :
    PE X (.Call (.Attribute (.Name x p1) "__init__" p2) (e :: es) [] pos) (tVeI X.K ta) := by
  refine ⟨fun pins s σ H Q I h => ?_⟩
  refine PySem.W.methodCall_KW (ld_glob I hg hm ?_ hdb) hc
  refine PySem.W.method_cls I.kIn sg (PySem.W.cls_value I.kIn rd fc (by decide +kernel) ?_)
  show wpAny _ _ (callWith pos (Value.builtin "ValueError.__init__") [] (backTo pos (starEach (e :: es) X.env)) []) _ _ _
  refine PyProof.Rows.callWith_method1 (thn (ha.run pos pins _ σ H _ (I.tok _) h) fun us s1 ⟨vs, H1, I1, r1, a, C, ws, ev, hl, T, ea, q⟩ => ?_) he hpl
  subst ev
  cases r1 with
  | @cons _ u0 _ ur ra rw' =>
    obtain rfl : u0 = Value.ref a := ra
    have hlen : ur.length ≤ sizeLine := by
      rw [← Paired.length rw', sizeLine_eq]
      omega
    exact oinit_ok T I1 ea hlen fun s' J => ⟨.non, H1, J, rfl, q⟩
/-- C(e, ..) as a value: C's own __init__ keeps sp -/
def tMkE (C : Addr) (sp : Sp) (ta : TA) : TE := fun σ H Q => ta σ H fun vs H1 => vs.length ≤ 1000 ∧ ∀ a, H1 a = none → sp (.ref a :: vs) (upd H1 a (exo a C none)) (fun v H2 => v = .non ∧ Q (.ref a) H2) E0
/-- what is known of a class whose __init__ is a def -/
structure OexI (K : PySem.W.Frag) (C fI : Addr) : Prop where
  t : OexC K C
  i : PySem.W.findIn K (.ref C) "__init__" = some (some (.ref fI))
  f : PySem.W.typeIn K (.ref fI) = some (.type "function")
theorem pe_oexE {fI : Addr} {k : Nat} {fd : FuncData} {ps : List Str} {sp : Sp} (T : OexI X.K C fI)
    (F1 : FnOk X.prog X.w X.K X.mg X.base CX0 k fI fd ps sp) (hr : Room (k + 1) X.A) (hb : Binds X.K fd ps []) (hg : Gl X x) (hm : X.mg x = some (.ref C)) (ha : PA X (e :: es) ta)
    (hdb : (x == ("__debug__" : Str)) = false := by decide) (he : starEach (e :: es) X.env = (false, eval e X.env) :: starEach es X.env := by rfl) (hpl : (backTo pos (starEach es X.env)).any (·.1) = false := by rfl) :
    PE X (.Call (.Name x p) (e :: es) [] pos) (tMkE C sp ta) := by
  refine ⟨fun pins s σ H Q I h => ?_⟩
  obtain ⟨nm, q, N, bs, bm, sn, sub, ab, col, dd, k0, k1, k2, k3, k5, hC, hbm⟩ := T.t.cls
  refine wpAny_Call_Name_kw (ld_glob I hg hm ?_ hdb)
  refine PySem.W.callWith_K (h₀ := X.base) I.ok.mod.kin T.t.kC (thn (ha.run pos pins s σ H _ I h) fun us s1 ⟨vs, H1, I1, r1, hz, q1⟩ => ⟨I1.kIn, ?_⟩) he hpl
  show wpAny _ _ (call (.ref C) us) _ _ _
  obtain ⟨hp, g, dr, tk, os⟩ := s1
  have hsz : hp.objs.size ≤ hp.objs.size + 1 := Nat.le_succ _
  have hn : H1 (hp.objs.size + 1) = none := I1.hok.fresh hsz
  have hq := q1 (hp.objs.size + 1) hn
  have kk : ∀ b o, hp.get? b = some o → ((hp.push (PySem.W.kdv_tup us)).push (PySem.HandSPX.excO C hp.objs.size)).get? b = some o := fun b o e => Heap.get?_push_of_some _ (Heap.get?_push_of_some _ e)
  have hget : ((hp.push (PySem.W.kdv_tup us)).push (PySem.HandSPX.excO C hp.objs.size)).get? (hp.objs.size + 1) = some (PySem.HandSPX.excO C hp.objs.size) := by heap_get
  have I2 : Inv X pins σ (upd H1 (hp.objs.size + 1) (exo (hp.objs.size + 1) C none)) ⟨(hp.push (PySem.W.kdv_tup us)).push (PySem.HandSPX.excO C hp.objs.size), g, dr, tk, os⟩ :=
    I1.laid (t' := tk) (a := hp.objs.size + 1) (o := exo (hp.objs.size + 1) C none) (h' := (hp.push (PySem.W.kdv_tup us)).push (PySem.HandSPX.excO C hp.objs.size)) kk hsz (exo_ok hget)
  have r2 : Vals (V.ref (hp.objs.size + 1) :: vs) (Value.ref (hp.objs.size + 1) :: us) := .cons rfl r1
  have hl : (Value.ref (hp.objs.size + 1) :: us ++ []).length = ps.length := by
    have e := r2.length
    rw [F1.len _ _ _ _ hq] at e
    rw [List.append_nil]
    exact e.symm
  have hus : us.length ≤ sizeLine := by
    rw [← Paired.length r1, sizeLine_eq]
    omega
  have bt := hb ⟨(hp.push (PySem.W.kdv_tup us)).push (PySem.HandSPX.excO C hp.objs.size), g, dr, tk, os⟩ (Value.ref (hp.objs.size + 1) :: us) I2.kIn hl
  rw [List.append_nil] at bt
  refine wpAny_call (PySem.HandSPX.call_own F.excBase_ValueError (fun Y => PySem.HandSPX.refsVE_contains Y bm hbm) (I1.kIn _ _ hC) (PySem.W.looks_findIn I1.kIn T.i) (fun self => PySem.W.bind_fn I1.kIn self T.f) hus
    (codeAny_mono (F1.run _ X.stack _ _ ⟨Value.ref (hp.objs.size + 1) :: us, []⟩ (Value.ref (hp.objs.size + 1) :: us) _ _ E0 (hr.make C us []) (I2.env0.make C us []) bt r2 hq) fun r s' hq' => ?_))
  cases r with
  | error er => exact False.elim hq'
  | ok fl =>
    cases fl with
    | ret u =>
      obtain ⟨v, H2, J, rv, ev, q2⟩ := I2.after hq'
      subst ev
      have J0 : Inv X pins σ H2 s' := J
      exact ⟨rv, .ref _, H2, J0, rfl, q2⟩
    | next => exact False.elim hq'
    | brk => exact False.elim hq'
    | cont => exact False.elim hq'
/-- the reading of x.n, x an error with a dict -/
def tOat (K : PySem.W.Frag) (n : Str) (te : TE) : TE := fun σ H Q => te σ H fun x H1 => ∃ (a C d : Addr) (fs : List (Str × V)) (v : V), x = .ref a ∧ XfC K C ∧ PySem.W.findIn K (.ref C) n = some none ∧ H1 a = some (exo a C (some d)) ∧ H1 d = some (exd d fs) ∧ fs.lookup n = some v ∧ Q v H1
theorem pe_oat (he : PE X e te) (hb : attributeBase e n X.env (eval e X.env) = eval e X.env := by rfl) : PE X (.Attribute e n pos) (tOat X.K n te) := by
  refine ⟨fun pins s σ H Q I h => ?_⟩
  refine attr_of hb (thn (he.run pins s σ H _ I h) fun u s1 hh => ?_)
  obtain ⟨x, H1, I1, rx, a, C, d, fs, v, ex, T, hno, ha, hd, l, q⟩ := hh
  subst ex
  obtain rfl : u = Value.ref a := rx
  obtain ⟨t1, ho⟩ := exo_at I1.hok ha
  obtain ⟨mA, hns, hr⟩ := exd_at I1.hok hd
  obtain ⟨od, hod, hl⟩ := lookIn_ns hns
  obtain ⟨u, hu, ru⟩ := RelO.some_of (v := v) (o := mA n) (by rw [← l]; exact hr n)
  have J : PySem.W.InstAt s1.heap a _ C (some od) := ⟨ho, rfl, rfl, hod⟩
  exact HandSPX.exc_get I1.kIn J T.ga T.gg T.exC (PySem.W.findObj_own T.hdC hno rfl (by rw [hl, hu])) (handed_of ru) ⟨v, H1, I1.tok _, ru, q⟩
/-- C(k = v, ..) as a value -/
def tMkEK (C : Addr) (sp : Sp) (gV : List V → List V → List V) (tk : TA) : TE := fun σ H Q => tk σ H fun zs H1 => zs.length ≤ 1000 ∧ ∀ a, H1 a = none → sp (.ref a :: gV [] zs) (upd H1 a (exo a C none)) (fun v H2 => v = .non ∧ Q (.ref a) H2) E0
end
/-! ### isinstance(e, C), e an error that was made -/
/-- an error: without a dict, or with one -/
def ErrAt (H : Hp) (a C : Addr) : Prop := H a = some (ExO (.ref C) a) ∨ ∃ d fs, H a = some (exo a C (some d)) ∧ H d = some (exd d fs)
theorem ErrAt.up {H H' : Hp} {a C : Addr} (h : ErrAt H a C) (s : Stp [] H H') : ErrAt H' a C := h.imp (s.kp _ _ fun m => nomatch m) fun ⟨d, fs, h1, h2⟩ => ⟨d, fs, s.kp _ _ (fun m => nomatch m) h1, s.kp _ _ (fun m => nomatch m) h2⟩
def rIsE (K : PySem.W.Frag) : List V → Hp → VK → Prop := fun xs H Q => ∃ (a D : Addr) (c : V) (cv : Value) (b : Bool), xs = [.ref a, c] ∧ ExcC K D ∧ ErrAt H a D ∧ (∀ u, RelV c u → u = cv) ∧ PySem.W.kitOne K (.ref D) cv = some b ∧ Q (.bl b) H
theorem call_isE {X : Cx} : CallR X (.builtin "isinstance") (rIsE X.K) := by
  intro pins s σ H xs us Q I r h
  obtain ⟨a, D, c, cv, b, rfl, C, ha, hcv, e, q⟩ := h
  obtain ⟨u1, u2, rfl, r1, r2⟩ := vals2 r
  cases r1
  have ec := hcv _ r2
  subst ec
  have hcl : (PySem.W.clsIn X.K D).isSome = true := by
    have := C.hd
    unfold PySem.W.hasDictIn at this
    cases z : PySem.W.clsIn X.K D with
    | none => rw [z] at this; cases this
    | some _ => rfl
  rcases ha with ha | ⟨d, fs, ha, hd⟩
  · obtain ⟨⟨oe, vs, e1, ⟨e2, e3⟩, e4, _⟩, _⟩ := I.hok _ _ ha
    have J : PySem.W.InstAt s.heap a oe D none := by
      obtain ⟨oc, od, oda, osl⟩ := oe
      dsimp only at e2 e3 e4
      subst e2 e3 e4
      exact ⟨e1, rfl, rfl, trivial⟩
    exact PySem.W.kia_one (PySem.W.kitx_exc hcl C.hg C.hk C.hs C.ha C.hn C.ht C.hm) I.kIn J e (fun z => nomatch z) fun tk => ⟨.bl b, H, I.kept (t' := tk) fun _ _ z => z, rfl, q⟩
  · obtain ⟨t1, ho⟩ := exo_at I.hok ha
    obtain ⟨mA, hns, hr⟩ := exd_at I.hok hd
    obtain ⟨od, hod, hl⟩ := lookIn_ns hns
    have J : PySem.W.InstAt s.heap a _ D (some od) := ⟨ho, rfl, rfl, hod⟩
    exact PySem.W.kia_one (PySem.W.kitx_exc hcl C.hg C.hk C.hs C.ha C.hn C.ht C.hm) I.kIn J e (fun z => nomatch z) fun tk => ⟨.bl b, H, I.kept (t' := tk) fun _ _ z => z, rfl, q⟩
end Pg
namespace PySem.OEXK
open PySem.W PySem.Calls PyProof.Rows PySem.HandSPX
section
variable {M : Model} {A : Around} {E : Value → Shared → Prop} {h : Heap} {g : Array GenState} {d : Drawn} {t : Nat} {os : OsState}
variable {nm q : Str} {C N : Addr} {bs bm bmB : List Value} {hdct : Bool} {sn : List Str} {sub : List Value} {ab : Bool} {col : Option Bool} {dd : Option Addr} {k0 k1 k2 k3 k5 : Option Value} {B newId initId : String}
theorem check_new_ownK (F : ExcBaseFacts B newId initId bmB) (hT : ∀ X : String, bm.contains (.type X) = bmB.contains (.type X)) {kw : List (Str × Value)} {Q : Unit → Shared → Prop}
    (hC : h.get? C = some (excClassObj nm q C N bs bm hdct sn sub ab col dd k0 k1 k2 k3 k5 newId)) (hq : Q () ⟨h, g, d, t, os⟩) : wpAny M A (checkBuiltinCall newId ⟨[.ref C], kw⟩) Q E ⟨h, g, d, t, os⟩ := by
  have hcont : (Value.ref C :: bm).contains (.type B) = true := by rw [List.contains_cons, hT, F.hasB, Bool.or_true]
  have hstar := F.noStar
  simp only [checkBuiltinCall, F.newKind, F.newSplit, F.newRow]
  repeat (first | refine wpAny_loadPart_at hC ?_ | (refine wpAny_isSubtype_exc hC ?_; rw [hcont]) | refine wpAny_staticBase_exc hC ?_ | refine wpAny_madeBy_exc hC ?_ | simp only [bne_self_eq_false, Bool.false_eq_true, if_false] | wp_step)
  exact hq
end
section
variable {prog : Program} {w : World} {A : Around} {E : Value → Shared → Prop} {R : Result → Shared → Prop} {h : Heap} {g : Array GenState} {d : Drawn} {t : Nat} {os : OsState}
variable {nm q : Str} {C N : Addr} {bs bm bmB : List Value} {hdct : Bool} {sn : List Str} {sub : List Value} {ab : Bool} {col : Option Bool} {dd : Option Addr} {k0 k1 k2 k3 k5 : Option Value} {B newId initId : String}
theorem new_ownK (F : ExcBaseFacts B newId initId bmB) (hT : ∀ X : String, bm.contains (.type X) = bmB.contains (.type X)) {kw : List (Str × Value)}
    (hC : h.get? C = some (excClassObj nm q C N bs bm hdct sn sub ab col dd k0 k1 k2 k3 k5 newId))
    (hq : R (.ok (.ret (.ref (h.objs.size + 1)))) ⟨(h.push { cls := .type "tuple", data := .seq #[] }).push
      { cls := .ref C, data := .fields #[.ref h.objs.size, .none, .none, .none, .bool false, .none] }, g, d, t, os⟩) :
    codeAny (model prog w) A (.builtin newId ⟨[.ref C], kw⟩) R ⟨h, g, d, t, os⟩ := by
  have hends := F.ends
  have hcB : (Value.ref C :: bm).contains (.type B) = true := by rw [List.contains_cons, hT, F.hasB, Bool.or_true]
  have hcA : (Value.ref C :: bm).contains (.type "AttributeError") = false := by rw [List.contains_cons, hT, F.noAttr]; rfl
  have hcN : (Value.ref C :: bm).contains (.type "NameError") = false := by rw [List.contains_cons, hT, F.noName]; rfl
  refine codeAny_builtinAt F.entry ?_
  unfold Builtin.«BaseException.__new__»
  refine wpAt_bind ?_
  show wpAt _ _ _ (stack >>= _) _ _ _
  refine wpAt_bind (wpAt_stack fun p below => wpAt_of_wpAny ?_)
  wp_walk
  refine wpAt_of_wpAny ?_
  rw [F.owner]
  repeat (first | with_reducible refine wpAny_madeHere_exc F.canon hC ?_ | with_reducible refine wpAny_loadPart_at hC ?_ | (with_reducible refine wpAny_isSubtype_exc hC ?_; first | rw [hcB] | rw [hcA] | rw [hcN]) | wp_step)
  show R _ _
  rw [Heap.size_push]
  exact hq
theorem type_call_ownK (F : ExcBaseFacts B newId initId bmB) (hT : ∀ X : String, bm.contains (.type X) = bmB.contains (.type X)) {kw : List (Str × Value)} {fI : Addr} {Q : Fin → Shared → Prop}
    (hC : h.get? C = some (excClassObj nm q C N bs bm hdct sn sub ab col dd k0 k1 k2 k3 k5 newId))
    (hi : W.Looks (model prog w) h (typeLookup (.ref C) "__init__") (some (.ref fI))) (hb : ∀ self, W.Looks (model prog w) h (bindSpecial (.ref fI) self) (.ref fI, [self]))
    (hq : codeAny (model prog w) A (.call (.ref fI) ⟨[.ref (h.objs.size + 1)], kw⟩)
      (fun r s' => match r with | .ok (.ret v) => v = .none ∧ Q (.done (.ret (.ref (h.objs.size + 1)))) s' | .ok _ => False | .error e => E e s')
      ⟨(h.push (W.kdv_tup [])).push (excO C h.objs.size), g, d, t, os⟩) :
    wpAny (model prog w) A (Builtin.«type.__call__» ⟨[.ref C], kw⟩) Q E ⟨h, g, d, t, os⟩ := by
  repeat (first | with_reducible refine wpAny_loadPart_at hC ?_ | with_reducible refine wpAny_madeBy_exc hC ?_ | wp_step)
  refine codeAny_call_builtin_code (Code.quiet_builtin _ F.quiet) (check_new_ownK F hT hC ?_)
  refine new_ownK F hT hC ?_
  show wpAny _ _ _ _ _ _
  have k : ∀ b o, h.get? b = some o → ((h.push (W.kdv_tup [])).push (excO C h.objs.size)).get? b = some o := fun b o e => Heap.get?_push_of_some _ (Heap.get?_push_of_some _ e)
  have hC₁ := k _ _ hC
  have hget : ((h.push (W.kdv_tup [])).push (excO C h.objs.size)).get? (h.objs.size + 1) = some (excO C h.objs.size) := by heap_get
  have hcC : (Value.ref C :: bm).contains (.ref C) = true := by simp
  have i1 := hi.keeps k
  have b1 := (hb (.ref (h.objs.size + 1))).keeps k
  unfold isInstance
  repeat (first | with_reducible refine wpAny_loadPart_at hget ?_ | (with_reducible refine wpAny_isSubtype_exc hC₁ ?_; rw [hcC]) | wp_step)
  show wpAny _ _ (typeLookup (.ref C) _) _ _ _
  refine i1.at ?_
  refine wpAny_holding (wpAny_bind (b1.at ?_))
  refine wpAny_bind (wpAny_call (codeAny_mono hq fun r s' z => ?_))
  rcases r with e | (v | _ | _ | _) <;> first | exact z | exact z.elim | skip
  obtain ⟨rfl, z⟩ := z
  first
    | exact wpAny_pure (wpAny_pure z)
    | (wp_walk; exact z)
theorem call_ownK (F : ExcBaseFacts B newId initId bmB) (hT : ∀ X : String, bm.contains (.type X) = bmB.contains (.type X)) {kw : List (Str × Value)} {fI : Addr}
    (hC : h.get? C = some (excClassObj nm q C N bs bm hdct sn sub ab col dd k0 k1 k2 k3 k5 newId))
    (hi : W.Looks (model prog w) h (typeLookup (.ref C) "__init__") (some (.ref fI))) (hb : ∀ self, W.Looks (model prog w) h (bindSpecial (.ref fI) self) (.ref fI, [self]))
    (hq : codeAny (model prog w) (A.under (.builtin "type.__call__" ⟨[.ref C], kw⟩)) (.call (.ref fI) ⟨[.ref (h.objs.size + 1)], kw⟩) (W.InitBack (h.objs.size + 1) R)
      ⟨(h.push (W.kdv_tup [])).push (excO C h.objs.size), g, d, t, os⟩) :
    codeAny (model prog w) A (.call (.ref C) ⟨[], kw⟩) R ⟨h, g, d, t, os⟩ := by
  have f1 := tc_lookup
  have f2 := tc_bind (.ref C)
  have hTy : (⟨h, g, d, t, os⟩ : Shared).TypeIs (.ref C) "type" := ⟨_, hC, rfl⟩
  refine codeAny_of_tree ?_
  show wpAny _ _ (callAny (.ref C) _) _ _ _
  repeat (any_goals (first | assumption | with_reducible refine wpAny_loadPart_at hC ?_ | wp_step))
  refine ⟨rfl, ?_⟩
  refine codeAny_call_builtin_at (Code.quiet_builtin _ (by decide +kernel)) entry_typeCall (wpAny_check_type_call_sub hC (type_call_ownK F hT hC hi hb ?_))
  refine codeAny_mono hq fun r s' z => ?_
  rcases r with e | (v | _ | _ | _) <;> exact z
end
end PySem.OEXK
namespace Pg
open PySem PySem.Spec PyProof.Rows L2
section
variable {X : Cx} {x n : Str} {C : Addr} {p p1 p2 pos : Pos}
/-- C(k = v, ..) as a value -/
theorem pe_oexEK {fI : Addr} {k : Nat} {fd : FuncData} {ps ks : List Str} {sp : Sp} {kws : List Keyword} {tk : TA} (T : OexI X.K C fI)
    (F1 : FnOk X.prog X.w X.K X.mg X.base CX0 k fI fd ps sp) (hr : Room (k + 1) X.A) (hb : ∀ (s : Shared) (self : Value) (us : List Value), (self :: us).length = ps.length → BindsTo s fd ⟨[self], ks.zip us⟩ (ps.zip (self :: us)))
    (hg : Gl X x) (hm : X.mg x = some (.ref C)) (hkw : PK X kws tk) (hall : (backToKw pos (keywordEach kws X.env)).all (·.1.isSome) = true := by rfl) (hks : (backToKw pos (keywordEach kws X.env)).filterMap (·.1) = ks := by rfl)
    (hdb : (x == ("__debug__" : Str)) = false := by decide) (hpl : ((backTo pos (starEach [] X.env)).any (·.1) || (backToKw pos (keywordEach kws X.env)).any (·.1.isNone)) = false := by rfl) :
    PE X (.Call (.Name x p) [] kws pos) (tMkE C sp tk) := by
  refine ⟨fun pins s σ H Q I h => ?_⟩
  obtain ⟨nm, q, N, bs, bm, sn, sub, ab, col, dd, k0, k1, k2, k3, k5, hC, hbm⟩ := T.t.cls
  refine wpAny_Call_Name_kw (ld_glob I hg hm ?_ hdb)
  refine PySem.W.callWith_KW0 (h₀ := X.base) I.ok.mod.kin T.t.kC hall ?_ hpl
  refine thn (hkw.run pos pins s σ H _ I h) fun us s1 ⟨vs, H1, I1, r1, hz, q1⟩ => ⟨I1.kIn, ?_⟩
  rw [hks]
  show wpAny _ _ (call (.ref C) [] (ks.zip us)) _ _ _
  obtain ⟨hp, g, dr, tk, os⟩ := s1
  have hsz : hp.objs.size ≤ hp.objs.size + 1 := Nat.le_succ _
  have hn : H1 (hp.objs.size + 1) = none := I1.hok.fresh hsz
  have hq := q1 (hp.objs.size + 1) hn
  have kk : ∀ b o, hp.get? b = some o → ((hp.push (PySem.W.kdv_tup [])).push (PySem.HandSPX.excO C hp.objs.size)).get? b = some o := fun b o e => Heap.get?_push_of_some _ (Heap.get?_push_of_some _ e)
  have hget : ((hp.push (PySem.W.kdv_tup [])).push (PySem.HandSPX.excO C hp.objs.size)).get? (hp.objs.size + 1) = some (PySem.HandSPX.excO C hp.objs.size) := by heap_get
  have I2 : Inv X pins σ (upd H1 (hp.objs.size + 1) (exo (hp.objs.size + 1) C none)) ⟨(hp.push (PySem.W.kdv_tup [])).push (PySem.HandSPX.excO C hp.objs.size), g, dr, tk, os⟩ :=
    I1.laid (t' := tk) (a := hp.objs.size + 1) (o := exo (hp.objs.size + 1) C none) (h' := (hp.push (PySem.W.kdv_tup [])).push (PySem.HandSPX.excO C hp.objs.size)) kk hsz (exo_ok hget)
  have r2 : Vals (V.ref (hp.objs.size + 1) :: vs) (Value.ref (hp.objs.size + 1) :: us) := .cons rfl r1
  have hl : (Value.ref (hp.objs.size + 1) :: us).length = ps.length := by
    have e := r2.length
    rw [F1.len _ _ _ _ hq] at e
    exact e.symm
  have bt := hb ⟨(hp.push (PySem.W.kdv_tup [])).push (PySem.HandSPX.excO C hp.objs.size), g, dr, tk, os⟩ (Value.ref (hp.objs.size + 1)) us hl
  refine wpAny_call (PySem.OEXK.call_ownK F.excBase_ValueError (fun Y => PySem.HandSPX.refsVE_contains Y bm hbm) (I1.kIn _ _ hC) (PySem.W.looks_findIn I1.kIn T.i) (fun self => PySem.W.bind_fn I1.kIn self T.f)
    (codeAny_mono (F1.run _ X.stack _ _ ⟨[Value.ref (hp.objs.size + 1)], ks.zip us⟩ (Value.ref (hp.objs.size + 1) :: us) _ _ E0 (hr.make C [] (ks.zip us)) (I2.env0.make C [] (ks.zip us)) bt r2 hq) fun r s' hq' => ?_))
  cases r with
  | error er => exact False.elim hq'
  | ok fl =>
    cases fl with
    | ret u =>
      obtain ⟨v, H2, J, rv, ev, q2⟩ := I2.after hq'
      subst ev
      have J0 : Inv X pins σ H2 s' := J
      exact ⟨rv, .ref _, H2, J0, rfl, q2⟩
    | next => exact False.elim hq'
    | brk => exact False.elim hq'
    | cont => exact False.elim hq'
end
end Pg
namespace Pg
open PySem PySem.Spec PyProof.Rows L2
/-- len(set(xs)), xs texts -/
def tLenST (K : PySem.W.Frag) (te : TE) : TE := fun σ H Q => te σ H fun v H1 => ∃ (a : Addr) (ls : List Str), v = .ref a ∧ SqL K H1 a (ls.map V.str) ∧ ls.length < 4000 ∧ Q (.int ((onceL [] ls).length : Int)) H1
theorem pe_lenSetT {X : Cx} {e : Expr} {te : TE} {p p2 pos pos2 : Pos} (hh : X.A.handled = none) (g1 : Gl X "len") (m1 : X.mg "len" = none) (g2 : Gl X "set") (m2 : X.mg "set" = none) (he : PE X e te)
    (hs : starEach [e] X.env = (false, eval e X.env) :: starEach [] X.env := by rfl)
    (hs2 : starEach [Expr.Call (.Name "set" p2) [e] [] pos2] X.env = (false, eval (Expr.Call (.Name "set" p2) [e] [] pos2) X.env) :: starEach [] X.env := by rfl) :
    PE X (.Call (.Name "len" p) [.Call (.Name "set" p2) [e] [] pos2] [] pos) (tLenST X.K te) := by
  refine ⟨fun pins s σ H Q I h => ?_⟩
  refine wpAny_Call_Name_kw (ld_blt I g1 m1 (by rfl) ?_ (by decide) (by decide))
  refine PyProof.Rows.callWith_builtin1 ?_ hs2 (by rfl)
  rw [hs2]
  show wpAny _ _ (spliced ((false, eval (Expr.Call (.Name "set" p2) [e] [] pos2) X.env) :: backTo pos (starEach [] X.env))) _ _ s
  refine Calls.spliced_cons ?_
  refine wpAny_Call_Name_kw (ld_blt I g2 m2 (by rfl) ?_ (by decide) (by decide))
  refine PyProof.Rows.callWith_type1 ?_ hs (by rfl)
  rw [hs]
  show wpAny _ _ (spliced ((false, eval e X.env) :: backTo pos2 (starEach [] X.env))) _ _ s
  refine Calls.spliced_cons (thn (he.run pins s σ H _ I h) fun u s1 ⟨v, H1, I1, r1, q1⟩ => Calls.spliced_nil ?_)
  obtain ⟨a, ls, rfl, hl, few, q⟩ := q1
  obtain rfl : u = .ref a := r1
  obtain ⟨its, rv, pl, _⟩ := I1.list hl
  have st : StrsAre its.toArray.toList ls := rv.strs
  refine call_set_txt hh pl.isList st (Nat.lt_of_lt_of_le (Nat.succ_lt_succ few) (by decide)) fun h' tk S k => ?_
  refine Calls.spliced_nil ?_
  have few2 : (onceL [] ls).length < 4000 := by
    have := once_len ls []
    simp at this
    omega
  obtain ⟨D, at_, ok⟩ := S
  have I2 : Inv X pins σ H1 { s1 with heap := h', toks := tk } := I1.kept fun b o e => k b o e
  have ok := ok.1
  have hz := ok.sz
  refine call_len_set at_ ⟨rfl, rfl, rfl⟩ rfl (by have := ok.fit; exact this) (by rw [hz]; omega) ⟨.int _, H1, I2.tok _, ⟨_, by rw [hz]⟩, q⟩
/-- an own error whose __init__ is a def: what it keeps -/
structure Ini (P : Program) (w : World) (K : PySem.W.Frag) (mg : Str → Option Value) (base : Heap) (k : Nat) (x : Str) (C : Addr) (ps : List Str) (sp : Sp) : Prop where
  g : mg x = some (.ref C)
  ex : ∃ f fd, OexI K C f ∧ FnOk P w K mg base CX0 k f fd ps sp ∧ Binds K fd ps [] ∧ ∀ (s : Shared) (self : Value) (us : List Value), (self :: us).length = ps.length → BindsTo s fd ⟨[self], (ps.drop 1).zip us⟩ (ps.zip (self :: us))
section
variable {X : Cx} {x : Str} {C : Addr} {p pos pos2 : Pos} {e : Expr} {es : List Expr} {ta : TA} {j k : Nat} {ps ks : List Str} {sp : Sp} {W : WX}
theorem pe_ini (c : Ini X.prog X.w X.K X.mg X.base k x C ps sp) (hr : Room j X.A) (hk : k + 1 ≤ j) (ha : PA X (e :: es) ta) (hg : Gl X x := by rfl)
    (hdb : (x == ("__debug__" : Str)) = false := by decide) (he : starEach (e :: es) X.env = (false, eval e X.env) :: starEach es X.env := by rfl) (hpl : (backTo pos (starEach es X.env)).any (·.1) = false := by rfl) :
    PE X (.Call (.Name x p) (e :: es) [] pos) (tMkE C sp ta) := by
  obtain ⟨f, fd, T, F, b, _⟩ := c.ex
  exact pe_oexE T F (hr.mono hk) b hg c.g ha hdb he hpl
theorem pe_iniK {kws : List Keyword} (c : Ini X.prog X.w X.K X.mg X.base k x C ps sp) (hr : Room j X.A) (hk : k + 1 ≤ j) (hkw : PK X kws ta) (hps : ps.drop 1 = ks := by rfl) (hg : Gl X x := by rfl) (hall : (backToKw pos (keywordEach kws X.env)).all (·.1.isSome) = true := by rfl)
    (hks : (backToKw pos (keywordEach kws X.env)).filterMap (·.1) = ks := by rfl) (hdb : (x == ("__debug__" : Str)) = false := by decide) (hpl : ((backTo pos (starEach [] X.env)).any (·.1) || (backToKw pos (keywordEach kws X.env)).any (·.1.isNone)) = false := by rfl) :
    PE X (.Call (.Name x p) [] kws pos) (tMkE C sp ta) := by
  obtain ⟨f, fd, T, F, _, b⟩ := c.ex
  subst hps
  exact pe_oexEK T F (hr.mono hk) b hg c.g hkw hall hks hdb hpl
/-- raise C(e, ..) -/
theorem ps_raiseI (hc : X.calm = true) (tk : Takes X W) (c : Ini X.prog X.w X.K X.mg X.base k x C ps sp) (hr : Room j X.A) (hk : k + 1 ≤ j) (ha : PA X (e :: es) ta) (hg : Gl X x := by rfl)
    (hdb : (x == ("__debug__" : Str)) = false := by decide) (he : starEach (e :: es) X.env = (false, eval e X.env) :: starEach es X.env := by rfl) (hpl : (backTo pos (starEach es X.env)).any (·.1) = false := by rfl) :
    PS X (.Raise (some (.Call (.Name x p) (e :: es) [] pos)) none pos2) (fun _ σ H => tMkO C sp [] ta σ H fun cls d H' => W cls d σ H') := by
  obtain ⟨f, fd, T, F, b, _⟩ := c.ex
  exact ps_raise hc tk (pmk_oex (CX := CX0) T.t T.i T.f F (hr.mono hk) b .nil pass0 hg c.g ha hdb he hpl)
end
end Pg
namespace Pg
open PySem PySem.Spec PyProof.Rows L2
/-! ### an exception that was caught, with a dict of its own, kept as a value -/
/-- an exception object of the class cls, raised and caught, its dict at d, at a -/
def ExZ (cls : Value) (d : Option Addr) (a : Addr) : HO := .ext fun h => ∃ (oe : Obj) (vs : Array Value), h.get? a = some oe ∧ Zc cls d oe ∧ oe.data = .fields vs
theorem exZ_ok {P : Program} {w : World} {H : Hp} {h : Heap} {a : Addr} {cls : Value} {d : Option Addr} {oe : Obj} {vs : Array Value} (e : h.get? a = some oe) (z : Zc cls d oe) (v : oe.data = .fields vs) : ObjOk P w H h a (ExZ cls d a) :=
  ⟨⟨oe, vs, e, z, v⟩, ⟨oe, e⟩, fun _ _ ⟨o, v, q, r⟩ k => ⟨o, v, k o q, r⟩⟩
/-- what the clause 'except x as n' wishes, where what was caught is kept: slot i is n's -/
def wKeepZ (K : PySem.W.Frag) (c : Value) (i : Nat) (ts : TS) (Wout : WX) (D : Ends) : WX := fun cls d σ H =>
  ∃ b, PySem.W.exmOne K cls c = some b ∧ (b = true → ∀ a, H a = none → ts { nx := fun σ' H' => D.nx (σ'.set i none) H', rt := D.rt, bk := fun σ' H' => D.bk (σ'.set i none) H', ct := fun σ' H' => D.ct (σ'.set i none) H' } (σ.set i (some (.ref a))) (upd H a (ExZ cls d a))) ∧
    (b = false → Wout cls d σ H)
section
variable {X : Cx} {x n : Str} {c : Value} {i : Nat} {body suite : List Stmt} {b₀ : Stmt} {np pos pos' : Pos} {tb : WX → TS} {ts : TS} {Wout : WX}
theorem ps_try_keepZ (hs : X.stack = X.env :: X.outer) (hf : X.env.frame = some X.env.locals) (hx : X.ex = []) (hN : X.N.Nodup) (hi : X.N[i]? = some n) (hln : X.env.kindOf n = some .local) (hc : Names X x c) (tk : Takes X Wout)
    (hb : ∀ (W : WX) (pn : List (Addr × Obj)) (xe : Value → Shared → Prop), Takes (X.tr pn xe) W → PassesOwn (model X.prog X.w) X.A X.env xe → PSs (X.tr pn xe) body (tb W))
    (hsu : ∀ (a : Addr) (pn : List (Addr × Obj)), PSs (X.suite a pn) (b₀ :: suite) ts) :
    PS X (.Try body [.ExceptHandler (some (.Name x np)) (some n) (b₀ :: suite) pos'] [] [] pos) (fun D σ H => tb (wKeepZ X.K c i ts Wout D) D σ H) := by
  refine ⟨fun pins s σ H D I h => ?_⟩
  have ok := I.ok
  have hfr : X.A.frames = some (X.env :: X.outer) := by rw [ok.frames, hs]
  have hloc : Loc X.env.scope n := .inl hln
  refine wpAny_Try_except ?_
  refine wpAny_mono ((hb (wKeepZ X.K c i ts Wout D) (X.pn ++ pins) (fun e s₁ => wpAny (model X.prog X.w) X.A (noteFrame e X.env) (fun _ s₂ => wpAny (model X.prog X.w) X.A (setFlight e none) (fun _ s₃ =>
    wpAny (model X.prog X.w) X.A (handleBy e X.env [.ExceptHandler (some (.Name x np)) (some n) (b₀ :: suite) pos']) (SP X pins D) X.xe s₃) X.xe s₂) X.xe s₁) (fun u s' xx => ?_) PassesOwn.looking).run [] s σ H D (I.toTry _) h) (fun f s1 hsp => ?_) (fun e s1 he => he)
  · -- the catch
    obtain ⟨a, B, sI, pins', σ', H', cls, d, rfl, J', nb, up, sky, na, os, ag, b, hb1, hyes, hno⟩ := xx
    have J : Inv X pins σ' H' sI := J'.ofTry ok
    have sky' : Sky B (X.env :: X.outer) a (Zc cls d) X.env.locals s'.heap := by rw [← hs]; exact sky
    show wpAny (model X.prog X.w) X.A (noteFrame (.ref a) X.env) _ _ _
    refine Sky.land Zc.steady hfr hf sky' fun h3 fl3 up3 => ?_
    have J3 : Inv X pins σ' H' { s' with heap := h3 } := J.landed nb fl3.1 (up.trans up3) os ag
    obtain ⟨oe3, vs3, he3, hz3, hd3⟩ := fl3.there
    have notFr : ∀ {h : Heap} {o : Obj} {vs : Array Value}, h.FunFrames B (X.env :: X.outer) → h.get? a = some o → o.data = .fields vs → a ∉ frs (X.env :: X.outer) := fun {h o vs} ff e dd hm => by
      obtain ⟨_, o', e', hnf⟩ := ff.mem hm
      rw [e] at e'; cases e'
      exact hnf _ dd
    have nfr := notFr fl3.2.2.1 he3 hd3
    have nL : a ≠ X.env.locals := fun z => nfr (List.mem_filterMap.mpr ⟨X.env, List.mem_cons_self, by rw [hf, z]⟩)
    have nF : a ∉ X.fs := fun hm => by
      obtain ⟨e, he, q⟩ := List.mem_filterMap.mp hm
      exact nfr (List.mem_filterMap.mpr ⟨e, List.mem_cons_of_mem _ he, q⟩)
    have nI : sI.heap.get? a = none := by
      cases e : sI.heap.get? a with
      | none => rfl
      | some o =>
        have q := nb a o e (by rw [hs]; exact nfr)
        rw [fl3.2.1] at q
        cases q
    have n0 : X.s_0.heap.get? a = none := by
      cases e : X.s_0.heap.get? a with
      | none => rfl
      | some o =>
        obtain ⟨o', q⟩ := J.base.there a o e (by rw [hx]; exact fun z => nomatch z)
        rw [nI] at q
        cases q
    have npn : ∀ p ∈ X.pn ++ pins, p.1 ≠ a := fun p hp z => by
      have q := (J.pin p hp).1
      rw [z, nI] at q
      cases q
    have S3 := J3.suite he3 hd3 na nL nF
    refine wpAny_handleBy_cons (codeAny_handlers_test ?_) (by intro q; cases q)
    have LT : PySem.W.Looks (model X.prog X.w) h3 (typeOf (.ref a)) cls := fun A Q E s k q => wpAny_typeOf_ref (k _ _ he3) (by rw [hz3.1]; exact q)
    have LM := PySem.W.exm_one (M := model X.prog X.w) (J3.kIn) LT hb1
    have test : ∀ {Q : Value → Shared → Prop} {E : Value → Shared → Prop}, Q c { s' with heap := h3 } → wpAny (model X.prog X.w) (X.A.mark (some (.ref a))) (eval (.Name x np) X.env) Q E { s' with heap := h3 } := fun {Q E} q => by
      obtain ⟨hg, hdbg, hm | ⟨hm, hv, hnn⟩⟩ := hc
      · exact ld_glob (X := X.suite a ((a, oe3) :: (X.pn ++ pins))) S3 hg hm q hdbg
      · exact ld_blt (X := X.suite a ((a, oe3) :: (X.pn ++ pins))) S3 hg hm hv q hnn hdbg
    refine test (LM.here ?_)
    cases b with
    | true =>
      have hy := hyes rfl
      refine codeAny_handlers_suite_as ?_
      refine HandSPX.lands_againZ fl3 fun h4 fl4 up4 => ?_
      have J4 : Inv X pins σ' H' { s' with heap := h4 } := J.landed nb fl4.1 ((up.trans up3).trans up4) os ag
      obtain ⟨oe4, vs4, he4, hz4, hd4⟩ := fl4.there
      have S4 := toSuite (track (o := ExZ cls d a) J4 na n0 he4 hd4 nL npn (exZ_ok he4 hz4 hd4)) a
      refine store_ok (X := X.suite a (X.pn ++ pins)) (v := .ref a) S4 hN hi hloc rfl (fun s5 S5 => ?_) (.inr hln)
      refine wpAny_mono ((hsu a (X.pn ++ pins)).run [] s5 _ _ _ S5 (hy a na)) (fun f s6 hsp => ?_) (fun _ _ z => False.elim z)
      have end_ : ∀ {σ6 : L2.St} {H6 : Hp} {Q : Shared → Prop}, Inv (X.suite a (X.pn ++ pins)) [] σ6 H6 s6 → (∀ s7, Inv X pins (σ6.set i none) H6 s7 → Q s7) →
          wpAny (model X.prog X.w) X.A (do bindName X.env n .none; unbindBehindTheSuite X.env n pos') (fun _ s7 => Q s7) X.xe s6 := fun {σ6 H6 Q} S6 hq => gone_ok (ofSuite S6 ok) hN hi hln hq
      cases f with
      | next =>
        obtain ⟨σ6, H6, S6, q6⟩ := hsp
        exact end_ S6 fun s7 J7 => ⟨_, _, J7, q6⟩
      | brk =>
        obtain ⟨σ6, H6, S6, q6⟩ := hsp
        exact end_ S6 fun s7 J7 => ⟨_, _, J7, q6⟩
      | cont =>
        obtain ⟨σ6, H6, S6, q6⟩ := hsp
        exact end_ S6 fun s7 J7 => ⟨_, _, J7, q6⟩
      | ret u =>
        obtain ⟨v6, σ6, H6, S6, r6, q6⟩ := hsp
        exact end_ S6 fun s7 J7 => ⟨_, _, _, J7, r6, q6⟩
    | false =>
      show wpAny _ X.A (handleBy (.ref a) X.env []) _ _ _
      refine wpAny_handleBy_nil ?_
      obtain ⟨k1, k2, k3, oe, vs, T, oT, ts', he, hz, hd, h1, hr⟩ := id fl3
      unfold PySem.passOn
      refine wpAny_bind (wpAny_field he hd h1 ?_)
      rw [if_neg (show ¬ ((Value.ref T == Value.none) = true) from by simp)]
      have fin : wpAny (model X.prog X.w) X.A (setFlight (.ref a) X.env.frame) (fun _ s4 => wpAny (model X.prog X.w) X.A (throw (.ref a) : Sem Flow) (SP X pins D) X.xe s4) X.xe { s' with heap := h3 } := by
        rw [hf]
        refine HandSPX.setFlight_upZ fl3 fun h4 hh4 up4 => wpAny_throw (tk _ _ ?_)
        exact ⟨a, B, sI, pins, σ', H', cls, d, rfl, J, nb, (up.trans up3).trans up4, .inr (.inr (by rw [hs]; exact hh4)), na, os, ag, hno rfl⟩
      first
        | exact wpAny_bind (wpAny_pure (wpAny_bind fin))
        | exact wpAny_bind fin
  · cases f with
    | next =>
      obtain ⟨σ', H', J', q⟩ := hsp
      exact wpAny_execs_nil ⟨σ', H', J'.ofTry ok, q⟩
    | brk =>
      obtain ⟨σ', H', J', q⟩ := hsp
      exact ⟨σ', H', J'.ofTry ok, q⟩
    | cont =>
      obtain ⟨σ', H', J', q⟩ := hsp
      exact ⟨σ', H', J'.ofTry ok, q⟩
    | ret u =>
      obtain ⟨v, σ', H', J', r, q⟩ := hsp
      exact ⟨v, σ', H', J'.ofTry ok, r, q⟩
end

/-- a kept error with a dict -/
theorem instZ {X : Cx} {pins : List (Addr × Obj)} {σ : L2.St} {H : Hp} {s : Shared} {a dd C : Addr} {fs : List (Str × V)} (I : Inv X pins σ H s) (ha : H a = some (ExZ (.ref C) (some dd) a)) (hd : H dd = some (.xd fs)) :
    ∃ (oe od : Obj) (mA : Str → Option Value), PySem.W.InstAt s.heap a oe C (some od) ∧ (∀ f, RelO (fs.lookup f) (mA f)) ∧ ∀ name, PySem.W.lookIn name od = some (mA name) := by
  obtain ⟨⟨oe, vs, hget, hz, hv⟩, _, _⟩ := I.hok a _ ha
  have hx : ObjOk X.prog X.w H s.heap dd (.xd fs) := I.hok dd _ hd
  obtain ⟨mA, hns, hr⟩ := hx
  obtain ⟨od, ho, hl⟩ := lookIn_ns hns
  exact ⟨oe, od, mA, ⟨hget, hz.1, by unfold PySem.W.notCls; rw [hv] <;> rfl, by rw [hz.2]; exact ho⟩, hr, hl⟩
/-- x.n, x a kept error -/
def tKat (K : PySem.W.Frag) (n : Str) (te : TE) : TE := fun σ H Q => te σ H fun x H1 => ∃ (a C d : Addr) (fs : List (Str × V)) (v : V), x = .ref a ∧ XfC K C ∧ PySem.W.findIn K (.ref C) n = some none ∧ H1 a = some (ExZ (.ref C) (some d) a) ∧ H1 d = some (.xd fs) ∧ fs.lookup n = some v ∧ Q v H1
theorem pe_kat {X : Cx} {e : Expr} {te : TE} {n : Str} {pos : Pos} (he : PE X e te) (hb : attributeBase e n X.env (eval e X.env) = eval e X.env := by rfl) : PE X (.Attribute e n pos) (tKat X.K n te) := by
  refine ⟨fun pins s σ H Q I h => ?_⟩
  refine attr_of hb (thn (he.run pins s σ H _ I h) fun u s1 hh => ?_)
  obtain ⟨x, H1, I1, rx, a, C, d, fs, v, ex, T, hno, ha, hd, l, q⟩ := hh
  subst ex
  obtain rfl : u = Value.ref a := rx
  obtain ⟨oe, od, mA, J, hr, hl⟩ := instZ I1 ha hd
  obtain ⟨u, hu, ru⟩ := RelO.some_of (v := v) (o := mA n) (by rw [← l]; exact hr n)
  exact HandSPX.exc_get I1.kIn J T.ga T.gg T.exC (PySem.W.findObj_own T.hdC hno rfl (by rw [hl, hu])) (handed_of ru) ⟨v, H1, I1.tok _, ru, q⟩
/-- isinstance(e, c), e a kept error with a dict -/
def rIsZ (K : PySem.W.Frag) : List V → Hp → VK → Prop := fun xs H Q => ∃ (a D d : Addr) (fs : List (Str × V)) (c : V) (cv : Value) (b : Bool), xs = [.ref a, c] ∧ ExcC K D ∧ H a = some (ExZ (.ref D) (some d) a) ∧ H d = some (.xd fs) ∧ (∀ u, RelV c u → u = cv) ∧ PySem.W.kitOne K (.ref D) cv = some b ∧ Q (.bl b) H
theorem call_isZ {X : Cx} : CallR X (.builtin "isinstance") (rIsZ X.K) := by
  intro pins s σ H xs us Q I r h
  obtain ⟨a, D, d, fs, c, cv, b, rfl, C, ha, hd, hcv, e, q⟩ := h
  obtain ⟨u1, u2, rfl, r1, r2⟩ := vals2 r
  cases r1
  have ec := hcv _ r2
  subst ec
  have hcl : (PySem.W.clsIn X.K D).isSome = true := by
    have := C.hd
    unfold PySem.W.hasDictIn at this
    cases z : PySem.W.clsIn X.K D with
    | none => rw [z] at this; cases this
    | some _ => rfl
  obtain ⟨oe, od, mA, J, hr, hl⟩ := instZ I ha hd
  exact PySem.W.kia_one (PySem.W.kitx_exc hcl C.hg C.hk C.hs C.ha C.hn C.ht C.hm) I.kIn J e (fun z => nomatch z) fun tk => ⟨.bl b, H, I.kept (t' := tk) fun _ _ z => z, rfl, q⟩
end Pg
namespace Kq
open PySem PySem.Spec PyProof.Rows L2 Pg Pv
def topS (i : Nat) : Stmt := PySem.Challenge.pw_pageskips_k65_nothing_to_write.main.body.getD i (.Pass ⟨0, 0, 0, 0⟩)
structure Nm (mg : Str → Option Value) : Prop where
  n_int : mg "int" = none
  n_len : mg "len" = none
  n_range : mg "range" = none
  n_type : mg "type" = none
  n_tuple : mg "tuple" = none
  n_list : mg "list" = none
  n_str : mg "str" = none
  n_repr : mg "repr" = none
  n_all : mg "all" = none
  n_bool : mg "bool" = none
  n_isinstance : mg "isinstance" = none
  n_ValueError : mg "ValueError" = none
/-- the classes of errors -/
structure Er (K : PySem.W.Frag) (mg : Str → Option Value) where
  C_SkipError : Addr
  g_SkipError : mg "SkipError" = some (.ref C_SkipError)
  C_InvalidWords : Addr
  g_InvalidWords : mg "InvalidWords" = some (.ref C_InvalidWords)
  C_InvalidFilter : Addr
  g_InvalidFilter : mg "InvalidFilter" = some (.ref C_InvalidFilter)
  e_InvalidFilter : Err K mg "InvalidFilter" C_InvalidFilter
  C_InvalidValue : Addr
  g_InvalidValue : mg "InvalidValue" = some (.ref C_InvalidValue)
  e_InvalidValue : Err K mg "InvalidValue" C_InvalidValue
  C_InvalidRule : Addr
  g_InvalidRule : mg "InvalidRule" = some (.ref C_InvalidRule)
  e_InvalidRule : Err K mg "InvalidRule" C_InvalidRule
/-- what is told of the j-th of the three classes -/
structure Kit (K : PySem.W.Frag) {mg : Str → Option Value} (TX : Er K mg) (D : Addr) (j : Nat) : Prop where
  m : PySem.W.exmOne K (.ref D) (.ref TX.C_SkipError) = some true
  c : ExcC K D
  f : PySem.W.kitOne K (.ref D) (.ref TX.C_InvalidFilter) = some (decide (j = 0))
  v : PySem.W.kitOne K (.ref D) (.ref TX.C_InvalidValue) = some (decide (j = 1))
  r : PySem.W.kitOne K (.ref D) (.ref TX.C_InvalidRule) = some (decide (j = 2))
  w : PySem.W.kitOne K (.ref D) (.ref TX.C_InvalidWords) = some false
  e : PySem.W.kitOne K (.ref D) (.type "ValueError") = some true
/-- what stands in the module -/
structure Ng (K : PySem.W.Frag) (w : World) (mg : Str → Option Value) where
  TEXT_WORDS : Addr
  g_TEXT_WORDS : mg "TEXT_WORDS" = some (.ref TEXT_WORDS)
  tws : ∀ H, SqT K H TEXT_WORDS ((["is", "below", "above", "begins"] : List Str).map V.str)
section
variable {P : Program} {w : World} {K : PySem.W.Frag} {mg : Str → Option Value} {base : Heap}
abbrev s__law_hand : Stmt := topS 30
abbrev N__law_hand : List Str := ["cell", "rest"]
theorem sc__law_hand : FnScope ["cell", "rest"] ["cell"] (defScope s__law_hand) := ⟨rfl, rfl, rfl, by decide +kernel, rfl, by decide +kernel, by decide +kernel⟩

abbrev s__law_pick : Stmt := topS 31
abbrev N__law_pick : List Str := ["hand", "size", "digit", "mixed"]
theorem sc__law_pick : FnScope ["hand", "size", "digit", "mixed"] ["hand", "size"] (defScope s__law_pick) := ⟨rfl, rfl, rfl, by decide +kernel, rfl, by decide +kernel, by decide +kernel⟩

/-! ### the hand, the picks -/
theorem call_str_si {X : Cx} : CallR X (.type "str") (fun xs H Q => (∃ z : Str, xs = [.str z] ∧ Q (.str z) H) ∨ ∃ i : Int, xs = [.int i] ∧ i.natAbs.log2 < 1920 ∧ Q (.str (toString i)) H) := by
  intro pins s σ H xs us Q I r h
  rcases h with ⟨z, e, q⟩ | ⟨i, e, hi, q⟩
  · exact SkE.call_str_str pins s σ H xs us Q I r ⟨z, e, q⟩
  · exact call_str_int pins s σ H xs us Q I r ⟨i, e, hi, q⟩
def spHand : Sp := fun vs H Q _ => ∃ c : Int, vs = [.int c] ∧ ∀ b H', H b = none → Stp [] H H' → Bag H' b 0 → Q (.ref b) H'
theorem cl__law_hand {f : Addr} {fd : FuncData} (D : Df K mg "_law_hand" s__law_hand ["cell"] f fd) (T : Nm mg) : Cl P w K mg base 1 "_law_hand" s__law_hand ["cell"] spHand := by
  refine D.cl sc__law_hand (fun vs H Q E h => ?_) (fun cdv A outer s H vs Q E hr h => ?_)
  · obtain ⟨c, rfl, _⟩ := h
    rfl
  · obtain ⟨c, rfl, k⟩ := h
    refine ⟨_, (pss_cons (ps_set (i := 1) sc__law_hand.nd rfl (by first | exact Or.inl rfl | exact Or.inr rfl) pe_int)
      (pss_cons (ps_if (pt_cmpR op_ge (pv 0) (pe_op op_pow pe_int pe_int) (by first | exact nomark _ | rfl)) (pss_one (ps_set (i := 1) sc__law_hand.nd rfl (by first | exact Or.inl rfl | exact Or.inr rfl) (pe_op op_sub (pv 0) (pe_op op_pow pe_int pe_int)))) pss_nil)
      (pss_one (ps_ret (pe_lst (pa_cons (pv 1) (pa_cons (pe_op op_mod (pe_callTy call_int1 (by rfl) T.n_int (by decide +kernel) (pa_cons (pv 0) pa_nil)) pe_int) (pa_cons pe_int pa_nil)))))))), ?_⟩
    have m1 : 0 ≤ c % 2147483563 := Int.emod_nonneg _ (by decide)
    have m2 : c % 2147483563 < 2147483563 := Int.emod_lt_of_pos _ (by decide)
    have fin : ∀ x : Int, 0 ≤ x → ∀ b, H b = none → Q (.ref b) (upd H b (.lst [.int x, .int (c % 2147483563), .int 0])) := fun x x0 b nb => k b _ nb (Stp.new nb _) ⟨_, _, _, upd_same, x0, m1, by omega, by omega, by omega⟩
    refine ⟨_, rfl, _, _, rfl, rfl, ⟨by decide, by decide, by decide⟩, _, _, rfl, rfl, _, rfl, ite2 (fun h => ?_) (fun h => ?_)⟩
    · have h := of_decide_eq_true h
      refine ⟨_, rfl, _, _, rfl, rfl, ⟨by decide, by decide, by decide⟩, _, _, rfl, rfl, ?_⟩
      exact ⟨_, rfl, _, rfl, .inl ⟨c, rfl, _, _, rfl, rfl, (by show (0 : Int) < 2147483563; decide), (by show 3 ≤ sizeLine; decide), fin _ (by omega)⟩⟩
    · exact ⟨_, rfl, _, rfl, .inl ⟨c, rfl, _, _, rfl, rfl, (by show (0 : Int) < 2147483563; decide), (by show 3 ≤ sizeLine; decide), fin 0 (by decide)⟩⟩
def spPick : Sp := fun vs H Q _ => ∃ (b : Addr) (up : Int) (n : Nat), vs = [.ref b, .int up] ∧ Bag H b n ∧ n < 2 ^ 30 ∧ 0 < up ∧ up < 2 ^ 30 ∧
  ∀ d H', 0 ≤ d → d < up → Only b H H' → Bag H' b (n + 1) → Q (.int d) H'
theorem cl__law_pick {f : Addr} {fd : FuncData} (D : Df K mg "_law_pick" s__law_pick ["hand", "size"] f fd) (T : Nm mg) : Cl P w K mg base 1 "_law_pick" s__law_pick ["hand", "size"] spPick := by
  refine D.cl sc__law_pick (fun vs H Q E h => ?_) (fun cdv A outer s H vs Q E hr h => ?_)
  · obtain ⟨b, up, n, rfl, _⟩ := h
    rfl
  · obtain ⟨b, up, n, rfl, ⟨x, y, z, hb, x0, y0, y1, z0, z1⟩, hn, u0, u1, k⟩ := h
    refine ⟨_, (pss_cons (ps_if (pt_cmpR op_gt (pe_ix ix_list (pv 0) pe_int (fun _ _ => rfl)) pe_int (by first | exact nomark _ | rfl)) (pss_cons (ps_set (i := 2) sc__law_pick.nd rfl (by first | exact Or.inl rfl | exact Or.inr rfl) (pe_op op_mod (pe_callTy call_int1 (by rfl) T.n_int (by decide +kernel) (pa_cons (pe_ix ix_list (pv 0) pe_int (fun _ _ => rfl)) pa_nil)) (pv 1)))
      (pss_cons (ps_asg (pe_op op_fdivW (pe_ix ix_list (pv 0) pe_int (fun _ _ => rfl)) (pv 1)) (pg_sub (pv 0) pe_int set_list))
      (pss_one (ps_ret (pv 2))))) pss_nil)
      (pss_cons (ps_asg (pe_op op_add (pe_ix ix_list (pv 0) pe_int (fun _ _ => rfl)) pe_int) (pg_sub (pv 0) pe_int set_list))
      (pss_cons (ps_set (i := 3) sc__law_pick.nd rfl (by first | exact Or.inl rfl | exact Or.inr rfl) (pe_op op_mod (pe_callTy call_int1 (by rfl) T.n_int (by decide +kernel) (pa_cons (pe_op op_add (pe_op op_add (pe_op op_mulW (pe_ix ix_list (pv 0) pe_int (fun _ _ => rfl)) pe_int) (pe_op op_mulW (pe_op op_mulW (pe_ix ix_list (pv 0) pe_int (fun _ _ => rfl)) (pe_op op_add (pe_ix ix_list (pv 0) pe_int (fun _ _ => rfl)) pe_int)) pe_int)) pe_int) pa_nil)) pe_int))
      (pss_cons (ps_set (i := 3) sc__law_pick.nd rfl (by first | exact Or.inl rfl | exact Or.inr rfl) (pe_op op_mod (pe_callTy call_int1 (by rfl) T.n_int (by decide +kernel) (pa_cons (pe_op op_add (pe_op op_add (pe_op op_mulW (pv 3) (pv 3)) (pe_op op_mulW (pe_ix ix_list (pv 0) pe_int (fun _ _ => rfl)) pe_int)) (pv 3)) pa_nil)) pe_int))
      (pss_one (ps_ret (pe_op op_mod (pe_op op_fdivW (pe_op op_mod (pe_callTy call_int1 (by rfl) T.n_int (by decide +kernel) (pa_cons (pe_op op_add (pe_op op_mulW (pv 3) pe_int) (pe_ix ix_list (pv 0) pe_int (fun _ _ => rfl))) pa_nil)) pe_int) pe_int) (pv 1)))))))), ?_⟩
    refine ⟨_, rfl, b, _, 0, .int x, rfl, rfl, SqL.of hb, rfl, _, _, rfl, rfl, _, rfl, ite2 (fun hx => ?_) (fun hx => ?_)⟩
    · refine ⟨_, rfl, b, _, 0, .int x, rfl, rfl, SqL.of hb, rfl, .inl ⟨x, rfl, _, rfl, _, _, rfl, rfl, u0, ?_⟩⟩
      refine ⟨_, rfl, b, _, 0, .int x, rfl, rfl, SqL.of hb, rfl, _, rfl, _, _, rfl, rfl, cdiv 30 u0 u1 (by decide) (by decide), ?_⟩
      refine ⟨_, rfl, b, _, 0, 0, rfl, rfl, hb, rfl, ?_⟩
      refine ⟨_, rfl, k _ _ (Int.emod_nonneg _ (by omega)) (Int.emod_lt_of_pos _ u0) ⟨_, rfl⟩ ⟨_, _, _, upd_same, ?_⟩⟩
      exact ⟨Int.ediv_nonneg x0 (by omega), y0, y1, z0, by omega⟩
    · refine ⟨_, rfl, b, _, 2, .int z, rfl, rfl, SqL.of hb, rfl, _, _, rfl, rfl, ?_⟩
      obtain ⟨t, et⟩ : ∃ t, t = z + 1 := ⟨_, rfl⟩
      dsimp only
      rw [← et]
      have t0 : 0 ≤ t := by omega
      have t1 : t < 2 ^ 31 := by omega
      refine ⟨_, rfl, b, _, 2, 2, rfl, rfl, hb, rfl, ?_⟩
      have hB : (upd H b (.lst [.int x, .int y, .int t])) b = some (.lst [.int x, .int y, .int t]) := upd_same
      have a1 := mul_lt (i := y) (j := 40014) (a := 40) (b := 16) y0 (by omega) (by decide) (by decide)
      have a2 := mul_lt (i := t) (j := t + 53) (a := 31) (b := 32) t0 t1 (by omega) (by omega)
      have a3 := mul_lt (i := t * (t + 53)) (j := 16807) (a := 63) (b := 15) (by omega) (by omega) (by decide) (by decide)
      refine ⟨_, rfl, b, _, 1, .int y, rfl, rfl, SqL.of hB, rfl, _, _, rfl, rfl, cmul 40 16 y0 (by omega) (by decide) (by decide) (by decide) (by decide) (by decide),
        _, rfl, b, _, 2, .int t, rfl, rfl, SqL.of hB, rfl, _, rfl, b, _, 2, .int t, rfl, rfl, SqL.of hB, rfl, _, _, rfl, rfl,
        _, _, rfl, rfl, cmul 31 32 t0 t1 (by omega) (by omega) (by decide) (by decide) (by decide),
        _, _, rfl, rfl, cmul 63 15 (by omega) (by omega) (by decide) (by decide) (by decide) (by decide) (by decide), _, _, rfl, rfl, _, _, rfl, rfl, ?_⟩
      refine .inl ⟨_, rfl, _, _, rfl, rfl, (by show (0 : Int) < 2147483647; decide), ?_⟩
      obtain ⟨m, em⟩ : ∃ m, m = (y * 40014 + t * (t + 53) * 16807 + 7) % 2147483647 := ⟨_, rfl⟩
      dsimp only
      rw [← em]
      have m0 : 0 ≤ m := by rw [em]; exact Int.emod_nonneg _ (by decide)
      have m1 : m < 2 ^ 31 := by
        have := Int.emod_lt_of_pos (y * 40014 + t * (t + 53) * 16807 + 7) (show (0 : Int) < 2147483647 by decide)
        omega
      clear em a1 a2 a3
      have b1 := mul_lt (a := 31) (b := 31) m0 m1 m0 m1
      have b2 := mul_lt (i := t) (j := 69621) (a := 31) (b := 17) t0 t1 (by decide) (by decide)
      refine ⟨_, rfl, _, rfl, _, _, rfl, rfl, cmul 31 31 m0 m1 m0 m1 (by decide) (by decide) (by decide),
        _, rfl, b, _, 2, .int t, rfl, rfl, SqL.of hB, rfl, _, _, rfl, rfl, cmul 31 17 t0 t1 (by decide) (by decide) (by decide) (by decide) (by decide), _, _, rfl, rfl, _, rfl, _, _, rfl, rfl, ?_⟩
      refine .inl ⟨_, rfl, _, _, rfl, rfl, (by show (0 : Int) < 2147483399; decide), ?_⟩
      obtain ⟨u, eu⟩ : ∃ u, u = (m * m + t * 69621 + m) % 2147483399 := ⟨_, rfl⟩
      dsimp only
      rw [← eu]
      have w0 : 0 ≤ u := by rw [eu]; exact Int.emod_nonneg _ (by decide)
      have w1 : u < 2 ^ 31 := by
        have := Int.emod_lt_of_pos (m * m + t * 69621 + m) (show (0 : Int) < 2147483399 by decide)
        omega
      clear eu b1 b2
      refine ⟨_, rfl, _, _, rfl, rfl, cmul 31 16 w0 w1 (by decide) (by decide) (by decide) (by decide) (by decide), _, rfl, b, _, 2, .int t, rfl, rfl, SqL.of hB, rfl, _, _, rfl, rfl, ?_⟩
      refine .inl ⟨_, rfl, _, _, rfl, rfl, (by show (0 : Int) < 2147483629; decide), _, _, rfl, rfl, cdiv 5 (by decide) (by decide) (by decide) (by decide), _, rfl, _, _, rfl, rfl, u0, ?_⟩
      exact k _ _ (Int.emod_nonneg _ (by omega)) (Int.emod_lt_of_pos _ u0) ⟨_, rfl⟩ ⟨_, _, _, upd_same, x0, y0, y1, by omega, by omega⟩
abbrev s_is_text : Stmt := topS 7
abbrev N_is_text : List Str := ["value"]
theorem sc_is_text : FnScope ["value"] ["value"] (defScope s_is_text) := ⟨rfl, rfl, rfl, by decide +kernel, rfl, by decide +kernel, by decide +kernel⟩

abbrev s_is_filter : Stmt := topS 10
abbrev N_is_filter : List Str := ["value"]
theorem sc_is_filter : FnScope ["value"] ["value"] (defScope s_is_filter) := ⟨rfl, rfl, rfl, by decide +kernel, rfl, by decide +kernel, by decide +kernel⟩

abbrev s_can_follow : Stmt := topS 11
abbrev N_can_follow : List Str := ["word", "part", "text", "inner"]
theorem sc_can_follow : FnScope ["word", "part", "text", "inner"] ["word", "part"] (defScope s_can_follow) := ⟨rfl, rfl, rfl, by decide +kernel, rfl, by decide +kernel, by decide +kernel⟩

/-! ### is_text, is_filter -/
def IsTx (d : Dt) : Prop := ∃ l, d = .str l ∧ Abc l
def spIsText (K : PySem.W.Frag) : Sp := fun vs H Q _ => ∃ v d, vs = [v] ∧ Rp K H v d ∧ ∀ b : Bool, (b = true ↔ IsTx d) → Q (.bl b) H
theorem cl_is_text {f : Addr} {fd : FuncData} (D : Df K mg "is_text" s_is_text ["value"] f fd) (T : Nm mg) : Cl P w K mg base 1 "is_text" s_is_text ["value"] (spIsText K) := by
  refine D.cl sc_is_text (fun vs H Q E h => ?_) (fun cdv A outer s H vs Q E hr h => ?_)
  · obtain ⟨v, d, rfl, _⟩ := h
    rfl
  · obtain ⟨v, d, rfl, r, k⟩ := h
    refine ⟨_, (pss_one (ps_ret (pe_and (pe_tyIs (T := "str") Mono.var (pv 0) T.n_type T.n_str (by decide +kernel)) (pe_one (pe_cmpR op_eq (pe_bm PySem.F.plainAttrs_str PySem.F.slot_str_strip PySem.F.type_str_strip mt_stripChars (pv 0) (pa_cons pe_str pa_nil)) pe_str (by first | exact nomark _ | rfl)))))), ?_⟩
    have no : (∀ l, d ≠ .str l) → Q (.bl false) H := fun n => k false ⟨fun e => (nomatch e), fun ⟨l, e, _⟩ => absurd e (n l)⟩
    refine ⟨_, rfl, d, r, _, rfl, ?_⟩
    cases r with
    | str l hl =>
      refine ⟨_, rfl, rfl, tx l, ("abc" : Str), rfl, rfl, szt hl, rfl, ?_⟩
      refine k _ ?_
      rw [abc_lit, nil_lit]
      constructor
      · intro h
        exact ⟨l, rfl, (strip_abc l).mp (V.str.inj (of_decide_eq_true h))⟩
      · rintro ⟨l', e, ha⟩
        cases e
        exact decide_eq_true (congrArg V.str ((strip_abc l).mpr ha))
    | _ => exact no (fun l e => nomatch e)
/-- the filters of the document -/
inductive Flt : Dt → Prop
  | tx {wd : Str} {l : List Nat} (hw : wd = "is" ∨ wd = "below" ∨ wd = "above" ∨ wd = "begins") (h : Abc l) : Flt (.tup [.str wd.cps.toList, .str l])
  | none : Flt (.tup [.str ("none" : Str).cps.toList])
  | say (b : Bool) : Flt (.tup [.str ("say" : Str).cps.toList, .bl b])
  | not {d : Dt} : Flt d → Flt (.tup [.str ("not" : Str).cps.toList, d])
  | among {ds : List Dt} : (∀ d ∈ ds, IsTx d) → Flt (.tup [.str ("among" : Str).cps.toList, .tup ds])
  | many {wd : Str} {ds : List Dt} (hw : wd = "and" ∨ wd = "or") : (∀ d ∈ ds, Flt d) → Flt (.tup [.str wd.cps.toList, .tup ds])
/-! ### what a filter is, by its first part -/
def CanF (wd : Str) (d : Dt) : Prop :=
  ((wd = "is" ∨ wd = "below" ∨ wd = "above" ∨ wd = "begins") ∧ IsTx d) ∨ (wd = "say" ∧ ∃ b, d = .bl b) ∨ (wd = "not" ∧ Flt d) ∨
  (wd = "among" ∧ ∃ ds, d = .tup ds ∧ ∀ e ∈ ds, IsTx e) ∨ ((wd = "and" ∨ wd = "or") ∧ ∃ ds, d = .tup ds ∧ ∀ e ∈ ds, Flt e)
theorem lit_tx (wd : Str) : tx wd.cps.toList = wd := by cases wd <;> simp [tx]
theorem tx_lit {l : List Nat} {wd : Str} (h : tx l = wd) : l = wd.cps.toList := by rw [← h]
theorem flt_two {l : List Nat} {d : Dt} : Flt (.tup [.str l, d]) ↔ CanF (tx l) d := by
  constructor
  · intro h
    cases h with
    | tx hw ha => exact .inl ⟨by rw [lit_tx]; exact hw, _, rfl, ha⟩
    | say b => exact .inr (.inl ⟨lit_tx _, b, rfl⟩)
    | not h => exact .inr (.inr (.inl ⟨lit_tx _, h⟩))
    | among h => exact .inr (.inr (.inr (.inl ⟨lit_tx _, _, rfl, h⟩)))
    | many hw h => exact .inr (.inr (.inr (.inr ⟨by rw [lit_tx]; exact hw, _, rfl, h⟩)))
  · rintro (⟨hw, l', rfl, ha⟩ | ⟨hw, b, rfl⟩ | ⟨hw, h⟩ | ⟨hw, ds, rfl, h⟩ | ⟨hw, ds, rfl, h⟩)
    · have := Flt.tx (wd := tx l) hw ha
      simpa [tx] using this
    · rw [tx_lit hw]
      exact .say b
    · rw [tx_lit hw]
      exact .not h
    · rw [tx_lit hw]
      exact .among h
    · have := Flt.many (wd := tx l) hw h
      simpa [tx] using this
theorem flt_one {l : List Nat} : Flt (.tup [.str l]) ↔ tx l = "none" := by
  constructor
  · intro h
    cases h
    exact lit_tx _
  · intro h
    rw [tx_lit h]
    exact .none
theorem flt_head {d : Dt} (h : Flt d) : ∃ l rest, d = .tup (.str l :: rest) ∧ rest.length ≤ 1 := by
  cases h <;> exact ⟨_, _, rfl, by simp⟩
theorem not_none {d : Dt} : ¬ CanF "none" d := by
  rintro (⟨h | h | h | h, _⟩ | ⟨h, _⟩ | ⟨h, _⟩ | ⟨h, _⟩ | ⟨h | h, _⟩) <;> exact absurd h (by decide +kernel)
theorem flt_none {rest : List Dt} {l : List Nat} (h : tx l = "none") : Flt (.tup (.str l :: rest)) ↔ rest.length = 0 := by
  constructor
  · intro f
    obtain ⟨l', r', e, hl⟩ := flt_head f
    cases e
    cases rest with
    | nil => rfl
    | cons d rest =>
      cases rest with
      | nil =>
        rw [flt_two, h] at f
        exact (not_none f).elim
      | cons _ _ => simp at hl
  · intro e
    rw [List.length_eq_zero_iff.mp e]
    exact flt_one.mpr h
theorem flt_not_none {rest : List Dt} {l : List Nat} (h : tx l ≠ "none") : Flt (.tup (.str l :: rest)) ↔ ∃ p, rest = [p] ∧ CanF (tx l) p := by
  constructor
  · intro f
    obtain ⟨l', r', e, hl⟩ := flt_head f
    cases e
    cases rest with
    | nil => exact absurd (flt_one.mp f) h
    | cons d rest =>
      cases rest with
      | nil => exact ⟨d, rfl, flt_two.mp f⟩
      | cons _ _ => simp at hl
  · rintro ⟨p, rfl, c⟩
    exact flt_two.mpr c
def spIsF (K : PySem.W.Frag) (n : Nat) : Sp := fun vs H Q _ => ∃ v d, vs = [v] ∧ Rp K H v d ∧ d.dep < n ∧ ∀ (b : Bool) H', (b = true ↔ Flt d) → Stp [] H H' → Q (.bl b) H'
def spCan (K : PySem.W.Frag) (n : Nat) : Sp := fun vs H Q _ => ∃ l v d, vs = [Tx l, v] ∧ Rp K H v d ∧ d.dep < n ∧ ∀ (b : Bool) H', (b = true ↔ CanF (tx l) d) → Stp [] H H' → Q (.bl b) H'
theorem isf_step {f : Addr} {fd : FuncData} (D : Df K mg "is_filter" s_is_filter ["value"] f fd) (T : Nm mg) {n m : Nat} (hm : 1 ≤ m) (c_can_follow : Cl P w K mg base m "can_follow" s_can_follow ["word", "part"] (spCan K n)) :
    Cl P w K mg base (m + 1) "is_filter" s_is_filter ["value"] (spIsF K (n + 1)) := by
  refine D.cl sc_is_filter (fun vs H Q E h => ?_) (fun cdv A outer s H vs Q E hr h => ?_)
  · obtain ⟨v, d, rfl, _⟩ := h
    rfl
  · obtain ⟨v, d, rfl, r, hd, k⟩ := h
    refine ⟨_, (pss_cons (ps_if (PW.pt (pw_or (pt_tyNot (T := "tuple") Mono.var (pv 0) T.n_type T.n_tuple (by decide +kernel)) (pw_or (pt_not (pt_truth (pv 0) (by intro _; rfl))) (pw_or1 (pt_tyNot (T := "str") (Mono.ixT Mono.var Mono.c) (pe_ix ix_tup (pv 0) pe_int (fun _ _ => rfl)) T.n_type T.n_str (by decide +kernel)))))) (pss_one (ps_ret pe_bl)) pss_nil)
      (pss_cons (ps_if (pt_cmpR op_eq (pe_ix ix_tup (pv 0) pe_int (fun _ _ => rfl)) pe_str (by first | exact nomark _ | rfl)) (pss_one (ps_ret (pe_cmpR op_eq (pe_callB call_len_seq (by rfl) T.n_len (by decide +kernel) (pa_cons (pv 0) pa_nil)) pe_int (by first | exact nomark _ | rfl)))) pss_nil)
      (pss_one (ps_ret (pe_and (pe_cmpR op_eq (pe_callB call_len_seq (by rfl) T.n_len (by decide +kernel) (pa_cons (pv 0) pa_nil)) pe_int (by first | exact nomark _ | rfl)) (pe_one (pe_cl c_can_follow hr (by omega) (pa_cons (pe_ix ix_tup (pv 0) pe_int (fun _ _ => rfl)) (pa_cons (pe_ix ix_tup (pv 0) pe_int (fun _ _ => rfl)) pa_nil))))))))), ?_⟩
    have no : ¬ Flt d → Q (.bl false) H := fun n => k false H ⟨fun e => (nomatch e), fun f => absurd f n⟩ (Stp.refl _ _)
    refine ⟨_, rfl, d, r, ?_⟩
    cases r with
    | tup hs hn rl =>
      rename_i a xs ds
      rw [if_neg (by simp [Dt.ty])]
      refine ⟨_, rfl, _, .inr (.inl ⟨_, hs, rfl⟩), ?_⟩
      cases rl with
      | nil =>
        refine no fun f => ?_
        obtain ⟨l, rest, e, _⟩ := flt_head f
        cases e
      | cons r0 rr =>
        rename_i v0 vr d0 dr
        refine ⟨_, rfl, a, _, 0, v0, rfl, rfl, hs, at0, d0, r0, ?_⟩
        cases r0 with
        | str l hl =>
          rw [if_neg (by simp [Dt.ty])]
          refine ⟨_, rfl, a, _, 0, Tx l, rfl, rfl, hs, at0, rfl, _, rfl, ite2 (fun h1 => ?_) (fun h1 => ?_)⟩
          · have h1 : tx l = "none" := V.str.inj (of_decide_eq_true h1)
            refine ⟨_, rfl, a, _, rfl, .inr hs, rfl, ?_⟩
            refine k _ H ?_ (Stp.refl _ _)
            rw [flt_none h1, decide_eq_true_iff]
            constructor
            · intro e
              have e := V.int.inj e
              rw [List.length_cons, rr.len] at e
              omega
            · intro e
              rw [List.length_cons, rr.len, e]
              rfl
          · have h1 : tx l ≠ "none" := fun e => h1 (decide_eq_true (congrArg V.str e))
            refine ⟨_, rfl, a, _, rfl, .inr hs, rfl, _, rfl, ite2 (fun h2 => ?_) (fun h2 => ?_)⟩
            · have hlen : vr.length = 1 := by
                have := V.int.inj (of_decide_eq_true h2)
                rw [List.length_cons] at this
                omega
              obtain ⟨v1, d1, rfl, rfl, r1⟩ := rr.one hlen
              refine ⟨_, rfl, a, _, 0, Tx l, rfl, rfl, hs, at0, _, rfl, a, _, 1, v1, rfl, rfl, hs, at1, l, v1, d1, rfl, r1, ?_, fun b H' hb S => ?_⟩
              · have := Dt.dep_mem (ds := [Dt.str l, d1]) (d := d1) (by simp)
                have e : (Dt.tup [Dt.str l, d1]).dep = Dt.depL [Dt.str l, d1] + 1 := rfl
                omega
              · refine k b H' ?_ S
                rw [hb, flt_two]
            · refine k false H ⟨fun e => (nomatch e), fun f => ?_⟩ (Stp.refl _ _)
              rw [flt_not_none h1] at f
              obtain ⟨p, rfl, _⟩ := f
              refine absurd (decide_eq_true ?_) h2
              rw [List.length_cons, rr.len]
              rfl
        | _ =>
          rw [if_pos (by simp [Dt.ty])]
          refine no fun f => ?_
          obtain ⟨l, rest, e, _⟩ := flt_head f
          cases e
    | _ =>
      rw [if_pos (by simp [Dt.ty])]
      refine no fun f => ?_
      obtain ⟨l, rest, e, _⟩ := flt_head f
      cases e
/-- all of them: the truths of a list, one for each part -/
theorem all_iff {P : Dt → Prop} : ∀ {bs : List Bool} {ds : List Dt}, bs.length = ds.length → (∀ (j : Nat) b d, bs[j]? = some b → ds[j]? = some d → (b = true ↔ P d)) → (bs.all id = true ↔ ∀ d ∈ ds, P d)
  | [], [], _, _ => by simp
  | b :: bs, d :: ds, hl, h => by
    have ih := all_iff (P := P) (bs := bs) (ds := ds) (by simpa using hl) fun j b d e1 e2 => h (j + 1) b d (by simpa using e1) (by simpa using e2)
    have h0 := h 0 b d rfl rfl
    rw [List.all_cons, Bool.and_eq_true, ih]
    simp only [id]
    rw [h0]
    simp
/-- one truth more -/
theorem more_iff {P : Dt → Prop} {bs : List Bool} {ds : List Dt} {b : Bool} {d : Dt} (h : ∀ (j : Nat) b d, bs[j]? = some b → ds[j]? = some d → (b = true ↔ P d)) (e : ds[bs.length]? = some d) (hb : b = true ↔ P d) :
    ∀ (j : Nat) b' d', (bs ++ [b])[j]? = some b' → ds[j]? = some d' → (b' = true ↔ P d') := fun j b' d' e1 e2 => by
  by_cases hj : j < bs.length
  · rw [List.getElem?_append_left hj] at e1
    exact h j b' d' e1 e2
  · rw [List.getElem?_append_right (by omega)] at e1
    have hj2 : j - bs.length = 0 := by
      have := (List.getElem?_eq_some_iff.mp e1).1
      simp at this
      omega
    have e3 : j = bs.length := by omega
    subst e3
    rw [e] at e2
    cases e2
    simp at e1
    subst e1
    exact hb
theorem can_is {wd : Str} {d : Dt} (h : wd = "is" ∨ wd = "below" ∨ wd = "above" ∨ wd = "begins") : CanF wd d ↔ IsTx d := by
  refine ⟨fun q => ?_, fun q => .inl ⟨h, q⟩⟩
  rcases q with ⟨_, q⟩ | ⟨e, _⟩ | ⟨e, _⟩ | ⟨e, _⟩ | ⟨e | e, _⟩
  · exact q
  all_goals (subst e; exact absurd h (by decide +kernel))
theorem can_say {d : Dt} : CanF "say" d ↔ ∃ b, d = .bl b := by
  refine ⟨fun q => ?_, fun q => .inr (.inl ⟨rfl, q⟩)⟩
  rcases q with ⟨e, _⟩ | ⟨_, q⟩ | ⟨e, _⟩ | ⟨e, _⟩ | ⟨e, _⟩
  · exact absurd e (by decide +kernel)
  · exact q
  all_goals exact absurd e (by decide +kernel)
theorem can_not {d : Dt} : CanF "not" d ↔ Flt d := by
  refine ⟨fun q => ?_, fun q => .inr (.inr (.inl ⟨rfl, q⟩))⟩
  rcases q with ⟨e, _⟩ | ⟨e, _⟩ | ⟨_, q⟩ | ⟨e, _⟩ | ⟨e, _⟩
  · exact absurd e (by decide +kernel)
  · exact absurd e (by decide +kernel)
  · exact q
  all_goals exact absurd e (by decide +kernel)
theorem can_among {d : Dt} : CanF "among" d ↔ ∃ ds, d = .tup ds ∧ ∀ e ∈ ds, IsTx e := by
  refine ⟨fun q => ?_, fun q => .inr (.inr (.inr (.inl ⟨rfl, q⟩)))⟩
  rcases q with ⟨e, _⟩ | ⟨e, _⟩ | ⟨e, _⟩ | ⟨_, q⟩ | ⟨e, _⟩
  · exact absurd e (by decide +kernel)
  · exact absurd e (by decide +kernel)
  · exact absurd e (by decide +kernel)
  · exact q
  · exact absurd e (by decide +kernel)
theorem can_many {wd : Str} {d : Dt} (h : wd = "and" ∨ wd = "or") : CanF wd d ↔ ∃ ds, d = .tup ds ∧ ∀ e ∈ ds, Flt e := by
  refine ⟨fun q => ?_, fun q => .inr (.inr (.inr (.inr ⟨h, q⟩)))⟩
  rcases q with ⟨e | e | e | e, _⟩ | ⟨e, _⟩ | ⟨e, _⟩ | ⟨e, _⟩ | ⟨_, q⟩
  all_goals first | exact q | (subst e; exact absurd h (by decide +kernel))
theorem can_other {wd : Str} {d : Dt} (h : wd ∉ (["is", "below", "above", "begins"] : List Str)) (h2 : wd ≠ "say") (h3 : wd ≠ "not") (h4 : wd ≠ "among") (h5 : wd ∉ (["and", "or"] : List Str)) : ¬ CanF wd d := by
  rintro (⟨e, _⟩ | ⟨e, _⟩ | ⟨e, _⟩ | ⟨e, _⟩ | ⟨e, _⟩)
  · exact h (by simpa using e)
  · exact h2 e
  · exact h3 e
  · exact h4 e
  · exact h5 (by simpa using e)
theorem can_step {f : Addr} {fd : FuncData} (D : Df K mg "can_follow" s_can_follow ["word", "part"] f fd) (T : Nm mg) {n m : Nat} (hm : 1 ≤ m) (c_is_text : Cl P w K mg base 1 "is_text" s_is_text ["value"] (spIsText K))
    (c_is_filter : Cl P w K mg base m "is_filter" s_is_filter ["value"] (spIsF K n)) : Cl P w K mg base (m + 1) "can_follow" s_can_follow ["word", "part"] (spCan K n) := by
  refine D.cl sc_can_follow (fun vs H Q E h => ?_) (fun cdv A outer s H vs Q E hr h => ?_)
  · obtain ⟨l, v, d, rfl, _⟩ := h
    rfl
  · obtain ⟨l, v, d, rfl, r, hd, k⟩ := h
    refine ⟨_, (pss_cons (ps_if (pt_cmpR op_in_seq (pv 0) (pe_tup (pa_cons pe_str (pa_cons pe_str (pa_cons pe_str (pa_cons pe_str pa_nil))))) (by first | exact nomark _ | rfl)) (pss_one (ps_ret (pe_cl c_is_text hr (by omega) (pa_cons (pv 1) pa_nil)))) pss_nil)
      (pss_cons (ps_if (pt_cmpR op_eq (pv 0) pe_str (by first | exact nomark _ | rfl)) (pss_one (ps_ret (pe_tyIs (T := "bool") Mono.var (pv 1) T.n_type T.n_bool (by decide +kernel)))) pss_nil)
      (pss_cons (ps_if (pt_cmpR op_eq (pv 0) pe_str (by first | exact nomark _ | rfl)) (pss_one (ps_ret (pe_cl c_is_filter hr (by omega) (pa_cons (pv 1) pa_nil)))) pss_nil)
      (pss_cons (ps_if (pt_cmpR op_eq (pv 0) pe_str (by first | exact nomark _ | rfl)) (pss_one (ps_ret (pe_and (pe_tyIs (T := "tuple") Mono.var (pv 1) T.n_type T.n_tuple (by decide +kernel)) (pe_one (pe_callB (cr_all rfl) (by rfl) T.n_all (by decide +kernel) (pa_cons (pe_lc (own := [("text", 2)]) rfl sc_can_follow.nd (pi_tup (pv 1)) (blkOk_by (own := [("text", 2)]) (N := N_can_follow) (sc := defScope s_can_follow) (by decide +kernel)) (fun _ _ _ _ _ => (pg_name (i := 2) sc_can_follow.nd rfl (by first | exact Or.inl rfl | exact Or.inr rfl))) (fun _ _ _ _ _ => pts_nil) (fun _ _ _ _ _ => (pe_cl c_is_text hr (by omega) (pa_cons (pv 2) pa_nil)))) pa_nil)))))) pss_nil)
      (pss_cons (ps_if (pt_cmpR op_in_seq (pv 0) (pe_tup (pa_cons pe_str (pa_cons pe_str pa_nil))) (by first | exact nomark _ | rfl)) (pss_one (ps_ret (pe_and (pe_tyIs (T := "tuple") Mono.var (pv 1) T.n_type T.n_tuple (by decide +kernel)) (pe_one (pe_callB (cr_all rfl) (by rfl) T.n_all (by decide +kernel) (pa_cons (pe_lc (own := [("inner", 3)]) rfl sc_can_follow.nd (pi_tup (pv 1)) (blkOk_by (own := [("inner", 3)]) (N := N_can_follow) (sc := defScope s_can_follow) (by decide +kernel)) (fun _ _ _ _ _ => (pg_name (i := 3) sc_can_follow.nd rfl (by first | exact Or.inl rfl | exact Or.inr rfl))) (fun _ _ _ _ _ => pts_nil) (fun _ _ _ _ _ => (pe_cl c_is_filter hr (by omega) (pa_cons (pv 3) pa_nil)))) pa_nil)))))) pss_nil)
      (pss_one (ps_ret pe_bl))))))), ?_⟩
    refine ⟨_, rfl, (by show 4 ≤ sizeLine; decide), fun t nt => ?_⟩
    have S1 : Stp [] H (upd H t (.tup [.str "is", .str "below", .str "above", .str "begins"])) := Stp.new nt _
    refine ⟨t, _, rfl, .inr (SqT.of upd_same), rfl, rfl, _, rfl, ?_⟩
    generalize upd H t (.tup [.str "is", .str "below", .str "above", .str "begins"]) = H1 at *
    have r1 : Rp K H1 v d := r.stp S1 Lsts.nil
    have i1 := inV_str (tx l) (["is", "below", "above", "begins"] : List Str)
    refine ite2 (fun h1 => ?_) (fun h1 => ?_)
    · refine ⟨_, rfl, v, d, rfl, r1, fun b hb => ?_⟩
      refine k b _ ?_ S1
      have h2 : inV (Tx l) ((["is", "below", "above", "begins"] : List Str).map V.str) = true := h1
      rw [i1] at h2
      rw [hb, can_is (by simpa using of_decide_eq_true h2)]
    have g1 : tx l ∉ (["is", "below", "above", "begins"] : List Str) := fun q => h1 (i1.trans (decide_eq_true q))
    refine ⟨_, rfl, rfl, _, rfl, ite2 (fun h2 => ?_) (fun h2 => ?_)⟩
    · have h2 : tx l = "say" := V.str.inj (of_decide_eq_true h2)
      refine ⟨_, rfl, d, r1, k _ _ ?_ S1⟩
      rw [h2, can_say, Bool.false_xor, decide_eq_true_iff]
      constructor
      · intro e
        cases d <;> simp [Dt.ty] at e
        exact ⟨_, rfl⟩
      · rintro ⟨b, rfl⟩
        rfl
    have g2 : tx l ≠ "say" := fun e => h2 (decide_eq_true (congrArg V.str e))
    refine ⟨_, rfl, rfl, _, rfl, ite2 (fun h3 => ?_) (fun h3 => ?_)⟩
    · have h3 : tx l = "not" := V.str.inj (of_decide_eq_true h3)
      refine ⟨_, rfl, v, d, rfl, r1, hd, fun b H' hb S => k b H' ?_ (S1.trans S)⟩
      rw [hb, h3, can_not]
    have g3 : tx l ≠ "not" := fun e => h3 (decide_eq_true (congrArg V.str e))
    refine ⟨_, rfl, rfl, _, rfl, ite2 (fun h4 => ?_) (fun h4 => ?_)⟩
    · have h4 : tx l = "among" := V.str.inj (of_decide_eq_true h4)
      refine ⟨_, rfl, d, r1, _, rfl, ?_⟩
      cases r1 with
      | tup hs hn rl =>
        rename_i a xs ds
        rw [if_pos (by simp [Dt.ty])]
        refine ⟨_, rfl, a, rfl, ⟨_, hs⟩, fun L nL => ?_⟩
        refine lc_tup (a := a) (xs := xs) (fun i H2 => ∃ bs : List Bool, bs.length = i ∧ H2 L = some (.lst (bs.map V.bl)) ∧ Stp [] H1 H2 ∧ ∀ (j : Nat) b d, bs[j]? = some b → ds[j]? = some d → (b = true ↔ IsTx d))
          ⟨[], rfl, upd_same, Stp.new nL _, fun j b d e => by simp at e⟩ (fun i H2 _ ⟨bs, _, _, S, _⟩ => sqt_stp S Lsts.nil hs) ?_ ?_
        · rintro i x H2 hi ⟨bs, hl, hL, S, hb⟩
          obtain ⟨e, he, re⟩ := rl.get hi
          refine ⟨rfl, _, rfl, x, e, rfl, re.stp S Lsts.nil, fun b hbe => ?_⟩
          refine ⟨bs.map V.bl, hL, ?_, bs ++ [b], by simp [hl], ?_, S.mut nL, more_iff hb (by rw [hl]; exact he) hbe⟩
          · have h1 := (List.getElem?_eq_some_iff.mp hi).1
            rw [List.length_map, hl]
            exact Nat.lt_of_lt_of_le (show i < 100000 by omega) (by decide)
          · rw [List.map_append]
            exact upd_same
        · rintro H2 ⟨bs, hl, hL, S, hb⟩
          refine ⟨L, bs, rfl, SqL.of hL, k _ _ ?_ (S1.trans S)⟩
          rw [all_iff (by rw [hl, rl.len]) hb, h4, can_among]
          exact ⟨fun q => ⟨ds, rfl, q⟩, fun ⟨ds', e, q⟩ => by cases e; exact q⟩
      | _ =>
        rw [if_neg (by simp [Dt.ty])]
        refine k _ _ ⟨fun e => (nomatch e), fun q => ?_⟩ S1
        rw [h4, can_among] at q
        obtain ⟨ds, e, _⟩ := q
        cases e
    have g4 : tx l ≠ "among" := fun e => h4 (decide_eq_true (congrArg V.str e))
    refine ⟨_, rfl, (by show 2 ≤ sizeLine; decide), fun t2 nt2 => ?_⟩
    have S2 : Stp [] H1 (upd H1 t2 (.tup [.str "and", .str "or"])) := Stp.new nt2 _
    refine ⟨t2, _, rfl, .inr (SqT.of upd_same), rfl, rfl, _, rfl, ?_⟩
    generalize upd H1 t2 (.tup [.str "and", .str "or"]) = H2 at *
    have r2 : Rp K H2 v d := r1.stp S2 Lsts.nil
    have i2 := inV_str (tx l) (["and", "or"] : List Str)
    have SS := S1.trans S2
    refine ite2 (fun h5 => ?_) (fun h5 => ?_)
    · have h6 : inV (Tx l) ((["and", "or"] : List Str).map V.str) = true := h5
      rw [i2] at h6
      have h7 : tx l = "and" ∨ tx l = "or" := by simpa using of_decide_eq_true h6
      refine ⟨_, rfl, d, r2, _, rfl, ?_⟩
      cases r2 with
      | tup hs hn rl =>
        rename_i a xs ds
        rw [if_pos (by simp [Dt.ty])]
        refine ⟨_, rfl, a, rfl, ⟨_, hs⟩, fun L nL => ?_⟩
        refine lc_tup (a := a) (xs := xs) (fun i H3 => ∃ bs : List Bool, bs.length = i ∧ H3 L = some (.lst (bs.map V.bl)) ∧ Stp [] H2 H3 ∧ ∀ (j : Nat) b d, bs[j]? = some b → ds[j]? = some d → (b = true ↔ Flt d))
          ⟨[], rfl, upd_same, Stp.new nL _, fun j b d e => by simp at e⟩ (fun i H3 _ ⟨bs, _, _, S, _⟩ => sqt_stp S Lsts.nil hs) ?_ ?_
        · rintro i x H3 hi ⟨bs, hl, hL, S, hb⟩
          obtain ⟨e, he, re⟩ := rl.get hi
          refine ⟨rfl, _, rfl, x, e, rfl, re.stp S Lsts.nil, ?_, fun b H4 hbe S4 => ?_⟩
          · have h1 := Dt.dep_mem (List.mem_of_getElem? he)
            have h2 : (Dt.tup ds).dep = Dt.depL ds + 1 := rfl
            omega
          refine ⟨bs.map V.bl, S4.kp _ _ (fun m => nomatch m) hL, ?_, bs ++ [b], by simp [hl], ?_, (S.trans S4).mut nL, more_iff hb (by rw [hl]; exact he) hbe⟩
          · have h1 := (List.getElem?_eq_some_iff.mp hi).1
            rw [List.length_map, hl]
            exact Nat.lt_of_lt_of_le (show i < 100000 by omega) (by decide)
          · rw [List.map_append]
            exact upd_same
        · rintro H3 ⟨bs, hl, hL, S, hb⟩
          refine ⟨L, bs, rfl, SqL.of hL, k _ _ ?_ (SS.trans S)⟩
          rw [all_iff (by rw [hl, rl.len]) hb, can_many h7]
          exact ⟨fun q => ⟨ds, rfl, q⟩, fun ⟨ds', e, q⟩ => by cases e; exact q⟩
      | _ =>
        rw [if_neg (by simp [Dt.ty])]
        refine k _ _ ⟨fun e => (nomatch e), fun q => ?_⟩ SS
        rw [can_many h7] at q
        obtain ⟨ds, e, _⟩ := q
        cases e
    have g5 : tx l ∉ (["and", "or"] : List Str) := fun q => h5 (i2.trans (decide_eq_true q))
    exact k _ _ ⟨fun e => (nomatch e), fun q => absurd q (can_other g1 g2 g3 g4 g5)⟩ SS
/-- a promise that asks for nothing -/
theorem cl_never {x : Str} {st : Stmt} {ps : List Str} {f : Addr} {fd : FuncData} (D : Df K mg x st ps f fd) {sp : Sp} (h : ∀ vs H Q E, ¬ sp vs H Q E) (k : Nat) : Cl P w K mg base k x st ps sp :=
  ⟨f, fd, D, ⟨fun vs H Q E q => absurd q (h vs H Q E), fun A outer s H args us vs Q E _ _ _ _ q => absurd q (h vs H Q E)⟩⟩
theorem both_filter {f1 f2 f3 : Addr} {fd1 fd2 fd3 : FuncData} (D1 : Df K mg "is_text" s_is_text ["value"] f1 fd1) (D2 : Df K mg "is_filter" s_is_filter ["value"] f2 fd2) (D3 : Df K mg "can_follow" s_can_follow ["word", "part"] f3 fd3) (T : Nm mg) :
    ∀ n : Nat, Cl P w K mg base (2 * n + 1) "is_filter" s_is_filter ["value"] (spIsF K n) ∧ Cl P w K mg base (2 * n + 2) "can_follow" s_can_follow ["word", "part"] (spCan K n)
  | 0 => by
    have h1 : Cl P w K mg base 1 "is_filter" s_is_filter ["value"] (spIsF K 0) := cl_never D2 (fun vs H Q E ⟨v, d, _, _, hd, _⟩ => Nat.not_lt_zero _ hd) 1
    exact ⟨h1, can_step D3 T (Nat.le_refl _) (cl_is_text D1 T) h1⟩
  | n + 1 => by
    obtain ⟨h1, h2⟩ := both_filter D1 D2 D3 T n
    have h3 : Cl P w K mg base (2 * (n + 1) + 1) "is_filter" s_is_filter ["value"] (spIsF K (n + 1)) := (isf_step D2 T (by omega) h2).mono (by omega)
    exact ⟨h3, can_step D3 T (by omega) (cl_is_text D1 T) h3⟩
abbrev s_text_word : Stmt := topS 26
abbrev N_text_word : List Str := ["text"]
theorem sc_text_word : FnScope ["text"] ["text"] (defScope s_text_word) := ⟨rfl, rfl, rfl, by decide +kernel, rfl, by decide +kernel, by decide +kernel⟩

abbrev s_filter_words : Stmt := topS 25
abbrev N_filter_words : List Str := ["query", "word", "text", "part", "inner"]
theorem sc_filter_words : FnScope ["query", "word", "text", "part", "inner"] ["query"] (defScope s_filter_words) := ⟨rfl, rfl, rfl, by decide +kernel, rfl, by decide +kernel, by decide +kernel⟩

abbrev s_check_filter : Stmt := topS 13
abbrev N_check_filter : List Str := ["query"]
theorem sc_check_filter : FnScope ["query"] ["query"] (defScope s_check_filter) := ⟨rfl, rfl, rfl, by decide +kernel, rfl, by decide +kernel, by decide +kernel⟩

abbrev s_write_filter : Stmt := topS 24
abbrev N_write_filter : List Str := ["query"]
theorem sc_write_filter : FnScope ["query"] ["query"] (defScope s_write_filter) := ⟨rfl, rfl, rfl, by decide +kernel, rfl, by decide +kernel, by decide +kernel⟩

/-! ### the words of a filter -/
abbrev Txt := List Nat
def wdS (l : Txt) : Str := if l = [] then "-" else tx l
def spTW : Sp := fun vs H Q _ => ∃ l : Txt, vs = [Tx l] ∧ l.length ≤ 100000 ∧ Q (.str (wdS l)) H
theorem cl_text_word {f : Addr} {fd : FuncData} (D : Df K mg "text_word" s_text_word ["text"] f fd) (T : Nm mg) : Cl P w K mg base 1 "text_word" s_text_word ["text"] spTW := by
  refine D.cl sc_text_word (fun vs H Q E h => ?_) (fun cdv A outer s H vs Q E hr h => ?_)
  · obtain ⟨l, rfl, _⟩ := h
    rfl
  · obtain ⟨l, rfl, hl, k⟩ := h
    refine ⟨_, (pss_one (ps_ret (pe_ifExp (pt_truth (pv 0) (by intro _; rfl)) (pv 0) pe_str))), ?_⟩
    have hz : (tx l).length ≤ sizeLine := by rw [tx_len]; exact Nat.le_trans hl (by decide)
    cases l with
    | nil => exact ⟨_, rfl, false, ⟨hz, rfl⟩, ite2 (fun h => nomatch h) (fun _ => k)⟩
    | cons c l => exact ⟨_, rfl, true, ⟨hz, (bne_iff_ne.mpr (by rw [tx_len, List.length_cons]; omega)).symm⟩, ite2 (fun _ => ⟨_, rfl, k⟩) (fun h => absurd rfl h)⟩
theorem rp1 {K : PySem.W.Frag} {H : Hp} {v : V} {w : Str} (r : Rp K H v (.tup [.str w.cps.toList])) : ∃ a, v = .ref a ∧ SqT K H a [.str w] := by
  cases r with
  | tup hs _ rl =>
    cases rl with
    | cons r0 rr =>
      cases rr
      cases r0
      rw [show Tx w.cps.toList = V.str w from congrArg V.str (lit_tx w)] at hs
      exact ⟨_, rfl, hs⟩
theorem rp2 {K : PySem.W.Frag} {H : Hp} {v : V} {w : Str} {p : Dt} (r : Rp K H v (.tup [.str w.cps.toList, p])) : ∃ a u, v = .ref a ∧ SqT K H a [.str w, u] ∧ Rp K H u p := by
  cases r with
  | tup hs _ rl =>
    cases rl with
    | cons r0 rr =>
      cases rr with
      | cons r1 rn =>
        cases rn
        cases r0
        rw [show Tx w.cps.toList = V.str w from congrArg V.str (lit_tx w)] at hs
        exact ⟨_, _, rfl, hs, r1⟩
theorem dep_two {a p : Dt} {n : Nat} (h : (Dt.tup [a, p]).dep < n + 1) : p.dep < n := by
  have h1 := Dt.dep_mem (ds := [a, p]) (d := p) (by simp)
  have e : (Dt.tup [a, p]).dep = Dt.depL [a, p] + 1 := rfl
  omega
theorem dep_in {a d : Dt} {ds : List Dt} {n : Nat} (h : (Dt.tup [a, .tup ds]).dep < n + 1) (m : d ∈ ds) : d.dep < n := by
  have h1 := dep_two h
  have h2 := Dt.dep_mem m
  have e : (Dt.tup ds).dep = Dt.depL ds + 1 := rfl
  omega
def strW : Dt → Str
  | .str l => wdS l
  | _ => ""
def numS (n : Nat) : Str := Str.ofString (toString (n : Int))
def fwP (f : Dt → List Str) (z : Str) (p : Dt) : List Str :=
  if z = "say" then (match p with | .bl b => [if b = true then "yes" else "no"] | _ => [])
  else if z = "not" then f p
  else if z = "among" then (match p with | .tup ds => numS ds.length :: ds.map strW | _ => [])
  else if z = "and" ∨ z = "or" then (match p with | .tup ds => numS ds.length :: ds.flatMap f | _ => [])
  else [strW p]
def fwS (f : Dt → List Str) : Dt → List Str
  | .tup [.str l] => [tx l]
  | .tup [.str l, p] => tx l :: fwP f (tx l) p
  | _ => []
/-- the words of a filter, its depth below n -/
def fw : Nat → Dt → List Str
  | 0, _ => []
  | n + 1, d => fwS (fw n) d
theorem fw_two (n : Nat) (z : Str) (p : Dt) : fw (n + 1) (.tup [.str z.cps.toList, p]) = z :: fwP (fw n) z p := by
  show tx z.cps.toList :: fwP (fw n) (tx z.cps.toList) p = _
  rw [lit_tx]
theorem fw_none (n : Nat) : fw (n + 1) (.tup [.str ("none" : Str).cps.toList]) = [("none" : Str)] := by
  show [tx ("none" : Str).cps.toList] = [("none" : Str)]
  rw [lit_tx]
/-- no more than a hundred thousand words, texts of a thousand letters -/
def spFW (K : PySem.W.Frag) (n : Nat) : Sp := fun vs H Q _ => ∃ v d, vs = [v] ∧ Rp K H v d ∧ Flt d ∧ d.dep < n ∧ (fw n d).length ≤ 100000 ∧ ∀ L H', H L = none → Stp [] H H' → H' L = some (.lst ((fw n d).map V.str)) → Q (.ref L) H'
theorem pi_tupK {X : Cx} {K : PySem.W.Frag} (hK : X.K = K) {tg l : Expr} {tl : TE} (hl : PE X l tl) : PI X tg l (iTup K tl) := by
  subst hK
  exact pi_tup hl
theorem pi_listK {X : Cx} {K : PySem.W.Frag} (hK : X.K = K) {tg l : Expr} {tl : TE} (hl : PE X l tl) : PI X tg l (iList K tl) := by
  subst hK
  exact pi_list hl
theorem bl_str {l : List Nat} {s : Str} : decide (Tx l = V.str s) = decide (tx l = s) := by
  by_cases h : tx l = s
  · rw [decide_eq_true (congrArg V.str h), decide_eq_true h]
  · rw [decide_eq_false h, decide_eq_false (fun q => h (V.str.inj q))]
theorem in_strs {K : PySem.W.Frag} {H : Hp} {l : List Nat} {ss : List Str} {p : Addr} {Q : VK} (hp : SqL K H p (ss.map V.str) ∨ SqT K H p (ss.map V.str)) (k : Q (.bl (decide (tx l ∈ ss))) H) : rIn K false (Tx l) (.ref p) H Q := by
  refine ⟨p, ss.map V.str, rfl, hp, rfl, ?_, ?_⟩
  · rw [List.all_map]
    exact List.all_eq_true.mpr fun _ _ => rfl
  · show Q (.bl (inV (.str (tx l)) (ss.map V.str))) H
    rw [inV_str]
    exact k
theorem in_str {K : PySem.W.Frag} {H : Hp} {z : Str} {ss : List Str} {p : Addr} {Q : VK} (hp : SqT K H p (ss.map V.str)) (k : Q (.bl (decide (z ∈ ss))) H) : rIn K false (.str z) (.ref p) H Q := by
  have e : V.str z = Tx z.cps.toList := congrArg V.str (lit_tx z).symm
  rw [e]
  refine in_strs (.inr hp) ?_
  rw [lit_tx]
  exact k
theorem log_len {n : Nat} (h : n ≤ 100000) : ((n : Nat) : Int).natAbs.log2 < 1920 := by
  by_cases e : n = 0
  · subst e; decide
  · exact (Nat.log2_lt e).mpr (Nat.lt_of_le_of_lt h (by decide +kernel))
theorem sz2 {n : Nat} (h : n ≤ 200000) : n ≤ sizeLine := Nat.le_trans h (by decide)
theorem fwP_among (f : Dt → List Str) (ds : List Dt) : fwP f "among" (.tup ds) = numS ds.length :: ds.map strW := by unfold fwP; rw [if_neg (by decide +kernel), if_neg (by decide +kernel), if_pos rfl]
theorem fwP_many (f : Dt → List Str) {z : Str} (h : z = "and" ∨ z = "or") (ds : List Dt) : fwP f z (.tup ds) = numS ds.length :: ds.flatMap f := by
  unfold fwP
  rw [if_neg (by rcases h with rfl | rfl <;> decide +kernel), if_neg (by rcases h with rfl | rfl <;> decide +kernel), if_neg (by rcases h with rfl | rfl <;> decide +kernel), if_pos h]
theorem fwP_tx (f : Dt → List Str) {z : Str} (h : z = "is" ∨ z = "below" ∨ z = "above" ∨ z = "begins") (l : List Nat) : fwP f z (.str l) = [wdS l] := by
  unfold fwP
  rcases h with rfl | rfl | rfl | rfl <;> (rw [if_neg (by decide +kernel), if_neg (by decide +kernel), if_neg (by decide +kernel), if_neg (by decide +kernel)]; rfl)
theorem lcg_tup {K : PySem.W.Frag} {a : Addr} {xs : List V} {step : V → Hp → (Hp → Prop) → Prop} {H0 : Hp} {Qd : Hp → Prop} (Pv : Nat → Hp → Prop) (h0 : Pv 0 H0) (hl : ∀ i H, i ≤ xs.length → Pv i H → SqT K H a xs)
    (hs : ∀ i x H, xs[i]? = some x → Pv i H → step x H (Pv (i + 1))) (hd : ∀ H, Pv xs.length H → Qd H) :
    ∃ W : Nat → Nat → Hp → Prop, (∃ m, W 0 m H0) ∧ ∀ i m H, W i m H → ((Itt K a).stop i H ∧ Qd H) ∨ ((Itt K a).go i H ∧ ∃ Nx : Hp → Prop, (∀ H', Nx H' → ∃ m', m' < m ∧ W (i + 1) m' H') ∧ ∀ x H', (Itt K a).yld i H x H' → step x H' Nx) := by
  refine ⟨fun i m H => m = xs.length - i ∧ i ≤ xs.length ∧ Pv i H, ⟨xs.length, by simp, Nat.zero_le _, h0⟩, ?_⟩
  rintro i m H ⟨rfl, hi, p⟩
  have q := hl i H hi p
  by_cases hlt : i < xs.length
  · refine .inr ⟨⟨xs, xs[i], q, by simp [hlt]⟩, Pv (i + 1), fun H' p' => ⟨xs.length - (i + 1), by omega, rfl, hlt, p'⟩, fun x H' y => ?_⟩
    obtain ⟨e, y⟩ := y
    subst e
    exact hs i x _ (y xs q) p
  · have e : i = xs.length := by omega
    subst e
    exact .inl ⟨⟨xs, q, Nat.le_refl _⟩, hd H p⟩
theorem lcg_list {K : PySem.W.Frag} {a : Addr} {xs : List V} {step : V → Hp → (Hp → Prop) → Prop} {H0 : Hp} {Qd : Hp → Prop} (Pv : Nat → Hp → Prop) (h0 : Pv 0 H0) (hl : ∀ i H, i ≤ xs.length → Pv i H → SqL K H a xs)
    (hs : ∀ i x H, xs[i]? = some x → Pv i H → step x H (Pv (i + 1))) (hd : ∀ H, Pv xs.length H → Qd H) :
    ∃ W : Nat → Nat → Hp → Prop, (∃ m, W 0 m H0) ∧ ∀ i m H, W i m H → ((Itl K a).stop i H ∧ Qd H) ∨ ((Itl K a).go i H ∧ ∃ Nx : Hp → Prop, (∀ H', Nx H' → ∃ m', m' < m ∧ W (i + 1) m' H') ∧ ∀ x H', (Itl K a).yld i H x H' → step x H' Nx) := by
  refine ⟨fun i m H => m = xs.length - i ∧ i ≤ xs.length ∧ Pv i H, ⟨xs.length, by simp, Nat.zero_le _, h0⟩, ?_⟩
  rintro i m H ⟨rfl, hi, p⟩
  have q := hl i H hi p
  by_cases hlt : i < xs.length
  · refine .inr ⟨⟨xs, xs[i], q, by simp [hlt]⟩, Pv (i + 1), fun H' p' => ⟨xs.length - (i + 1), by omega, rfl, hlt, p'⟩, fun x H' y => ?_⟩
    obtain ⟨e, y⟩ := y
    subst e
    exact hs i x _ (y xs q) p
  · have e : i = xs.length := by omega
    subst e
    exact .inl ⟨⟨xs, q, Nat.le_refl _⟩, hd H p⟩
theorem flat_take {α β : Type} (f : α → List β) {ds : List α} {i : Nat} {d : α} (h : ds[i]? = some d) : (ds.take (i + 1)).flatMap f = (ds.take i).flatMap f ++ f d := by
  rw [List.take_add_one, h, List.flatMap_append]
  simp
theorem flat_len {α β : Type} (f : α → List β) (ds : List α) (i : Nat) : ((ds.take i).flatMap f).length ≤ (ds.flatMap f).length := by
  conv => rhs; rw [← List.take_append_drop i ds, List.flatMap_append, List.length_append]
  omega
theorem fw_step {f : Addr} {fd : FuncData} (D : Df K mg "filter_words" s_filter_words ["query"] f fd) (T : Nm mg) (TG : Ng K w mg) {n m : Nat} (hm : 1 ≤ m) (c_text_word : Cl P w K mg base 1 "text_word" s_text_word ["text"] spTW) (c_filter_words : Cl P w K mg base m "filter_words" s_filter_words ["query"] (spFW K n)) :
    Cl P w K mg base (m + 1) "filter_words" s_filter_words ["query"] (spFW K (n + 1)) := by
  refine D.cl sc_filter_words (fun vs H Q E h => ?_) (fun cdv A outer s H vs Q E hr h => ?_)
  · obtain ⟨v, d, rfl, _⟩ := h
    rfl
  · obtain ⟨v, d, rfl, r, fl, dp, few, k⟩ := h
    refine ⟨_, (pss_cons (ps_set (i := 1) sc_filter_words.nd rfl (by first | exact Or.inl rfl | exact Or.inr rfl) (pe_ix ix_tup (pv 0) pe_int (fun _ _ => rfl)))
      (pss_cons (ps_if (pt_cmpR op_eq (pv 1) pe_str (by first | exact nomark _ | rfl)) (pss_one (ps_ret (pe_lst (pa_cons (pv 1) pa_nil)))) pss_nil)
      (pss_cons (ps_if (pt_cmpR op_eq (pv 1) pe_str (by first | exact nomark _ | rfl)) (pss_one (ps_ret (pe_lst (pa_cons (pv 1) (pa_cons (pe_ifExp (pt_truth (pe_ix ix_tup (pv 0) pe_int (fun _ _ => rfl)) (by intro _; rfl)) pe_str pe_str) pa_nil))))) pss_nil)
      (pss_cons (ps_if (pt_cmpR op_eq (pv 1) pe_str (by first | exact nomark _ | rfl)) (pss_one (ps_ret (pe_lst (pa_cons (pv 1) (StX.pa_star (pe_cl c_filter_words hr (by omega) (pa_cons (pe_ix ix_tup (pv 0) pe_int (fun _ _ => rfl)) pa_nil)) pa_nil))))) pss_nil)
      (pss_cons (ps_if (pt_cmpR op_eq (pv 1) pe_str (by first | exact nomark _ | rfl)) (pss_one (ps_ret (pe_op op_cat (pe_lst (pa_cons (pv 1) (pa_cons (pe_callTy call_str_int (by rfl) T.n_str (by decide +kernel) (pa_cons (pe_callB call_len_seq (by rfl) T.n_len (by decide +kernel) (pa_cons (pe_ix ix_tup (pv 0) pe_int (fun _ _ => rfl)) pa_nil)) pa_nil)) pa_nil))) (pe_lc (own := [("text", 2)]) rfl sc_filter_words.nd (pi_tup (pe_ix ix_tup (pv 0) pe_int (fun _ _ => rfl))) (blkOk_by (own := [("text", 2)]) (N := N_filter_words) (sc := defScope s_filter_words) (by decide +kernel)) (fun _ _ _ _ _ => (pg_name (i := 2) sc_filter_words.nd rfl (by first | exact Or.inl rfl | exact Or.inr rfl))) (fun _ _ _ _ _ => pts_nil) (fun _ _ _ _ _ => (pe_cl c_text_word hr (by omega) (pa_cons (pv 2) pa_nil))))))) pss_nil)
      (pss_cons (ps_if (pt_cmpR op_in_seq (pv 1) (pe_glob (v := .ref TG.TEXT_WORDS) rfl TG.g_TEXT_WORDS rfl) (by first | exact nomark _ | rfl)) (pss_one (ps_ret (pe_lst (pa_cons (pv 1) (pa_cons (pe_cl c_text_word hr (by omega) (pa_cons (pe_ix ix_tup (pv 0) pe_int (fun _ _ => rfl)) pa_nil)) pa_nil))))) pss_nil)
      (pss_one (ps_ret (pe_op op_cat (pe_lst (pa_cons (pv 1) (pa_cons (pe_callTy call_str_int (by rfl) T.n_str (by decide +kernel) (pa_cons (pe_callB call_len_seq (by rfl) T.n_len (by decide +kernel) (pa_cons (pe_ix ix_tup (pv 0) pe_int (fun _ _ => rfl)) pa_nil)) pa_nil)) pa_nil))) (pe_lc2 (own := [("part", 3), ("inner", 4)]) (vs1 := [4]) rfl sc_filter_words.nd (pi_tup (pe_ix ix_tup (pv 0) pe_int (fun _ _ => rfl))) (blkOk_by (own := [("part", 3), ("inner", 4)]) (N := N_filter_words) (sc := defScope s_filter_words) (by decide +kernel)) (by decide) (fun _ _ _ _ _ => (pg_name (i := 3) sc_filter_words.nd rfl (by first | exact Or.inl rfl | exact Or.inr rfl))) (fun _ _ _ _ _ => pts_nil) (fun _ _ _ _ _ => (pi_listK (K := K) (tl := Pg.tCl (spFW K n) (L2.tCons (L2.tVar 3) L2.tNil)) rfl (pe_cl c_filter_words hr (by omega) (pa_cons (pv 3) pa_nil)))) (fun _ _ _ _ _ => (pg_name (i := 4) sc_filter_words.nd rfl (by first | exact Or.inl rfl | exact Or.inr rfl))) (fun _ _ _ _ _ => pts_nil) (fun _ _ _ _ _ => (pv 4)))))))))))), ?_⟩
    have nn : ∀ {x : Addr}, x ∉ ([] : List Addr) := fun m => nomatch m
    have nf : ∀ {a b : Str}, a ≠ b → ¬ decide (V.str a = V.str b) = true := fun n h => n (V.str.inj (of_decide_eq_true h))
    have tf : ∀ {a : Str}, decide (V.str a = V.str a) = true := decide_eq_true rfl
    cases fl with
    | none =>
      obtain ⟨a, rfl, hs⟩ := rp1 r
      rw [fw_none] at k
      refine ⟨_, rfl, a, _, 0, _, rfl, rfl, hs, at0, ?_⟩
      refine ⟨_, rfl, rfl, _, rfl, ite2 (fun _ => ?_) (fun h => absurd tf h)⟩
      exact ⟨_, rfl, (by show 1 ≤ sizeLine; decide), fun p np => k p _ np (Stp.new np _) upd_same⟩
    | say b =>
      obtain ⟨a, u, rfl, hs, ru⟩ := rp2 r
      cases ru
      rw [fw_two] at k
      refine ⟨_, rfl, a, _, 0, _, rfl, rfl, hs, at0, ?_⟩
      refine ⟨_, rfl, rfl, _, rfl, ite2 (fun h => absurd h (nf (by decide +kernel))) (fun _ => ?_)⟩
      refine ⟨_, rfl, rfl, _, rfl, ite2 (fun _ => ?_) (fun h => absurd tf h)⟩
      refine ⟨_, rfl, _, rfl, a, _, 1, _, rfl, rfl, hs, at1, b, rfl, ?_⟩
      cases b with
      | true => exact ite2 (fun _ => ⟨(by show 2 ≤ sizeLine; decide), fun p np => k p _ np (Stp.new np _) upd_same⟩) (fun h => absurd rfl h)
      | false => exact ite2 (fun h => nomatch h) (fun _ => ⟨(by show 2 ≤ sizeLine; decide), fun p np => k p _ np (Stp.new np _) upd_same⟩)
    | not f =>
      obtain ⟨a, u, rfl, hs, ru⟩ := rp2 r
      have ef : ∀ g, fwP g "not" = g := fun g => by funext p; unfold fwP; rw [if_neg (by decide +kernel), if_pos rfl]
      rw [fw_two, ef] at k few
      refine ⟨_, rfl, a, _, 0, _, rfl, rfl, hs, at0, ?_⟩
      refine ⟨_, rfl, rfl, _, rfl, ite2 (fun h => absurd h (nf (by decide +kernel))) (fun _ => ?_)⟩
      refine ⟨_, rfl, rfl, _, rfl, ite2 (fun h => absurd h (nf (by decide +kernel))) (fun _ => ?_)⟩
      refine ⟨_, rfl, rfl, _, rfl, ite2 (fun _ => ?_) (fun h => absurd tf h)⟩
      rw [List.length_cons] at few
      refine ⟨_, rfl, _, rfl, a, _, 1, u, rfl, rfl, hs, at1, u, _, rfl, ru, f, dep_two dp, by omega, fun L H1 _ S1 hL => ?_⟩
      refine ⟨L, _, rfl, .inr (SqL.of hL), ?_, fun p np => ?_⟩
      · rw [List.length_cons, List.length_append, List.length_map]
        exact sz2 (by simp; omega)
      · refine k p _ (S1.fresh nn np) (S1.new' np) ?_
        rw [upd_same, List.append_nil]
        rfl
    | @among ds mt =>
      obtain ⟨a, u, rfl, hs, ru⟩ := rp2 r
      rw [fw_two, fwP_among] at k few
      refine ⟨_, rfl, a, _, 0, _, rfl, rfl, hs, at0, ?_⟩
      refine ⟨_, rfl, rfl, _, rfl, ite2 (fun h => absurd h (nf (by decide +kernel))) (fun _ => ?_)⟩
      refine ⟨_, rfl, rfl, _, rfl, ite2 (fun h => absurd h (nf (by decide +kernel))) (fun _ => ?_)⟩
      refine ⟨_, rfl, rfl, _, rfl, ite2 (fun h => absurd h (nf (by decide +kernel))) (fun _ => ?_)⟩
      refine ⟨_, rfl, rfl, _, rfl, ite2 (fun _ => ?_) (fun h => absurd tf h)⟩
      cases ru with
      | tup hU hz rl =>
        rename_i t xs
        have lx := rl.len
        refine ⟨_, rfl, _, rfl, a, _, 1, _, rfl, rfl, hs, at1, t, xs, rfl, .inr hU, _, rfl, log_len hz, (by show 2 ≤ sizeLine; decide), fun p np => ?_⟩
        have S1 : Stp [] H (upd H p (.lst [.str "among", .str (Str.ofString (toString (xs.length : Int)))])) := Stp.new np _
        have hp : (upd H p (.lst [.str "among", .str (Str.ofString (toString (xs.length : Int)))])) p = some (.lst [.str "among", .str (numS ds.length)]) := by rw [upd_same, lx]; rfl
        have hs1 := sqt_stp S1 Lsts.nil hs
        have hU1 := sqt_stp S1 Lsts.nil hU
        generalize upd H p (.lst [.str "among", .str (Str.ofString (toString (xs.length : Int)))]) = H1 at *
        refine ⟨_, rfl, a, _, 1, _, rfl, rfl, hs1, at1, t, rfl, ⟨_, hU1⟩, fun L nL => ?_⟩
        refine lc_tup (a := t) (xs := xs) (fun i H' => H' L = some (.lst (((ds.take i).map strW).map V.str)) ∧ Stp [] H1 H') ⟨upd_same, Stp.new nL _⟩ (fun i H' _ ⟨_, S⟩ => sqt_stp S Lsts.nil hU1) ?_ ?_
        · rintro i x H' hi ⟨hL, S⟩
          obtain ⟨d, hd, rx⟩ := rl.get hi
          obtain ⟨l, rfl, al⟩ := mt d (List.mem_of_getElem? hd)
          cases rx with
          | str _ hl =>
            refine ⟨rfl, _, rfl, l, rfl, hl, _, hL, ?_, ?_, S.mut nL⟩
            · rw [List.length_map, List.length_map, List.length_take]
              exact Nat.lt_of_le_of_lt (show min i ds.length ≤ 100000 by omega) (by decide)
            · rw [upd_same, List.take_add_one, hd]
              simp [strW]
        rintro H' ⟨hL, S⟩
        rw [lx, List.take_length] at hL
        have S2 := S1.trans S
        refine ⟨p, L, _, _, rfl, rfl, S.kp _ _ nn hp, hL, ?_, fun q nq => ?_⟩
        · rw [List.length_map, List.length_map]
          exact sz2 (by simp; omega)
        · exact k q _ (S2.fresh nn nq) (S2.new' nq) upd_same
    | @tx z l hw al =>
      obtain ⟨a, u, rfl, hs, ru⟩ := rp2 r
      rw [fw_two, fwP_tx _ hw] at k few
      have mz : z ∈ (["is", "below", "above", "begins"] : List Str) := by simpa using hw
      have nz : z ≠ "none" ∧ z ≠ "say" ∧ z ≠ "not" ∧ z ≠ "among" := by
        rcases hw with rfl | rfl | rfl | rfl <;> decide +kernel
      refine ⟨_, rfl, a, _, 0, _, rfl, rfl, hs, at0, ?_⟩
      refine ⟨_, rfl, rfl, _, rfl, ite2 (fun h => absurd h (nf nz.1)) (fun _ => ?_)⟩
      refine ⟨_, rfl, rfl, _, rfl, ite2 (fun h => absurd h (nf nz.2.1)) (fun _ => ?_)⟩
      refine ⟨_, rfl, rfl, _, rfl, ite2 (fun h => absurd h (nf nz.2.2.1)) (fun _ => ?_)⟩
      refine ⟨_, rfl, rfl, _, rfl, ite2 (fun h => absurd h (nf nz.2.2.2)) (fun _ => ?_)⟩
      cases ru with
      | str _ hl =>
        refine ⟨_, rfl, ?_⟩
        dsimp only [tC]
        refine in_str (z := z) (ss := ["is", "below", "above", "begins"]) (TG.tws H) ?_
        refine ⟨_, rfl, ite2 (fun _ => ?_) (fun h => absurd (decide_eq_true mz) h)⟩
        exact ⟨_, rfl, _, rfl, a, _, 1, _, rfl, rfl, hs, at1, l, rfl, hl, (by show 2 ≤ sizeLine; decide), fun p np => k p _ np (Stp.new np _) upd_same⟩
    | @many z ds hw mf =>
      obtain ⟨a, u, rfl, hs, ru⟩ := rp2 r
      rw [fw_two, fwP_many _ hw] at k few
      have mz : z ∉ (["is", "below", "above", "begins"] : List Str) := by
        rcases hw with rfl | rfl <;> decide +kernel
      have nz : z ≠ "none" ∧ z ≠ "say" ∧ z ≠ "not" ∧ z ≠ "among" := by
        rcases hw with rfl | rfl <;> decide +kernel
      refine ⟨_, rfl, a, _, 0, _, rfl, rfl, hs, at0, ?_⟩
      refine ⟨_, rfl, rfl, _, rfl, ite2 (fun h => absurd h (nf nz.1)) (fun _ => ?_)⟩
      refine ⟨_, rfl, rfl, _, rfl, ite2 (fun h => absurd h (nf nz.2.1)) (fun _ => ?_)⟩
      refine ⟨_, rfl, rfl, _, rfl, ite2 (fun h => absurd h (nf nz.2.2.1)) (fun _ => ?_)⟩
      refine ⟨_, rfl, rfl, _, rfl, ite2 (fun h => absurd h (nf nz.2.2.2)) (fun _ => ?_)⟩
      refine ⟨_, rfl, ?_⟩
      dsimp only [tC]
      refine in_str (z := z) (ss := ["is", "below", "above", "begins"]) (TG.tws H) ?_
      refine ⟨_, rfl, ite2 (fun h => absurd (of_decide_eq_true h) mz) (fun _ => ?_)⟩
      cases ru with
      | tup hU hz rl =>
        rename_i t xs
        have lx := rl.len
        refine ⟨_, rfl, _, rfl, a, _, 1, _, rfl, rfl, hs, at1, t, xs, rfl, .inr hU, _, rfl, log_len hz, (by show 2 ≤ sizeLine; decide), fun p np => ?_⟩
        have S1 : Stp [] H (upd H p (.lst [.str z, .str (Str.ofString (toString (xs.length : Int)))])) := Stp.new np _
        have hp : (upd H p (.lst [.str z, .str (Str.ofString (toString (xs.length : Int)))])) p = some (.lst [.str z, .str (numS ds.length)]) := by rw [upd_same, lx]; rfl
        have hs1 := sqt_stp S1 Lsts.nil hs
        have hU1 := sqt_stp S1 Lsts.nil hU
        have rl1 := rl.stp S1 Lsts.nil
        generalize upd H p (.lst [.str z, .str (Str.ofString (toString (xs.length : Int)))]) = H1 at *
        refine ⟨_, rfl, a, _, 1, _, rfl, rfl, hs1, at1, t, rfl, ⟨_, hU1⟩, fun L nL => ?_⟩
        rw [List.length_cons, List.length_cons] at few
        refine lcg_tup (a := t) (xs := xs) (fun i H' => H' L = some (.lst (((ds.take i).flatMap (fw n)).map V.str)) ∧ Stp [] H1 H') ⟨upd_same, Stp.new nL _⟩ (fun i H' _ ⟨_, S⟩ => sqt_stp S Lsts.nil hU1) ?_ ?_
        · rintro i x H' hi ⟨hL, S⟩
          obtain ⟨d, hd, rx⟩ := rl1.get hi
          have md := List.mem_of_getElem? hd
          have ft := flat_take (fw n) hd
          have fl1 := flat_len (fw n) ds (i + 1)
          rw [ft, List.length_append] at fl1
          refine ⟨rfl, _, rfl, x, d, rfl, rx.stp S Lsts.nil, mf d md, dep_in dp md, by omega, fun M H2 nM S2 hM => ?_⟩
          have ML : M ≠ L := (ne_of_none hL nM).symm
          refine ⟨M, rfl, ⟨_, SqL.of hM⟩, ?_⟩
          refine lcg_list (a := M) (xs := (fw n d).map V.str) (fun j H3 => H3 L = some (.lst (((ds.take i).flatMap (fw n) ++ (fw n d).take j).map V.str)) ∧ H3 M = some (.lst ((fw n d).map V.str)) ∧ Stp [] H1 H3) ⟨by rw [List.take_zero, List.append_nil]; exact S2.kp _ _ nn hL, hM, S.trans S2⟩ (fun j H3 _ ⟨_, h, _⟩ => SqL.of h) ?_ ?_
          · rintro j y H3 hj ⟨hL3, hM3, S3⟩
            rw [List.getElem?_map] at hj
            cases ej : (fw n d)[j]? with
            | none => rw [ej] at hj; cases hj
            | some c =>
              rw [ej] at hj
              cases hj
              refine ⟨rfl, _, rfl, _, hL3, ?_, ?_, ?_, S3.mut nL⟩
              · rw [List.length_map, List.length_append, List.length_take]
                exact Nat.lt_of_le_of_lt (show _ ≤ 100000 by omega) (by decide)
              · rw [upd_same, List.take_add_one, ej]
                simp
              · rw [upd_ne ML]
                exact hM3
          · rintro H3 ⟨hL3, hM3, S3⟩
            rw [List.length_map, List.take_length] at hL3
            exact ⟨by rw [ft]; exact hL3, S3⟩
        rintro H' ⟨hL, S⟩
        rw [lx, List.take_length] at hL
        have S2 := S1.trans S
        refine ⟨p, L, _, _, rfl, rfl, S.kp _ _ nn hp, hL, ?_, fun q nq => ?_⟩
        · rw [List.length_map]
          exact sz2 (show 2 + (ds.flatMap (fw n)).length ≤ 200000 by omega)
        · exact k q _ (S2.fresh nn nq) (S2.new' nq) upd_same
theorem fw_all {f : Addr} {fd : FuncData} (D : Df K mg "filter_words" s_filter_words ["query"] f fd) (T : Nm mg) (TG : Ng K w mg) (c_text_word : Cl P w K mg base 1 "text_word" s_text_word ["text"] spTW) : ∀ n, Cl P w K mg base (n + 1) "filter_words" s_filter_words ["query"] (spFW K n)
  | 0 => cl_never D (fun vs H Q E ⟨v, d, _, _, _, hd, _⟩ => Nat.not_lt_zero _ hd) 1
  | n + 1 => fw_step D T TG (by omega) c_text_word (fw_all D T TG c_text_word n)
/-! ### filters of short texts -/
/-- a filter of texts of 40 letters, of at most 999 members -/
inductive FltS : Dt → Prop
  | tx {wd : Str} {l : List Nat} (hw : wd = "is" ∨ wd = "below" ∨ wd = "above" ∨ wd = "begins") (h : Abc l) (hl : l.length ≤ 40) : FltS (.tup [.str wd.cps.toList, .str l])
  | none : FltS (.tup [.str ("none" : Str).cps.toList])
  | say (b : Bool) : FltS (.tup [.str ("say" : Str).cps.toList, .bl b])
  | not {d : Dt} : FltS d → FltS (.tup [.str ("not" : Str).cps.toList, d])
  | among {ls : List Txt} : (∀ l ∈ ls, Abc l ∧ l.length ≤ 40) → ls.length < 1000 → FltS (.tup [.str ("among" : Str).cps.toList, .tup (ls.map Dt.str)])
  | many {wd : Str} {ds : List Dt} (hw : wd = "and" ∨ wd = "or") : (∀ d ∈ ds, FltS d) → ds.length < 1000 → FltS (.tup [.str wd.cps.toList, .tup ds])
theorem FltS.flt {d : Dt} (h : FltS d) : Flt d := by
  induction h with
  | tx hw h _ => exact .tx hw h
  | none => exact .none
  | say b => exact .say b
  | not _ ih => exact .not ih
  | among h _ =>
    refine .among fun d m => ?_
    obtain ⟨l, ml, rfl⟩ := List.mem_map.mp m
    exact ⟨l, rfl, (h l ml).1⟩
  | many hw _ _ ih => exact .many hw ih
theorem rp_mk1 {K : PySem.W.Frag} {H : Hp} {a : Addr} {z : Str} (s : SqT K H a [.str z]) (hz : z.length ≤ 100000) : Rp K H (.ref a) (.tup [.str z.cps.toList]) := by
  have e : V.str z = Tx z.cps.toList := congrArg V.str (lit_tx z).symm
  rw [e] at s
  exact .tup s (by simp) (.cons (.str _ (by simpa [Str.length] using hz)) .nil)
theorem rp_mk2 {K : PySem.W.Frag} {H : Hp} {a : Addr} {z : Str} {u : V} {p : Dt} (s : SqT K H a [.str z, u]) (hz : z.length ≤ 100000) (r : Rp K H u p) : Rp K H (.ref a) (.tup [.str z.cps.toList, p]) := by
  have e : V.str z = Tx z.cps.toList := congrArg V.str (lit_tx z).symm
  rw [e] at s
  exact .tup s (by simp) (.cons (.str _ (by simpa [Str.length] using hz)) (.cons r .nil))
theorem rpl_mk {K : PySem.W.Frag} {H : Hp} : ∀ {ls : List (List Nat)}, (∀ l ∈ ls, l.length ≤ 100000) → RpL K H (ls.map Tx) (ls.map Dt.str)
  | [], _ => .nil
  | l :: ls, h => .cons (.str l (h l (by simp))) (rpl_mk fun x m => h x (by simp [m]))
theorem num_ok : ∀ n ∈ List.range 1000, numS n ≠ "" ∧ Txt.stripChars (numS n) "0123456789" = "" ∧ (numS n).length ≤ 3 ∧ PySem.intText? (numS n) = some ((n : Nat) : Int) ∧ (n = 0 ∨ ((numS n).cps.toList.head?).getD 48 ≠ 48) := by decide +kernel
abbrev s__law_words : Stmt := topS 36
abbrev N__law_words : List Str := ["query", "word", "found", "part", "text"]
theorem sc__law_words : FnScope ["query", "word", "found", "part", "text"] ["query"] (defScope s__law_words) := ⟨rfl, rfl, rfl, by decide +kernel, rfl, by decide +kernel, by decide +kernel⟩

abbrev s__law_word : Stmt := topS 35
abbrev N__law_word : List Str := ["value"]
theorem sc__law_word : FnScope ["value"] ["value"] (defScope s__law_word) := ⟨rfl, rfl, rfl, by decide +kernel, rfl, by decide +kernel, by decide +kernel⟩

def spCkF (K : PySem.W.Frag) (n : Nat) : Sp := fun vs H Q _ => ∃ v d, vs = [v] ∧ Rp K H v d ∧ d.dep < n ∧ Flt d ∧ ∀ H', Stp [] H H' → Q .non H'
theorem cl_check_filter {f : Addr} {fd : FuncData} {n m : Nat} (D : Df K mg "check_filter" s_check_filter ["query"] f fd) (T : Nm mg) (c_is_filter : Cl P w K mg base m "is_filter" s_is_filter ["value"] (spIsF K n)) : Cl P w K mg base (m + 1) "check_filter" s_check_filter ["query"] (spCkF K n) := by
  refine D.cl sc_check_filter (fun vs H Q E h => ?_) (fun cdv A outer s H vs Q E hr h => ?_)
  · obtain ⟨v, d, rfl, _⟩ := h
    rfl
  · obtain ⟨v, d, rfl, r, dp, fl, k⟩ := h
    refine ⟨_, (pss_one (ps_if (pt_not (pt_val (pe_cl c_is_filter hr (by omega) (pa_cons (pv 0) pa_nil)))) (pss_one ps_never) pss_nil)), ?_⟩
    refine ⟨_, rfl, v, d, rfl, r, dp, fun b H1 hb S1 => ?_⟩
    rw [hb.mpr fl]
    exact ⟨_, rfl, ite2 (fun h => absurd h (by decide)) (fun _ => k H1 S1)⟩
def spWF (K : PySem.W.Frag) (n : Nat) : Sp := fun vs H Q _ => ∃ v d, vs = [v] ∧ Rp K H v d ∧ Flt d ∧ d.dep < n ∧ (fw n d).length ≤ 100000 ∧ ((fw n d).map fun x => x.length).sum ≤ 10000000 ∧ ∀ H', Stp [] H H' → Q (.str (Txt.join " " (fw n d))) H'
theorem cl_write_filter {f : Addr} {fd : FuncData} {n m : Nat} (D : Df K mg "write_filter" s_write_filter ["query"] f fd) (T : Nm mg) (hm : n + 1 ≤ m) (c_check_filter : Cl P w K mg base m "check_filter" s_check_filter ["query"] (spCkF K n)) (c_filter_words : Cl P w K mg base (n + 1) "filter_words" s_filter_words ["query"] (spFW K n)) : Cl P w K mg base (m + 1) "write_filter" s_write_filter ["query"] (spWF K n) := by
  refine D.cl sc_write_filter (fun vs H Q E h => ?_) (fun cdv A outer s H vs Q E hr h => ?_)
  · obtain ⟨v, d, rfl, _⟩ := h
    rfl
  · obtain ⟨v, d, rfl, r, fl, dp, few, sum, k⟩ := h
    refine ⟨_, (pss_cons (ps_expr (pe_cl c_check_filter hr (by omega) (pa_cons (pv 0) pa_nil)))
      (pss_one (ps_ret (pe_join pe_str (pe_cl c_filter_words hr (by omega) (pa_cons (pv 0) pa_nil)))))), ?_⟩
    refine ⟨_, rfl, v, d, rfl, r, dp, fl, fun H1 S1 => ?_⟩
    refine ⟨⟨_, rfl⟩, _, rfl, v, d, rfl, r.stp S1 Lsts.nil, fl, dp, few, fun L H2 _ S2 hL => ?_⟩
    have l1 : (" " : Str).length = 1 := by decide +kernel
    refine ⟨_, L, fw n d, rfl, rfl, .inl (SqL.of hL), by rw [l1]; omega, k H2 (S1.trans S2)⟩
/-! ### the law's own words of a filter -/
def spWd : Sp := fun vs H Q _ => ∃ l : Txt, vs = [Tx l] ∧ Q (.str (wdS l)) H
theorem cl__law_word {f : Addr} {fd : FuncData} (D : Df K mg "_law_word" s__law_word ["value"] f fd) (T : Nm mg) : Cl P w K mg base 1 "_law_word" s__law_word ["value"] spWd := by
  refine D.cl sc__law_word (fun vs H Q E h => ?_) (fun cdv A outer s H vs Q E hr h => ?_)
  · obtain ⟨l, rfl, _⟩ := h
    rfl
  · obtain ⟨l, rfl, k⟩ := h
    refine ⟨_, (pss_cons (ps_if (pt_cmpR op_isN (pv 0) pe_non (by first | exact nomark _ | rfl)) (pss_one (ps_ret pe_str)) pss_nil)
      (pss_one (ps_ret (pe_ifExp (pt_cmpR op_eq (pv 0) pe_str (by first | exact nomark _ | rfl)) pe_str (pv 0))))), ?_⟩
    refine ⟨_, rfl, rfl, _, rfl, ite2 (fun h => absurd h (by simp)) (fun _ => ?_)⟩
    by_cases e : l = []
    · subst e
      exact ⟨_, rfl, rfl, _, rfl, ite2 (fun _ => k) (fun h => absurd (decide_eq_true (congrArg V.str nil_lit.symm)) h)⟩
    · have ew : wdS l = tx l := if_neg e
      rw [ew] at k
      refine ⟨_, rfl, rfl, _, rfl, ite2 (fun h => ?_) (fun _ => ⟨_, rfl, k⟩)⟩
      have q : tx l = "" := V.str.inj (of_decide_eq_true h)
      rw [nil_lit] at q
      have := congrArg (fun z : Str => z.cps.toList) q
      exact absurd (by simpa [tx] using this) e
theorem lseq_end {t u : TS} {D : Ends} {σ : L2.St} {H : Hp} (I : L2.St → Hp → Prop) (fin : ∀ σ' H', I σ' H' → u D σ' H') (h : (∀ σ' H', I σ' H' → u D σ' H') → t { D with nx := u D } σ H) : tSeq t u D σ H := h fin
theorem lw_step {f : Addr} {fd : FuncData} (D : Df K mg "_law_words" s__law_words ["query"] f fd) (T : Nm mg) {n m : Nat} (hm : 1 ≤ m) (c__law_word : Cl P w K mg base 1 "_law_word" s__law_word ["value"] spWd) (c__law_words : Cl P w K mg base m "_law_words" s__law_words ["query"] (spFW K n)) :
    Cl P w K mg base (m + 1) "_law_words" s__law_words ["query"] (spFW K (n + 1)) := by
  refine D.cl sc__law_words (fun vs H Q E h => ?_) (fun cdv A outer s H vs Q E hr h => ?_)
  · obtain ⟨v, d, rfl, _⟩ := h
    rfl
  · obtain ⟨v, d, rfl, r, fl, dp, few, k⟩ := h
    refine ⟨_, (pss_cons (ps_set (i := 1) sc__law_words.nd rfl (by first | exact Or.inl rfl | exact Or.inr rfl) (pe_ix ix_tup (pv 0) pe_int (fun _ _ => rfl)))
      (pss_cons (ps_if (pt_cmpR op_eq (pv 1) pe_str (by first | exact nomark _ | rfl)) (pss_one (ps_ret (pe_lst (pa_cons (pv 1) pa_nil)))) pss_nil)
      (pss_cons (ps_if (pt_cmpR op_eq (pv 1) pe_str (by first | exact nomark _ | rfl)) (pss_one (ps_ret (pe_lst (pa_cons (pv 1) (pa_cons (pe_ifExp (pt_truth (pe_ix ix_tup (pv 0) pe_int (fun _ _ => rfl)) (by intro _; rfl)) pe_str pe_str) pa_nil))))) pss_nil)
      (pss_cons (ps_if (pt_cmpR op_eq (pv 1) pe_str (by first | exact nomark _ | rfl)) (pss_one (ps_ret (pe_op op_cat (pe_lst (pa_cons (pv 1) pa_nil)) (pe_cl c__law_words hr (by omega) (pa_cons (pe_ix ix_tup (pv 0) pe_int (fun _ _ => rfl)) pa_nil))))) pss_nil)
      (pss_cons (ps_if (PW.pt (pw_or (pt_cmpR op_eq (pv 1) pe_str (by first | exact nomark _ | rfl)) (pw_or1 (pt_cmpR op_eq (pv 1) pe_str (by first | exact nomark _ | rfl))))) (pss_cons (ps_set (i := 2) sc__law_words.nd rfl (by first | exact Or.inl rfl | exact Or.inr rfl) (pe_lst (pa_cons (pv 1) (pa_cons (pe_callTy call_str_int (by rfl) T.n_str (by decide +kernel) (pa_cons (pe_callB call_len_seq (by rfl) T.n_len (by decide +kernel) (pa_cons (pe_ix ix_tup (pv 0) pe_int (fun _ _ => rfl)) pa_nil)) pa_nil)) pa_nil))))
      (pss_cons (ps_for PassesOwn.never rfl (pi_tup (pe_ix ix_tup (pv 0) pe_int (fun _ _ => rfl))) (pg_name (i := 3) sc__law_words.nd rfl (by first | exact Or.inl rfl | exact Or.inr rfl)) (pss_one (ps_set (i := 2) sc__law_words.nd rfl (by first | exact Or.inl rfl | exact Or.inr rfl) (pe_op op_cat (pv 2) (pe_cl c__law_words hr (by omega) (pa_cons (pv 3) pa_nil))))))
      (pss_one (ps_ret (pv 2))))) pss_nil)
      (pss_cons (ps_if (pt_cmpR op_eq (pv 1) pe_str (by first | exact nomark _ | rfl)) (pss_one (ps_ret (pe_op op_cat (pe_lst (pa_cons (pv 1) (pa_cons (pe_callTy call_str_int (by rfl) T.n_str (by decide +kernel) (pa_cons (pe_callB call_len_seq (by rfl) T.n_len (by decide +kernel) (pa_cons (pe_ix ix_tup (pv 0) pe_int (fun _ _ => rfl)) pa_nil)) pa_nil)) pa_nil))) (pe_lc (own := [("text", 4)]) rfl sc__law_words.nd (pi_tup (pe_ix ix_tup (pv 0) pe_int (fun _ _ => rfl))) (blkOk_by (own := [("text", 4)]) (N := N__law_words) (sc := defScope s__law_words) (by decide +kernel)) (fun _ _ _ _ _ => (pg_name (i := 4) sc__law_words.nd rfl (by first | exact Or.inl rfl | exact Or.inr rfl))) (fun _ _ _ _ _ => pts_nil) (fun _ _ _ _ _ => (pe_cl c__law_word hr (by omega) (pa_cons (pv 4) pa_nil))))))) pss_nil)
      (pss_one (ps_ret (pe_lst (pa_cons (pv 1) (pa_cons (pe_cl c__law_word hr (by omega) (pa_cons (pe_ix ix_tup (pv 0) pe_int (fun _ _ => rfl)) pa_nil)) pa_nil))))))))))), ?_⟩
    have nn : ∀ {x : Addr}, x ∉ ([] : List Addr) := fun m => nomatch m
    have nf : ∀ {a b : Str}, a ≠ b → ¬ decide (V.str a = V.str b) = true := fun n h => n (V.str.inj (of_decide_eq_true h))
    have tf : ∀ {a : Str}, decide (V.str a = V.str a) = true := decide_eq_true rfl
    cases fl with
    | none =>
      obtain ⟨a, rfl, hs⟩ := rp1 r
      rw [fw_none] at k
      refine ⟨_, rfl, a, _, 0, _, rfl, rfl, hs, at0, ?_⟩
      refine ⟨_, rfl, rfl, _, rfl, ite2 (fun _ => ?_) (fun h => absurd tf h)⟩
      exact ⟨_, rfl, (by show 1 ≤ sizeLine; decide), fun p np => k p _ np (Stp.new np _) upd_same⟩
    | say b =>
      obtain ⟨a, u, rfl, hs, ru⟩ := rp2 r
      cases ru
      rw [fw_two] at k
      refine ⟨_, rfl, a, _, 0, _, rfl, rfl, hs, at0, ?_⟩
      refine ⟨_, rfl, rfl, _, rfl, ite2 (fun h => absurd h (nf (by decide +kernel))) (fun _ => ?_)⟩
      refine ⟨_, rfl, rfl, _, rfl, ite2 (fun _ => ?_) (fun h => absurd tf h)⟩
      refine ⟨_, rfl, _, rfl, a, _, 1, _, rfl, rfl, hs, at1, b, rfl, ?_⟩
      cases b with
      | true => exact ite2 (fun _ => ⟨(by show 2 ≤ sizeLine; decide), fun p np => k p _ np (Stp.new np _) upd_same⟩) (fun h => absurd rfl h)
      | false => exact ite2 (fun h => nomatch h) (fun _ => ⟨(by show 2 ≤ sizeLine; decide), fun p np => k p _ np (Stp.new np _) upd_same⟩)
    | not f =>
      obtain ⟨a, u, rfl, hs, ru⟩ := rp2 r
      have ef : ∀ g, fwP g "not" = g := fun g => by funext p; unfold fwP; rw [if_neg (by decide +kernel), if_pos rfl]
      rw [fw_two, ef] at k few
      refine ⟨_, rfl, a, _, 0, _, rfl, rfl, hs, at0, ?_⟩
      refine ⟨_, rfl, rfl, _, rfl, ite2 (fun h => absurd h (nf (by decide +kernel))) (fun _ => ?_)⟩
      refine ⟨_, rfl, rfl, _, rfl, ite2 (fun h => absurd h (nf (by decide +kernel))) (fun _ => ?_)⟩
      refine ⟨_, rfl, rfl, _, rfl, ite2 (fun _ => ?_) (fun h => absurd tf h)⟩
      rw [List.length_cons] at few
      refine ⟨_, rfl, (by show 1 ≤ sizeLine; decide), fun p np => ?_⟩
      have S0 : Stp [] H (upd H p (.lst [.str "not"])) := Stp.new np _
      have hp : (upd H p (.lst [.str "not"])) p = some (.lst [.str "not"]) := upd_same
      have hs0 := sqt_stp S0 Lsts.nil hs
      have ru0 := ru.stp S0 Lsts.nil
      generalize upd H p (.lst [.str "not"]) = H0 at *
      refine ⟨_, rfl, a, _, 1, u, rfl, rfl, hs0, at1, u, _, rfl, ru0, f, dep_two dp, by omega, fun L H1 _ S1 hL => ?_⟩
      refine ⟨p, L, _, _, rfl, rfl, S1.kp _ _ nn hp, hL, ?_, fun q nq => ?_⟩
      · rw [List.length_map]
        exact sz2 (show 1 + _ ≤ 200000 by omega)
      · exact k q _ ((S0.trans S1).fresh nn nq) ((S0.trans S1).new' nq) upd_same
    | @among ds mt =>
      obtain ⟨a, u, rfl, hs, ru⟩ := rp2 r
      rw [fw_two, fwP_among] at k few
      refine ⟨_, rfl, a, _, 0, _, rfl, rfl, hs, at0, ?_⟩
      refine ⟨_, rfl, rfl, _, rfl, ite2 (fun h => absurd h (nf (by decide +kernel))) (fun _ => ?_)⟩
      refine ⟨_, rfl, rfl, _, rfl, ite2 (fun h => absurd h (nf (by decide +kernel))) (fun _ => ?_)⟩
      refine ⟨_, rfl, rfl, _, rfl, ite2 (fun h => absurd h (nf (by decide +kernel))) (fun _ => ?_)⟩
      refine MonoT.cut (t := tOr _ _) (MonoT.or (MonoT.test (Mono.op' MonoR.eq Mono.var Mono.c)) (MonoT.test (Mono.op' MonoR.eq Mono.var Mono.c))) (fun c H' => c = false ∧ H = H') ?_ ?_
      · exact ⟨_, rfl, rfl, _, rfl, ite2 (fun h => absurd h (nf (by decide +kernel))) (fun _ => ⟨_, rfl, rfl, _, rfl, (decide_eq_false fun h => absurd (V.str.inj h) (by decide +kernel)), rfl⟩)⟩
      rintro c H' ⟨rfl, rfl⟩
      refine ite2 (fun h => nomatch h) (fun _ => ?_)
      dsimp only [tNext]
      refine ⟨_, rfl, rfl, _, rfl, ite2 (fun _ => ?_) (fun h => absurd tf h)⟩
      cases ru with
      | tup hU hz rl =>
        rename_i t xs
        have lx := rl.len
        refine ⟨_, rfl, _, rfl, a, _, 1, _, rfl, rfl, hs, at1, t, xs, rfl, .inr hU, _, rfl, log_len hz, (by show 2 ≤ sizeLine; decide), fun p np => ?_⟩
        have S1 : Stp [] H (upd H p (.lst [.str "among", .str (Str.ofString (toString (xs.length : Int)))])) := Stp.new np _
        have hp : (upd H p (.lst [.str "among", .str (Str.ofString (toString (xs.length : Int)))])) p = some (.lst [.str "among", .str (numS ds.length)]) := by rw [upd_same, lx]; rfl
        have hs1 := sqt_stp S1 Lsts.nil hs
        have hU1 := sqt_stp S1 Lsts.nil hU
        generalize upd H p (.lst [.str "among", .str (Str.ofString (toString (xs.length : Int)))]) = H1 at *
        refine ⟨_, rfl, a, _, 1, _, rfl, rfl, hs1, at1, t, rfl, ⟨_, hU1⟩, fun L nL => ?_⟩
        refine lc_tup (a := t) (xs := xs) (fun i H' => H' L = some (.lst (((ds.take i).map strW).map V.str)) ∧ Stp [] H1 H') ⟨upd_same, Stp.new nL _⟩ (fun i H' _ ⟨_, S⟩ => sqt_stp S Lsts.nil hU1) ?_ ?_
        · rintro i x H' hi ⟨hL, S⟩
          obtain ⟨d, hd, rx⟩ := rl.get hi
          obtain ⟨l, rfl, al⟩ := mt d (List.mem_of_getElem? hd)
          cases rx with
          | str _ hl =>
            refine ⟨rfl, _, rfl, l, rfl, _, hL, ?_, ?_, S.mut nL⟩
            · rw [List.length_map, List.length_map, List.length_take]
              exact Nat.lt_of_le_of_lt (show min i ds.length ≤ 100000 by omega) (by decide)
            · rw [upd_same, List.take_add_one, hd]
              simp [strW]
        rintro H' ⟨hL, S⟩
        rw [lx, List.take_length] at hL
        have S2 := S1.trans S
        refine ⟨p, L, _, _, rfl, rfl, S.kp _ _ nn hp, hL, ?_, fun q nq => ?_⟩
        · rw [List.length_map, List.length_map]
          exact sz2 (by simp; omega)
        · exact k q _ (S2.fresh nn nq) (S2.new' nq) upd_same
    | @tx z l hw al =>
      obtain ⟨a, u, rfl, hs, ru⟩ := rp2 r
      rw [fw_two, fwP_tx _ hw] at k few
      have nz : z ≠ "none" ∧ z ≠ "say" ∧ z ≠ "not" ∧ z ≠ "among" ∧ z ≠ "and" ∧ z ≠ "or" := by
        rcases hw with rfl | rfl | rfl | rfl <;> decide +kernel
      refine ⟨_, rfl, a, _, 0, _, rfl, rfl, hs, at0, ?_⟩
      refine ⟨_, rfl, rfl, _, rfl, ite2 (fun h => absurd h (nf nz.1)) (fun _ => ?_)⟩
      refine ⟨_, rfl, rfl, _, rfl, ite2 (fun h => absurd h (nf nz.2.1)) (fun _ => ?_)⟩
      refine ⟨_, rfl, rfl, _, rfl, ite2 (fun h => absurd h (nf nz.2.2.1)) (fun _ => ?_)⟩
      refine MonoT.cut (t := tOr _ _) (MonoT.or (MonoT.test (Mono.op' MonoR.eq Mono.var Mono.c)) (MonoT.test (Mono.op' MonoR.eq Mono.var Mono.c))) (fun c H' => c = false ∧ H = H') ?_ ?_
      · exact ⟨_, rfl, rfl, _, rfl, ite2 (fun h => absurd h (nf nz.2.2.2.2.1)) (fun _ => ⟨_, rfl, rfl, _, rfl, (decide_eq_false fun h => nz.2.2.2.2.2 (V.str.inj h)), rfl⟩)⟩
      rintro c H' ⟨rfl, rfl⟩
      refine ite2 (fun h => nomatch h) (fun _ => ?_)
      dsimp only [tNext]
      refine ⟨_, rfl, rfl, _, rfl, ite2 (fun h => absurd h (nf nz.2.2.2.1)) (fun _ => ?_)⟩
      cases ru with
      | str _ hl => exact ⟨_, rfl, _, rfl, a, _, 1, _, rfl, rfl, hs, at1, l, rfl, (by show 2 ≤ sizeLine; decide), fun p np => k p _ np (Stp.new np _) upd_same⟩
    | @many z ds hw mf =>
      obtain ⟨a, u, rfl, hs, ru⟩ := rp2 r
      rw [fw_two, fwP_many _ hw] at k few
      have nz : z ≠ "none" ∧ z ≠ "say" ∧ z ≠ "not" := by
        rcases hw with rfl | rfl <;> decide +kernel
      refine ⟨_, rfl, a, _, 0, _, rfl, rfl, hs, at0, ?_⟩
      refine ⟨_, rfl, rfl, _, rfl, ite2 (fun h => absurd h (nf nz.1)) (fun _ => ?_)⟩
      refine ⟨_, rfl, rfl, _, rfl, ite2 (fun h => absurd h (nf nz.2.1)) (fun _ => ?_)⟩
      refine ⟨_, rfl, rfl, _, rfl, ite2 (fun h => absurd h (nf nz.2.2)) (fun _ => ?_)⟩
      refine MonoT.cut (t := tOr _ _) (MonoT.or (MonoT.test (Mono.op' MonoR.eq Mono.var Mono.c)) (MonoT.test (Mono.op' MonoR.eq Mono.var Mono.c))) (fun c H' => c = true ∧ H = H') ?_ ?_
      · rcases hw with rfl | rfl
        · exact ⟨_, rfl, rfl, _, rfl, ite2 (fun _ => ⟨rfl, rfl⟩) (fun h => absurd tf h)⟩
        · exact ⟨_, rfl, rfl, _, rfl, ite2 (fun h => absurd h (nf (by decide +kernel))) (fun _ => ⟨_, rfl, rfl, _, rfl, tf, rfl⟩)⟩
      rintro c H' ⟨rfl, rfl⟩
      refine ite2 (fun _ => ?_) (fun h => absurd rfl h)
      cases ru with
      | tup hU hz rl =>
        rename_i t xs
        have lx := rl.len
        rw [List.length_cons, List.length_cons] at few
        refine ⟨_, rfl, _, rfl, a, _, 1, _, rfl, rfl, hs, at1, t, xs, rfl, .inr hU, _, rfl, log_len hz, (by show 2 ≤ sizeLine; decide), fun p np => ?_⟩
        have S1 : Stp [] H (upd H p (.lst [.str z, .str (Str.ofString (toString (xs.length : Int)))])) := Stp.new np _
        have hp : (upd H p (.lst [.str z, .str (Str.ofString (toString (xs.length : Int)))])) p = some (.lst [.str z, .str (numS ds.length)]) := by rw [upd_same, lx]; rfl
        have hs1 := sqt_stp S1 Lsts.nil hs
        have hU1 := sqt_stp S1 Lsts.nil hU
        have rl1 := rl.stp S1 Lsts.nil
        generalize upd H p (.lst [.str z, .str (Str.ofString (toString (xs.length : Int)))]) = H1 at *
        dsimp only [gName]
        refine lseq_end (fun σ H' => ∃ (q : Addr) (x3 x4 : Option V), σ = [some (.ref a), some (.str z), some (.ref q), x3, x4] ∧ H q = none ∧ H' q = some (.lst ((z :: numS ds.length :: ds.flatMap (fw n)).map V.str)) ∧ Stp [] H H') ?_ (fun fin => ?_)
        · rintro σ H' ⟨q, x3, x4, rfl, nq, hq, S⟩
          exact ⟨_, rfl, k q H' nq S hq⟩
        refine ⟨_, rfl, a, _, 1, _, rfl, rfl, hs1, at1, t, rfl, ⟨_, hU1⟩, for_tup (a := t) (xs := xs) (fun i σ H' => ∃ (q : Addr) (x3 x4 : Option V), σ = [some (.ref a), some (.str z), some (.ref q), x3, x4] ∧ H q = none ∧ H' q = some (.lst ((z :: numS ds.length :: (ds.take i).flatMap (fw n)).map V.str)) ∧ Stp [] H1 H')
          ⟨p, none, none, rfl, np, hp, Stp.refl _ _⟩ (fun i σ H' _ ⟨_, _, _, _, _, _, S⟩ => sqt_stp S Lsts.nil hU1) ?_ (fun σ H' ⟨q, x3, x4, e, nq, hq, S⟩ => fin _ _ ⟨q, x3, x4, e, nq, by rw [lx, List.take_length] at hq; exact hq, S1.trans S⟩)⟩
        rintro i x σ H' hi ⟨q, x3, x4, rfl, nq, hq, S⟩
        obtain ⟨d, hd, rx⟩ := rl1.get hi
        have md := List.mem_of_getElem? hd
        have ft := flat_take (fw n) hd
        have fl1 := flat_len (fw n) ds (i + 1)
        rw [ft, List.length_append] at fl1
        refine ⟨_, rfl, _, rfl, x, d, rfl, rx.stp S Lsts.nil, mf d md, dep_in dp md, by omega, fun M H2 nM S2 hM => ?_⟩
        refine ⟨q, M, _, _, rfl, rfl, S2.kp _ _ nn hq, hM, ?_, fun r nr => ?_⟩
        · rw [List.length_map, List.length_map, List.length_cons, List.length_cons]
          exact sz2 (by omega)
        · refine ⟨r, _, _, rfl, ((S1.trans S).trans S2).fresh nn nr, ?_, (S.trans S2).new' nr⟩
          rw [upd_same, ft, ← List.map_append]
          rfl
theorem lw_all {f : Addr} {fd : FuncData} (D : Df K mg "_law_words" s__law_words ["query"] f fd) (T : Nm mg) (c__law_word : Cl P w K mg base 1 "_law_word" s__law_word ["value"] spWd) : ∀ n, Cl P w K mg base (n + 1) "_law_words" s__law_words ["query"] (spFW K n)
  | 0 => cl_never D (fun vs H Q E ⟨v, d, _, _, _, hd, _⟩ => Nat.not_lt_zero _ hd) 1
  | n + 1 => lw_step D T (by omega) c__law_word (lw_all D T c__law_word n)
abbrev s__law_text : Stmt := topS 32
abbrev N__law_text : List Str := ["hand", "size", "k"]
theorem sc__law_text : FnScope ["hand", "size", "k"] ["hand"] (defScope s__law_text) := ⟨rfl, rfl, rfl, by decide +kernel, rfl, by decide +kernel, by decide +kernel⟩

/-! ### drawn texts -/
theorem a_lit : ("a" : Str) = tx [97] := by decide +kernel
theorem txt_end {t u : TS} {D : Ends} {σ : L2.St} {H : Hp} (I : L2.St → Hp → Prop) (fin : ∀ σ' H', I σ' H' → u D σ' H') (h : (∀ σ' H', I σ' H' → u D σ' H') → t { D with nx := u D } σ H) : tSeq t u D σ H := h fin
def spText : Sp := fun vs H Q _ => ∃ (b : Addr) (n : Nat), vs = [.ref b] ∧ Bag H b n ∧ n + 20 < 2 ^ 30 ∧ ∀ l H', Abc l → l.length ≤ 12 → Stp [b] H H' → Bag H' b (n + 14) → Q (Tx l) H'
theorem cl__law_text {f : Addr} {fd : FuncData} (D : Df K mg "_law_text" s__law_text ["hand"] f fd) (T : Nm mg) (c__law_pick : Cl P w K mg base 1 "_law_pick" s__law_pick ["hand", "size"] spPick) : Cl P w K mg base 2 "_law_text" s__law_text ["hand"] spText := by
  refine D.cl sc__law_text (fun vs H Q E h => ?_) (fun cdv A outer s H vs Q E hr h => ?_)
  · obtain ⟨b, n, rfl, _⟩ := h
    rfl
  · obtain ⟨b, n, rfl, B, hn, k⟩ := h
    refine ⟨_, (pss_cons (ps_set (i := 1) sc__law_text.nd rfl (by first | exact Or.inl rfl | exact Or.inr rfl) (pe_cl c__law_pick hr (by omega) (pa_cons (pv 0) (pa_cons pe_int pa_nil))))
      (pss_cons (ps_if (pt_cmpR op_eq (pv 1) pe_int (by first | exact nomark _ | rfl)) (pss_one (ps_set (i := 1) sc__law_text.nd rfl (by first | exact Or.inl rfl | exact Or.inr rfl) (pe_cl c__law_pick hr (by omega) (pa_cons (pv 0) (pa_cons pe_int pa_nil))))) pss_nil)
      (pss_one (ps_ret (pe_join pe_str (pe_lc (own := [("k", 2)]) rfl sc__law_text.nd (pi_range1 (by rfl) T.n_range (pa_cons (pv 1) pa_nil)) (blkOk_by (own := [("k", 2)]) (N := N__law_text) (sc := defScope s__law_text) (by decide +kernel)) (fun _ _ _ _ _ => (pg_name (i := 2) sc__law_text.nd rfl (by first | exact Or.inl rfl | exact Or.inr rfl))) (fun _ _ _ _ _ => pts_nil) (fun _ _ _ _ _ => (pe_ix ix_str pe_str (pe_cl c__law_pick hr (by omega) (pa_cons (pv 0) (pa_cons pe_int pa_nil))) (fun _ _ => rfl))))))))), ?_⟩
    refine ⟨_, rfl, b, 8, n, rfl, B, by omega, by decide, by decide, fun d H1 d0 d1 o1 B1 => ?_⟩
    have S1 : Stp [b] H H1 := o1.stp (List.mem_singleton.mpr rfl)
    dsimp only [gName]
    refine txt_end (fun σ H' => ∃ z : Int, σ = [some (.ref b), some (.int z), none] ∧ 0 ≤ z ∧ z < 13 ∧ Stp [b] H H' ∧ Bag H' b (n + 2)) ?_ (fun fin => ?_)
    rotate_left
    · refine ⟨_, rfl, rfl, _, rfl, ite2 (fun _ => ?_) (fun h => ?_)⟩
      · refine ⟨_, rfl, b, 13, _, rfl, B1, by omega, by decide, by decide, fun e H2 e0 e1 o2 B2 => ?_⟩
        exact fin _ _ ⟨e, rfl, e0, by omega, S1.trans (o2.stp (List.mem_singleton.mpr rfl)), B2⟩
      · exact fin _ _ ⟨d, rfl, d0, by omega, S1, B1.mono (by omega)⟩
    rintro σ H3 ⟨z, rfl, z0, z1, S3, B2⟩
    refine ⟨⟨_, rfl⟩, _, rfl, z, rfl, by omega, by omega, fun L nL => ?_⟩
    refine lc_range (lo := 0) (n := z.toNat) (fun i H4 => ∃ cs : List Nat, Abc cs ∧ cs.length = i ∧ H4 L = some (.lst (cs.map fun c => Tx [c])) ∧ Stp [b] H3 H4 ∧ Bag H4 b (n + 2 + i))
      ⟨[], Abc.nil, rfl, upd_same, Stp.new nL _, B2.upd (B2.ne nL)⟩ ?_ ?_
    · rintro i H4 hi ⟨cs, ha, hcl, hL, S4, B4⟩
      refine ⟨rfl, _, rfl, b, 3, _, rfl, B4, by omega, by decide, by decide, fun d H5 d0 d1 o3 B5 => ?_⟩
      obtain ⟨c, mc, ec⟩ := pick (xs := [97, 98, 99]) d0 d1
      have nLb : L ≠ b := (B2.ne nL).symm
      have hL5 : H5 L = some (.lst (cs.map fun c => Tx [c])) := o3.at hL nLb
      have S5 : Stp [b] H4 H5 := o3.stp (List.mem_singleton.mpr rfl)
      have hc : c = 97 ∨ c = 98 ∨ c = 99 := by
        simp at mc
        exact mc
      refine ⟨("abc" : Str), d, c, rfl, rfl, (by rw [abc_lit]; exact szt (by decide)), (by rw [abc_lit]; exact ec), cs.map fun c => Tx [c], hL5, ?_, ?_⟩
      · rw [List.length_map, hcl]
        exact Nat.lt_of_lt_of_le (show i < 100000 by omega) (by decide)
      · refine ⟨cs ++ [c], ha.app (Abc.one hc), by simp [hcl], ?_, ?_, ?_⟩
        · rw [List.map_append]
          exact upd_same
        · exact (S4.trans S5).mut nL
        · exact B5.upd nLb.symm
    · rintro H4 ⟨cs, ha, hcl, hL, S4, B4⟩
      refine ⟨_, L, cs.map (fun c => tx [c]), rfl, rfl, .inl (SqL.of (by rw [List.map_map]; exact hL)), ?_, ?_⟩
      · rw [List.map_map, nil_lit]
        have e : ∀ l : List Nat, (l.map ((fun x : Str => x.length) ∘ fun c => tx [c])).sum = l.length := by
          intro l
          induction l with
          | nil => rfl
          | cons x l ih =>
            rw [List.map_cons, List.sum_cons, ih, List.length_cons]
            show (tx [x]).length + l.length = l.length + 1
            rw [tx_len]
            simp
            omega
        rw [e, List.length_map, tx_len]
        simp
        omega
      · rw [nil_lit, join_abc]
        exact k _ _ ha (by omega) (S3.trans S4) (B4.mono (by omega))
abbrev s__law_near : Stmt := topS 33
abbrev N__law_near : List Str := ["hand", "pool", "way", "text"]
theorem sc__law_near : FnScope ["hand", "pool", "way", "text"] ["hand", "pool"] (defScope s__law_near) := ⟨rfl, rfl, rfl, by decide +kernel, rfl, by decide +kernel, by decide +kernel⟩

/-! ### texts near -/
def Abcs (ls : List Txt) : Prop := ∀ l ∈ ls, Abc l ∧ l.length ≤ 12
def spNear : Sp := fun vs H Q _ => ∃ (b p : Addr) (n : Nat) (ls : List Txt), vs = [.ref b, .ref p] ∧ Bag H b n ∧ n + 40 < 2 ^ 30 ∧ b ≠ p ∧ H p = some (.lst (ls.map Tx)) ∧ Abcs ls ∧ ls.length ≤ 1000 ∧ ∀ l H', Abc l → l.length ≤ 12 → Stp [b, p] H H' → Bag H' b (n + 20) → H' p = some (.lst ((ls ++ [l]).map Tx)) → Q (Tx l) H'
theorem eq_nil_strs {K : PySem.W.Frag} {H : Hp} {p q : Addr} {ls : List (List Nat)} {Q : VK} (hp : SqL K H p (ls.map Tx)) (h : ∀ l ∈ ls, Abc l) (hq : H q = some (.lst [])) (k : Q (.bl ls.isEmpty) H) : rEqD K (.ref p) (.ref q) H Q := by
  refine ⟨.list (ls.map fun l => .str (tx l)), .list [], .lst hp (dp_strs ls), .lst (SqL.of hq) .nil, shaped_strs h, rfl, ?_⟩
  have e : PyData.eqv (.list (ls.map fun l => .str (tx l))) (.list []) = ls.isEmpty := by
    cases ls with
    | nil => rfl
    | cons l ls => rfl
  rw [e]
  exact k
theorem cl__law_near {f : Addr} {fd : FuncData} (D : Df K mg "_law_near" s__law_near ["hand", "pool"] f fd) (T : Nm mg) (c__law_pick : Cl P w K mg base 1 "_law_pick" s__law_pick ["hand", "size"] spPick) (c__law_text : Cl P w K mg base 2 "_law_text" s__law_text ["hand"] spText) : Cl P w K mg base 3 "_law_near" s__law_near ["hand", "pool"] spNear := by
  refine D.cl sc__law_near (fun vs H Q E h => ?_) (fun cdv A outer s H vs Q E hr h => ?_)
  · obtain ⟨b, p, n, ls, rfl, _⟩ := h
    rfl
  · obtain ⟨b, p, n, ls, rfl, B, hn, nbp, hp, ab, few, k⟩ := h
    refine ⟨_, (pss_cons (ps_set (i := 2) sc__law_near.nd rfl (by first | exact Or.inl rfl | exact Or.inr rfl) (pe_cl c__law_pick hr (by omega) (pa_cons (pv 0) (pa_cons pe_int pa_nil))))
      (pss_cons (ps_set (i := 3) sc__law_near.nd rfl (by first | exact Or.inl rfl | exact Or.inr rfl) pe_str)
      (pss_cons (ps_if (PW.pt (pw_or (pt_cmpR op_eq (pv 2) pe_int (by first | exact nomark _ | rfl)) (pw_or1 (pt_cmpR (op_eqD hr.units) (pv 1) (pe_lst pa_nil) (by first | exact nomark _ | rfl))))) (pss_one (ps_set (i := 3) sc__law_near.nd rfl (by first | exact Or.inl rfl | exact Or.inr rfl) (pe_cl c__law_text hr (by omega) (pa_cons (pv 0) pa_nil)))) (pss_cons (ps_set (i := 3) sc__law_near.nd rfl (by first | exact Or.inl rfl | exact Or.inr rfl) (pe_ix ix_list (pv 1) (pe_cl c__law_pick hr (by omega) (pa_cons (pv 0) (pa_cons (pe_callB call_len_seq (by rfl) T.n_len (by decide +kernel) (pa_cons (pv 1) pa_nil)) pa_nil))) (fun _ _ => rfl)))
      (pss_one (ps_if (pt_cmpR op_eq (pv 2) pe_int (by first | exact nomark _ | rfl)) (pss_one (ps_set (i := 3) sc__law_near.nd rfl (by first | exact Or.inl rfl | exact Or.inr rfl) (pe_op op_add_str (pe_slice sl_str (pv 3) po_none (po_some pe_int)) pe_str))) (pss_one (ps_if (pt_cmpR op_eq (pv 2) pe_int (by first | exact nomark _ | rfl)) (pss_one (ps_set (i := 3) sc__law_near.nd rfl (by first | exact Or.inl rfl | exact Or.inr rfl) (pe_slice sl_str (pv 3) po_none (po_some (pe_un un_neg pe_int))))) (pss_one (ps_if (pt_cmpR op_eq (pv 2) pe_int (by first | exact nomark _ | rfl)) (pss_one (ps_set (i := 3) sc__law_near.nd rfl (by first | exact Or.inl rfl | exact Or.inr rfl) (pe_op op_add_str (pe_slice sl_str (pv 3) po_none (po_some pe_int)) (pe_ix ix_str pe_str (pe_cl c__law_pick hr (by omega) (pa_cons (pv 0) (pa_cons pe_int pa_nil))) (fun _ _ => rfl))))) (pss_one (ps_if (pt_cmpR op_eq (pv 2) pe_int (by first | exact nomark _ | rfl)) (pss_one (ps_set (i := 3) sc__law_near.nd rfl (by first | exact Or.inl rfl | exact Or.inr rfl) (pe_op op_add_str (pe_slice sl_str (pv 3) po_none (po_some (pe_un un_neg pe_int))) (pe_ix ix_str pe_str (pe_cl c__law_pick hr (by omega) (pa_cons (pv 0) (pa_cons pe_int pa_nil))) (fun _ _ => rfl))))) pss_nil))))))))))
      (pss_cons (ps_expr (pe_bm PySem.F.plainAttrs_list PySem.F.slot_list_append PySem.F.type_list_append mt_append (pv 1) (pa_cons (pv 3) pa_nil)))
      (pss_one (ps_ret (pv 3))))))), ?_⟩
    have one : b ∈ [b] := List.mem_singleton.mpr rfl
    have npb : p ∉ [b] := fun m => nbp (List.mem_singleton.mp m).symm
    refine ⟨_, rfl, b, 6, n, rfl, B, by omega, by decide, by decide, fun way H1 w0 w1 o1 B1 => ?_⟩
    have S1 : Stp [b] H H1 := o1.stp one
    dsimp only [gName]
    change tAsg _ _ _ _ _
    dsimp only [tAsg, tC, gName]
    refine txt_end (fun σ H' => ∃ l : Txt, σ = [some (.ref b), some (.ref p), some (.int way), some (Tx l)] ∧ Abc l ∧ l.length ≤ 12 ∧ Stp [b] H H' ∧ Bag H' b (n + 20)) ?_ (fun fin => ?_)
    · rintro σ H' ⟨l, rfl, al, ll, S, B2⟩
      have hp2 := S.kp _ _ npb hp
      refine ⟨_, rfl, .inl ⟨rfl, _, SqL.of hp2⟩, _, rfl, p, _, Tx l, rfl, rfl, hp2, by rw [List.length_map]; exact Nat.lt_of_le_of_lt few (by decide), ?_⟩
      refine ⟨_, rfl, k l _ al ll ?_ ?_ ?_⟩
      · exact (S.sub (fun x m => by rw [List.mem_singleton.mp m]; simp)).put' (by simp)
      · exact B2.upd nbp
      · rw [upd_same, List.map_append]
        rfl
    · have hp1 := S1.kp _ _ npb hp
      refine ⟨_, rfl, rfl, _, rfl, ite2 (fun _ => ?_) (fun _ => ?_)⟩
      · refine ⟨_, rfl, b, n + 1, rfl, B1, by omega, fun l H2 al ll S2 B2 => ?_⟩
        exact fin _ _ ⟨l, rfl, al, ll, S1.trans S2, B2.mono (by omega)⟩
      refine ⟨_, rfl, by show 0 ≤ sizeLine; decide, fun q nq => ?_⟩
      have Sq : Stp [b] H1 (upd H1 q (.lst [])) := Stp.new nq _
      have hpq := Sq.kp _ _ npb hp1
      have Bq := B1.upd (o := .lst []) (B1.ne nq)
      have hq : (upd H1 q (.lst [])) q = some (.lst []) := upd_same
      generalize upd H1 q (.lst []) = H2 at *
      refine eq_nil_strs (SqL.of hpq) (fun l m => (ab l m).1) hq ⟨_, rfl, ite2 (fun _ => ?_) (fun e => ?_)⟩
      · refine ⟨_, rfl, b, n + 1, rfl, Bq, by omega, fun l H3 al ll S3 B3 => ?_⟩
        exact fin _ _ ⟨l, rfl, al, ll, (S1.trans Sq).trans S3, B3.mono (by omega)⟩
      have pos : 0 < ls.length := by
        cases ls with
        | nil => exact absurd rfl e
        | cons l ls => simp
      refine ⟨_, rfl, _, rfl, _, rfl, p, _, rfl, .inl (SqL.of hpq), b, _, n + 1, rfl, Bq, by omega, by rw [List.length_map]; omega, by rw [List.length_map]; omega, fun d H3 d0 d1 o3 B3 => ?_⟩
      obtain ⟨j, rfl⟩ := Int.eq_ofNat_of_zero_le d0
      rw [List.length_map] at d1
      have hj : j < ls.length := by omega
      have S3 := (S1.trans Sq).trans (o3.stp one)
      have hp3 := S3.kp _ _ npb hp
      obtain ⟨al, ll⟩ := ab _ (List.getElem_mem hj)
      have ej : ls[j]? = some ls[j] := List.getElem?_eq_getElem hj
      generalize ls[j] = l at al ll ej
      refine ⟨p, _, (j : Int), Tx l, rfl, rfl, SqL.of hp3, atI_nat (by rw [List.getElem?_map, ej]; rfl), ?_⟩
      refine ⟨_, rfl, rfl, _, rfl, ite2 (fun _ => ?_) (fun _ => ?_)⟩
      · refine ⟨_, rfl, 11, rfl, tx l, rfl, szt (by omega), ?_⟩
        rw [show cutS (tx l) none (some (11 : Int)) = tx (l.take 11) from tx_upto l 11]
        refine ⟨tx (l.take 11), tx [97], rfl, congrArg V.str a_lit, by rw [tx_len, tx_len, List.length_take, List.length_singleton]; exact sz (by omega), ?_⟩
        rw [tx_app]
        exact fin _ _ ⟨_, rfl, (al.take 11).app (Abc.one (.inl rfl)), by rw [List.length_append, List.length_take, List.length_singleton]; omega, S3, B3.mono (by omega)⟩
      refine ⟨_, rfl, rfl, _, rfl, ite2 (fun _ => ?_) (fun _ => ?_)⟩
      · refine ⟨_, rfl, 1, rfl, -1, rfl, tx l, rfl, szt (by omega), ?_⟩
        rw [show cutS (tx l) none (some (-1)) = tx l.dropLast from tx_init l]
        exact fin _ _ ⟨_, rfl, al.init, by rw [List.length_dropLast]; omega, S3, B3.mono (by omega)⟩
      have hc3 : ∀ c : Nat, c ∈ ([97, 98, 99] : List Nat) → c = 97 ∨ c = 98 ∨ c = 99 := fun c m => by simpa using m
      refine ⟨_, rfl, rfl, _, rfl, ite2 (fun _ => ?_) (fun _ => ?_)⟩
      · refine ⟨_, rfl, 11, rfl, tx l, rfl, szt (by omega), ?_⟩
        rw [show cutS (tx l) none (some (11 : Int)) = tx (l.take 11) from tx_upto l 11]
        refine ⟨_, rfl, b, 3, _, rfl, B3, by omega, by decide, by decide, fun d H4 d0 d1 o4 B4 => ?_⟩
        obtain ⟨c, mc, ec⟩ := pick (xs := [97, 98, 99]) d0 d1
        refine ⟨("abc" : Str), d, c, rfl, rfl, (by rw [abc_lit]; exact szt (by decide)), (by rw [abc_lit]; exact ec), ?_⟩
        refine ⟨tx (l.take 11), tx [c], rfl, rfl, by rw [tx_len, tx_len, List.length_take, List.length_singleton]; exact sz (by omega), ?_⟩
        rw [tx_app]
        exact fin _ _ ⟨_, rfl, (al.take 11).app (Abc.one (hc3 c mc)), by rw [List.length_append, List.length_take, List.length_singleton]; omega, S3.trans (o4.stp one), B4.mono (by omega)⟩
      refine ⟨_, rfl, rfl, _, rfl, ite2 (fun _ => ?_) (fun _ => ?_)⟩
      · refine ⟨_, rfl, 1, rfl, -1, rfl, tx l, rfl, szt (by omega), ?_⟩
        rw [show cutS (tx l) none (some (-1)) = tx l.dropLast from tx_init l]
        refine ⟨_, rfl, b, 3, _, rfl, B3, by omega, by decide, by decide, fun d H4 d0 d1 o4 B4 => ?_⟩
        obtain ⟨c, mc, ec⟩ := pick (xs := [97, 98, 99]) d0 d1
        refine ⟨("abc" : Str), d, c, rfl, rfl, (by rw [abc_lit]; exact szt (by decide)), (by rw [abc_lit]; exact ec), ?_⟩
        refine ⟨tx l.dropLast, tx [c], rfl, rfl, by rw [tx_len, tx_len, List.length_dropLast, List.length_singleton]; exact sz (by omega), ?_⟩
        rw [tx_app]
        exact fin _ _ ⟨_, rfl, al.init.app (Abc.one (hc3 c mc)), by rw [List.length_append, List.length_dropLast, List.length_singleton]; omega, S3.trans (o4.stp one), B4.mono (by omega)⟩
      · exact fin _ _ ⟨l, rfl, al, ll, S3, B3.mono (by omega)⟩
abbrev s__law_query : Stmt := topS 34
abbrev N__law_query : List Str := ["hand", "pool", "room", "levels", "way", "size", "parts", "k"]
theorem sc__law_query : FnScope ["hand", "pool", "room", "levels", "way", "size", "parts", "k"] ["hand", "pool", "room", "levels"] (defScope s__law_query) := ⟨rfl, rfl, rfl, by decide +kernel, rfl, by decide +kernel, by decide +kernel⟩

/-! ### drawn filters -/
theorem depL_str : ∀ ls : List Txt, Dt.depL (ls.map Dt.str) = 0
  | [] => rfl
  | l :: ls => by
    show max (Dt.dep (.str l)) (Dt.depL (ls.map Dt.str)) = 0
    rw [depL_str ls]
    rfl
theorem depL_le {k : Nat} : ∀ ds : List Dt, (∀ d ∈ ds, d.dep ≤ k) → Dt.depL ds ≤ k
  | [], _ => Nat.zero_le _
  | d :: ds, h => by
    have h1 := h d (by simp)
    have h2 := depL_le ds fun e m => h e (by simp [m])
    show max d.dep (Dt.depL ds) ≤ k
    omega
structure Lq (H : Hp) (b p r : Addr) (n x y : Nat) (ls : List Txt) : Prop where
  B : Bag H b n
  P : H p = some (.lst (ls.map Tx))
  A : Abcs ls
  R : H r = some (.lst [.int (x : Int), .int (y : Int)])
  bp : b ≠ p
  br : b ≠ r
  pr : p ≠ r
theorem Lq.only {H H' : Hp} {b p r : Addr} {n n' x y : Nat} {ls : List Txt} (s : Lq H b p r n x y ls) (o : Only b H H') (B : Bag H' b n') : Lq H' b p r n' x y ls :=
  ⟨B, o.at s.P s.bp.symm, s.A, o.at s.R s.br.symm, s.bp, s.br, s.pr⟩
theorem Lq.new {H : Hp} {b p r q : Addr} {o : HO} {n x y : Nat} {ls : List Txt} (s : Lq H b p r n x y ls) (h : H q = none) : Lq (upd H q o) b p r n x y ls :=
  ⟨s.B.upd (s.B.ne h), by rw [upd_ne (ne_of_none s.P h)]; exact s.P, s.A, by rw [upd_ne (ne_of_none s.R h)]; exact s.R, s.bp, s.br, s.pr⟩
theorem Lq.room {H : Hp} {b p r : Addr} {n x y x' y' : Nat} {ls : List Txt} (s : Lq H b p r n x y ls) : Lq (upd H r (.lst [.int (x' : Int), .int (y' : Int)])) b p r n x' y' ls :=
  ⟨s.B.upd s.br, by rw [upd_ne s.pr]; exact s.P, s.A, upd_same, s.bp, s.br, s.pr⟩
theorem Lq.mono {H : Hp} {b p r : Addr} {n n' x y : Nat} {ls : List Txt} (s : Lq H b p r n x y ls) (h : n ≤ n') : Lq H b p r n' x y ls := ⟨s.B.mono h, s.P, s.A, s.R, s.bp, s.br, s.pr⟩
theorem Lq.oth {H : Hp} {b p r q : Addr} {o : HO} {n x y : Nat} {ls : List Txt} (s : Lq H b p r n x y ls) (h : q ∉ [b, p, r]) : Lq (upd H q o) b p r n x y ls := by
  have h1 : b ≠ q := fun e => h (by rw [e]; simp)
  have h2 : p ≠ q := fun e => h (by rw [e]; simp)
  have h3 : r ≠ q := fun e => h (by rw [e]; simp)
  exact ⟨s.B.upd h1, by rw [upd_ne h2]; exact s.P, s.A, by rw [upd_ne h3]; exact s.R, s.bp, s.br, s.pr⟩
theorem Lq.out {H : Hp} {b p r q : Addr} {n x y : Nat} {ls : List Txt} (s : Lq H b p r n x y ls) (h : H q = none) : q ∉ [b, p, r] := fun m => by
  have h1 := s.B.ne h
  have h2 := ne_of_none s.P h
  have h3 := ne_of_none s.R h
  simp at m
  rcases m with e | e | e
  · exact h1 e.symm
  · exact h2 e.symm
  · exact h3 e.symm
/-- a text is drawn -/
theorem Lq.near {H H' : Hp} {b p r : Addr} {n n' x y : Nat} {ls : List Txt} {l : Txt} (s : Lq H b p r n x y ls) (a : Abc l) (hl : l.length ≤ 12) (t : Stp [b, p] H H') (B : Bag H' b n') (hp : H' p = some (.lst ((ls ++ [l]).map Tx))) : Lq H' b p r n' x y (ls ++ [l]) :=
  ⟨B, hp, fun z m => by
    rcases List.mem_append.mp m with m | m
    · exact s.A z m
    · rw [List.mem_singleton.mp m]
      exact ⟨a, hl⟩, t.kp _ _ (fun m => by
    simp at m
    rcases m with e | e
    · exact s.br e.symm
    · exact s.pr e.symm) s.R, s.bp, s.br, s.pr⟩
/-- a filter of at most x filters with y texts; 60 draws a filter, 30 a text -/
def spLQ (K : PySem.W.Frag) (L : Nat) : Sp := fun vs H Q _ => ∃ (b p r : Addr) (n x y : Nat) (ls : List Txt), vs = [.ref b, .ref p, .ref r, .int (L : Int)] ∧ Lq H b p r n x y ls ∧ n + 60 * x + 30 * y < 2 ^ 29 ∧ ls.length + y ≤ 1000 ∧ 0 < x ∧ x ≤ 12 ∧ y ≤ 8 ∧ 1 ≤ L ∧ L ≤ 5 ∧
  ∀ v d H' n' x' y' ls', Stp [b, p, r] H H' → Lq H' b p r n' x' y' ls' → n' + 60 * x' + 30 * y' ≤ n + 60 * x + 30 * y → ls'.length + y' ≤ ls.length + y → x' < x → y' ≤ y → Rp K H' v d → FltS d → d.dep ≤ 2 * L → (∀ m, d.dep < m → (fw m d).length + 2 * x' + y' ≤ 2 * x + y) → Q v H'
theorem lq_step {f : Addr} {fd : FuncData} (D : Df K mg "_law_query" s__law_query ["hand", "pool", "room", "levels"] f fd) (T : Nm mg) {L m : Nat} (hm : 3 ≤ m) (c__law_pick : Cl P w K mg base 1 "_law_pick" s__law_pick ["hand", "size"] spPick) (c__law_near : Cl P w K mg base 3 "_law_near" s__law_near ["hand", "pool"] spNear) (c__law_query : Cl P w K mg base m "_law_query" s__law_query ["hand", "pool", "room", "levels"] (spLQ K L)) : Cl P w K mg base (m + 1) "_law_query" s__law_query ["hand", "pool", "room", "levels"] (spLQ K (L + 1)) := by
  refine D.cl sc__law_query (fun vs H Q E h => ?_) (fun cdv A outer s H vs Q E hr h => ?_)
  · obtain ⟨b, p, r, n, x, y, ls, rfl, _⟩ := h
    rfl
  · obtain ⟨b, p, r, n, x, y, ls, rfl, S, hn, hls, x0, x12, y8, -, l5, k⟩ := h
    refine ⟨_, (pss_cons (ps_asg (pe_op op_sub (pe_ix ix_list (pv 2) pe_int (fun _ _ => rfl)) pe_int) (pg_sub (pv 2) pe_int set_list))
      (pss_cons (ps_set (i := 4) sc__law_query.nd rfl (by first | exact Or.inl rfl | exact Or.inr rfl) (pe_cl c__law_pick hr (by omega) (pa_cons (pv 0) (pa_cons pe_int pa_nil))))
      (pss_cons (ps_if (PW.pt (pw_and (pt_cmpR op_gt (pv 4) pe_int (by first | exact nomark _ | rfl)) (pw_and (pt_cmpR op_gt (pv 3) pe_int (by first | exact nomark _ | rfl)) (pw_and1 (pt_cmpR op_gt (pe_ix ix_list (pv 2) pe_int (fun _ _ => rfl)) pe_int (by first | exact nomark _ | rfl)))))) (pss_cons (ps_if (pt_cmpR op_lt (pv 4) pe_int (by first | exact nomark _ | rfl)) (pss_one (ps_ret (pe_tup (pa_cons pe_str (pa_cons (pe_cl c__law_query hr (by omega) (pa_cons (pv 0) (pa_cons (pv 1) (pa_cons (pv 2) (pa_cons (pe_op op_sub (pv 3) pe_int) pa_nil))))) pa_nil))))) pss_nil)
      (pss_cons (ps_set (i := 5) sc__law_query.nd rfl (by first | exact Or.inl rfl | exact Or.inr rfl) (pe_cl c__law_pick hr (by omega) (pa_cons (pv 0) (pa_cons pe_int pa_nil))))
      (pss_cons (ps_if (pt_cmpR op_eq (pv 5) pe_int (by first | exact nomark _ | rfl)) (pss_one (ps_set (i := 5) sc__law_query.nd rfl (by first | exact Or.inl rfl | exact Or.inr rfl) (pe_op op_add pe_int (pe_cl c__law_pick hr (by omega) (pa_cons (pv 0) (pa_cons pe_int pa_nil)))))) pss_nil)
      (pss_cons (ps_set (i := 6) sc__law_query.nd rfl (by first | exact Or.inl rfl | exact Or.inr rfl) (pe_lst pa_nil))
      (pss_cons (ps_for PassesOwn.never rfl (pi_range1 (by rfl) T.n_range (pa_cons (pv 5) pa_nil)) (pg_name (i := 7) sc__law_query.nd rfl (by first | exact Or.inl rfl | exact Or.inr rfl)) (pss_one (ps_if (pt_cmpR op_gt (pe_ix ix_list (pv 2) pe_int (fun _ _ => rfl)) pe_int (by first | exact nomark _ | rfl)) (pss_one (ps_expr (pe_bm PySem.F.plainAttrs_list PySem.F.slot_list_append PySem.F.type_list_append mt_append (pv 6) (pa_cons (pe_cl c__law_query hr (by omega) (pa_cons (pv 0) (pa_cons (pv 1) (pa_cons (pv 2) (pa_cons (pe_op op_sub (pv 3) pe_int) pa_nil))))) pa_nil)))) pss_nil)))
      (pss_one (ps_ret (pe_tup (pa_cons (pe_ix ix_list (pe_lst (pa_cons pe_str (pa_cons pe_str pa_nil))) (pe_op op_mod (pv 4) pe_int) (fun _ _ => rfl)) (pa_cons (pe_callTy call_tuple_of (by rfl) T.n_tuple (by decide +kernel) (pa_cons (pv 6) pa_nil)) pa_nil)))))))))) pss_nil)
      (pss_cons (ps_if (pt_cmpR op_eq (pv 4) pe_int (by first | exact nomark _ | rfl)) (pss_one (ps_ret (pe_tup (pa_cons pe_str (pa_cons (pe_cmpR op_eq (pe_cl c__law_pick hr (by omega) (pa_cons (pv 0) (pa_cons pe_int pa_nil))) pe_int (by first | exact nomark _ | rfl)) pa_nil))))) pss_nil)
      (pss_cons (ps_if (pt_cmpR op_eq (pv 4) pe_int (by first | exact nomark _ | rfl)) (pss_cons (ps_set (i := 5) sc__law_query.nd rfl (by first | exact Or.inl rfl | exact Or.inr rfl) (pe_cl c__law_pick hr (by omega) (pa_cons (pv 0) (pa_cons (pe_op op_add (pe_ix ix_list (pv 2) pe_int (fun _ _ => rfl)) pe_int) pa_nil))))
      (pss_cons (ps_asg (pe_op op_sub (pe_ix ix_list (pv 2) pe_int (fun _ _ => rfl)) (pv 5)) (pg_sub (pv 2) pe_int set_list))
      (pss_one (ps_ret (pe_tup (pa_cons pe_str (pa_cons (pe_callTy call_tuple_of (by rfl) T.n_tuple (by decide +kernel) (pa_cons (pe_lc (own := [("k", 7)]) rfl sc__law_query.nd (pi_range1 (by rfl) T.n_range (pa_cons (pv 5) pa_nil)) (blkOk_by (own := [("k", 7)]) (N := N__law_query) (sc := defScope s__law_query) (by decide +kernel)) (fun _ _ _ _ _ => (pg_name (i := 7) sc__law_query.nd rfl (by first | exact Or.inl rfl | exact Or.inr rfl))) (fun _ _ _ _ _ => pts_nil) (fun _ _ _ _ _ => (pe_cl c__law_near hr (by omega) (pa_cons (pv 0) (pa_cons (pv 1) pa_nil))))) pa_nil)) pa_nil))))))) pss_nil)
      (pss_cons (ps_if (PW.pt (pw_or (pt_cmpR op_eq (pv 4) pe_int (by first | exact nomark _ | rfl)) (pw_or1 (pt_cmpR op_eq (pe_ix ix_list (pv 2) pe_int (fun _ _ => rfl)) pe_int (by first | exact nomark _ | rfl))))) (pss_one (ps_ret (pe_tup (pa_cons pe_str pa_nil)))) pss_nil)
      (pss_cons (ps_asg (pe_op op_sub (pe_ix ix_list (pv 2) pe_int (fun _ _ => rfl)) pe_int) (pg_sub (pv 2) pe_int set_list))
      (pss_one (ps_ret (pe_tup (pa_cons (pe_ix ix_list (pe_lst (pa_cons pe_str (pa_cons pe_str (pa_cons pe_str (pa_cons pe_str pa_nil))))) (pe_op op_mod (pv 4) pe_int) (fun _ _ => rfl)) (pa_cons (pe_cl c__law_near hr (by omega) (pa_cons (pv 0) (pa_cons (pv 1) pa_nil))) pa_nil)))))))))))), ?_⟩
    have one : b ∈ [b, p, r] := by simp
    have rone : r ∈ [b, p, r] := by simp
    have lit : ∀ z : Str, z.length = z.length := fun _ => rfl
    refine ⟨_, rfl, r, _, 0, _, rfl, rfl, SqL.of S.R, at0, _, _, rfl, rfl, _, rfl, r, _, 0, 0, rfl, rfl, S.R, rfl, ?_⟩
    obtain ⟨x, rfl⟩ : ∃ x1, x = x1 + 1 := ⟨x - 1, by omega⟩
    have ex : ((x + 1 : Nat) : Int) - 1 = (x : Int) := by omega
    dsimp only
    rw [ex]
    rw [show ([V.int ((x + 1 : Nat) : Int), V.int (y : Int)].set 0 (V.int (x : Int))) = [V.int (x : Int), V.int (y : Int)] from rfl]
    have S1 : Lq (upd H r (.lst [.int (x : Int), .int (y : Int)])) b p r n x y ls := S.room
    have T1 : Stp [b, p, r] H (upd H r (.lst [.int (x : Int), .int (y : Int)])) := Stp.put rone
    generalize upd H r (.lst [.int (x : Int), .int (y : Int)]) = H1 at *
    refine ⟨_, rfl, b, 14, n, rfl, S1.B, by omega, by decide, by decide, fun way H2 w0 w1 o2 B2 => ?_⟩
    have S2 : Lq H2 b p r (n + 1) x y ls := S1.only o2 B2
    have T2 := T1.trans (o2.stp one)
    dsimp only [gName]
    refine txt_end (fun σ H' => σ = [some (.ref b), some (.ref p), some (.ref r), some (.int ((L + 1 : Nat) : Int)), some (.int way), none, none, none] ∧ H2 = H') ?_ (fun fin => ?_)
    · rintro _ _ ⟨rfl, rfl⟩
      refine ⟨_, rfl, rfl, _, rfl, ite2 (fun _ => ?_) (fun _ => ?_)⟩
      · refine ⟨_, rfl, b, 2, n + 1, rfl, S2.B, by omega, by decide, by decide, fun e H3 e0 e1 o3 B3 => ?_⟩
        have S3 := S2.only o3 B3
        have T3 := T2.trans (o3.stp one)
        refine ⟨rfl, by show 2 ≤ sizeLine; decide, fun a na => ?_⟩
        refine k _ (.tup [.str ("say" : Str).cps.toList, .bl (decide (V.int e = V.int 1))]) _ (n + 2) x y ls (T3.new' na) (S3.new na) (by omega) (by omega) (by omega) (by omega) (rp_mk2 (SqT.of upd_same) (by decide +kernel) (.bl _)) (.say _) (by show _ ≤ 2 * (L + 1); simp [Dt.dep, Dt.depL]; omega) (fun m hm => ?_)
        cases m with
        | zero => exact absurd hm (Nat.not_lt_zero _)
        | succ m =>
          rw [fw_two]
          show (fwP (fw m) "say" _).length + 1 + 2 * x + y ≤ _
          rw [show fwP (fw m) "say" (.bl (decide (V.int e = V.int 1))) = [if decide (V.int e = V.int 1) = true then ("yes" : Str) else ("no" : Str)] by unfold fwP; rw [if_pos rfl]]
          simp only [List.length_singleton]
          omega
      dsimp only [tNext]
      refine ⟨_, rfl, rfl, _, rfl, ite2 (fun _ => ?_) (fun _ => ?_)⟩
      · refine ⟨_, rfl, _, rfl, r, _, 1, _, rfl, rfl, SqL.of S2.R, at1, _, _, rfl, rfl, b, _, n + 1, rfl, S2.B, by omega, by omega, by omega, fun z H3 z0 z1 o3 B3 => ?_⟩
        have S3 := S2.only o3 B3
        have T3 := T2.trans (o3.stp one)
        obtain ⟨z, rfl⟩ := Int.eq_ofNat_of_zero_le z0
        have zy : z ≤ y := by omega
        refine ⟨_, rfl, r, _, 1, _, rfl, rfl, SqL.of S3.R, at1, _, rfl, _, _, rfl, rfl, _, rfl, r, _, 1, 1, rfl, rfl, S3.R, rfl, ?_⟩
        have ey : (y : Int) - (z : Int) = ((y - z : Nat) : Int) := by omega
        dsimp only
        rw [ey, show ([V.int (x : Int), V.int (y : Int)].set 1 (V.int ((y - z : Nat) : Int))) = [V.int (x : Int), V.int ((y - z : Nat) : Int)] from rfl]
        have S4 : Lq (upd H3 r (.lst [.int (x : Int), .int ((y - z : Nat) : Int)])) b p r (n + 2) x (y - z) ls := S3.room
        have T4 := T3.trans (Stp.put (H := H3) (ys := [.int (x : Int), .int ((y - z : Nat) : Int)]) rone)
        generalize upd H3 r (.lst [.int (x : Int), .int ((y - z : Nat) : Int)]) = H4 at *
        refine ⟨_, rfl, _, rfl, by omega, by omega, fun M nM => ?_⟩
        have oM := S4.out nM
        have a0 : Abcs [] := fun _ m => by cases m
        have nMH := T4.fresh oM nM
        refine lc_range (lo := 0) (n := z) (fun c H5 => ∃ (ts ls1 : List Txt), H5 M = some (.lst (ts.map Tx)) ∧ ts.length = c ∧ Abcs ts ∧ Lq H5 b p r (n + 2 + 20 * c) x (y - z) ls1 ∧ ls1.length = ls.length + c ∧ Stp [b, p, r] H H5)
          ⟨[], ls, upd_same, rfl, a0, S4.new nM, rfl, T4.new' nM⟩ ?_ ?_
        · rintro c H5 hc ⟨ts, ls1, hM, tl, ta, S5, l1, T5⟩
          refine ⟨rfl, _, rfl, _, rfl, b, p, n + 2 + 20 * c, ls1, rfl, S5.B, by omega, S5.bp, S5.P, S5.A, by omega, fun l H6 al ll T6 B6 hp6 => ?_⟩
          have S6 := S5.near al ll T6 B6 hp6
          have hM6 := T6.kp _ _ (fun m => oM (by simp at m; rcases m with e | e <;> simp [e])) hM
          refine ⟨_, hM6, ?_, ts ++ [l], ls1 ++ [l], ?_, by simp [tl], ?_, (S6.oth oM).mono (by omega), by simp [l1]; omega, (T5.trans (T6.sub fun x m => by simp at m; rcases m with e | e <;> simp [e])).mut nMH⟩
          · rw [List.length_map]
            exact Nat.lt_of_le_of_lt (show ts.length ≤ 100000 by omega) (by decide)
          · rw [upd_same, List.map_append]
            rfl
          · intro w m
            rcases List.mem_append.mp m with m | m
            · exact ta w m
            · rw [List.mem_singleton.mp m]
              exact ⟨al, ll⟩
        · rintro H5 ⟨ts, ls1, hM, tl, ta, S5, l1, T5⟩
          refine ⟨M, _, rfl, .inl ⟨SqL.of hM, fun t nt => ?_⟩⟩
          have S6 : Lq (upd H5 t (.tup (ts.map Tx))) b p r (n + 2 + 20 * z) x (y - z) ls1 := S5.new nt
          have T6 : Stp [b, p, r] H (upd H5 t (.tup (ts.map Tx))) := T5.new' nt
          have ht : SqT K (upd H5 t (.tup (ts.map Tx))) t (ts.map Tx) := SqT.of upd_same
          generalize upd H5 t (.tup (ts.map Tx)) = H6 at *
          refine ⟨by show 2 ≤ sizeLine; decide, fun a na => ?_⟩
          have rt : Rp K H6 (.ref t) (.tup (ts.map Dt.str)) := .tup ht (by rw [List.length_map]; omega) (rpl_mk fun l m => by have := (ta l m).2; omega)
          refine k _ (.tup [.str ("among" : Str).cps.toList, .tup (ts.map Dt.str)]) _ (n + 2 + 20 * z) x (y - z) ls1 (T6.new' na) (S6.new na) (by omega) (by omega) (by omega) (by omega) (rp_mk2 (SqT.of upd_same) (by decide +kernel) (rt.stp (Stp.new na _) Lsts.nil)) (.among (fun l m => ⟨(ta l m).1, by have := (ta l m).2; omega⟩) (by omega)) ?_ (fun m hm => ?_)
          · have := depL_str ts
            show max (Dt.dep _) (max (Dt.depL (ts.map Dt.str) + 1) 0) + 1 ≤ 2 * (L + 1)
            rw [this]
            show max 0 _ + 1 ≤ _
            omega
          cases m with
          | zero => exact absurd hm (Nat.not_lt_zero _)
          | succ m =>
            rw [fw_two, fwP_among]
            simp only [List.length_cons, List.length_map]
            omega
      dsimp only [tNext]
      have nonek : ∀ a, H2 a = none → Q (.ref a) (upd H2 a (.tup [.str "none"])) := fun a na => by
        refine k _ (.tup [.str ("none" : Str).cps.toList]) _ (n + 1) x y ls (T2.new' na) (S2.new na) (by omega) (by omega) (by omega) (by omega) (rp_mk1 (SqT.of upd_same) (by decide +kernel)) .none ?_ (fun m hm => ?_)
        · show 1 ≤ 2 * (L + 1)
          omega
        cases m with
        | zero => exact absurd hm (Nat.not_lt_zero _)
        | succ m =>
          rw [fw_none]
          simp only [List.length_singleton]
          omega
      refine ⟨_, rfl, rfl, _, rfl, ite2 (fun _ => ⟨by show 1 ≤ sizeLine; decide, nonek⟩) (fun _ => ?_)⟩
      refine ⟨_, rfl, r, _, 1, _, rfl, rfl, SqL.of S2.R, at1, rfl, _, rfl, ite2 (fun _ => ⟨by show 1 ≤ sizeLine; decide, nonek⟩) (fun y0 => ?_)⟩
      have y1 : 0 < y := by
        rcases Nat.eq_zero_or_pos y with e | e
        · subst e
          exact absurd rfl y0
        · exact e
      dsimp only [tNext]
      refine ⟨_, rfl, r, _, 1, _, rfl, rfl, SqL.of S2.R, at1, _, _, rfl, rfl, _, rfl, r, _, 1, 1, rfl, rfl, S2.R, rfl, ?_⟩
      have ey : (y : Int) - 1 = ((y - 1 : Nat) : Int) := by omega
      dsimp only
      rw [ey, show ([V.int (x : Int), V.int (y : Int)].set 1 (V.int ((y - 1 : Nat) : Int))) = [V.int (x : Int), V.int ((y - 1 : Nat) : Int)] from rfl]
      have S4 : Lq (upd H2 r (.lst [.int (x : Int), .int ((y - 1 : Nat) : Int)])) b p r (n + 1) x (y - 1) ls := S2.room
      have T4 := T2.trans (Stp.put (H := H2) (ys := [.int (x : Int), .int ((y - 1 : Nat) : Int)]) rone)
      generalize upd H2 r (.lst [.int (x : Int), .int ((y - 1 : Nat) : Int)]) = H4 at *
      refine ⟨by show 4 ≤ sizeLine; decide, fun q nq => ?_⟩
      have S5 : Lq (upd H4 q (.lst [.str "is", .str "below", .str "above", .str "begins"])) b p r (n + 1) x (y - 1) ls := S4.new nq
      have T5 := T4.new' (o := .lst [.str "is", .str "below", .str "above", .str "begins"]) nq
      have hq : (upd H4 q (.lst [.str "is", .str "below", .str "above", .str "begins"])) q = some (.lst [.str "is", .str "below", .str "above", .str "begins"]) := upd_same
      generalize upd H4 q (.lst [.str "is", .str "below", .str "above", .str "begins"]) = H5 at *
      obtain ⟨j, hj, ej⟩ : ∃ j : Nat, j < 4 ∧ way % 4 = (j : Int) := ⟨(way % 4).toNat, by omega, by omega⟩
      obtain ⟨z, hz, hw⟩ : ∃ z : Str, ([V.str "is", V.str "below", V.str "above", V.str "begins"] : List V)[j]? = some (.str z) ∧ (z = "is" ∨ z = "below" ∨ z = "above" ∨ z = "begins") := by
        rcases (show j = 0 ∨ j = 1 ∨ j = 2 ∨ j = 3 by omega) with rfl | rfl | rfl | rfl
        · exact ⟨_, rfl, .inl rfl⟩
        · exact ⟨_, rfl, .inr (.inl rfl)⟩
        · exact ⟨_, rfl, .inr (.inr (.inl rfl))⟩
        · exact ⟨_, rfl, .inr (.inr (.inr rfl))⟩
      have lz : z.length ≤ 100000 := by
        rcases hw with rfl | rfl | rfl | rfl <;> decide +kernel
      refine ⟨_, rfl, _, _, rfl, rfl, show (0 : Int) < 4 by decide, ?_⟩
      dsimp only
      rw [ej]
      refine ⟨q, _, (j : Int), .str z, rfl, rfl, SqL.of hq, atI_nat hz, ?_⟩
      refine ⟨_, rfl, _, rfl, b, p, n + 1, ls, rfl, S5.B, by omega, S5.bp, S5.P, S5.A, by omega, fun l H6 al ll T6 B6 hp6 => ?_⟩
      have S6 := S5.near al ll T6 B6 hp6
      have T7 := T5.trans (T6.sub fun x m => by simp at m; rcases m with e | e <;> simp [e])
      refine ⟨by show 2 ≤ sizeLine; decide, fun a na => ?_⟩
      refine k _ (.tup [.str z.cps.toList, .str l]) _ (n + 1 + 20) x (y - 1) (ls ++ [l]) (T7.new' na) (S6.new na) (by omega) (by simp; omega) (by omega) (by omega) (rp_mk2 (SqT.of upd_same) lz (.str l (by omega))) (.tx hw al (by omega)) ?_ (fun m hm => ?_)
      · show 1 ≤ 2 * (L + 1)
        omega
      cases m with
      | zero => exact absurd hm (Nat.not_lt_zero _)
      | succ m =>
        rw [fw_two, fwP_tx _ hw]
        simp only [List.length_cons, List.length_nil]
        omega
    · refine ⟨_, rfl, _, _, rfl, rfl, _, rfl, ite2 (fun w6 => ?_) (fun _ => fin _ _ ⟨rfl, rfl⟩)⟩
      refine ⟨_, rfl, _, _, rfl, rfl, _, rfl, ite2 (fun l1 => ?_) (fun _ => fin _ _ ⟨rfl, rfl⟩)⟩
      refine ⟨_, rfl, r, _, 0, _, rfl, rfl, SqL.of S2.R, at0, _, _, rfl, rfl, _, rfl, ite2 (fun x1 => ?_) (fun _ => fin _ _ ⟨rfl, rfl⟩)⟩
      have x1 : 0 < x := by
        have := of_decide_eq_true x1
        omega
      have l1 : 1 ≤ L := by
        have := of_decide_eq_true l1
        omega
      have el : (((L + 1 : Nat) : Int) - 1) = (L : Int) := by omega
      refine ⟨_, rfl, _, _, rfl, rfl, _, rfl, ite2 (fun _ => ?_) (fun _ => ?_)⟩
      · refine ⟨_, rfl, _, rfl, _, rfl, _, rfl, _, _, rfl, rfl, b, p, r, n + 1, x, y, ls, by dsimp only; rw [el], S2, by omega, by omega, x1, by omega, by omega, l1, by omega, fun v d H3 n' x' y' ls' T3 S3 cn cl cx cy rv fd dd fw3 => ?_⟩
        refine ⟨by show 2 ≤ sizeLine; decide, fun a na => ?_⟩
        refine k _ (.tup [.str ("not" : Str).cps.toList, d]) _ n' x' y' ls' ((T2.trans T3).new' na) (S3.new na) (by omega) (by omega) (by omega) (by omega) (rp_mk2 (SqT.of upd_same) (by decide +kernel) (rv.stp (Stp.new na _) Lsts.nil)) (.not fd) ?_ (fun m hm => ?_)
        · show max 0 (max d.dep 0) + 1 ≤ 2 * (L + 1)
          omega
        cases m with
        | zero => exact absurd hm (Nat.not_lt_zero _)
        | succ m =>
          have := fw3 m (dep_two hm)
          rw [fw_two, show fwP (fw m) "not" d = fw m d by unfold fwP; rw [if_neg (by decide +kernel), if_pos rfl]]
          simp only [List.length_cons]
          omega
      dsimp only [tNext]
      refine ⟨_, rfl, b, 5, n + 1, rfl, S2.B, by omega, by decide, by decide, fun z H3 z0 z1 o3 B3 => ?_⟩
      have S3 := S2.only o3 B3
      have T3 := T2.trans (o3.stp one)
      obtain ⟨z, rfl⟩ := Int.eq_ofNat_of_zero_le z0
      dsimp only [gName]
      refine txt_end (fun σ H' => ∃ z : Nat, σ = [some (.ref b), some (.ref p), some (.ref r), some (.int ((L + 1 : Nat) : Int)), some (.int way), some (.int (z : Int)), none, none] ∧ z ≤ 11 ∧ Lq H' b p r (n + 3) x y ls ∧ Stp [b, p, r] H H') ?_ (fun fin2 => ?_)
      rotate_left
      · refine ⟨_, rfl, rfl, _, rfl, ite2 (fun _ => ?_) (fun _ => ?_)⟩
        · refine ⟨_, rfl, b, 8, n + 2, rfl, S3.B, by omega, by decide, by decide, fun e H4 e0 e1 o4 B4 => ?_⟩
          obtain ⟨e, rfl⟩ := Int.eq_ofNat_of_zero_le e0
          exact ⟨_, _, rfl, rfl, fin2 _ _ ⟨4 + e, rfl, by omega, S3.only o4 B4, T3.trans (o4.stp one)⟩⟩
        · exact fin2 _ _ ⟨z, rfl, by omega, S3.mono (by omega), T3⟩
      rintro σ H4 ⟨z, rfl, z11, S4, T4⟩
      refine ⟨by show 0 ≤ sizeLine; decide, fun M nM => ?_⟩
      have oM := S4.out nM
      have nMH := T4.fresh oM nM
      have S5 : Lq (upd H4 M (.lst [])) b p r (n + 3) x y ls := S4.new nM
      have T5 : Stp [b, p, r] H (upd H4 M (.lst [])) := T4.new' nM
      have hM5 : (upd H4 M (.lst [])) M = some (.lst []) := upd_same
      generalize upd H4 M (.lst []) = H5 at *
      have e0 : ∀ d ∈ ([] : List Dt), FltS d ∧ d.dep ≤ 2 * L := fun d m => by cases m
      refine ⟨_, rfl, _, rfl, by omega, by omega, for_range (lo := 0) (n := z) (fun c σ H' => ∃ (vs : List V) (ds : List Dt) (n1 x1 y1 : Nat) (ls1 : List Txt) (x7 : Option V), σ = [some (.ref b), some (.ref p), some (.ref r), some (.int ((L + 1 : Nat) : Int)), some (.int way), some (.int (z : Int)), some (.ref M), x7] ∧ H' M = some (.lst vs) ∧ RpL K H' vs ds ∧ ds.length ≤ c ∧ (∀ d ∈ ds, FltS d ∧ d.dep ≤ 2 * L) ∧ Lq H' b p r n1 x1 y1 ls1 ∧ n1 + 60 * x1 + 30 * y1 ≤ n + 3 + 60 * x + 30 * y ∧ ls1.length + y1 ≤ ls.length + y ∧ x1 ≤ x ∧ y1 ≤ y ∧ (∀ m, (∀ d ∈ ds, d.dep < m) → (ds.flatMap (fw m)).length + 2 * x1 + y1 ≤ 2 * x + y) ∧ Stp [b, p, r] H H')
        ⟨[], [], n + 3, x, y, ls, none, rfl, hM5, .nil, Nat.le_refl _, e0, S5, Nat.le_refl _, Nat.le_refl _, Nat.le_refl _, Nat.le_refl _, fun m _ => by show 0 + 2 * x + y ≤ 2 * x + y; omega, T5⟩ ?_ ?_⟩
      · rintro c σ H6 hc ⟨vs, ds, n1, x1, y1, ls1, x7, rfl, hM, rl, dl, df, S6, cn, cl, cx, cy, fw3, T6⟩
        refine ⟨_, rfl, r, _, 0, _, rfl, rfl, SqL.of S6.R, at0, _, _, rfl, rfl, _, rfl, ite2 (fun h => ?_) (fun _ => ?_)⟩
        · have h1 : 0 < x1 := by
            have := of_decide_eq_true h
            omega
          refine ⟨_, rfl, .inl ⟨rfl, _, SqL.of hM⟩, _, rfl, _, rfl, _, rfl, _, rfl, _, _, rfl, rfl, b, p, r, n1, x1, y1, ls1, by dsimp only; rw [el], S6, by omega, by omega, h1, by omega, by omega, l1, by omega, fun v d H7 n2 x2 y2 ls2 T7 S7 cn2 cl2 cx2 cy2 rv fd dd fw4 => ?_⟩
          have hM7 := T7.kp _ _ oM hM
          have lx := rl.len
          have la : Lsts H6 [b, p, r] := by
            obtain ⟨u0, u1, u2, hb, _⟩ := S6.B
            exact .cons hb (.cons S6.P (.one S6.R))
          have U : Stp [M] H7 (upd H7 M (.lst (vs ++ [v]))) := Stp.put (by simp)
          refine ⟨M, vs, v, rfl, rfl, hM7, Nat.lt_of_le_of_lt (show vs.length ≤ 1000 by omega) (by decide), ?_⟩
          refine ⟨vs ++ [v], ds ++ [d], n2, x2, y2, ls2, some (.int (0 + (c : Int))), rfl, upd_same, RpL.app ((rl.stp T7 la).stp U (Lsts.one hM7)) (.cons (rv.stp U (Lsts.one hM7)) .nil), by simp; omega, ?_, S7.oth oM, by omega, by omega, by omega, by omega, fun m hm => ?_, (T6.trans T7).mut nMH⟩
          · intro e me
            rcases List.mem_append.mp me with me | me
            · exact df e me
            · rw [List.mem_singleton.mp me]
              exact ⟨fd, dd⟩
          · have a1 := fw3 m (fun e me => hm e (by simp [me]))
            have a2 := fw4 m (hm d (by simp))
            rw [List.flatMap_append, List.length_append]
            simp only [List.flatMap_cons, List.flatMap_nil, List.append_nil]
            omega
        · exact ⟨vs, ds, n1, x1, y1, ls1, some (.int (0 + (c : Int))), rfl, hM, rl, by omega, df, S6, cn, cl, cx, cy, fw3, T6⟩
      · rintro σ H6 ⟨vs, ds, n1, x1, y1, ls1, x7, rfl, hM, rl, dl, df, S6, cn, cl, cx, cy, fw3, T6⟩
        have lx := rl.len
        refine ⟨by show 2 ≤ sizeLine; decide, fun q nq => ?_⟩
        have S7 : Lq (upd H6 q (.lst [.str "and", .str "or"])) b p r n1 x1 y1 ls1 := S6.new nq
        have T7 : Stp [b, p, r] H (upd H6 q (.lst [.str "and", .str "or"])) := T6.new' nq
        have hq : (upd H6 q (.lst [.str "and", .str "or"])) q = some (.lst [.str "and", .str "or"]) := upd_same
        have hM7 : (upd H6 q (.lst [.str "and", .str "or"])) M = some (.lst vs) := by rw [upd_ne (ne_of_none hM nq)]; exact hM
        have rl7 := rl.stp (Stp.new (o := .lst [.str "and", .str "or"]) nq []) Lsts.nil
        generalize upd H6 q (.lst [.str "and", .str "or"]) = H7 at *
        obtain ⟨j, hj, ej⟩ : ∃ j : Nat, j < 2 ∧ way % 2 = (j : Int) := ⟨(way % 2).toNat, by omega, by omega⟩
        obtain ⟨w0, hw0, hw⟩ : ∃ w0 : Str, ([V.str "and", V.str "or"] : List V)[j]? = some (.str w0) ∧ (w0 = "and" ∨ w0 = "or") := by
          rcases (show j = 0 ∨ j = 1 by omega) with rfl | rfl
          · exact ⟨_, rfl, .inl rfl⟩
          · exact ⟨_, rfl, .inr rfl⟩
        have lz : w0.length ≤ 100000 := by
          rcases hw with rfl | rfl <;> decide +kernel
        refine ⟨_, rfl, _, _, rfl, rfl, show (0 : Int) < 2 by decide, ?_⟩
        dsimp only
        rw [ej]
        refine ⟨q, _, (j : Int), .str w0, rfl, rfl, SqL.of hq, atI_nat hw0, ?_⟩
        refine ⟨_, rfl, M, _, rfl, .inl ⟨SqL.of hM7, fun t nt => ?_⟩⟩
        have S8 : Lq (upd H7 t (.tup vs)) b p r n1 x1 y1 ls1 := S7.new nt
        have T8 : Stp [b, p, r] H (upd H7 t (.tup vs)) := T7.new' nt
        have ht : SqT K (upd H7 t (.tup vs)) t vs := SqT.of upd_same
        have rl8 := rl7.stp (Stp.new (o := .tup vs) nt []) Lsts.nil
        generalize upd H7 t (.tup vs) = H8 at *
        have rt : Rp K H8 (.ref t) (.tup ds) := .tup ht (by omega) rl8
        refine ⟨by show 2 ≤ sizeLine; decide, fun a na => ?_⟩
        refine k _ (.tup [.str w0.cps.toList, .tup ds]) _ n1 x1 y1 ls1 (T8.new' na) (S8.new na) (by omega) (by omega) (by omega) (by omega) (rp_mk2 (SqT.of upd_same) lz (rt.stp (Stp.new na _) Lsts.nil)) (.many hw (fun d m => (df d m).1) (by omega)) ?_ (fun m hm => ?_)
        · have := depL_le ds (fun d m => (df d m).2)
          show max 0 (max (Dt.depL ds + 1) 0) + 1 ≤ 2 * (L + 1)
          omega
        cases m with
        | zero => exact absurd hm (Nat.not_lt_zero _)
        | succ m =>
          have := fw3 m (fun d md => dep_in hm md)
          rw [fw_two, fwP_many _ hw]
          simp only [List.length_cons]
          omega
theorem lq_all {f : Addr} {fd : FuncData} (D : Df K mg "_law_query" s__law_query ["hand", "pool", "room", "levels"] f fd) (T : Nm mg) (c__law_pick : Cl P w K mg base 1 "_law_pick" s__law_pick ["hand", "size"] spPick) (c__law_near : Cl P w K mg base 3 "_law_near" s__law_near ["hand", "pool"] spNear) : ∀ L : Nat, Cl P w K mg base (L + 3) "_law_query" s__law_query ["hand", "pool", "room", "levels"] (spLQ K L)
  | 0 => cl_never D (fun vs H Q E ⟨b, p, r, n, x, y, ls, _, _, _, _, _, _, _, h, _⟩ => absurd h (by decide)) _
  | L + 1 => lq_step D T (by omega) c__law_pick c__law_near (lq_all D T c__law_pick c__law_near L)
theorem wds_len {l : Txt} (h : l.length ≤ 40) : (wdS l).length ≤ 40 := by
  unfold wdS
  by_cases e : l = []
  · rw [if_pos e]
    decide +kernel
  · rw [if_neg e, tx_len]
    exact h
theorem fw_short : ∀ {n : Nat} {d : Dt}, FltS d → d.dep < n → ∀ z ∈ fw n d, z.length ≤ 40
  | 0, _, _, h => absurd h (Nat.not_lt_zero _)
  | n + 1, _, .none, _ => by
    rw [fw_none]
    exact fun z m => by rw [List.mem_singleton.mp m]; decide +kernel
  | n + 1, _, .say b, _ => by
    rw [fw_two]
    intro z m
    rw [show fwP (fw n) "say" (.bl b) = [if b = true then ("yes" : Str) else ("no" : Str)] by unfold fwP; rw [if_pos rfl]] at m
    have k : ∀ b : Bool, ∀ z ∈ [("say" : Str), (if b = true then ("yes" : Str) else ("no" : Str))], z.length ≤ 40 := by decide +kernel
    exact k b z m
  | n + 1, _, .not (d := d) f, h => by
    rw [fw_two]
    intro z m
    rw [show fwP (fw n) "not" d = fw n d by unfold fwP; rw [if_neg (by decide +kernel), if_pos rfl]] at m
    rcases List.mem_cons.mp m with rfl | m
    · decide +kernel
    · exact fw_short f (dep_two h) z m
  | n + 1, _, .tx (l := l) hw al hl, _ => by
    rw [fw_two, fwP_tx _ hw]
    intro z m
    rcases List.mem_cons.mp m with rfl | m
    · rcases hw with rfl | rfl | rfl | rfl <;> decide +kernel
    · rw [List.mem_singleton.mp m]
      exact wds_len hl
  | n + 1, _, .among (ls := ls) mt few, _ => by
    rw [fw_two, fwP_among]
    intro z m
    rcases List.mem_cons.mp m with rfl | m
    · decide +kernel
    rcases List.mem_cons.mp m with rfl | m
    · have := (num_ok _ (List.mem_range.mpr (by rw [List.length_map]; exact few : (ls.map Dt.str).length < 1000))).2.2.1
      omega
    · obtain ⟨d, md, rfl⟩ := List.mem_map.mp m
      obtain ⟨l, ml, rfl⟩ := List.mem_map.mp md
      exact wds_len (mt l ml).2
  | n + 1, _, .many (ds := ds) hw mf few, h => by
    rw [fw_two, fwP_many _ hw]
    intro z m
    rcases List.mem_cons.mp m with rfl | m
    · rcases hw with rfl | rfl <;> decide +kernel
    rcases List.mem_cons.mp m with rfl | m
    · have := (num_ok _ (List.mem_range.mpr few)).2.2.1
      omega
    · obtain ⟨d, md, mz⟩ := List.mem_flatMap.mp m
      exact fw_short (mf d md) (dep_in h md) z mz
theorem sum_le {k : Nat} : ∀ ws : List Str, (∀ z ∈ ws, z.length ≤ k) → (ws.map fun z => z.length).sum ≤ k * ws.length
  | [], _ => by simp
  | z :: ws, h => by
    have h1 := h z (by simp)
    have h2 := sum_le ws fun e m => h e (by simp [m])
    rw [List.map_cons, List.sum_cons, List.length_cons, Nat.mul_succ]
    omega
abbrev s__law_odd : Stmt := topS 39
abbrev N__law_odd : List Str := ["hand", "text", "put", "at", "odd"]
theorem sc__law_odd : FnScope ["hand", "text", "put", "at", "odd"] ["hand", "text"] (defScope s__law_odd) := ⟨rfl, rfl, rfl, by decide +kernel, rfl, by decide +kernel, by decide +kernel⟩

/-! ### what is no filter -/
theorem nf_of {d : Dt} (h : ∀ l rest, d ≠ .tup (.str l :: rest)) : ¬ Flt d := fun f => by
  obtain ⟨l, rest, e, _⟩ := flt_head f
  exact h l rest e
theorem nf_non : ¬ Flt .non := nf_of fun _ _ e => nomatch e
theorem nf_bl {b : Bool} : ¬ Flt (.bl b) := nf_of fun _ _ e => nomatch e
theorem nf_int {i : Int} : ¬ Flt (.int i) := nf_of fun _ _ e => nomatch e
theorem nf_str {l : List Nat} : ¬ Flt (.str l) := nf_of fun _ _ e => nomatch e
theorem nf_lst : ¬ Flt .lst := nf_of fun _ _ e => nomatch e
theorem nf_obj : ¬ Flt .obj := nf_of fun _ _ e => nomatch e
theorem nf_nil : ¬ Flt (.tup []) := nf_of fun _ _ e => nomatch e
theorem nf_hd {d : Dt} {rest : List Dt} (h : ∀ l, d ≠ .str l) : ¬ Flt (.tup (d :: rest)) := nf_of fun l r e => by
  injection e with e
  injection e with e1 _
  exact h l e1
theorem nf_3 {a b c : Dt} {rest : List Dt} : ¬ Flt (.tup (a :: b :: c :: rest)) := fun f => by
  obtain ⟨l, r, e, hl⟩ := flt_head f
  injection e with e
  injection e with _ e2
  subst e2
  simp at hl
theorem nf_1s {s : Str} (h : s ≠ "none") : ¬ Flt (.tup [.str s.cps.toList]) := fun f => by
  rw [flt_one, lit_tx] at f
  exact h f
theorem nf_2 {s : Str} {d : Dt} (h : ¬ CanF s d) : ¬ Flt (.tup [.str s.cps.toList, d]) := fun f => by
  rw [flt_two, lit_tx] at f
  exact h f
theorem ntx_cat {l m : List Nat} (h : ¬ ∀ c ∈ m, c = 97 ∨ c = 98 ∨ c = 99) : ¬ IsTx (.str (l ++ m)) := fun ⟨k, e, a⟩ => by
  injection e with e
  subst e
  exact h fun c q => a c (List.mem_append_right _ q)
theorem nall {p : Dt → Prop} {ds : List Dt} {x : Dt} (m : x ∈ ds) (h : ¬ p x) : ¬ ∃ es, Dt.tup ds = .tup es ∧ ∀ e ∈ es, p e := fun ⟨es, e, q⟩ => by
  injection e with e
  subst e
  exact h (q x m)
theorem nsieve {ds : List Dt} (f : Flt (.tup ds)) : ¬ ∃ es, Dt.tup ds = .tup es ∧ ∀ e ∈ es, Flt e := by
  obtain ⟨l, r, e, _⟩ := flt_head f
  injection e with e
  subst e
  exact nall (x := .str l) (by simp) nf_str
/-- none of them a filter, none deep -/
def Odds (n : Nat) (xs : List Dt) : Prop := ∀ d ∈ xs, ¬ Flt d ∧ d.dep ≤ n + 3
theorem Odds.nil {n : Nat} : Odds n [] := fun _ m => nomatch m
theorem Odds.cons {n : Nat} {d : Dt} {xs : List Dt} (h : ¬ Flt d) (g : d.dep ≤ n + 3) (t : Odds n xs) : Odds n (d :: xs) := fun e m => by
  rcases List.mem_cons.mp m with rfl | m
  · exact ⟨h, g⟩
  · exact t e m
theorem Odds.app {n : Nat} {xs ys : List Dt} (h : Odds n xs) (g : Odds n ys) : Odds n (xs ++ ys) := fun e m => (List.mem_append.mp m).elim (h e) (g e)
theorem depL_app : ∀ a b : List Dt, Dt.depL (a ++ b) = max (Dt.depL a) (Dt.depL b)
  | [], b => (Nat.zero_max _).symm
  | x :: a, b => by
    show max x.dep (Dt.depL (a ++ b)) = max (max x.dep (Dt.depL a)) (Dt.depL b)
    rw [depL_app a b, Nat.max_assoc]
def nine : List Str := ["none", "say", "not", "among", "and", "or", "is", "below", "above", "begins"]
theorem words_of {l : List Nat} {rest : List Dt} (f : Flt (.tup (.str l :: rest))) : ∃ wd : Str, l = wd.cps.toList ∧ wd ∈ nine := by
  cases f with
  | @tx wd l hw h => exact ⟨wd, rfl, by rcases hw with rfl | rfl | rfl | rfl <;> simp [nine]⟩
  | none => exact ⟨_, rfl, by simp [nine]⟩
  | say b => exact ⟨_, rfl, by simp [nine]⟩
  | not h => exact ⟨_, rfl, by simp [nine]⟩
  | among h => exact ⟨_, rfl, by simp [nine]⟩
  | @many wd ds hw h => exact ⟨wd, rfl, by rcases hw with rfl | rfl <;> simp [nine]⟩
theorem nf_word {l : List Nat} {rest : List Dt} (h : ∀ wd ∈ nine, l ≠ wd.cps.toList) : ¬ Flt (.tup (.str l :: rest)) := fun f => by
  obtain ⟨wd, e, m⟩ := words_of f
  exact h wd m e
theorem nf_up {l : List Nat} {rest : List Dt} (f : Flt (.tup (.str l :: rest))) : ¬ Flt (.tup ([.str (Txt.upper (tx l)).cps.toList] ++ List.drop 1 (.str l :: rest))) := by
  obtain ⟨wd, rfl, m⟩ := words_of f
  rw [lit_tx]
  have k : ∀ wd ∈ nine, ∀ w2 ∈ nine, (Txt.upper wd).cps.toList ≠ w2.cps.toList := by decide +kernel
  exact nf_word fun w2 m2 => k wd m w2 m2
theorem nf_sp {l : List Nat} {rest : List Dt} (f : Flt (.tup (.str l :: rest))) : ¬ Flt (.tup ([.str (l ++ (" " : Str).cps.toList)] ++ List.drop 1 (.str l :: rest))) := by
  obtain ⟨wd, rfl, m⟩ := words_of f
  have k : ∀ wd ∈ nine, ∀ w2 ∈ nine, wd.cps.toList ++ (" " : Str).cps.toList ≠ w2.cps.toList := by decide +kernel
  exact nf_word fun w2 m2 => k wd m w2 m2
theorem nf_app {l : List Nat} {rest : List Dt} {x : Dt} (f : Flt (.tup (.str l :: rest))) : ¬ Flt (.tup ((.str l :: rest) ++ [x])) := by
  cases rest with
  | nil =>
    have e := flt_one.mp f
    intro g
    have q := (flt_none e).mp (show Flt (.tup (.str l :: [x])) from g)
    simp at q
  | cons a r =>
    cases r with
    | nil => exact nf_3
    | cons b r => exact absurd f nf_3
theorem EvD.upper {K : PySem.W.Frag} {σ : L2.St} {H : Hp} {te : TE} {a : List Nat} (h : EvD K te σ H (.str a)) (hl : a.length ≤ 1000) : EvD K (tM0 (fun x xs H Q => ∃ a, x = .str a ∧ xs = [] ∧ a.length ≤ 5592405 ∧ Q (.str (Txt.upper a)) H) te) σ H (.str (Txt.upper (tx a)).cps.toList) := fun H1 s Q k =>
  h H1 s _ fun v H2 s2 r => by
    cases r with
    | str _ h1 =>
      refine ⟨⟨_, rfl⟩, tx a, rfl, rfl, by rw [tx_len]; omega, k _ _ s2 (Rp.lit _ ?_)⟩
      have := PyProof.Rows.len_upper (tx a)
      have t := tx_len a
      have e : (Txt.upper (tx a)).cps.toList.length = (Txt.upper (tx a)).length := by simp [Str.length]
      omega
theorem EvD.fromT {K : PySem.W.Frag} {σ : L2.St} {H : Hp} {te : TE} {ds : List Dt} (h : Pg.EvD K te σ H (.tup ds)) : Pg.EvD K (tSl (rSlA K) te (tPart (tC (.int 1))) tNoPart) σ H (.tup (ds.drop 1)) := fun H1 s Q k =>
  h H1 s _ fun v H2 s2 r => by
    cases r with
    | tup hs hn rl =>
      refine ⟨(1 : Int), rfl, ?_⟩
      refine Pg.nopart ?_
      refine slA_use hs fun p H3 S3 q3 => ?_
      rw [show (1 : Int) = ((1 : Nat) : Int) from rfl, cut_from] at q3
      exact k _ _ (s2.trans S3) (.tup q3 (by rw [List.length_drop]; omega) ((rl.stp S3 Lsts.nil).drop 1))
theorem EvD.catT {K : PySem.W.Frag} {σ : L2.St} {H : Hp} {te tb : TE} {ds es : List Dt} (h : Pg.EvD K te σ H (.tup ds)) (g : Pg.EvD K tb σ H (.tup es)) (hl : ds.length + es.length ≤ 100000) : Pg.EvD K (tOp (rCatA K) te tb) σ H (.tup (ds ++ es)) := fun H1 s Q k =>
  h H1 s _ fun v H2 s2 r => g H2 (s.trans s2) _ fun u H3 s3 q => by
    have r := r.stp s3 Lsts.nil
    cases r with
    | tup hs hn rl =>
      cases q with
      | tup hs2 hn2 rl2 =>
        refine catA_use hs hs2 (by rw [rl.len, rl2.len]; exact hl) fun p H4 S4 q4 => ?_
        exact k _ _ ((s2.trans s3).trans S4) (.tup q4 (by rw [List.length_append, rl.len, rl2.len]; exact hl) ((rl.app rl2).stp S4 Lsts.nil))
theorem catsz {l : List Nat} {s : Str} (h : l.length ≤ 12) (g : s.cps.toList.length ≤ 100) : l.length + s.cps.toList.length ≤ 100000 := by omega
/-! ### values that are none -/
def putL : List Nat := [32, 33, 34, 35, 36, 38, 39, 40, 41, 42, 43, 44, 45, 46, 47, 48, 49, 50, 51, 52, 53, 54, 55, 56, 57, 58, 59, 60, 61, 62, 63, 64] ++ [65, 66, 67, 68, 69, 70, 71, 72, 73, 74, 75, 76, 77, 78, 79, 80, 81, 82, 83, 84, 85, 86, 87, 88, 89, 90, 91, 92, 93, 94, 95, 96] ++ [100, 101, 102, 103, 104, 105, 106, 107, 108, 109, 110, 111, 112, 113, 114, 115, 116, 117, 118, 119, 120, 121, 122, 123, 124, 125, 126, 10]
theorem put_bad : ∀ c ∈ putL, ¬ (c = 97 ∨ c = 98 ∨ c = 99) := by decide
theorem tx_from (l : List Nat) (k : Nat) : cutS (tx l) (some (k : Int)) none = tx (l.drop k) := by
  rw [tx_cut, HT.sIx_none, HT.sIx_nat]
  rcases Nat.le_total k l.length with h | h
  · rw [Nat.min_eq_left h, List.take_of_length_le (by rw [List.length_drop]; exact Nat.le_refl _)]
  · rw [Nat.min_eq_right h, List.drop_length, List.drop_of_length_le h, List.take_nil]
/-- no text, not None, not deep -/
def NoV (d : Dt) : Prop := ¬ IsTx d ∧ d ≠ .non ∧ d.dep ≤ 1
theorem nov {d : Dt} (h1 : ∀ l, d ≠ .str l) (h2 : d ≠ .non) (h3 : d.dep ≤ 1) : NoV d := ⟨fun ⟨l, e, _⟩ => h1 l e, h2, h3⟩
theorem oddv (l : List Nat) : ∀ d ∈ ([.bl true, .bl false, .int 0, .int 1, .int (-1), .int (10 ^ (30 : Int).toNat), .tup [.str l], .lst, .lst, .tup [], .tup [.non], .lst, .tup [.str ("is" : Str).cps.toList, .str l], .tup [.str ("none" : Str).cps.toList], .int 2, .lst] : List Dt), NoV d := by
  intro d m
  simp only [List.mem_cons, List.not_mem_nil, or_false] at m
  rcases m with rfl | rfl | rfl | rfl | rfl | rfl | rfl | rfl | rfl | rfl | rfl | rfl | rfl | rfl | rfl | rfl <;> exact nov (fun _ e => nomatch e) (fun e => nomatch e) (by simp [Dt.dep, Dt.depL])
def spOdd (K : PySem.W.Frag) : Sp := fun vs H Q _ => ∃ (b : Addr) (n : Nat) (l : List Nat), vs = [.ref b, Tx l] ∧ Bag H b n ∧ n + 100 < 2 ^ 30 ∧ l.length ≤ 12 ∧
  ∀ v H' d, Rp K H' v d → NoV d → Stp [b] H H' → Bag H' b (n + 3) → Q v H'
theorem cl__law_odd {f : Addr} {fd : FuncData} (D : Df K mg "_law_odd" s__law_odd ["hand", "text"] f fd) (T : Nm mg) (c__law_pick : Cl P w K mg base 1 "_law_pick" s__law_pick ["hand", "size"] spPick) : Cl P w K mg base 2 "_law_odd" s__law_odd ["hand", "text"] (spOdd K) := by
  refine D.cl sc__law_odd (fun vs H Q E h => ?_) (fun cdv A outer s H vs Q E hr h => ?_)
  · obtain ⟨b, n, l, rfl, _⟩ := h
    rfl
  · obtain ⟨b, n, l, rfl, B, hn, hl, k⟩ := h
    refine ⟨_, (pss_cons (ps_if (pt_cmpR op_eq (pe_cl c__law_pick hr (by omega) (pa_cons (pv 0) (pa_cons pe_int pa_nil))) pe_int (by first | exact nomark _ | rfl)) (pss_cons (ps_set (i := 2) sc__law_odd.nd rfl (by first | exact Or.inl rfl | exact Or.inr rfl) pe_str)
      (pss_cons (ps_set (i := 2) sc__law_odd.nd rfl (by first | exact Or.inl rfl | exact Or.inr rfl) (pe_op op_add_str (pv 2) pe_str))
      (pss_cons (ps_set (i := 3) sc__law_odd.nd rfl (by first | exact Or.inl rfl | exact Or.inr rfl) (pe_cl c__law_pick hr (by omega) (pa_cons (pv 0) (pa_cons (pe_op op_add (pe_callB call_len_str (by rfl) T.n_len (by decide +kernel) (pa_cons (pv 1) pa_nil)) pe_int) pa_nil))))
      (pss_one (ps_ret (pe_op op_add_str (pe_op op_add_str (pe_slice sl_str (pv 1) po_none (po_some (pv 3))) (pe_ix ix_str (pv 2) (pe_cl c__law_pick hr (by omega) (pa_cons (pv 0) (pa_cons (pe_callB call_len_str (by rfl) T.n_len (by decide +kernel) (pa_cons (pv 2) pa_nil)) pa_nil))) (fun _ _ => rfl))) (pe_slice sl_str (pv 1) (po_some (pv 3)) po_none))))))) pss_nil)
      (pss_cons (ps_set (i := 4) sc__law_odd.nd rfl (by first | exact Or.inl rfl | exact Or.inr rfl) (pe_lst (pa_cons pe_bl (pa_cons pe_bl (pa_cons pe_int (pa_cons pe_int (pa_cons (pe_un un_neg pe_int) (pa_cons (pe_op op_pow pe_int pe_int) (pa_cons (pe_tup (pa_cons (pv 1) pa_nil)) (pa_cons (pe_lst (pa_cons (pv 1) pa_nil)) (pa_cons (pe_lst pa_nil) (pa_cons (pe_tup pa_nil) (pa_cons (pe_tup (pa_cons pe_non pa_nil)) (pa_cons (pe_lst (pa_cons pe_non pa_nil)) (pa_cons (pe_tup (pa_cons pe_str (pa_cons (pv 1) pa_nil))) (pa_cons (pe_tup (pa_cons pe_str pa_nil)) (pa_cons pe_int (pa_cons (pe_lst (pa_cons (pe_lst pa_nil) pa_nil)) pa_nil))))))))))))))))))
      (pss_one (ps_ret (pe_ix ix_list (pv 4) (pe_cl c__law_pick hr (by omega) (pa_cons (pv 0) (pa_cons (pe_callB call_len_seq (by rfl) T.n_len (by decide +kernel) (pa_cons (pv 4) pa_nil)) pa_nil))) (fun _ _ => rfl)))))), ?_⟩
    have one : b ∈ [b] := List.mem_singleton.mpr rfl
    refine ⟨_, rfl, b, 2, n, rfl, B, by omega, by decide, by decide, fun d0 H1 d00 d01 o1 B1 => ?_⟩
    have S1 : Stp [b] H H1 := o1.stp one
    refine ⟨rfl, _, rfl, ite2 (fun h => ?_) (fun h => ?_)⟩
    · refine ⟨_, rfl, _, _, rfl, rfl, by decide +kernel, ?_⟩
      obtain ⟨ev, eev⟩ : ∃ ev : Str, ev = " !\"#$&'()*+,-./0123456789:;<=>?@ABCDEFGHIJKLMNOPQRSTUVWXYZ[\\]^_" ++ "`defghijklmnopqrstuvwxyz{|}~\n" := ⟨_, rfl⟩
      dsimp only [gName]
      rw [← eev]
      have ev9 : ev = tx putL := by rw [eev]; decide +kernel
      clear eev
      subst ev9
      have le : putL.length = 92 := by decide
      refine ⟨_, rfl, _, rfl, tx l, rfl, szt (by omega), _, _, rfl, rfl, b, _, n + 1, rfl, B1, by omega, by rw [tx_len]; omega, by rw [tx_len]; omega, fun at0 H2 a0 a1 o2 B2 => ?_⟩
      have S2 : Stp [b] H1 H2 := o2.stp one
      obtain ⟨k0, rfl⟩ := Int.eq_ofNat_of_zero_le a0
      refine ⟨_, rfl, _, rfl, (k0 : Int), rfl, tx l, rfl, szt (by omega), ?_⟩
      rw [show cutS (tx l) none (some (k0 : Int)) = _ from tx_upto l k0]
      refine ⟨_, rfl, _, rfl, _, rfl, tx putL, rfl, szt (by decide), b, _, n + 2, rfl, B2, by omega, by rw [tx_len, le]; decide, by rw [tx_len, le]; decide, fun e H3 e0 e1 o3 B3 => ?_⟩
      have S3 : Stp [b] H2 H3 := o3.stp one
      obtain ⟨c, mc, ec⟩ := pick (xs := putL) e0 (by rw [tx_len] at e1; exact e1)
      have cb := put_bad c mc
      refine ⟨tx putL, e, c, rfl, rfl, szt (by decide), ec, ?_⟩
      have lk : (l.take k0).length ≤ 12 := by rw [List.length_take]; omega
      refine ⟨tx (l.take k0), tx [c], rfl, rfl, by rw [tx_len, tx_len]; exact sz (by simp; omega), ?_⟩
      refine ⟨_, rfl, _, rfl, (k0 : Int), rfl, tx l, rfl, szt (by omega), ?_⟩
      rw [show cutS (tx l) (some (k0 : Int)) none = _ from tx_from l k0]
      have ld : (l.drop k0).length ≤ 12 := by rw [List.length_drop]; omega
      refine ⟨tx (l.take k0 ++ [c]), tx (l.drop k0), congrArg V.str (tx_app _ _), rfl, by rw [tx_len, tx_len]; exact sz (by simp; omega), ?_⟩
      rw [show tx (l.take k0 ++ [c]) ++ tx (l.drop k0) = tx (l.take k0 ++ [c] ++ l.drop k0) from tx_app _ _]
      refine k _ H3 (.str (l.take k0 ++ [c] ++ l.drop k0)) (.str _ (by simp; omega)) ⟨fun ⟨z, ez, az⟩ => ?_, fun e => (nomatch e), Nat.zero_le _⟩ ((S1.trans S2).trans S3) B3
      injection ez with ez
      subst ez
      exact cb (az c (by simp))
    have w0_ : Rp K H1 (Tx l) (.str l) := .str l (by omega)
    have r0_ := w0_
    clear B
    have B := B1
    dsimp only [tNext]
    refine asg_name ?_
    refine' Pg.EvDA.newl (K := K) ?e0 ?l0 ?k0
    case e0 => (repeat' first | exact Pg.EvDA.nil | apply Pg.EvDA.cons | exact Pg.EvD.bl | exact Pg.EvD.int | exact Pg.EvD.non | exact Pg.EvD.str | exact Pg.EvD.var w0_ | exact Pg.EvD.var r0_ | apply Pg.EvD.tup | apply Pg.EvD.list | apply Pg.EvD.lst | apply EvD.upper | apply Pg.EvD.cat | apply EvD.catT | apply EvD.fromT | exact Pg.EvD.pow ⟨by decide, by decide, by decide⟩ | apply Pg.EvD.neg | exact catsz hl (by decide +kernel) | exact Nat.le_trans hl (by decide) | (simp; done))
    case l0 => simp
    case k0 =>
    intro L0 vs0 H0 E0 n0 h0 r0
    have Bn := B.kp E0 (fun m => nomatch m)
    have nLb : L0 ∉ [b] := fun m => B.ne n0 (List.mem_singleton.mp m).symm
    refine ⟨_, rfl, _, rfl, _, rfl, L0, vs0, rfl, .inl (SqL.of h0), b, _, _, rfl, Bn, by omega, ?_, ?_, fun e HN e0 e1 o1 B1 => ?_⟩
    · rw [r0.len]
      simp
    · rw [r0.len]
      simp
    have S11 : Stp [b] H0 HN := o1.stp (List.mem_singleton.mpr rfl)
    have lb : Lsts H0 [b] := Pv.bag_ls Bn
    obtain ⟨j, rfl⟩ := Int.eq_ofNat_of_zero_le e0
    have hj : j < vs0.length := by omega
    obtain ⟨d', hd', rd'⟩ := r0.get (List.getElem?_eq_getElem hj)
    refine ⟨L0, vs0, (j : Int), vs0[j], rfl, rfl, SqL.of (S11.kp _ _ nLb h0), atI_nat (List.getElem?_eq_getElem hj), ?_⟩
    exact k _ HN d' (rd'.stp S11 lb) (oddv l d' (List.mem_of_getElem? hd')) ((S1.trans E0.nil).trans S11) (B1.mono (by omega))
/-! ### what is no filter, made of one -/
section
variable {l : List Nat} {rest : List Dt}
theorem oddb_0 (hf : Flt (.tup (.str l :: rest))) : Odds (Dt.tup (.str l :: rest)).dep [.lst, .tup ((.str l :: rest) ++ [.non]), .tup ((.str l :: rest) ++ [.tup []]), .tup ([.str (Txt.upper (tx l)).cps.toList] ++ List.drop 1 (.str l :: rest)), .tup ([.str (l ++ (" " : Str).cps.toList)] ++ List.drop 1 (.str l :: rest))] :=
  .cons nf_lst (by simp [Dt.dep, Dt.depL, depL_app]; try omega) (.cons (nf_app hf) (by simp [Dt.dep, Dt.depL, depL_app]; try omega) (.cons (nf_app hf) (by simp [Dt.dep, Dt.depL, depL_app]; try omega) (.cons (nf_up hf) (by simp [Dt.dep, Dt.depL, depL_app]; try omega) (.cons (nf_sp hf) (by simp [Dt.dep, Dt.depL, depL_app]; try omega) (.nil)))))
theorem oddb_1 (hf : Flt (.tup (.str l :: rest))) : Odds (Dt.tup (.str l :: rest)).dep [.tup [.tup (.str l :: rest)], .tup [.str ("xor" : Str).cps.toList, .tup [.tup (.str l :: rest), .tup (.str l :: rest)]], .tup [.str ("and" : Str).cps.toList, .lst], .tup [.str ("or" : Str).cps.toList, .tup (.str l :: rest)], .tup [.str ("not" : Str).cps.toList, .tup [.tup (.str l :: rest)]], .tup [.str ("not" : Str).cps.toList]] :=
  .cons (nf_hd (d := .tup (.str l :: rest)) (fun _ e => nomatch e)) (by simp [Dt.dep, Dt.depL, depL_app]; try omega) (.cons (nf_2 (can_other (by decide +kernel) (by decide +kernel) (by decide +kernel) (by decide +kernel) (by decide +kernel))) (by simp [Dt.dep, Dt.depL, depL_app]; try omega) (.cons (nf_2 fun q => (fun ⟨_, e, _⟩ => nomatch e : ¬ ∃ ds, Dt.lst = Dt.tup ds ∧ _) ((can_many (by decide +kernel)).mp q)) (by simp [Dt.dep, Dt.depL, depL_app]; try omega) (.cons (nf_2 fun q => nsieve hf ((can_many (by decide +kernel)).mp q)) (by simp [Dt.dep, Dt.depL, depL_app]; try omega) (.cons (nf_2 fun q => (nf_hd (d := .tup (.str l :: rest)) (fun _ e => nomatch e)) (can_not.mp q)) (by simp [Dt.dep, Dt.depL, depL_app]; try omega) (.cons (nf_1s (by decide +kernel)) (by simp [Dt.dep, Dt.depL, depL_app]; try omega) (.nil))))))
theorem oddb_2 (hf : Flt (.tup (.str l :: rest))) : Odds (Dt.tup (.str l :: rest)).dep [.tup [.str ("and" : Str).cps.toList], .tup [.str ("or" : Str).cps.toList], .tup [.str ("say" : Str).cps.toList], .tup [.str ("say" : Str).cps.toList, .int 1], .tup [.str ("say" : Str).cps.toList, .int 0], .tup [.str ("say" : Str).cps.toList, .non], .tup [.str ("say" : Str).cps.toList, .str ("yes" : Str).cps.toList], .tup [.str ("none" : Str).cps.toList, .tup []]] :=
  .cons (nf_1s (by decide +kernel)) (by simp [Dt.dep, Dt.depL, depL_app]; try omega) (.cons (nf_1s (by decide +kernel)) (by simp [Dt.dep, Dt.depL, depL_app]; try omega) (.cons (nf_1s (by decide +kernel)) (by simp [Dt.dep, Dt.depL, depL_app]; try omega) (.cons (nf_2 fun q => (fun ⟨_, e⟩ => nomatch e : ¬ ∃ b, Dt.int 1 = Dt.bl b) (can_say.mp q)) (by simp [Dt.dep, Dt.depL, depL_app]; try omega) (.cons (nf_2 fun q => (fun ⟨_, e⟩ => nomatch e : ¬ ∃ b, Dt.int 0 = Dt.bl b) (can_say.mp q)) (by simp [Dt.dep, Dt.depL, depL_app]; try omega) (.cons (nf_2 fun q => (fun ⟨_, e⟩ => nomatch e : ¬ ∃ b, Dt.non = Dt.bl b) (can_say.mp q)) (by simp [Dt.dep, Dt.depL, depL_app]; try omega) (.cons (nf_2 fun q => (fun ⟨_, e⟩ => nomatch e : ¬ ∃ b, Dt.str ("yes" : Str).cps.toList = Dt.bl b) (can_say.mp q)) (by simp [Dt.dep, Dt.depL, depL_app]; try omega) (.cons (nf_2 not_none) (by simp [Dt.dep, Dt.depL, depL_app]; try omega) (.nil))))))))
theorem oddb_3 (hf : Flt (.tup (.str l :: rest))) : Odds (Dt.tup (.str l :: rest)).dep [.tup [.str ("none" : Str).cps.toList, .non], .tup [.str ("is" : Str).cps.toList], .tup [], .str ("none" : Str).cps.toList, .non, .int 0, .bl true, .lst, .tup [.tup (.str l :: rest), .tup (.str l :: rest)], .tup [.str ("is" : Str).cps.toList, .non]] :=
  .cons (nf_2 not_none) (by simp [Dt.dep, Dt.depL, depL_app]; try omega) (.cons (nf_1s (by decide +kernel)) (by simp [Dt.dep, Dt.depL, depL_app]; try omega) (.cons nf_nil (by simp [Dt.dep, Dt.depL, depL_app]; try omega) (.cons nf_str (by simp [Dt.dep, Dt.depL, depL_app]; try omega) (.cons nf_non (by simp [Dt.dep, Dt.depL, depL_app]; try omega) (.cons nf_int (by simp [Dt.dep, Dt.depL, depL_app]; try omega) (.cons nf_bl (by simp [Dt.dep, Dt.depL, depL_app]; try omega) (.cons nf_lst (by simp [Dt.dep, Dt.depL, depL_app]; try omega) (.cons (nf_hd (d := .tup (.str l :: rest)) (fun _ e => nomatch e)) (by simp [Dt.dep, Dt.depL, depL_app]; try omega) (.cons (nf_2 fun q => (fun ⟨_, e, _⟩ => nomatch e) ((can_is (by decide +kernel)).mp q)) (by simp [Dt.dep, Dt.depL, depL_app]; try omega) (.nil))))))))))
theorem oddb_4 (hf : Flt (.tup (.str l :: rest))) : Odds (Dt.tup (.str l :: rest)).dep [.tup [.str ("among" : Str).cps.toList, .lst], .tup [.str ("among" : Str).cps.toList, .str ("abc" : Str).cps.toList], .tup [.str ("not" : Str).cps.toList, .str ("a" : Str).cps.toList], .tup [.str ("among" : Str).cps.toList, .non], .tup [.str ("among" : Str).cps.toList], .tup [.str ("and" : Str).cps.toList, .non]] :=
  .cons (nf_2 fun q => (fun ⟨_, e, _⟩ => nomatch e : ¬ ∃ ds, Dt.lst = Dt.tup ds ∧ _) (can_among.mp q)) (by simp [Dt.dep, Dt.depL, depL_app]; try omega) (.cons (nf_2 fun q => (fun ⟨_, e, _⟩ => nomatch e : ¬ ∃ ds, Dt.str ("abc" : Str).cps.toList = Dt.tup ds ∧ _) (can_among.mp q)) (by simp [Dt.dep, Dt.depL, depL_app]; try omega) (.cons (nf_2 fun q => nf_str (can_not.mp q)) (by simp [Dt.dep, Dt.depL, depL_app]; try omega) (.cons (nf_2 fun q => (fun ⟨_, e, _⟩ => nomatch e : ¬ ∃ ds, Dt.non = Dt.tup ds ∧ _) (can_among.mp q)) (by simp [Dt.dep, Dt.depL, depL_app]; try omega) (.cons (nf_1s (by decide +kernel)) (by simp [Dt.dep, Dt.depL, depL_app]; try omega) (.cons (nf_2 fun q => (fun ⟨_, e, _⟩ => nomatch e : ¬ ∃ ds, Dt.non = Dt.tup ds ∧ _) ((can_many (by decide +kernel)).mp q)) (by simp [Dt.dep, Dt.depL, depL_app]; try omega) (.nil))))))
theorem oddb_5 (hf : Flt (.tup (.str l :: rest))) : Odds (Dt.tup (.str l :: rest)).dep [.tup [.str ("or" : Str).cps.toList, .str ("none" : Str).cps.toList], .tup [.str ("not" : Str).cps.toList, .non], .tup [.str ("" : Str).cps.toList, .tup []], .tup [.non], .tup [.tup [.str ("none" : Str).cps.toList]], .tup [.str ("say" : Str).cps.toList, .int 1], .tup [.str ("among" : Str).cps.toList, .lst]] :=
  .cons (nf_2 fun q => (fun ⟨_, e, _⟩ => nomatch e : ¬ ∃ ds, Dt.str ("none" : Str).cps.toList = Dt.tup ds ∧ _) ((can_many (by decide +kernel)).mp q)) (by simp [Dt.dep, Dt.depL, depL_app]; try omega) (.cons (nf_2 fun q => nf_non (can_not.mp q)) (by simp [Dt.dep, Dt.depL, depL_app]; try omega) (.cons (nf_2 (can_other (by decide +kernel) (by decide +kernel) (by decide +kernel) (by decide +kernel) (by decide +kernel))) (by simp [Dt.dep, Dt.depL, depL_app]; try omega) (.cons (nf_hd (d := .non) (fun _ e => nomatch e)) (by simp [Dt.dep, Dt.depL, depL_app]; try omega) (.cons (nf_hd (d := .tup [.str ("none" : Str).cps.toList]) (fun _ e => nomatch e)) (by simp [Dt.dep, Dt.depL, depL_app]; try omega) (.cons (nf_2 fun q => (fun ⟨_, e⟩ => nomatch e : ¬ ∃ b, Dt.int 1 = Dt.bl b) (can_say.mp q)) (by simp [Dt.dep, Dt.depL, depL_app]; try omega) (.cons (nf_2 fun q => (fun ⟨_, e, _⟩ => nomatch e : ¬ ∃ ds, Dt.lst = Dt.tup ds ∧ _) (can_among.mp q)) (by simp [Dt.dep, Dt.depL, depL_app]; try omega) (.nil)))))))
theorem oddb_6 (hf : Flt (.tup (.str l :: rest))) : Odds (Dt.tup (.str l :: rest)).dep [.tup ([.lst] ++ List.drop 1 (.str l :: rest)), .tup ([.tup [.str l]] ++ List.drop 1 (.str l :: rest)), .tup [.str l, .tup (.str l :: rest), .tup (.str l :: rest)], .tup ([.bl true] ++ List.drop 1 (.str l :: rest))] :=
  .cons (nf_hd (d := .lst) (fun _ e => nomatch e)) (by simp [Dt.dep, Dt.depL, depL_app]; try omega) (.cons (nf_hd (d := .tup [.str l]) (fun _ e => nomatch e)) (by simp [Dt.dep, Dt.depL, depL_app]; try omega) (.cons nf_3 (by simp [Dt.dep, Dt.depL, depL_app]; try omega) (.cons (nf_hd (d := .bl true) (fun _ e => nomatch e)) (by simp [Dt.dep, Dt.depL, depL_app]; try omega) (.nil))))
end
abbrev s__law_bent : Stmt := topS 40
abbrev N__law_bent : List Str := ["hand", "query", "word", "at", "odd"]
theorem sc__law_bent : FnScope ["hand", "query", "word", "at", "odd"] ["hand", "query"] (defScope s__law_bent) := ⟨rfl, rfl, rfl, by decide +kernel, rfl, by decide +kernel, by decide +kernel⟩

/-! ### bent filters -/
theorem layAll {K : PySem.W.Frag} {H : Hp} : ∀ {ds : List Dt} {vs : List V}, RpL K H vs ds → (∀ d ∈ ds, ∀ v, Rp K H v d → ∃ e, Dp K H v e ∧ e.canLay0 = true ∧ e.depth ≤ d.dep) →
    ∃ es, DpAll K H vs es ∧ PyData.canLayAll0 es = true ∧ PyData.depthAll es ≤ Dt.depL ds ∧ es.length = ds.length
  | [], _, .nil, _ => ⟨[], .nil, rfl, Nat.le_refl _, rfl⟩
  | d :: ds, _, .cons h r, q => by
    obtain ⟨e, h1, h2, h3⟩ := q d List.mem_cons_self _ h
    obtain ⟨es, g1, g2, g3, g4⟩ := layAll r fun e m => q e (List.mem_cons_of_mem _ m)
    refine ⟨e :: es, .cons h1 g1, ?_, ?_, by rw [List.length_cons, List.length_cons, g4]⟩
    · show (PyData.canLay0 e && PyData.canLayAll0 es) = true
      rw [h2, g2]
      rfl
    · show max e.depth (PyData.depthAll es) ≤ max d.dep (Dt.depL ds)
      omega
theorem lay_str {K : PySem.W.Frag} {H : Hp} {v : V} {l : List Nat} (h : ∀ c ∈ l, c < 1000) (r : Rp K H v (.str l)) : ∃ e, Dp K H v e ∧ e.canLay0 = true ∧ e.depth ≤ (Dt.str l).dep := by
  cases r with
  | str _ hl =>
    refine ⟨.str (tx l), .str _, ?_, Nat.le_refl _⟩
    unfold PyData.canLay0 PyData.strOk
    simp
    intro c m
    have := h c m
    omega
theorem small_abc {l : List Nat} (h : Abc l) : ∀ c ∈ l, c < 1000 := fun c m => by
  rcases h c m with e | e | e <;> omega
theorem flt_lay {K : PySem.W.Frag} {H : Hp} {d : Dt} (f : Flt d) : ∀ v, Rp K H v d → ∃ e, Dp K H v e ∧ e.canLay0 = true ∧ e.depth ≤ d.dep := by
  have two : ∀ {s : List Nat} {x : Dt}, (∀ c ∈ s, c < 1000) → (∀ v, Rp K H v x → ∃ e, Dp K H v e ∧ e.canLay0 = true ∧ e.depth ≤ x.dep) → ∀ v, Rp K H v (.tup [.str s, x]) → ∃ e, Dp K H v e ∧ e.canLay0 = true ∧ e.depth ≤ (Dt.tup [.str s, x]).dep := fun {s x} hs hx v r => by
    cases r with
    | tup hq hn rl =>
      obtain ⟨es, g1, g2, g3, _⟩ := layAll rl fun d m v r => by
        rcases List.mem_cons.mp m with rfl | m
        · exact lay_str hs r
        · rw [List.mem_singleton.mp m] at r ⊢
          exact hx v r
      exact ⟨.tuple es, .tup hq g1, g2, Nat.succ_le_succ g3⟩
  have texts : ∀ {ds : List Dt}, (∀ d ∈ ds, IsTx d) → ∀ v, Rp K H v (.tup ds) → ∃ e, Dp K H v e ∧ e.canLay0 = true ∧ e.depth ≤ (Dt.tup ds).dep := fun {ds} h v r => by
    cases r with
    | tup hq hn rl =>
      obtain ⟨es, g1, g2, g3, _⟩ := layAll rl fun d m v r => by
        obtain ⟨l, rfl, a⟩ := h d m
        exact lay_str (small_abc a) r
      exact ⟨.tuple es, .tup hq g1, g2, Nat.succ_le_succ g3⟩
  induction f with
  | tx hw h =>
    refine two ?_ fun v r => lay_str (small_abc h) r
    rcases hw with rfl | rfl | rfl | rfl <;> decide +kernel
  | none =>
    intro v r
    cases r with
    | tup hq hn rl =>
      obtain ⟨es, g1, g2, g3, _⟩ := layAll rl fun d m v r => by
        rw [List.mem_singleton.mp m] at r ⊢
        exact lay_str (by decide +kernel) r
      exact ⟨.tuple es, .tup hq g1, g2, Nat.succ_le_succ g3⟩
  | say b =>
    refine two (by decide +kernel) fun v r => ?_
    cases r
    exact ⟨.bool b, .bl b, rfl, Nat.le_refl _⟩
  | not h ih => exact two (by decide +kernel) ih
  | among h => exact two (by decide +kernel) (texts h)
  | many hw h ih =>
    refine two ?_ fun v r => ?_
    · rcases hw with rfl | rfl <;> decide +kernel
    · cases r with
      | tup hq hn rl =>
        obtain ⟨es, g1, g2, g3, _⟩ := layAll rl fun d m v r => ih d m v r
        exact ⟨.tuple es, .tup hq g1, g2, Nat.succ_le_succ g3⟩
/-- x != () of a tuple of filters -/
theorem ne_empty {K : PySem.W.Frag} {H : Hp} {a q : Addr} {vs : List V} {ds : List Dt} {Q : VK} (hs : SqT K H a vs) (rl : RpL K H vs ds) (hf : ∀ d ∈ ds, Flt d) (hd : Dt.depL ds ≤ 60) (hq : SqT K H q []) (k : Q (.bl (!ds.isEmpty)) H) : rNeD K (.ref a) (.ref q) H Q := by
  obtain ⟨es, g1, g2, g3, g4⟩ := layAll rl fun d m v r => flt_lay (hf d m) v r
  refine ⟨.tuple es, .tuple [], .tup hs g1, .tup hq .nil, ?_, rfl, ?_⟩
  · unfold SeqAt.shaped
    rw [show PyData.canLay0 (.tuple es) = true from g2]
    have : PyData.depth (.tuple es) ≤ 64 := by show PyData.depthAll es + 1 ≤ 64; omega
    simp [this]
  · have e : PyData.eqv (.tuple es) (.tuple []) = ds.isEmpty := by
      cases es with
      | nil =>
        cases ds with
        | nil => rfl
        | cons _ _ => simp at g4
      | cons _ _ =>
        cases ds with
        | nil => simp at g4
        | cons _ _ => rfl
    rw [e]
    exact k
theorem ab_lit : ("ab" : Str) = tx [97, 98] := by decide +kernel
theorem cab_lit : ("cab" : Str) = tx [99, 97, 98] := by decide +kernel
theorem monoPick : MonoS spPick := fun vs H Q Q' E h ⟨b, up, n, e, B, h1, h2, h3, k⟩ => ⟨b, up, n, e, B, h1, h2, h3, fun d H' a b c e => h _ _ (k d H' a b c e)⟩
theorem four_at {d : Int} (h0 : 0 ≤ d) (h1 : d < 4) : ∃ wd : Str, (wd = "is" ∨ wd = "below" ∨ wd = "above" ∨ wd = "begins") ∧ atI [V.str "is", V.str "below", V.str "above", V.str "begins"] d = some (.str wd) := by
  rcases (by omega : d = 0 ∨ d = 1 ∨ d = 2 ∨ d = 3) with rfl | rfl | rfl | rfl
  · exact ⟨_, .inl rfl, rfl⟩
  · exact ⟨_, .inr (.inl rfl), rfl⟩
  · exact ⟨_, .inr (.inr (.inl rfl)), rfl⟩
  · exact ⟨_, .inr (.inr (.inr rfl)), rfl⟩
theorem fs_not {l : List Nat} {p : Dt} (h : FltS (.tup [.str l, p])) (e : tx l = "not") : FltS p := by
  have no : ∀ {wd : Str}, wd = "not" → wd ∈ (["is", "below", "above", "begins", "say", "among", "and", "or"] : List Str) → False := fun e => by
    subst e
    decide +kernel
  cases h with
  | tx hw _ _ => exact (no ((lit_tx _).symm.trans e) (by rcases hw with rfl | rfl | rfl | rfl <;> simp)).elim
  | say b => exact (no ((lit_tx _).symm.trans e) (by simp)).elim
  | not h => exact h
  | among _ _ => exact (no ((lit_tx _).symm.trans e) (by simp)).elim
  | many hw _ _ => exact (no ((lit_tx _).symm.trans e) (by rcases hw with rfl | rfl <;> simp)).elim
theorem fs_many {l : List Nat} {ds : List Dt} (h : FltS (.tup [.str l, .tup ds])) (e : tx l = "and" ∨ tx l = "or") {d : Dt} (m : d ∈ ds) : FltS d := by
  have no : ∀ {wd : Str}, wd = "and" ∨ wd = "or" → wd ∈ (["not", "among"] : List Str) → False := fun e => by
    rcases e with rfl | rfl <;> decide +kernel
  cases h with
  | not h => exact (no (e.imp (lit_tx _).symm.trans (lit_tx _).symm.trans) (by simp)).elim
  | among _ _ => exact (no (e.imp (lit_tx _).symm.trans (lit_tx _).symm.trans) (by simp)).elim
  | many _ h _ => exact h d m
theorem fs_few {l : List Nat} {ds : List Dt} (h : FltS (.tup [.str l, .tup ds])) (e : tx l = "among") : ds.length < 1000 := by
  cases h with
  | not h => exact absurd ((lit_tx _).symm.trans e) (by decide +kernel)
  | among _ h => rw [List.length_map]; exact h
  | many _ _ h => exact h
def spBent (K : PySem.W.Frag) (m : Nat) : Sp := fun vs H Q _ => ∃ (b : Addr) (n : Nat) (v : V) (d : Dt), vs = [.ref b, v] ∧ d.dep < m ∧ d.dep ≤ 60 ∧ Bag H b n ∧ n + 1000 * (d.dep + 1) < 2 ^ 30 ∧ Rp K H v d ∧ FltS d ∧
  ∀ v' H' d', Rp K H' v' d' → ¬ Flt d' → d'.dep ≤ d.dep + 3 → Stp [b] H H' → Bag H' b (n + 50 * (d.dep + 1)) → Q v' H'
theorem bent_step {f : Addr} {fd : FuncData} (D : Df K mg "_law_bent" s__law_bent ["hand", "query"] f fd) (T : Nm mg) (c__law_pick : Cl P w K mg base 1 "_law_pick" s__law_pick ["hand", "size"] spPick)
    (c__law_odd : Cl P w K mg base 2 "_law_odd" s__law_odd ["hand", "text"] (spOdd K)) {m lv : Nat} (hlv : 2 ≤ lv) (c__law_bent : Cl P w K mg base lv "_law_bent" s__law_bent ["hand", "query"] (spBent K m)) :
    Cl P w K mg base (lv + 1) "_law_bent" s__law_bent ["hand", "query"] (spBent K (m + 1)) := by
  refine D.cl sc__law_bent (fun vs H Q E h => ?_) (fun cdv A outer s H vs Q E hr h => ?_)
  · obtain ⟨b, n, v, d, rfl, _⟩ := h
    rfl
  · obtain ⟨b, n, v, d, rfl, hm, h60, B, hn, r, hS, k⟩ := h
    have hf := hS.flt
    refine ⟨_, (pss_cons (ps_set (i := 2) sc__law_bent.nd rfl (by first | exact Or.inl rfl | exact Or.inr rfl) (pe_ix ix_tup (pv 1) pe_int (fun _ _ => rfl)))
      (pss_cons (ps_if (PW.pt (pw_and (pt_cmpR op_eq (pv 2) pe_str (by first | exact nomark _ | rfl)) (pw_and1 (pt_cmpR op_gt (pe_cl c__law_pick hr (by omega) (pa_cons (pv 0) (pa_cons pe_int pa_nil))) pe_int (by first | exact nomark _ | rfl))))) (pss_one (ps_ret (pe_tup (pa_cons pe_str (pa_cons (pe_cl c__law_bent hr (by omega) (pa_cons (pv 0) (pa_cons (pe_ix ix_tup (pv 1) pe_int (fun _ _ => rfl)) pa_nil))) pa_nil))))) pss_nil)
      (pss_cons (ps_if (PW.pt (pw_and (pt_cmpR op_in_seq (pv 2) (pe_tup (pa_cons pe_str (pa_cons pe_str pa_nil))) (by first | exact nomark _ | rfl)) (pw_and (pt_cmpR (op_neD hr.units) (pe_ix ix_tup (pv 1) pe_int (fun _ _ => rfl)) (pe_tup pa_nil) (by first | exact nomark _ | rfl)) (pw_and1 (pt_cmpR op_gt (pe_cl c__law_pick hr (by omega) (pa_cons (pv 0) (pa_cons pe_int pa_nil))) pe_int (by first | exact nomark _ | rfl)))))) (pss_cons (ps_set (i := 3) sc__law_bent.nd rfl (by first | exact Or.inl rfl | exact Or.inr rfl) (pe_cl c__law_pick hr (by omega) (pa_cons (pv 0) (pa_cons (pe_callB call_len_seq (by rfl) T.n_len (by decide +kernel) (pa_cons (pe_ix ix_tup (pv 1) pe_int (fun _ _ => rfl)) pa_nil)) pa_nil))))
      (pss_one (ps_ret (pe_tup (pa_cons (pv 2) (pa_cons (pe_op op_catA (pe_op op_catA (pe_slice sl_tupA (pe_ix ix_tup (pv 1) pe_int (fun _ _ => rfl)) po_none (po_some (pv 3))) (pe_tup (pa_cons (pe_cl c__law_bent hr (by omega) (pa_cons (pv 0) (pa_cons (pe_ix ix_tup (pe_ix ix_tup (pv 1) pe_int (fun _ _ => rfl)) (pv 3) (fun _ _ => rfl)) pa_nil))) pa_nil))) (pe_slice sl_tupA (pe_ix ix_tup (pv 1) pe_int (fun _ _ => rfl)) (po_some (pe_op op_add (pv 3) pe_int)) po_none)) pa_nil)))))) pss_nil)
      (pss_cons (ps_if (PW.pt (pw_and (pt_cmpR op_eq (pv 2) pe_str (by first | exact nomark _ | rfl)) (pw_and1 (pt_cmpR op_eq (pe_cl c__law_pick hr (by omega) (pa_cons (pv 0) (pa_cons pe_int pa_nil))) pe_int (by first | exact nomark _ | rfl))))) (pss_cons (ps_set (i := 3) sc__law_bent.nd rfl (by first | exact Or.inl rfl | exact Or.inr rfl) (pe_cl c__law_pick hr (by omega) (pa_cons (pv 0) (pa_cons (pe_op op_add (pe_callB call_len_seq (by rfl) T.n_len (by decide +kernel) (pa_cons (pe_ix ix_tup (pv 1) pe_int (fun _ _ => rfl)) pa_nil)) pe_int) pa_nil))))
      (pss_one (ps_ret (pe_tup (pa_cons (pv 2) (pa_cons (pe_op op_catA (pe_op op_catA (pe_slice sl_tupA (pe_ix ix_tup (pv 1) pe_int (fun _ _ => rfl)) po_none (po_some (pv 3))) (pe_tup (pa_cons (pe_cl c__law_odd hr (by omega) (pa_cons (pv 0) (pa_cons pe_str pa_nil))) pa_nil))) (pe_slice sl_tupA (pe_ix ix_tup (pv 1) pe_int (fun _ _ => rfl)) (po_some (pv 3)) po_none)) pa_nil)))))) pss_nil)
      (pss_cons (ps_if (pt_cmpR op_eq (pe_cl c__law_pick hr (by omega) (pa_cons (pv 0) (pa_cons pe_int pa_nil))) pe_int (by first | exact nomark _ | rfl)) (pss_one (ps_ret (pe_tup (pa_cons (pe_ix ix_list (pe_lst (pa_cons pe_str (pa_cons pe_str (pa_cons pe_str (pa_cons pe_str pa_nil))))) (pe_cl c__law_pick hr (by omega) (pa_cons (pv 0) (pa_cons pe_int pa_nil))) (fun _ _ => rfl)) (pa_cons (pe_cl c__law_odd hr (by omega) (pa_cons (pv 0) (pa_cons pe_str pa_nil))) pa_nil))))) pss_nil)
      (pss_cons (ps_set (i := 4) sc__law_bent.nd rfl (by first | exact Or.inl rfl | exact Or.inr rfl) (pe_lst (pa_cons (pe_callTy call_list_of (by rfl) T.n_list (by decide +kernel) (pa_cons (pv 1) pa_nil)) (pa_cons (pe_op op_catA (pv 1) (pe_tup (pa_cons pe_non pa_nil))) (pa_cons (pe_op op_catA (pv 1) (pe_tup (pa_cons (pe_tup pa_nil) pa_nil))) (pa_cons (pe_op op_catA (pe_tup (pa_cons (pe_upper (pv 2)) pa_nil)) (pe_slice sl_tupA (pv 1) (po_some pe_int) po_none)) (pa_cons (pe_op op_catA (pe_tup (pa_cons (pe_op op_add_str (pv 2) pe_str) pa_nil)) (pe_slice sl_tupA (pv 1) (po_some pe_int) po_none)) pa_nil)))))))
      (pss_cons (ps_set (i := 4) sc__law_bent.nd rfl (by first | exact Or.inl rfl | exact Or.inr rfl) (pe_op op_cat (pv 4) (pe_lst (pa_cons (pe_tup (pa_cons (pv 1) pa_nil)) (pa_cons (pe_tup (pa_cons pe_str (pa_cons (pe_tup (pa_cons (pv 1) (pa_cons (pv 1) pa_nil))) pa_nil))) (pa_cons (pe_tup (pa_cons pe_str (pa_cons (pe_lst (pa_cons (pv 1) pa_nil)) pa_nil))) (pa_cons (pe_tup (pa_cons pe_str (pa_cons (pv 1) pa_nil))) (pa_cons (pe_tup (pa_cons pe_str (pa_cons (pe_tup (pa_cons (pv 1) pa_nil)) pa_nil))) (pa_cons (pe_tup (pa_cons pe_str pa_nil)) pa_nil)))))))))
      (pss_cons (ps_set (i := 4) sc__law_bent.nd rfl (by first | exact Or.inl rfl | exact Or.inr rfl) (pe_op op_cat (pv 4) (pe_lst (pa_cons (pe_tup (pa_cons pe_str pa_nil)) (pa_cons (pe_tup (pa_cons pe_str pa_nil)) (pa_cons (pe_tup (pa_cons pe_str pa_nil)) (pa_cons (pe_tup (pa_cons pe_str (pa_cons pe_int pa_nil))) (pa_cons (pe_tup (pa_cons pe_str (pa_cons pe_int pa_nil))) (pa_cons (pe_tup (pa_cons pe_str (pa_cons pe_non pa_nil))) (pa_cons (pe_tup (pa_cons pe_str (pa_cons pe_str pa_nil))) (pa_cons (pe_tup (pa_cons pe_str (pa_cons (pe_tup pa_nil) pa_nil))) pa_nil)))))))))))
      (pss_cons (ps_set (i := 4) sc__law_bent.nd rfl (by first | exact Or.inl rfl | exact Or.inr rfl) (pe_op op_cat (pv 4) (pe_lst (pa_cons (pe_tup (pa_cons pe_str (pa_cons pe_non pa_nil))) (pa_cons (pe_tup (pa_cons pe_str pa_nil)) (pa_cons (pe_tup pa_nil) (pa_cons pe_str (pa_cons pe_non (pa_cons pe_int (pa_cons pe_bl (pa_cons (pe_lst (pa_cons (pv 1) pa_nil)) (pa_cons (pe_tup (pa_cons (pv 1) (pa_cons (pv 1) pa_nil))) (pa_cons (pe_tup (pa_cons pe_str (pa_cons pe_non pa_nil))) pa_nil)))))))))))))
      (pss_cons (ps_set (i := 4) sc__law_bent.nd rfl (by first | exact Or.inl rfl | exact Or.inr rfl) (pe_op op_cat (pv 4) (pe_lst (pa_cons (pe_tup (pa_cons pe_str (pa_cons (pe_lst (pa_cons pe_str pa_nil)) pa_nil))) (pa_cons (pe_tup (pa_cons pe_str (pa_cons pe_str pa_nil))) (pa_cons (pe_tup (pa_cons pe_str (pa_cons pe_str pa_nil))) (pa_cons (pe_tup (pa_cons pe_str (pa_cons pe_non pa_nil))) (pa_cons (pe_tup (pa_cons pe_str pa_nil)) (pa_cons (pe_tup (pa_cons pe_str (pa_cons pe_non pa_nil))) pa_nil)))))))))
      (pss_cons (ps_set (i := 4) sc__law_bent.nd rfl (by first | exact Or.inl rfl | exact Or.inr rfl) (pe_op op_cat (pv 4) (pe_lst (pa_cons (pe_tup (pa_cons pe_str (pa_cons pe_str pa_nil))) (pa_cons (pe_tup (pa_cons pe_str (pa_cons pe_non pa_nil))) (pa_cons (pe_tup (pa_cons pe_str (pa_cons (pe_tup pa_nil) pa_nil))) (pa_cons (pe_tup (pa_cons pe_non pa_nil)) (pa_cons (pe_tup (pa_cons (pe_tup (pa_cons pe_str pa_nil)) pa_nil)) (pa_cons (pe_tup (pa_cons pe_str (pa_cons pe_int pa_nil))) (pa_cons (pe_tup (pa_cons pe_str (pa_cons (pe_lst (pa_cons pe_str pa_nil)) pa_nil))) pa_nil))))))))))
      (pss_cons (ps_set (i := 4) sc__law_bent.nd rfl (by first | exact Or.inl rfl | exact Or.inr rfl) (pe_op op_cat (pv 4) (pe_lst (pa_cons (pe_op op_catA (pe_tup (pa_cons (pe_lst (pa_cons (pv 2) pa_nil)) pa_nil)) (pe_slice sl_tupA (pv 1) (po_some pe_int) po_none)) (pa_cons (pe_op op_catA (pe_tup (pa_cons (pe_tup (pa_cons (pv 2) pa_nil)) pa_nil)) (pe_slice sl_tupA (pv 1) (po_some pe_int) po_none)) (pa_cons (pe_tup (pa_cons (pv 2) (pa_cons (pv 1) (pa_cons (pv 1) pa_nil)))) (pa_cons (pe_op op_catA (pe_tup (pa_cons pe_bl pa_nil)) (pe_slice sl_tupA (pv 1) (po_some pe_int) po_none)) pa_nil)))))))
      (pss_one (ps_ret (pe_ix ix_list (pv 4) (pe_cl c__law_pick hr (by omega) (pa_cons (pv 0) (pa_cons (pe_callB call_len_seq (by rfl) T.n_len (by decide +kernel) (pa_cons (pv 4) pa_nil)) pa_nil))) (fun _ _ => rfl)))))))))))))))), ?_⟩
    obtain ⟨x0, y0, z0, hb, _⟩ := id B
    have lb : Lsts H [b] := .one hb
    have one : b ∈ [b] := List.mem_singleton.mpr rfl
    obtain ⟨l, rest, rfl, lr⟩ := flt_head hf
    have ll9 : l.length ≤ 9 := by
      obtain ⟨wd, rfl, mw⟩ := words_of hf
      have q : ∀ wd ∈ nine, wd.cps.toList.length ≤ 9 := by decide +kernel
      exact q wd mw
    cases r with
    | tup hs hnn rl =>
    rename_i a xs
    obtain ⟨vr, rfl, rr, r0⟩ : ∃ vr, xs = Tx l :: vr ∧ RpL K H vr rest ∧ Rp K H (Tx l) (.str l) := by
      cases rl with
      | cons h1 h2 =>
        cases h1 with
        | str _ h3 => exact ⟨_, rfl, h2, .str _ h3⟩
    have r : Rp K H (.ref a) (.tup (.str l :: rest)) := .tup hs hnn rl
    -- word
    refine ⟨_, rfl, a, _, 0, Tx l, rfl, rfl, hs, at0, ?_⟩
    dsimp only [gName]
    refine MonoT.cut (t := tAnd _ _) (MonoT.and (MonoT.test (Mono.op' MonoR.eq Mono.var Mono.c)) (MonoT.test (Mono.op' MonoR.i0 (Mono.cl monoPick (MonoA.cons Mono.var (MonoA.cons Mono.c MonoA.nil))) Mono.c)))
      (fun c H' => Stp [b] H H' ∧ Bag H' b (n + 1) ∧ (c = true → tx l = "not")) ?_ ?_
    · refine ⟨_, rfl, rfl, _, rfl, ite2 (fun h1 => ?_) (fun h1 => ⟨Stp.refl _ _, B.mono (by omega), fun e => nomatch e⟩)⟩
      have h1 : tx l = "not" := V.str.inj (of_decide_eq_true h1)
      refine ⟨_, rfl, b, 3, n, rfl, B, by omega, by decide, by decide, fun d1 H1 d10 d11 o1 B1 => ?_⟩
      exact ⟨_, _, rfl, rfl, _, rfl, o1.stp one, B1, fun _ => h1⟩
    rintro c H1 ⟨S1, B1, hc⟩
    have hs1 := sqt_stp S1 lb hs
    have rr1 := rr.stp S1 lb
    have r1 := r.stp S1 lb
    have lb1 := lb.stp S1
    refine ite2 (fun ec => ?_) (fun _ => ?_)
    · have h1 := hc ec
      rw [flt_not_none (by rw [h1]; decide +kernel)] at hf
      obtain ⟨p, rfl, hp⟩ := hf
      rw [h1, can_not] at hp
      cases rr1 with
      | cons q1 q2 =>
      cases q2 with
      | nil =>
      rename_i v1
      have dp : p.dep < (Dt.tup [.str l, p]).dep := by
        have := Dt.dep_mem (ds := [Dt.str l, p]) (d := p) (by simp)
        exact Nat.lt_succ_of_le this
      refine ⟨_, rfl, _, rfl, a, _, 1, v1, rfl, rfl, hs1, at1, b, n + 1, v1, p, rfl, by omega, by omega, B1, by omega, q1, fs_not hS h1, fun v' H2 d' rd nf dd S2 B2 => ?_⟩
      refine ⟨(by show 2 ≤ sizeLine; decide), fun t nt => ?_⟩
      refine k _ _ (.tup [.str ("not" : Str).cps.toList, d']) (.tup (SqT.of upd_same) (by simp) (.cons (Rp.lit _) (.cons (rd.stp (Stp.new nt []) Lsts.nil) .nil))) (nf_2 fun q => nf (can_not.mp q)) ?_ ((S1.trans S2).new' nt) ((B2.upd (B2.ne nt)).mono ?_)
      · simp [Dt.dep, Dt.depL] at dp ⊢
        omega
      · have : 50 * (p.dep + 1) ≤ 50 * (Dt.tup [.str l, p]).dep := Nat.mul_le_mul_left _ dp
        rw [Nat.mul_add]
        omega
    refine MonoT.cut (t := tAnd _ _) (MonoT.and (MonoT.test (Mono.op' MonoR.inn Mono.var (Mono.tup (MonoA.cons Mono.c (MonoA.cons Mono.c MonoA.nil))))) (MonoT.and (MonoT.test (Mono.op' MonoR.neD (Mono.op' MonoR.ixT Mono.var Mono.c) (Mono.tup MonoA.nil))) (MonoT.test (Mono.op' MonoR.i0 (Mono.cl monoPick (MonoA.cons Mono.var (MonoA.cons Mono.c MonoA.nil))) Mono.c))))
      (fun c H' => Stp [b] H1 H' ∧ Bag H' b (n + 2) ∧ (c = true → ∃ ds, (tx l = "and" ∨ tx l = "or") ∧ rest = [.tup ds] ∧ (∀ d ∈ ds, Flt d) ∧ ds ≠ [])) ?_ ?_
    · refine ⟨_, rfl, (by show 2 ≤ sizeLine; decide), fun t nt => ?_⟩
      have St : Stp [] H1 (upd H1 t (.tup [.str "and", .str "or"])) := Stp.new nt _
      have Bt := B1.upd (o := .tup [.str "and", .str "or"]) (B1.ne nt)
      refine ⟨t, _, rfl, .inr (SqT.of upd_same), rfl, rfl, _, rfl, ?_⟩
      have i1 := inV_str (tx l) (["and", "or"] : List Str)
      generalize upd H1 t (.tup [.str "and", .str "or"]) = H2 at *
      refine ite2 (fun h2 => ?_) (fun h2 => ⟨St.nil, Bt.mono (by omega), fun e => nomatch e⟩)
      have h3 : inV (Tx l) ((["and", "or"] : List Str).map V.str) = true := h2
      rw [i1] at h3
      have h4 : tx l = "and" ∨ tx l = "or" := by simpa using of_decide_eq_true h3
      have hf' := hf
      rw [flt_not_none (by rcases h4 with e | e <;> rw [e] <;> decide +kernel)] at hf'
      obtain ⟨p, ep, hp⟩ := hf'
      rw [can_many h4] at hp
      obtain ⟨ds, e2, hds⟩ := hp
      subst e2
      subst ep
      have r2 := rr1.stp St Lsts.nil
      have hs2 := sqt_stp St Lsts.nil hs1
      cases r2 with
      | cons q1 q2 =>
      cases q2 with
      | nil =>
      cases q1 with
      | tup hq hqn hql =>
      rename_i a2 v2
      refine ⟨_, rfl, a, _, 1, .ref a2, rfl, rfl, hs2, at1, Nat.zero_le _, fun t2 nt2 => ?_⟩
      have St2 : Stp [] H2 (upd H2 t2 (.tup [])) := Stp.new nt2 _
      refine ne_empty (sqt_stp St2 Lsts.nil hq) (hql.stp St2 Lsts.nil) hds ?_ (SqT.of upd_same) ?_
      · have : (Dt.tup [.str l, .tup ds]).dep = Dt.depL [.str l, .tup ds] + 1 := rfl
        have h7 := Dt.dep_mem (ds := [Dt.str l, .tup ds]) (d := .tup ds) (by simp)
        have h8 : (Dt.tup ds).dep = Dt.depL ds + 1 := rfl
        omega
      · have Bt2 := Bt.upd (o := .tup []) (Bt.ne nt2)
        cases ds with
        | nil => exact ⟨false, rfl, (St.trans St2).nil, Bt2.mono (by omega), fun e => nomatch e⟩
        | cons e ds =>
          refine ⟨true, rfl, ?_⟩
          refine ⟨_, rfl, b, 3, n + 1, rfl, Bt2, by omega, by decide, by decide, fun d1 H3 d10 d11 o3 B3 => ?_⟩
          exact ⟨_, _, rfl, rfl, _, rfl, (St.trans St2).nil.trans (o3.stp one), B3, fun _ => ⟨_, h4, rfl, hds, by simp⟩⟩
    rintro c2 H2 ⟨S2, B2, hc2⟩
    have hs2 := sqt_stp S2 lb1 hs1
    have rr2 := rr1.stp S2 lb1
    have r2 := r1.stp S2 lb1
    have lb2 := lb1.stp S2
    have S02 := S1.trans S2
    refine ite2 (fun ec => ?_) (fun _ => ?_)
    · obtain ⟨ds, h4, rfl, hds, hne⟩ := hc2 ec
      cases rr2 with
      | cons q1 q2 =>
      cases q2 with
      | nil =>
      cases q1 with
      | tup hq hqn hql =>
      rename_i a2 v2
      have hlen : 0 < v2.length := by
        rw [hql.len]
        cases ds with
        | nil => exact absurd rfl hne
        | cons _ _ => simp
      refine ⟨_, rfl, _, rfl, a, _, 1, .ref a2, rfl, rfl, hs2, at1, a2, _, rfl, .inr hq, b, _, n + 2, rfl, B2, by omega, by omega, by omega, fun at_ H3 a0 a1 o3 B3 => ?_⟩
      have S3 : Stp [b] H2 H3 := o3.stp one
      obtain ⟨j, rfl⟩ := Int.eq_ofNat_of_zero_le a0
      have hj : j < v2.length := by omega
      obtain ⟨e, he, re⟩ := hql.get (List.getElem?_eq_getElem hj)
      have me := List.mem_of_getElem? he
      have hs3 := sqt_stp S3 lb2 hs2
      have hq3 := sqt_stp S3 lb2 hq
      have dTop : (Dt.tup [.str l, .tup ds]).dep = Dt.depL [.str l, .tup ds] + 1 := rfl
      have dMid := Dt.dep_mem (ds := [Dt.str l, .tup ds]) (d := .tup ds) (by simp)
      have dIn : (Dt.tup ds).dep = Dt.depL ds + 1 := rfl
      have dE := Dt.dep_mem me
      refine ⟨_, rfl, _, rfl, a, _, 1, .ref a2, rfl, rfl, hs3, at1, _, rfl, (j : Int), rfl, ?_⟩
      refine slA_use hq3 fun p1 H5 S5 q5 => ?_
      have hs5 := sqt_stp S5 Lsts.nil hs3
      have hq5 := sqt_stp S5 Lsts.nil hq3
      refine ⟨_, rfl, _, rfl, a, _, 1, .ref a2, rfl, rfl, hs5, at1, _, rfl, a2, v2, (j : Int), v2[j], rfl, rfl, hq5, atI_nat (List.getElem?_eq_getElem hj), b, n + 3, v2[j], e, rfl, by omega, by omega, B3.kp S5 (fun m => nomatch m), by omega, (re.stp S3 lb2).stp S5 Lsts.nil, fs_many hS h4 me, fun v' H4 d' rd nf dd S4 B4 => ?_⟩
      have lb3 := lb2.stp S3
      have lb5 := lb3.stp S5
      have hs4 := sqt_stp S4 lb5 hs5
      have hq4 := sqt_stp S4 lb5 hq5
      have q54 := sqt_stp S4 lb5 q5
      have rl4 := ((hql.stp S3 lb2).stp S5 Lsts.nil).stp S4 lb5
      refine ⟨(by show 1 ≤ sizeLine; decide), fun t nt => ?_⟩
      have S6 : Stp [] H4 (upd H4 t (.tup [v'])) := Stp.new nt _
      refine catA_use (sqt_stp S6 Lsts.nil q54) (SqT.of upd_same) ?_ fun p2 H6 S7 q6 => ?_
      · rw [cut_upto, List.length_take]
        simp
        omega
      have S57 := S6.trans S7
      refine ⟨_, rfl, a, _, 1, .ref a2, rfl, rfl, sqt_stp S57 Lsts.nil hs4, at1, _, rfl, _, _, rfl, rfl, ((j + 1 : Nat) : Int), rfl, ?_⟩
      refine Pg.nopart ?_
      refine slA_use (sqt_stp S57 Lsts.nil hq4) fun p3 H7 S8 q7 => ?_
      have S58 := S57.trans S8
      refine catA_use (sqt_stp S8 Lsts.nil q6) q7 ?_ fun p4 H8 S9 q8 => ?_
      · rw [cut_upto, cut_from, List.length_append, List.length_take, List.length_drop]
        simp
        omega
      have S59 := S58.trans S9
      refine ⟨(by show 2 ≤ sizeLine; decide), fun t2 nt2 => ?_⟩
      have S10 : Stp [] H8 (upd H8 t2 (.tup [Tx l, .ref p4])) := Stp.new nt2 _
      have SA := S59.trans S10
      rw [cut_upto, cut_from] at q8
      have rl : RpL K (upd H8 t2 (.tup [Tx l, .ref p4])) (v2.take j ++ [v'] ++ v2.drop (j + 1)) (ds.take j ++ [d'] ++ ds.drop (j + 1)) :=
        (((rl4.stp SA Lsts.nil).take j).app (.cons (rd.stp SA Lsts.nil) .nil)).app ((rl4.stp SA Lsts.nil).drop (j + 1))
      have hlen2 : (v2.take j ++ [v'] ++ v2.drop (j + 1)).length ≤ 100000 := by
        rw [List.length_append, List.length_append, List.length_take, List.length_drop]
        simp
        omega
      refine k _ _ (.tup [.str l, .tup (ds.take j ++ [d'] ++ ds.drop (j + 1))]) (.tup (SqT.of upd_same) (by simp) (.cons (.str l (by omega)) (.cons (.tup (sqt_stp S10 Lsts.nil q8) hlen2 rl) .nil))) (fun f => ?_) ?_ ?_ ?_
      · rw [flt_two, can_many h4] at f
        exact nall (p := Flt) (x := d') (by simp) nf f
      · have h9 : Dt.depL (ds.take j ++ [d'] ++ ds.drop (j + 1)) ≤ Dt.depL ds + 3 := Dt.depL_le fun x mx => by
          rcases List.mem_append.mp mx with mx | mx
          · rcases List.mem_append.mp mx with mx | mx
            · have := Dt.dep_mem (List.mem_of_mem_take mx)
              omega
            · rw [List.mem_singleton.mp mx]
              omega
          · have := Dt.dep_mem (List.mem_of_mem_drop mx)
            omega
        have e1 : (Dt.tup [.str l, .tup (ds.take j ++ [d'] ++ ds.drop (j + 1))]).dep = max 0 (max (Dt.depL (ds.take j ++ [d'] ++ ds.drop (j + 1)) + 1) 0) + 1 := rfl
        have e2 : (Dt.tup [.str l, .tup ds]).dep = max 0 (max (Dt.depL ds + 1) 0) + 1 := rfl
        omega
      · exact ((((S02.trans S3).trans S5.nil)).trans S4).trans SA.nil
      · refine (B4.kp SA (fun m => nomatch m)).mono ?_
        have : 50 * (e.dep + 1) ≤ 50 * (Dt.tup [.str l, .tup ds]).dep := Nat.mul_le_mul_left _ (by omega)
        rw [Nat.mul_add]
        omega
    -- among
    refine MonoT.cut (t := tAnd _ _) (MonoT.and (MonoT.test (Mono.op' MonoR.eq Mono.var Mono.c)) (MonoT.test (Mono.op' MonoR.eq (Mono.cl monoPick (MonoA.cons Mono.var (MonoA.cons Mono.c MonoA.nil))) Mono.c)))
      (fun c H' => Stp [b] H2 H' ∧ Bag H' b (n + 3) ∧ (c = true → tx l = "among")) ?_ ?_
    · refine ⟨_, rfl, rfl, _, rfl, ite2 (fun h1 => ?_) (fun h1 => ⟨Stp.refl _ _, B2.mono (by omega), fun e => nomatch e⟩)⟩
      have h1 : tx l = "among" := V.str.inj (of_decide_eq_true h1)
      refine ⟨_, rfl, b, 2, n + 2, rfl, B2, by omega, by decide, by decide, fun d1 H3 d10 d11 o3 B3 => ?_⟩
      exact ⟨rfl, _, rfl, o3.stp one, B3, fun _ => h1⟩
    rintro c3 H3 ⟨S3, B3, hc3⟩
    have hs3 := sqt_stp S3 lb2 hs2
    have rr3 := rr2.stp S3 lb2
    have r3 := r2.stp S3 lb2
    have lb3 := lb2.stp S3
    have S03 := S02.trans S3
    have dd0 : 1 ≤ (Dt.tup (.str l :: rest)).dep := Nat.succ_le_succ (Nat.zero_le _)
    refine ite2 (fun ec => ?_) (fun _ => ?_)
    · have h4 := hc3 ec
      rw [flt_not_none (by rw [h4]; decide +kernel)] at hf
      obtain ⟨p, rfl, hp⟩ := hf
      rw [h4, can_among] at hp
      obtain ⟨ds, rfl, hds⟩ := hp
      have few := fs_few hS h4
      cases rr3 with
      | cons q1 q2 =>
      cases q2 with
      | nil =>
      cases q1 with
      | tup hq hqn hql =>
      rename_i a2 v2
      have few2 := hql.len
      refine ⟨_, rfl, _, rfl, a, _, 1, .ref a2, rfl, rfl, hs3, at1, a2, _, rfl, .inr hq, _, _, rfl, rfl, b, _, n + 3, rfl, B3, by omega, by omega, by omega, fun at_ H4 a0 a1 o4 B4 => ?_⟩
      have S4 : Stp [b] H3 H4 := o4.stp one
      obtain ⟨j, rfl⟩ := Int.eq_ofNat_of_zero_le a0
      have hs4 := sqt_stp S4 lb3 hs3
      have hq4 := sqt_stp S4 lb3 hq
      have lb4 := lb3.stp S4
      refine ⟨_, rfl, _, rfl, a, _, 1, .ref a2, rfl, rfl, hs4, at1, _, rfl, (j : Int), rfl, ?_⟩
      refine slA_use hq4 fun p1 H5 S5 q5 => ?_
      have lb5 := lb4.stp S5
      refine ⟨_, rfl, b, n + 4, [97, 98], congrArg (fun z => [V.ref b, V.str z]) ab_lit, B4.kp S5 (fun m => nomatch m), by omega, by decide, fun v' H6 d' rd nv S6 B6 => ?_⟩
      have hs6 := sqt_stp S6 lb5 (sqt_stp S5 Lsts.nil hs4)
      have hq6 := sqt_stp S6 lb5 (sqt_stp S5 Lsts.nil hq4)
      have q6 := sqt_stp S6 lb5 q5
      have rl6 := ((hql.stp S4 lb3).stp S5 Lsts.nil).stp S6 lb5
      refine ⟨(by show 1 ≤ sizeLine; decide), fun t nt => ?_⟩
      have S7 : Stp [] H6 (upd H6 t (.tup [v'])) := Stp.new nt _
      refine catA_use (sqt_stp S7 Lsts.nil q6) (SqT.of upd_same) ?_ fun p2 H8 S8 q8 => ?_
      · rw [cut_upto, List.length_take]
        simp
        omega
      have S78 := S7.trans S8
      refine ⟨_, rfl, a, _, 1, .ref a2, rfl, rfl, sqt_stp S78 Lsts.nil hs6, at1, _, rfl, (j : Int), rfl, ?_⟩
      refine Pg.nopart ?_
      refine slA_use (sqt_stp S78 Lsts.nil hq6) fun p3 H9 S9 q9 => ?_
      refine catA_use (sqt_stp S9 Lsts.nil q8) q9 ?_ fun p4 HA SA qA => ?_
      · rw [cut_upto, cut_from, List.length_append, List.length_take, List.length_drop]
        simp
        omega
      have S7A := (S78.trans S9).trans SA
      refine ⟨(by show 2 ≤ sizeLine; decide), fun t2 nt2 => ?_⟩
      have SB : Stp [] HA (upd HA t2 (.tup [Tx l, .ref p4])) := Stp.new nt2 _
      have SC := S7A.trans SB
      rw [cut_upto, cut_from] at qA
      have rl : RpL K (upd HA t2 (.tup [Tx l, .ref p4])) (v2.take j ++ [v'] ++ v2.drop j) (ds.take j ++ [d'] ++ ds.drop j) :=
        (((rl6.stp SC Lsts.nil).take j).app (.cons (rd.stp SC Lsts.nil) .nil)).app ((rl6.stp SC Lsts.nil).drop j)
      have hlen2 : (v2.take j ++ [v'] ++ v2.drop j).length ≤ 100000 := by
        have := hqn
        rw [List.length_append, List.length_append, List.length_take, List.length_drop]
        simp
        omega
      refine k _ _ (.tup [.str l, .tup (ds.take j ++ [d'] ++ ds.drop j)]) (.tup (SqT.of upd_same) (by simp) (.cons (.str l (by omega)) (.cons (.tup (sqt_stp SB Lsts.nil qA) hlen2 rl) .nil))) (fun f => ?_) ?_ ?_ ?_
      · rw [flt_two, h4, can_among] at f
        exact nall (p := IsTx) (x := d') (by simp) nv.1 f
      · have h9 : Dt.depL (ds.take j ++ [d'] ++ ds.drop j) ≤ Dt.depL ds + 1 := Dt.depL_le fun x mx => by
          rcases List.mem_append.mp mx with mx | mx
          · rcases List.mem_append.mp mx with mx | mx
            · have := Dt.dep_mem (List.mem_of_mem_take mx)
              omega
            · rw [List.mem_singleton.mp mx]
              have := nv.2.2
              omega
          · have := Dt.dep_mem (List.mem_of_mem_drop mx)
            omega
        have e1 : (Dt.tup [.str l, .tup (ds.take j ++ [d'] ++ ds.drop j)]).dep = max 0 (max (Dt.depL (ds.take j ++ [d'] ++ ds.drop j) + 1) 0) + 1 := rfl
        have e2 : (Dt.tup [.str l, .tup ds]).dep = max 0 (max (Dt.depL ds + 1) 0) + 1 := rfl
        omega
      · exact (((S03.trans S4).trans S5.nil).trans S6).trans SC.nil
      · exact (B6.kp SC (fun m => nomatch m)).mono (by omega)
    -- a word of texts
    refine ⟨_, rfl, b, 2, n + 3, rfl, B3, by omega, by decide, by decide, fun d4 H4 d40 d41 o4 B4 => ?_⟩
    have S4 : Stp [b] H3 H4 := o4.stp one
    have r4 := r3.stp S4 lb3
    have lb4 := lb3.stp S4
    have S04 := S03.trans S4
    refine ⟨rfl, _, rfl, ite2 (fun h => ?_) (fun _ => ?_)⟩
    · refine ⟨(by show 4 ≤ sizeLine; decide), fun q nq => ?_⟩
      have S5 : Stp [] H4 (upd H4 q (.lst [.str "is", .str "below", .str "above", .str "begins"])) := Stp.new nq _
      have hq : (upd H4 q (.lst [.str "is", .str "below", .str "above", .str "begins"])) q = some (.lst [.str "is", .str "below", .str "above", .str "begins"]) := upd_same
      have qb : q ∉ [b] := fun m => (B4.ne nq) (List.mem_singleton.mp m).symm
      generalize upd H4 q (.lst [.str "is", .str "below", .str "above", .str "begins"]) = H5 at *
      have B5 := B4.kp S5 (fun m => nomatch m)
      refine ⟨_, rfl, b, 4, n + 4, rfl, B5, by omega, by decide, by decide, fun d6 H6 d60 d61 o6 B6 => ?_⟩
      have S6 : Stp [b] H5 H6 := o6.stp one
      obtain ⟨wd, hw, ew⟩ := four_at d60 d61
      refine ⟨q, _, d6, _, rfl, rfl, SqL.of (S6.kp _ _ qb hq), ew, ?_⟩
      refine ⟨_, rfl, b, n + 5, [99, 97, 98], congrArg (fun z => [V.ref b, V.str z]) cab_lit, B6, by omega, by decide, fun v' H7 d' rd nv S7 B7 => ?_⟩
      refine ⟨(by show 2 ≤ sizeLine; decide), fun t nt => ?_⟩
      have wl : wd.cps.toList.length ≤ 100000 := by rcases hw with rfl | rfl | rfl | rfl <;> decide +kernel
      refine k _ _ (.tup [.str wd.cps.toList, d']) (.tup (SqT.of upd_same) (by simp) (.cons (Rp.lit _ wl) (.cons (rd.stp (Stp.new nt []) Lsts.nil) .nil))) (nf_2 fun q => nv.1 ((can_is hw).mp q)) ?_ ((((S04.trans S5.nil).trans S6).trans S7).new' nt) ((B7.upd (B7.ne nt)).mono (by omega))
      have := nv.2.2
      simp [Dt.dep, Dt.depL] at dd0 ⊢
      omega
    -- any other
    have hl : l.length ≤ 12 := by omega
    have w0_ : Rp K H4 (Tx l) (.str l) := .str l (by omega)
    have r0_ := r4
    have lr1 : ∀ {x : Dt}, ([x] : List Dt).length + (List.drop 1 (Dt.str l :: rest)).length ≤ 100000 := fun {x} => by
      simp
      omega
    have lr2 : ∀ {x : Dt}, (Dt.str l :: rest).length + ([x] : List Dt).length ≤ 100000 := fun {x} => by
      simp
      omega
    clear B
    have B := B4
    dsimp only [tNext]
    refine asg_name ?_
    refine' Pg.EvDA.newl (K := K) ?e0 ?l0 ?k0
    case e0 => (repeat' first | exact Pg.EvDA.nil | apply Pg.EvDA.cons | exact Pg.EvD.bl | exact Pg.EvD.int | exact Pg.EvD.non | exact Pg.EvD.str | exact Pg.EvD.var w0_ | exact Pg.EvD.var r0_ | apply Pg.EvD.tup | apply Pg.EvD.list | apply Pg.EvD.lst | apply EvD.upper | apply Pg.EvD.cat | apply EvD.catT | apply EvD.fromT | exact Pg.EvD.pow ⟨by decide, by decide, by decide⟩ | apply Pg.EvD.neg | exact catsz hl (by decide +kernel) | exact lr1 | exact lr2 | exact Nat.le_trans hl (by decide) | (simp; done))
    case l0 => simp
    case k0 =>
    intro L0 vs0 H0 E0 n0 h0 r0
    have r1_ := r0_.stp E0 Lsts.nil
    have w1_ := w0_.stp E0 Lsts.nil
    refine asg_name ?_
    refine op_var rfl ?_
    refine' Pg.EvDA.newl (K := K) ?e1 ?l1 ?k1
    case e1 => (repeat' first | exact Pg.EvDA.nil | apply Pg.EvDA.cons | exact Pg.EvD.bl | exact Pg.EvD.int | exact Pg.EvD.non | exact Pg.EvD.str | exact Pg.EvD.var w1_ | exact Pg.EvD.var r1_ | apply Pg.EvD.tup | apply Pg.EvD.list | apply Pg.EvD.lst | apply EvD.upper | apply Pg.EvD.cat | apply EvD.catT | apply EvD.fromT | exact Pg.EvD.pow ⟨by decide, by decide, by decide⟩ | apply Pg.EvD.neg | exact catsz hl (by decide +kernel) | exact lr1 | exact lr2 | exact Nat.le_trans hl (by decide) | (simp; done))
    case l1 => simp
    case k1 =>
    intro M1 ws1 G1 T1 m1 g1 q1
    refine ⟨_, _, _, _, rfl, rfl, T1.kp _ _ (fun m => nomatch m) h0, g1, ?z1, fun L1 n1 => ?_⟩
    case z1 => rw [r0.len, q1.len]; exact sz (by simp)
    have r1 := ((r0.stp T1 Lsts.nil).app q1).stp (Stp.new (o := .lst (vs0 ++ ws1)) n1 []) Lsts.nil
    have E1 := (E0.trans T1).new' (o := .lst (vs0 ++ ws1)) n1
    have n1 := T1.fresh (fun m => nomatch m) n1
    have h1 : (upd G1 L1 (.lst (vs0 ++ ws1))) L1 = some (.lst (vs0 ++ ws1)) := upd_same
    have n1 := E0.fresh (fun m => nomatch m) n1
    generalize vs0 ++ ws1 = vs1 at *
    generalize upd G1 L1 (.lst vs1) = H1 at *
    have r2_ := r0_.stp E1 Lsts.nil
    have w2_ := w0_.stp E1 Lsts.nil
    refine asg_name ?_
    refine op_var rfl ?_
    refine' Pg.EvDA.newl (K := K) ?e2 ?l2 ?k2
    case e2 => (repeat' first | exact Pg.EvDA.nil | apply Pg.EvDA.cons | exact Pg.EvD.bl | exact Pg.EvD.int | exact Pg.EvD.non | exact Pg.EvD.str | exact Pg.EvD.var w2_ | exact Pg.EvD.var r2_ | apply Pg.EvD.tup | apply Pg.EvD.list | apply Pg.EvD.lst | apply EvD.upper | apply Pg.EvD.cat | apply EvD.catT | apply EvD.fromT | exact Pg.EvD.pow ⟨by decide, by decide, by decide⟩ | apply Pg.EvD.neg | exact catsz hl (by decide +kernel) | exact lr1 | exact lr2 | exact Nat.le_trans hl (by decide) | (simp; done))
    case l2 => simp
    case k2 =>
    intro M2 ws2 G2 T2 m2 g2 q2
    refine ⟨_, _, _, _, rfl, rfl, T2.kp _ _ (fun m => nomatch m) h1, g2, ?z2, fun L2 n2 => ?_⟩
    case z2 => rw [r1.len, q2.len]; exact sz (by simp)
    have r2 := ((r1.stp T2 Lsts.nil).app q2).stp (Stp.new (o := .lst (vs1 ++ ws2)) n2 []) Lsts.nil
    have E2 := (E1.trans T2).new' (o := .lst (vs1 ++ ws2)) n2
    have n2 := T2.fresh (fun m => nomatch m) n2
    have h2 : (upd G2 L2 (.lst (vs1 ++ ws2))) L2 = some (.lst (vs1 ++ ws2)) := upd_same
    have n2 := E1.fresh (fun m => nomatch m) n2
    generalize vs1 ++ ws2 = vs2 at *
    generalize upd G2 L2 (.lst vs2) = H2 at *
    have r3_ := r0_.stp E2 Lsts.nil
    have w3_ := w0_.stp E2 Lsts.nil
    refine asg_name ?_
    refine op_var rfl ?_
    refine' Pg.EvDA.newl (K := K) ?e3 ?l3 ?k3
    case e3 => (repeat' first | exact Pg.EvDA.nil | apply Pg.EvDA.cons | exact Pg.EvD.bl | exact Pg.EvD.int | exact Pg.EvD.non | exact Pg.EvD.str | exact Pg.EvD.var w3_ | exact Pg.EvD.var r3_ | apply Pg.EvD.tup | apply Pg.EvD.list | apply Pg.EvD.lst | apply EvD.upper | apply Pg.EvD.cat | apply EvD.catT | apply EvD.fromT | exact Pg.EvD.pow ⟨by decide, by decide, by decide⟩ | apply Pg.EvD.neg | exact catsz hl (by decide +kernel) | exact lr1 | exact lr2 | exact Nat.le_trans hl (by decide) | (simp; done))
    case l3 => simp
    case k3 =>
    intro M3 ws3 G3 T3 m3 g3 q3
    refine ⟨_, _, _, _, rfl, rfl, T3.kp _ _ (fun m => nomatch m) h2, g3, ?z3, fun L3 n3 => ?_⟩
    case z3 => rw [r2.len, q3.len]; exact sz (by simp)
    have r3 := ((r2.stp T3 Lsts.nil).app q3).stp (Stp.new (o := .lst (vs2 ++ ws3)) n3 []) Lsts.nil
    have E3 := (E2.trans T3).new' (o := .lst (vs2 ++ ws3)) n3
    have n3 := T3.fresh (fun m => nomatch m) n3
    have h3 : (upd G3 L3 (.lst (vs2 ++ ws3))) L3 = some (.lst (vs2 ++ ws3)) := upd_same
    have n3 := E2.fresh (fun m => nomatch m) n3
    generalize vs2 ++ ws3 = vs3 at *
    generalize upd G3 L3 (.lst vs3) = H3 at *
    have r4_ := r0_.stp E3 Lsts.nil
    have w4_ := w0_.stp E3 Lsts.nil
    refine asg_name ?_
    refine op_var rfl ?_
    refine' Pg.EvDA.newl (K := K) ?e4 ?l4 ?k4
    case e4 => (repeat' first | exact Pg.EvDA.nil | apply Pg.EvDA.cons | exact Pg.EvD.bl | exact Pg.EvD.int | exact Pg.EvD.non | exact Pg.EvD.str | exact Pg.EvD.var w4_ | exact Pg.EvD.var r4_ | apply Pg.EvD.tup | apply Pg.EvD.list | apply Pg.EvD.lst | apply EvD.upper | apply Pg.EvD.cat | apply EvD.catT | apply EvD.fromT | exact Pg.EvD.pow ⟨by decide, by decide, by decide⟩ | apply Pg.EvD.neg | exact catsz hl (by decide +kernel) | exact lr1 | exact lr2 | exact Nat.le_trans hl (by decide) | (simp; done))
    case l4 => simp
    case k4 =>
    intro M4 ws4 G4 T4 m4 g4 q4
    refine ⟨_, _, _, _, rfl, rfl, T4.kp _ _ (fun m => nomatch m) h3, g4, ?z4, fun L4 n4 => ?_⟩
    case z4 => rw [r3.len, q4.len]; exact sz (by simp)
    have r4 := ((r3.stp T4 Lsts.nil).app q4).stp (Stp.new (o := .lst (vs3 ++ ws4)) n4 []) Lsts.nil
    have E4 := (E3.trans T4).new' (o := .lst (vs3 ++ ws4)) n4
    have n4 := T4.fresh (fun m => nomatch m) n4
    have h4 : (upd G4 L4 (.lst (vs3 ++ ws4))) L4 = some (.lst (vs3 ++ ws4)) := upd_same
    have n4 := E3.fresh (fun m => nomatch m) n4
    generalize vs3 ++ ws4 = vs4 at *
    generalize upd G4 L4 (.lst vs4) = H4 at *
    have r5_ := r0_.stp E4 Lsts.nil
    have w5_ := w0_.stp E4 Lsts.nil
    refine asg_name ?_
    refine op_var rfl ?_
    refine' Pg.EvDA.newl (K := K) ?e5 ?l5 ?k5
    case e5 => (repeat' first | exact Pg.EvDA.nil | apply Pg.EvDA.cons | exact Pg.EvD.bl | exact Pg.EvD.int | exact Pg.EvD.non | exact Pg.EvD.str | exact Pg.EvD.var w5_ | exact Pg.EvD.var r5_ | apply Pg.EvD.tup | apply Pg.EvD.list | apply Pg.EvD.lst | apply EvD.upper | apply Pg.EvD.cat | apply EvD.catT | apply EvD.fromT | exact Pg.EvD.pow ⟨by decide, by decide, by decide⟩ | apply Pg.EvD.neg | exact catsz hl (by decide +kernel) | exact lr1 | exact lr2 | exact Nat.le_trans hl (by decide) | (simp; done))
    case l5 => simp
    case k5 =>
    intro M5 ws5 G5 T5 m5 g5 q5
    refine ⟨_, _, _, _, rfl, rfl, T5.kp _ _ (fun m => nomatch m) h4, g5, ?z5, fun L5 n5 => ?_⟩
    case z5 => rw [r4.len, q5.len]; exact sz (by simp)
    have r5 := ((r4.stp T5 Lsts.nil).app q5).stp (Stp.new (o := .lst (vs4 ++ ws5)) n5 []) Lsts.nil
    have E5 := (E4.trans T5).new' (o := .lst (vs4 ++ ws5)) n5
    have n5 := T5.fresh (fun m => nomatch m) n5
    have h5 : (upd G5 L5 (.lst (vs4 ++ ws5))) L5 = some (.lst (vs4 ++ ws5)) := upd_same
    have n5 := E4.fresh (fun m => nomatch m) n5
    generalize vs4 ++ ws5 = vs5 at *
    generalize upd G5 L5 (.lst vs5) = H5 at *
    have r6_ := r0_.stp E5 Lsts.nil
    have w6_ := w0_.stp E5 Lsts.nil
    refine asg_name ?_
    refine op_var rfl ?_
    refine' Pg.EvDA.newl (K := K) ?e6 ?l6 ?k6
    case e6 => (repeat' first | exact Pg.EvDA.nil | apply Pg.EvDA.cons | exact Pg.EvD.bl | exact Pg.EvD.int | exact Pg.EvD.non | exact Pg.EvD.str | exact Pg.EvD.var w6_ | exact Pg.EvD.var r6_ | apply Pg.EvD.tup | apply Pg.EvD.list | apply Pg.EvD.lst | apply EvD.upper | apply Pg.EvD.cat | apply EvD.catT | apply EvD.fromT | exact Pg.EvD.pow ⟨by decide, by decide, by decide⟩ | apply Pg.EvD.neg | exact catsz hl (by decide +kernel) | exact lr1 | exact lr2 | exact Nat.le_trans hl (by decide) | (simp; done))
    case l6 => simp
    case k6 =>
    intro M6 ws6 G6 T6 m6 g6 q6
    refine ⟨_, _, _, _, rfl, rfl, T6.kp _ _ (fun m => nomatch m) h5, g6, ?z6, fun L6 n6 => ?_⟩
    case z6 => rw [r5.len, q6.len]; exact sz (by simp)
    have r6 := ((r5.stp T6 Lsts.nil).app q6).stp (Stp.new (o := .lst (vs5 ++ ws6)) n6 []) Lsts.nil
    have E6 := (E5.trans T6).new' (o := .lst (vs5 ++ ws6)) n6
    have n6 := T6.fresh (fun m => nomatch m) n6
    have h6 : (upd G6 L6 (.lst (vs5 ++ ws6))) L6 = some (.lst (vs5 ++ ws6)) := upd_same
    have n6 := E5.fresh (fun m => nomatch m) n6
    generalize vs5 ++ ws6 = vs6 at *
    generalize upd G6 L6 (.lst vs6) = H6 at *
    have Bn := B.kp E6 (fun m => nomatch m)
    have nLb : L6 ∉ [b] := fun m => B.ne n6 (List.mem_singleton.mp m).symm
    refine ⟨_, rfl, _, rfl, _, rfl, L6, vs6, rfl, .inl (SqL.of h6), b, _, _, rfl, Bn, by omega, ?_, ?_, fun e HN e0 e1 o1 B1 => ?_⟩
    · rw [r6.len]
      simp
    · rw [r6.len]
      simp
    have S11 : Stp [b] H6 HN := o1.stp (List.mem_singleton.mpr rfl)
    have lb : Lsts H6 [b] := Pv.bag_ls Bn
    obtain ⟨j, rfl⟩ := Int.eq_ofNat_of_zero_le e0
    have hj : j < vs6.length := by omega
    obtain ⟨d', hd', rd'⟩ := r6.get (List.getElem?_eq_getElem hj)
    refine ⟨L6, vs6, (j : Int), vs6[j], rfl, rfl, SqL.of (S11.kp _ _ nLb h6), atI_nat (List.getElem?_eq_getElem hj), ?_⟩
    obtain ⟨nf, nd⟩ := (((((((oddb_0 hf).app (oddb_1 hf)).app (oddb_2 hf)).app (oddb_3 hf)).app (oddb_4 hf)).app (oddb_5 hf)).app (oddb_6 hf)) d' (List.mem_of_getElem? hd')
    exact k _ HN d' (rd'.stp S11 lb) nf nd ((S04.trans E6.nil).trans S11) (B1.mono (by omega))
theorem bent_all {f : Addr} {fd : FuncData} (D : Df K mg "_law_bent" s__law_bent ["hand", "query"] f fd) (T : Nm mg) (c__law_pick : Cl P w K mg base 1 "_law_pick" s__law_pick ["hand", "size"] spPick)
    (c__law_odd : Cl P w K mg base 2 "_law_odd" s__law_odd ["hand", "text"] (spOdd K)) : ∀ m : Nat, Cl P w K mg base (2 + m) "_law_bent" s__law_bent ["hand", "query"] (spBent K m)
  | 0 => cl_never D (fun vs H Q E ⟨b, n, v, d, _, hm, _⟩ => Nat.not_lt_zero _ hm) _
  | m + 1 => bent_step D T c__law_pick c__law_odd (Nat.le_add_right 2 m) (bent_all D T c__law_pick c__law_odd m)
abbrev s_is_rule : Stmt := topS 15
abbrev N_is_rule : List Str := ["value", "lacks", "low", "high"]
theorem sc_is_rule : FnScope ["value", "lacks", "low", "high"] ["value"] (defScope s_is_rule) := ⟨rfl, rfl, rfl, by decide +kernel, rfl, by decide +kernel, by decide +kernel⟩

abbrev s_is_lacks_part : Stmt := topS 16
abbrev N_is_lacks_part : List Str := ["part"]
theorem sc_is_lacks_part : FnScope ["part"] ["part"] (defScope s_is_lacks_part) := ⟨rfl, rfl, rfl, by decide +kernel, rfl, by decide +kernel, by decide +kernel⟩

abbrev s_is_low_part : Stmt := topS 17
abbrev N_is_low_part : List Str := ["part"]
theorem sc_is_low_part : FnScope ["part"] ["part"] (defScope s_is_low_part) := ⟨rfl, rfl, rfl, by decide +kernel, rfl, by decide +kernel, by decide +kernel⟩

abbrev s_is_high_part : Stmt := topS 18
abbrev N_is_high_part : List Str := ["part"]
theorem sc_is_high_part : FnScope ["part"] ["part"] (defScope s_is_high_part) := ⟨rfl, rfl, rfl, by decide +kernel, rfl, by decide +kernel, by decide +kernel⟩

abbrev s_is_lost : Stmt := topS 19
abbrev N_is_lost : List Str := ["part"]
theorem sc_is_lost : FnScope ["part"] ["part"] (defScope s_is_lost) := ⟨rfl, rfl, rfl, by decide +kernel, rfl, by decide +kernel, by decide +kernel⟩

abbrev s_is_letter_number : Stmt := topS 20
abbrev N_is_letter_number : List Str := ["part"]
theorem sc_is_letter_number : FnScope ["part"] ["part"] (defScope s_is_letter_number) := ⟨rfl, rfl, rfl, by decide +kernel, rfl, by decide +kernel, by decide +kernel⟩

/-! ### what is a rule -/
def isIn (ss : List Str) : D → Bool
  | .str l => decide (tx l ∈ ss)
  | _ => false
def isLost : D → Bool
  | .str l => decide (tx l = ("lost" : Str))
  | _ => false
def isNum : D → Bool
  | .int i => decide (0 ≤ i) && decide (i ≤ 6)
  | _ => false
def isLow (d : D) : Bool := isLost d || isNum d
def isHigh : D → Bool
  | .tup [a, b] => isIn ["cut", "beyond"] a && isNum b
  | d => isLost d
def isRule : D → Bool
  | .tup [a, b, c] => isIn ["many", "some", "hidden"] a && isLow b && isHigh c
  | _ => false
/-- a def that tells a truth of any value -/
def spTell (K : PySem.W.Frag) (t : D → Bool) : Sp := fun vs H Q _ => ∃ (S : List Addr) (v : V) (d : D), vs = [v] ∧ Rv K S H v d ∧ ∀ H' b, Stp [] H H' → b = t d → Q (.bl b) H'
theorem spTell.len {K : PySem.W.Frag} {t : D → Bool} {vs : List V} {H : Hp} {Q : VK} {E : XK} (h : spTell K t vs H Q E) : vs.length = 1 := by
  obtain ⟨S, v, d, rfl, _⟩ := h
  rfl
theorem cl_is_lost {f : Addr} {fd : FuncData} (D : Df K mg "is_lost" s_is_lost ["part"] f fd) (T : Nm mg) : Cl P w K mg base 1 "is_lost" s_is_lost ["part"] (spTell K isLost) := by
  refine D.cl sc_is_lost (fun vs H Q E h => h.len) (fun cdv A outer s H vs Q E hr h => ?_)
  obtain ⟨S, v, d, rfl, r, k⟩ := h
  refine ⟨_, (pss_one (ps_ret (pe_and (pe_tyIs (T := "str") Mono.var (pv 0) T.n_type T.n_str (by decide +kernel)) (pe_one (pe_cmpR op_eq (pv 0) pe_str (by first | exact nomark _ | rfl)))))), ?_⟩
  refine ⟨_, rfl, d.old, r.old, _, rfl, ?_⟩
  cases r with
  | str l hl => exact ⟨_, rfl, rfl, by
      show Q (.bl (decide (Tx l = V.str "lost"))) H
      exact k H _ (Stp.refl _ _) bl_str⟩
  | _ => exact k H _ (Stp.refl _ _) rfl
theorem cl_is_letter_number {f : Addr} {fd : FuncData} (D : Df K mg "is_letter_number" s_is_letter_number ["part"] f fd) (T : Nm mg) : Cl P w K mg base 1 "is_letter_number" s_is_letter_number ["part"] (spTell K isNum) := by
  refine D.cl sc_is_letter_number (fun vs H Q E h => h.len) (fun cdv A outer s H vs Q E hr h => ?_)
  obtain ⟨S, v, d, rfl, r, k⟩ := h
  refine ⟨_, (pss_one (ps_ret (pe_and (pe_tyIs (T := "int") Mono.var (pv 0) T.n_type T.n_int (by decide +kernel)) (pe_one (pe_chain op_le op_le pe_int (pv 0) pe_int))))), ?_⟩
  refine ⟨_, rfl, d.old, r.old, _, rfl, ?_⟩
  cases r with
  | int i =>
    refine ⟨_, rfl, _, _, rfl, rfl, _, rfl, ite2 (fun h => ?_) (fun h => ?_)⟩
    · exact ⟨_, _, rfl, rfl, k H _ (Stp.refl _ _) (by show _ = (decide (0 ≤ i) && decide (i ≤ 6)); rw [h]; rfl)⟩
    · exact k H _ (Stp.refl _ _) (by show _ = (decide (0 ≤ i) && decide (i ≤ 6)); rw [Bool.eq_false_iff.mpr h]; rfl)
  | _ => exact k H _ (Stp.refl _ _) rfl
theorem cl_is_lacks_part {f : Addr} {fd : FuncData} (D : Df K mg "is_lacks_part" s_is_lacks_part ["part"] f fd) (T : Nm mg) : Cl P w K mg base 1 "is_lacks_part" s_is_lacks_part ["part"] (spTell K (isIn ["many", "some", "hidden"])) := by
  refine D.cl sc_is_lacks_part (fun vs H Q E h => h.len) (fun cdv A outer s H vs Q E hr h => ?_)
  obtain ⟨S, v, d, rfl, r, k⟩ := h
  refine ⟨_, (pss_one (ps_ret (pe_and (pe_tyIs (T := "str") Mono.var (pv 0) T.n_type T.n_str (by decide +kernel)) (pe_one (pe_cmpR op_in_seq (pv 0) (pe_tup (pa_cons pe_str (pa_cons pe_str (pa_cons pe_str pa_nil)))) (by first | exact nomark _ | rfl)))))), ?_⟩
  refine ⟨_, rfl, d.old, r.old, _, rfl, ?_⟩
  cases r with
  | str l hl => exact ⟨_, rfl, (by show 3 ≤ sizeLine; decide), fun p np => in_strs (ss := ["many", "some", "hidden"]) (.inr (SqT.of upd_same)) (k _ _ (Stp.new np _) rfl)⟩
  | _ => exact k H _ (Stp.refl _ _) rfl
theorem cl_is_low_part {f : Addr} {fd : FuncData} (D : Df K mg "is_low_part" s_is_low_part ["part"] f fd) (T : Nm mg) (c_is_lost : Cl P w K mg base 1 "is_lost" s_is_lost ["part"] (spTell K isLost)) (c_is_letter_number : Cl P w K mg base 1 "is_letter_number" s_is_letter_number ["part"] (spTell K isNum)) :
    Cl P w K mg base 2 "is_low_part" s_is_low_part ["part"] (spTell K isLow) := by
  refine D.cl sc_is_low_part (fun vs H Q E h => h.len) (fun cdv A outer s H vs Q E hr h => ?_)
  obtain ⟨S, v, d, rfl, r, k⟩ := h
  refine ⟨_, (pss_one (ps_ret (pe_or (pe_cl c_is_lost hr (by omega) (pa_cons (pv 0) pa_nil)) (pe_one (pe_cl c_is_letter_number hr (by omega) (pa_cons (pv 0) pa_nil)))))), ?_⟩
  refine ⟨_, rfl, S, v, d, rfl, r, fun H1 b S1 eb => ⟨_, rfl, ite2 (fun h => ?_) (fun h => ?_)⟩⟩
  · exact k H1 _ S1 (by unfold isLow; rw [← eb, h]; rfl)
  · exact ⟨_, rfl, S, v, d, rfl, r.up S1, fun H2 b2 S2 eb2 => k H2 _ (S1.trans S2) (by unfold isLow; rw [← eb, ← eb2, Bool.eq_false_iff.mpr h]; rfl)⟩
theorem isHigh_no {d : D} (h : ∀ a b, d ≠ .tup [a, b]) : isHigh d = isLost d := by
  cases d with
  | tup ds => match ds, h with
    | [], _ => rfl
    | [_], _ => rfl
    | [a, b], h => exact absurd rfl (h a b)
    | _ :: _ :: _ :: _, _ => rfl
  | _ => rfl
theorem two {α : Type} {l : List α} (h : l.length = 2) : ∃ a b, l = [a, b] := by
  match l, h with
  | [a, b], _ => exact ⟨a, b, rfl⟩
theorem three {α : Type} {l : List α} (h : l.length = 3) : ∃ a b c, l = [a, b, c] := by
  match l, h with
  | [a, b, c], _ => exact ⟨a, b, c, rfl⟩
theorem RvL.two {K : PySem.W.Frag} {S : List Addr} {H : Hp} {vs : List V} {a b : D} (r : RvL K S H vs [a, b]) : ∃ u v, vs = [u, v] ∧ Rv K S H u a ∧ Rv K S H v b := by
  cases r with
  | cons h1 r => cases r with
    | cons h2 r => cases r; exact ⟨_, _, rfl, h1, h2⟩
theorem RvL.three {K : PySem.W.Frag} {S : List Addr} {H : Hp} {vs : List V} {a b c : D} (r : RvL K S H vs [a, b, c]) : ∃ u v w, vs = [u, v, w] ∧ Rv K S H u a ∧ Rv K S H v b ∧ Rv K S H w c := by
  cases r with
  | cons h1 r => cases r with
    | cons h2 r => cases r with
      | cons h3 r => cases r; exact ⟨_, _, _, rfl, h1, h2, h3⟩
theorem at2 {α : Type} {a b c : α} {l : List α} : atI (a :: b :: c :: l) 2 = some c := atI_nat (j := 2) rfl
theorem cl_is_high_part {f : Addr} {fd : FuncData} (D : Df K mg "is_high_part" s_is_high_part ["part"] f fd) (T : Nm mg) (c_is_lost : Cl P w K mg base 1 "is_lost" s_is_lost ["part"] (spTell K isLost)) (c_is_letter_number : Cl P w K mg base 1 "is_letter_number" s_is_letter_number ["part"] (spTell K isNum)) :
    Cl P w K mg base 2 "is_high_part" s_is_high_part ["part"] (spTell K isHigh) := by
  refine D.cl sc_is_high_part (fun vs H Q E h => h.len) (fun cdv A outer s H vs Q E hr h => ?_)
  obtain ⟨S, v, d, rfl, r, k⟩ := h
  refine ⟨_, (pss_cons (ps_if (PW.pt (pw_or (pt_tyNot (T := "tuple") Mono.var (pv 0) T.n_type T.n_tuple (by decide +kernel)) (pw_or1 (pt_cmpR op_ne (pe_callB call_len_seq (by rfl) T.n_len (by decide +kernel) (pa_cons (pv 0) pa_nil)) pe_int (by first | exact nomark _ | rfl))))) (pss_one (ps_ret (pe_cl c_is_lost hr (by omega) (pa_cons (pv 0) pa_nil)))) pss_nil)
      (pss_one (ps_ret (pe_and (pe_tyIs (T := "str") (Mono.ixT Mono.var Mono.c) (pe_ix ix_tup (pv 0) pe_int (fun _ _ => rfl)) T.n_type T.n_str (by decide +kernel)) (pe_and (pe_cmpR op_in_seq (pe_ix ix_tup (pv 0) pe_int (fun _ _ => rfl)) (pe_tup (pa_cons pe_str (pa_cons pe_str pa_nil))) (by first | exact nomark _ | rfl)) (pe_one (pe_cl c_is_letter_number hr (by omega) (pa_cons (pe_ix ix_tup (pv 0) pe_int (fun _ _ => rfl)) pa_nil)))))))), ?_⟩
  have no : (∀ a b, d ≠ .tup [a, b]) → ∀ H1, H1 = H → ∃ x, (L2.start N_is_high_part [v])[0]? = some (some x) ∧ spTell K isLost [x] H1 Q E0 := fun n H1 e => by
    subst e
    exact ⟨v, rfl, S, v, d, rfl, r, fun H2 b S2 eb => k H2 b S2 (by rw [isHigh_no n]; exact eb)⟩
  refine ⟨_, rfl, d.old, r.old, ite2 (fun h => ?_) (fun h => ?_)⟩
  · refine no (fun a b e => ?_) H rfl
    rw [e] at h
    exact absurd h (by simp [Pv.D.old, Dt.ty])
  · obtain ⟨ds, rfl⟩ : ∃ ds, d = .tup ds   := Pv.D.tup_of (by
      have h2 := Bool.eq_false_iff.mpr h
      simpa [Pv.D.ty] using h2)
    cases r with
    | tup hs hl rl =>
      rename_i a vs
      refine ⟨_, rfl, a, _, rfl, .inr hs, rfl, _, rfl, ite2 (fun h3 => ?_) (fun h3 => ?_)⟩
      · refine no (fun x y e => ?_) H rfl
        cases e
        rw [rl.len] at h3
        exact absurd h3 (by simp)
      · obtain ⟨x, y, rfl⟩ := two (l := ds) (by
          rw [rl.len] at h3
          have h2 := Bool.eq_false_iff.mpr h3
          simp at h2
          omega)
        obtain ⟨u, v, rfl, r1, r2⟩ := RvL.two rl
        refine ⟨_, rfl, a, _, 0, u, rfl, rfl, hs, at0, x.old, r1.old, _, rfl, ?_⟩
        cases r1 with
        | str l hl =>
          refine ⟨_, rfl, a, _, 0, Tx l, rfl, rfl, hs, at0, (by show 2 ≤ sizeLine; decide), fun p np => in_strs (ss := ["cut", "beyond"]) (.inr (SqT.of upd_same)) ⟨_, rfl, ite2 (fun h => ?_) (fun h => ?_)⟩⟩
          · have S1 : Stp [] H (upd H p (.tup [.str "cut", .str "beyond"])) := Stp.new np _
            refine ⟨_, rfl, a, _, 1, v, rfl, rfl, sqt_stp S1 Lsts.nil hs, at1, S, v, y, rfl, r2.up S1, fun H2 b S2 eb => k H2 b (S1.trans S2) ?_⟩
            show b = (decide (tx l ∈ _) && isNum y)
            rw [h, eb]
            rfl
          · refine k _ _ (Stp.new np _) ?_
            show false = (decide (tx l ∈ _) && isNum y)
            rw [Bool.eq_false_iff.mpr h]
            rfl
        | _ => exact k H _ (Stp.refl _ _) rfl
theorem nt {b : Bool} (h : (!b) = true) : b = false := by simpa using h
theorem nf {b : Bool} (h : ¬ (!b) = true) : b = true := by simpa using h
theorem notin_strs {K : PySem.W.Frag} {H : Hp} {l : List Nat} {ss : List Str} {p : Addr} {Q : VK} (hp : SqL K H p (ss.map V.str) ∨ SqT K H p (ss.map V.str)) (k : Q (.bl (!decide (tx l ∈ ss))) H) : rIn K true (Tx l) (.ref p) H Q := by
  refine ⟨p, ss.map V.str, rfl, hp, rfl, ?_, ?_⟩
  · rw [List.all_map]
    exact List.all_eq_true.mpr fun _ _ => rfl
  · show Q (.bl (!inV (.str (tx l)) (ss.map V.str))) H
    rw [inV_str]
    exact k
theorem isRule_no {d : D} (h : ∀ a b c, d ≠ .tup [a, b, c]) : isRule d = false := by
  cases d with
  | tup ds => match ds, h with
    | [], _ => rfl
    | [_], _ => rfl
    | [_, _], _ => rfl
    | [a, b, c], h => exact absurd rfl (h a b c)
    | _ :: _ :: _ :: _ :: _, _ => rfl
  | _ => rfl
theorem cl_is_rule {f : Addr} {fd : FuncData} (D : Df K mg "is_rule" s_is_rule ["value"] f fd) (T : Nm mg) (c_is_lacks_part : Cl P w K mg base 1 "is_lacks_part" s_is_lacks_part ["part"] (spTell K (isIn ["many", "some", "hidden"])))
    (c_is_low_part : Cl P w K mg base 2 "is_low_part" s_is_low_part ["part"] (spTell K isLow)) (c_is_high_part : Cl P w K mg base 2 "is_high_part" s_is_high_part ["part"] (spTell K isHigh)) : Cl P w K mg base 3 "is_rule" s_is_rule ["value"] (spTell K isRule) := by
  refine D.cl sc_is_rule (fun vs H Q E h => h.len) (fun cdv A outer s H vs Q E hr h => ?_)
  obtain ⟨S, v, d, rfl, r, k⟩ := h
  refine ⟨_, (pss_cons (ps_if (PW.pt (pw_or (pt_tyNot (T := "tuple") Mono.var (pv 0) T.n_type T.n_tuple (by decide +kernel)) (pw_or1 (pt_cmpR op_ne (pe_callB call_len_seq (by rfl) T.n_len (by decide +kernel) (pa_cons (pv 0) pa_nil)) pe_int (by first | exact nomark _ | rfl))))) (pss_one (ps_ret pe_bl)) pss_nil)
      (pss_cons (ps_asg (pv 0) (pg_tup rfl (pgs_cons (pg_name (i := 1) sc_is_rule.nd rfl (by first | exact Or.inl rfl | exact Or.inr rfl)) (pgs_cons (pg_name (i := 2) sc_is_rule.nd rfl (by first | exact Or.inl rfl | exact Or.inr rfl)) (pgs_cons (pg_name (i := 3) sc_is_rule.nd rfl (by first | exact Or.inl rfl | exact Or.inr rfl)) pgs_nil (by rfl)) (by rfl)) (by rfl)) (by rfl) (by rfl)))
      (pss_one (ps_ret (pe_and (pe_cl c_is_lacks_part hr (by omega) (pa_cons (pv 1) pa_nil)) (pe_and (pe_cl c_is_low_part hr (by omega) (pa_cons (pv 2) pa_nil)) (pe_one (pe_cl c_is_high_part hr (by omega) (pa_cons (pv 3) pa_nil))))))))), ?_⟩
  refine ⟨_, rfl, d.old, r.old, ite2 (fun h => ?_) (fun h => ?_)⟩
  · exact k H _ (Stp.refl _ _) (isRule_no fun a b c e => by rw [e] at h; exact absurd h (by simp [Pv.D.old, Dt.ty])).symm
  · obtain ⟨ds, rfl⟩ : ∃ ds, d = .tup ds := Pv.D.tup_of (by
      have h2 := Bool.eq_false_iff.mpr h
      simpa [Pv.D.ty] using h2)
    cases r with
    | tup hs hl rl =>
      rename_i a vs
      refine ⟨_, rfl, a, _, rfl, .inr hs, rfl, _, rfl, ite2 (fun h3 => ?_) (fun h3 => ?_)⟩
      · exact k H _ (Stp.refl _ _) (isRule_no fun x y z e => by
          cases e
          rw [rl.len] at h3
          exact absurd h3 (by simp)).symm
      · obtain ⟨x, y, z, rfl⟩ := three (l := ds) (by
          rw [rl.len] at h3
          have h2 := Bool.eq_false_iff.mpr h3
          simp at h2
          omega)
        obtain ⟨u1, u2, u3, rfl, r1, r2, r3⟩ := RvL.three rl
        refine ⟨_, rfl, a, _, rfl, hs, rfl, _, _, rfl, _, _, rfl, _, _, rfl, rfl, ?_⟩
        refine ⟨_, rfl, S, u1, x, rfl, r1, fun H1 b1 S1 e1 => ⟨_, rfl, ite2 (fun h4 => ?_) (fun h4 => ?_)⟩⟩
        · refine ⟨_, rfl, S, u2, y, rfl, r2.up S1, fun H2 b2 S2 e2 => ⟨_, rfl, ite2 (fun h5 => ?_) (fun h5 => ?_)⟩⟩
          · refine ⟨_, rfl, S, u3, z, rfl, (r3.up S1).up S2, fun H3 b3 S3 e3 => k H3 _ ((S1.trans S2).trans S3) ?_⟩
            show b3 = (isIn _ x && isLow y && isHigh z)
            rw [← e1, ← e2, ← e3, h4, h5]
            rfl
          · refine k H2 _ (S1.trans S2) ?_
            show false = (isIn _ x && isLow y && isHigh z)
            rw [← e1, ← e2, h4, Bool.eq_false_iff.mpr h5]
            rfl
        · refine k H1 _ S1 ?_
          show false = (isIn _ x && isLow y && isHigh z)
          rw [← e1, Bool.eq_false_iff.mpr h4]
          rfl
/-! ### drawn rules -/
def lk : Nat → Str
  | 0 => "many"
  | 1 => "some"
  | _ => "hidden"
def wy : Nat → Str
  | 0 => "cut"
  | _ => "beyond"
/-- a rule: which word of lacks, letters of the low bound, the way and the letters of the high one -/
structure Ru where
  lacks : Nat
  low : Option Nat
  high : Option (Nat × Nat)
def loD : Option Nat → D
  | none => wd "lost"
  | some n => .int (n : Int)
def hiD : Option (Nat × Nat) → D
  | none => wd "lost"
  | some (k, n) => .tup [wd (wy k), .int (n : Int)]
def ruD (r : Ru) : D := .tup [wd (lk r.lacks), loD r.low, hiD r.high]
structure RuOk (r : Ru) : Prop where
  lacks : r.lacks < 3
  low : ∀ n, r.low = some n → n ≤ 6
  high : ∀ k n, r.high = some (k, n) → k < 2 ∧ n ≤ 6
theorem pick_at {α : Type} {x0 : α} {l : List α} {d : Int} (h0 : 0 ≤ d) (h1 : d < (l.length : Int)) : ∃ k x, k < l.length ∧ d = (k : Int) ∧ l[k]? = some x ∧ atI l d = some x := by
  obtain ⟨k, rfl⟩ := Int.eq_ofNat_of_zero_le h0
  have hk : k < l.length := by omega
  exact ⟨k, l[k], hk, rfl, List.getElem?_eq_getElem hk, atI_nat (List.getElem?_eq_getElem hk)⟩
theorem words3 {d : Int} (h0 : 0 ≤ d) (h1 : d < 3) : ∃ k, k < 3 ∧ atI [V.str "many", V.str "some", V.str "hidden"] d = some (.str (lk k)) := by
  rcases (by omega : d = 0 ∨ d = 1 ∨ d = 2) with rfl | rfl | rfl
  · exact ⟨0, by decide, at0⟩
  · exact ⟨1, by decide, at1⟩
  · exact ⟨2, by decide, at2⟩
theorem words2 {d : Int} (h0 : 0 ≤ d) (h1 : d < 2) : ∃ k, k < 2 ∧ atI [V.str "cut", V.str "beyond"] d = some (.str (wy k)) := by
  rcases (by omega : d = 0 ∨ d = 1) with rfl | rfl
  · exact ⟨0, by decide, at0⟩
  · exact ⟨1, by decide, at1⟩
theorem lk_len (k : Nat) : (lk k).cps.toList.length ≤ 100000 := by
  unfold lk
  split <;> decide +kernel
theorem wy_len (k : Nat) : (wy k).cps.toList.length ≤ 100000 := by
  unfold wy
  split <;> decide +kernel
abbrev s_is_value : Stmt := topS 9
abbrev N_is_value : List Str := ["value"]
theorem sc_is_value : FnScope ["value"] ["value"] (defScope s_is_value) := ⟨rfl, rfl, rfl, by decide +kernel, rfl, by decide +kernel, by decide +kernel⟩

abbrev s_check_value : Stmt := topS 12
abbrev N_check_value : List Str := ["value"]
theorem sc_check_value : FnScope ["value"] ["value"] (defScope s_check_value) := ⟨rfl, rfl, rfl, by decide +kernel, rfl, by decide +kernel, by decide +kernel⟩

abbrev s_write_value : Stmt := topS 27
abbrev N_write_value : List Str := ["value"]
theorem sc_write_value : FnScope ["value"] ["value"] (defScope s_write_value) := ⟨rfl, rfl, rfl, by decide +kernel, rfl, by decide +kernel, by decide +kernel⟩

abbrev s_check_rule : Stmt := topS 21
abbrev N_check_rule : List Str := ["rule"]
theorem sc_check_rule : FnScope ["rule"] ["rule"] (defScope s_check_rule) := ⟨rfl, rfl, rfl, by decide +kernel, rfl, by decide +kernel, by decide +kernel⟩

abbrev s_write_rule : Stmt := topS 28
abbrev N_write_rule : List Str := ["rule", "lacks", "low", "high", "high_words"]
theorem sc_write_rule : FnScope ["rule", "lacks", "low", "high", "high_words"] ["rule"] (defScope s_write_rule) := ⟨rfl, rfl, rfl, by decide +kernel, rfl, by decide +kernel, by decide +kernel⟩

/-! ### values and rules written -/
def Lng (l : Txt) : Prop := Abc l ∧ l.length ≤ 1000
abbrev Vl := Option Txt
/-- a value of at most a thousand letters -/
def LgV (t : Vl) : Prop := ∀ l, t = some l → Lng l
def wV : Vl → Str
  | none => "none"
  | some l => wdS l
def oV : Vl → V
  | none => .non
  | some l => Tx l
def vDt : Vl → Dt
  | none => .non
  | some l => .str l
theorem rp_vl {H : Hp} {t : Vl} (h : LgV t) : Rp K H (oV t) (vDt t) := by
  cases t with
  | none => exact .non
  | some l => exact .str l (by have := (h l rfl).2; omega)
def spIsVA (K : PySem.W.Frag) : Sp := fun vs H Q _ => ∃ v d, vs = [v] ∧ Rp K H v d ∧ ∀ b : Bool, (b = true ↔ d = .non ∨ IsTx d) → Q (.bl b) H
theorem cl_is_valueA {f : Addr} {fd : FuncData} (D : Df K mg "is_value" s_is_value ["value"] f fd) (T : Nm mg) (c_is_text : Cl P w K mg base 1 "is_text" s_is_text ["value"] (spIsText K)) : Cl P w K mg base 2 "is_value" s_is_value ["value"] (spIsVA K) := by
  refine D.cl sc_is_value (fun vs H Q E h => ?_) (fun cdv A outer s H vs Q E hr h => ?_)
  · obtain ⟨v, d, rfl, _⟩ := h
    rfl
  · obtain ⟨v, d, rfl, r, k⟩ := h
    refine ⟨_, (pss_one (ps_ret (pe_or (pe_cmpR op_isN (pv 0) pe_non (by first | exact nomark _ | rfl)) (pe_one (pe_cl c_is_text hr (by omega) (pa_cons (pv 0) pa_nil)))))), ?_⟩
    refine ⟨_, rfl, rfl, _, rfl, ite2 (fun h => ?_) (fun h => ?_)⟩
    · have e : v = .non := of_decide_eq_true h
      subst e
      cases r
      refine k _ ⟨fun _ => .inl rfl, fun _ => rfl⟩
    · refine ⟨_, rfl, v, d, rfl, r, fun b hb => k b ?_⟩
      rw [hb]
      refine ⟨.inr, fun q => q.resolve_left fun e => ?_⟩
      subst e
      cases r
      exact h (decide_eq_true rfl)
def spCkV (K : PySem.W.Frag) : Sp := fun vs H Q _ => ∃ t : Vl, vs = [oV t] ∧ LgV t ∧ Q .non H
theorem cl_check_value {f : Addr} {fd : FuncData} (D : Df K mg "check_value" s_check_value ["value"] f fd) (T : Nm mg) (c_is_value : Cl P w K mg base 2 "is_value" s_is_value ["value"] (spIsVA K)) : Cl P w K mg base 3 "check_value" s_check_value ["value"] (spCkV K) := by
  refine D.cl sc_check_value (fun vs H Q E h => ?_) (fun cdv A outer s H vs Q E hr h => ?_)
  · obtain ⟨t, rfl, _⟩ := h
    rfl
  · obtain ⟨t, rfl, lg, k⟩ := h
    refine ⟨_, (pss_one (ps_if (pt_not (pt_val (pe_cl c_is_value hr (by omega) (pa_cons (pv 0) pa_nil)))) (pss_one ps_never) pss_nil)), ?_⟩
    refine ⟨_, rfl, _, _, rfl, rp_vl lg, fun b hb => ?_⟩
    obtain rfl : b = true := hb.mpr (by
      cases t with
      | none => exact .inl rfl
      | some l => exact .inr ⟨l, rfl, (lg l rfl).1⟩)
    exact ⟨_, rfl, ite2 (fun h => nomatch h) (fun _ => k)⟩
def spWV (K : PySem.W.Frag) : Sp := fun vs H Q _ => ∃ t : Vl, vs = [oV t] ∧ LgV t ∧ Q (.str (wV t)) H
theorem cl_write_value {f : Addr} {fd : FuncData} (D : Df K mg "write_value" s_write_value ["value"] f fd) (T : Nm mg) (c_check_value : Cl P w K mg base 3 "check_value" s_check_value ["value"] (spCkV K)) (c_text_word : Cl P w K mg base 1 "text_word" s_text_word ["text"] spTW) : Cl P w K mg base 4 "write_value" s_write_value ["value"] (spWV K) := by
  refine D.cl sc_write_value (fun vs H Q E h => ?_) (fun cdv A outer s H vs Q E hr h => ?_)
  · obtain ⟨t, rfl, _⟩ := h
    rfl
  · obtain ⟨t, rfl, lg, k⟩ := h
    refine ⟨_, (pss_cons (ps_expr (pe_cl c_check_value hr (by omega) (pa_cons (pv 0) pa_nil)))
      (pss_one (ps_ret (pe_ifExp (pt_cmpR op_isN (pv 0) pe_non (by first | exact nomark _ | rfl)) pe_str (pe_cl c_text_word hr (by omega) (pa_cons (pv 0) pa_nil)))))), ?_⟩
    refine ⟨_, rfl, t, rfl, lg, ?_⟩
    cases t with
    | none => exact ⟨_, rfl, rfl, _, rfl, ite2 (fun _ => k) (fun h => absurd rfl h)⟩
    | some l => exact ⟨_, rfl, rfl, _, rfl, ite2 (fun h => absurd h (by simp [oV])) (fun _ => ⟨_, rfl, l, rfl, Nat.le_trans (lg l rfl).2 (by decide), k⟩)⟩
def loS : Option Nat → Str
  | none => "lost"
  | some n => toString (n : Int)
/-- the words of a rule -/
def ruW (r : Ru) : List Str := lk r.lacks :: loS r.low :: (match r.high with | none => ["lost"] | some (k, n) => [wy k, toString (n : Int)])
def ruL (r : Ru) : Str := Txt.join " " (ruW r)
def hiS : Option (Nat × Nat) → Str
  | none => "lost"
  | some (k, n) => Str.empty ++ wy k ++ " " ++ toString (n : Int)
def lows : List (Option Nat) := [none, some 0, some 1, some 2, some 3, some 4, some 5, some 6]
def highs : List (Option (Nat × Nat)) := none :: ([0, 1].flatMap fun k => [0, 1, 2, 3, 4, 5, 6].map fun n => some (k, n))
theorem ru_all : ∀ a ∈ [0, 1, 2], ∀ lo ∈ lows, ∀ hi ∈ highs, Str.empty ++ lk a ++ " " ++ loS lo ++ " " ++ hiS hi = ruL ⟨a, lo, hi⟩ ∧ (ruL ⟨a, lo, hi⟩).length ≤ 30 ∧ (hiS hi).length ≤ 10 ∧ (loS lo).length ≤ 4 ∧ (lk a).length ≤ 6 ∧ ∀ x ∈ ruW ⟨a, lo, hi⟩, 32 ∉ x.cps.toList := by decide +kernel
theorem ru_in {r : Ru} (h : RuOk r) : r.lacks ∈ [0, 1, 2] ∧ r.low ∈ lows ∧ r.high ∈ highs := by
  obtain ⟨a, lo, hi⟩ := r
  refine ⟨?_, ?_, ?_⟩
  · have := h.lacks
    simp
    dsimp only at this
    omega
  · cases lo with
    | none => simp [lows]
    | some n =>
      have := h.low n rfl
      simp [lows]
      omega
  · cases hi with
    | none => simp [highs]
    | some q =>
      obtain ⟨k, n⟩ := q
      obtain ⟨a, b⟩ := h.high k n rfl
      simp [highs]
      omega
theorem ru_split {r : Ru} (h : RuOk r) : Txt.split (ruL r) " " = ruW r := by
  obtain ⟨a, b, c⟩ := ru_in h
  have q := (ru_all _ a _ b _ c).2.2.2.2.2
  exact TL.split_join (y := " ") (s := 32) (S := []) (by decide +kernel) (by decide +kernel) (by simp [ruW]) q
/-! ### write_rule -/
theorem isIn_lk {r : Ru} (h : RuOk r) : isIn ["many", "some", "hidden"] (wd (lk r.lacks)) = true := by
  obtain ⟨a, lo, hi⟩ := r
  have ha := h.lacks
  dsimp only at ha ⊢
  rcases (by omega : a = 0 ∨ a = 1 ∨ a = 2) with rfl | rfl | rfl <;> decide +kernel
theorem ru_isRule {r : Ru} (h : RuOk r) : isRule (ruD r) = true := by
  have k : ∀ a ∈ [0, 1, 2], ∀ lo ∈ lows, ∀ hi ∈ highs, isRule (ruD ⟨a, lo, hi⟩) = true := by decide +kernel
  obtain ⟨a, b, c⟩ := ru_in h
  exact k _ a _ b _ c
def spCkRu (K : PySem.W.Frag) : Sp := fun vs H Q _ => ∃ (S : List Addr) (v : V) (r : Ru), vs = [v] ∧ Rv K S H v (ruD r) ∧ RuOk r ∧ ∀ H', Stp [] H H' → Q .non H'
theorem cl_check_rule {f : Addr} {fd : FuncData} (D : Df K mg "check_rule" s_check_rule ["rule"] f fd) (T : Nm mg) (c_is_rule : Cl P w K mg base 3 "is_rule" s_is_rule ["value"] (spTell K isRule)) : Cl P w K mg base 4 "check_rule" s_check_rule ["rule"] (spCkRu K) := by
  refine D.cl sc_check_rule (fun vs H Q E h => ?_) (fun cdv A outer s H vs Q E hr h => ?_)
  · obtain ⟨S, v, r, rfl, _⟩ := h
    rfl
  · obtain ⟨S, v, r, rfl, rv, ok, k⟩ := h
    refine ⟨_, (pss_one (ps_if (pt_not (pt_val (pe_cl c_is_rule hr (by omega) (pa_cons (pv 0) pa_nil)))) (pss_one ps_never) pss_nil)), ?_⟩
    exact ⟨_, rfl, S, v, _, rfl, rv, fun H1 b S1 eb => ⟨_, rfl, ite2 (fun h => absurd h (by rw [eb, ru_isRule ok]; decide)) (fun _ => k H1 S1)⟩⟩
theorem sm {n : Nat} (h : n ≤ 1000) : n ≤ sizeLine := Nat.le_trans h (by decide)
theorem nat_log {n : Nat} (h : n ≤ 6) : ((n : Int)).natAbs.log2 < 1920 := by
  have k : ∀ n ∈ [0, 1, 2, 3, 4, 5, 6], (((n : Nat) : Int)).natAbs.log2 < 1920 := by decide +kernel
  exact k n (by simp; omega)
def spWR (K : PySem.W.Frag) : Sp := fun vs H Q _ => ∃ (S : List Addr) (v : V) (r : Ru), vs = [v] ∧ Rv K S H v (ruD r) ∧ RuOk r ∧ ∀ H', Stp [] H H' → Q (.str (ruL r)) H'
theorem cl_write_rule {f : Addr} {fd : FuncData} (D : Df K mg "write_rule" s_write_rule ["rule"] f fd) (T : Nm mg) (c_check_rule : Cl P w K mg base 4 "check_rule" s_check_rule ["rule"] (spCkRu K)) : Cl P w K mg base 5 "write_rule" s_write_rule ["rule"] (spWR K) := by
  refine D.cl sc_write_rule (fun vs H Q E h => ?_) (fun cdv A outer s H vs Q E hr h => ?_)
  · obtain ⟨S, v, r, rfl, _⟩ := h
    rfl
  · obtain ⟨S, v, r, rfl, rv, ok, k⟩ := h
    refine ⟨_, (pss_cons (ps_expr (pe_cl c_check_rule hr (by omega) (pa_cons (pv 0) pa_nil)))
      (pss_cons (ps_asg (pv 0) (pg_tup rfl (pgs_cons (pg_name (i := 1) sc_write_rule.nd rfl (by first | exact Or.inl rfl | exact Or.inr rfl)) (pgs_cons (pg_name (i := 2) sc_write_rule.nd rfl (by first | exact Or.inl rfl | exact Or.inr rfl)) (pgs_cons (pg_name (i := 3) sc_write_rule.nd rfl (by first | exact Or.inl rfl | exact Or.inr rfl)) pgs_nil (by rfl)) (by rfl)) (by rfl)) (by rfl) (by rfl)))
      (pss_cons (ps_set (i := 4) sc_write_rule.nd rfl (by first | exact Or.inl rfl | exact Or.inr rfl) (pe_ifExp (pt_cmpR (op_eqD hr.units) (pv 3) pe_str (by first | exact nomark _ | rfl)) (pv 3) (pe_joined (.cons (pe_fmt (pe_ix ix_tup (pv 3) pe_int (fun _ _ => rfl))) (.cons pe_str (.cons (pe_fmt (pe_ix ix_tup (pv 3) pe_int (fun _ _ => rfl))) .nil))))))
      (pss_one (ps_ret (pe_joined (.cons (pe_fmt (pv 1)) (.cons pe_str (.cons (pe_fmt (pv 2)) (.cons pe_str (.cons (pe_fmt (pv 4)) .nil))))))))))), ?_⟩
    refine ⟨_, rfl, S, v, r, rfl, rv, ok, fun H1 S1 => ?_⟩
    have rv := rv.up S1
    obtain ⟨i1, i2, i3⟩ := ru_in ok
    obtain ⟨eq, lq, l5, l4, l6, -⟩ := ru_all _ i1 _ i2 _ i3
    obtain ⟨a, lo, hi⟩ := r
    dsimp only at i1 i2 i3 eq lq l5 l4 l6
    cases rv with
    | tup hS hz rl =>
      rename_i p vs
      obtain ⟨va, vb, vc, rfl, ra, rb, rc⟩ := RvL.three rl
      obtain rfl : va = .str (lk a) := by
        have : V.str (tx (lk a).cps.toList) = V.str (lk a) := congrArg V.str (lit_tx _)
        cases ra
        exact this
      have low : (∃ z : Str, vb = .str z ∧ z = loS lo) ∨ ∃ n : Nat, vb = .int (n : Int) ∧ n ≤ 6 ∧ loS lo = toString (n : Int) := by
        cases lo with
        | none =>
          cases rb
          exact .inl ⟨_, rfl, lit_tx _⟩
        | some n =>
          cases rb
          exact .inr ⟨n, rfl, ok.low n rfl, rfl⟩
      refine ⟨_, rfl, p, _, rfl, hS, rfl, _, _, rfl, _, _, rfl, _, _, rfl, rfl, ?_⟩
      dsimp only [gName]
      refine txt_end (fun σ H' => σ = [some (.ref p), some (.str (lk a)), some vb, some vc, some (.str (hiS hi))] ∧ Stp [] H1 H') ?_ (fun fin => ?_)
      rotate_left
      · cases hi with
        | none =>
          cases rc
          have e : Tx ("lost" : Str).cps.toList = .str "lost" := congrArg V.str (lit_tx _)
          rw [e]
          exact ⟨_, rfl, ⟨.str "lost", .str "lost", .str _, .str _, by decide +kernel, by decide +kernel, _, rfl, ite2 (fun _ => ⟨_, rfl, fin _ _ ⟨rfl, Stp.refl _ _⟩⟩) (fun h => absurd (by decide +kernel) h)⟩⟩
        | some q =>
          obtain ⟨kk, n⟩ := q
          obtain ⟨k2, n6⟩ := ok.high kk n rfl
          cases rc with
          | tup hC hzc rlc =>
            rename_i pc vsc
            obtain ⟨vx, vy, rfl, rx, ry⟩ := RvL.two rlc
            obtain rfl : vx = .str (wy kk) := by
              have : V.str (tx (wy kk).cps.toList) = V.str (wy kk) := congrArg V.str (lit_tx _)
              cases rx
              exact this
            cases ry
            have lw : (wy kk).length ≤ 6 ∧ (Str.ofString (toString (n : Int))).length ≤ 3 ∧ SeqAt.shaped (.tuple [.str (wy kk), .int n]) = true ∧ PyData.eqv (.tuple [.str (wy kk), .int n]) (.str "lost") = false := by
              have k : ∀ a ∈ [0, 1], ∀ b ∈ [0, 1, 2, 3, 4, 5, 6], (wy a).length ≤ 6 ∧ (Str.ofString (toString ((b : Nat) : Int))).length ≤ 3 ∧ SeqAt.shaped (.tuple [.str (wy a), .int ((b : Nat) : Int)]) = true ∧ PyData.eqv (.tuple [.str (wy a), .int ((b : Nat) : Int)]) (.str "lost") = false := by decide +kernel
              exact k kk (by simp; omega) n (by simp; omega)
            have l0 : Str.empty.length = 0 := rfl
            have l1 : (" " : Str).length = 1 := by decide +kernel
            refine ⟨_, rfl, .tuple [.str (wy kk), .int n], .str "lost", .tup hC (.cons (.str _) (.cons (.int _) .nil)), .str _, lw.2.2.1, by decide +kernel, _, rfl, ite2 (fun h => ?_) (fun _ => ?_)⟩
            · exact absurd h (by rw [lw.2.2.2]; decide)
            · refine ⟨_, rfl, pc, _, 0, _, rfl, rfl, hC, at0, .inl ⟨_, rfl, sm (by omega), _, rfl, sm ?_, _, rfl, sm ?_, _, rfl, pc, _, 1, _, rfl, rfl, hC, at1, .inr ⟨_, rfl, nat_log n6, _, rfl, sm ?_, fin _ _ ⟨rfl, Stp.refl _ _⟩⟩⟩⟩ <;> simp only [Str.length_append, l0, l1] <;> omega
      rintro σ H2 ⟨rfl, S2⟩
      have l0 : Str.empty.length = 0 := rfl
      have l1 : (" " : Str).length = 1 := by decide +kernel
      refine ⟨_, rfl, .inl ⟨_, rfl, sm (by omega), _, rfl, sm ?_, _, rfl, sm ?_, _, rfl, ?_⟩⟩
      · simp only [Str.length_append, l0, l1]; omega
      · simp only [Str.length_append, l0, l1]; omega
      rcases low with ⟨z, rfl, rfl⟩ | ⟨n, rfl, n6, e⟩
      · refine .inl ⟨_, rfl, sm (by omega), _, rfl, sm ?_, _, rfl, sm ?_, _, rfl, .inl ⟨_, rfl, sm (by omega), _, rfl, sm ?_, ?_⟩⟩
        iterate 3 (simp only [Str.length_append, l0, l1]; omega)
        have h := k _ (S1.trans S2)
        rw [← eq] at h
        exact h
      · rw [e] at l4
        refine .inr ⟨_, rfl, nat_log n6, _, rfl, sm ?_, _, rfl, sm ?_, _, rfl, .inl ⟨_, rfl, sm (by omega), _, rfl, sm ?_, ?_⟩⟩
        iterate 3 (simp only [Str.length_append, l0, l1]; omega)
        have h := k _ (S1.trans S2)
        rw [← eq, e] at h
        exact h
/-! ### what is refused -/
def spCkVB (K : PySem.W.Frag) (C : Addr) : Sp := fun vs H _ E => ∃ v d, vs = [v] ∧ Rp K H v d ∧ ¬ IsTx d ∧ d ≠ .non ∧ E (.ref C) none H
theorem cl_check_valueB {f : Addr} {fd : FuncData} (D : Df K mg "check_value" s_check_value ["value"] f fd) (T : Nm mg) (TX : Er K mg) (c_is_value : Cl P w K mg base 2 "is_value" s_is_value ["value"] (spIsVA K)) : ClX P w K mg base 3 "check_value" s_check_value ["value"] (spCkVB K TX.C_InvalidValue) := by
  refine D.clX sc_check_value (fun vs H Q E h => ?_) (fun cdv A outer s H vs Q E hr h tk => ?_)
  · obtain ⟨v, d, rfl, _⟩ := h
    rfl
  · obtain ⟨v, d, rfl, r, no, nn, k⟩ := h
    refine ⟨_, (pss_one (ps_if (pt_not (pt_val (pe_cl c_is_value hr (by omega) (pa_cons (pv 0) pa_nil)))) (pss_one (ps_raise1 rfl tk TX.e_InvalidValue)) pss_nil)), ?_⟩
    refine ⟨_, rfl, v, d, rfl, r, fun b hb => ?_⟩
    obtain rfl : b = false := Bool.eq_false_iff.mpr fun e => (hb.mp e).elim nn no
    exact ⟨_, rfl, ite2 (fun _ => k) (fun h => absurd rfl h)⟩
def spCkFB (K : PySem.W.Frag) (n : Nat) (C : Addr) : Sp := fun vs H _ E => ∃ v d, vs = [v] ∧ Rp K H v d ∧ d.dep < n ∧ ¬ Flt d ∧ ∀ H', Stp [] H H' → E (.ref C) none H'
theorem cl_check_filterB {f : Addr} {fd : FuncData} {n m : Nat} (D : Df K mg "check_filter" s_check_filter ["query"] f fd) (T : Nm mg) (TX : Er K mg) (c_is_filter : Cl P w K mg base m "is_filter" s_is_filter ["value"] (spIsF K n)) : ClX P w K mg base (m + 1) "check_filter" s_check_filter ["query"] (spCkFB K n TX.C_InvalidFilter) := by
  refine D.clX sc_check_filter (fun vs H Q E h => ?_) (fun cdv A outer s H vs Q E hr h tk => ?_)
  · obtain ⟨v, d, rfl, _⟩ := h
    rfl
  · obtain ⟨v, d, rfl, r, hd, no, k⟩ := h
    refine ⟨_, (pss_one (ps_if (pt_not (pt_val (pe_cl c_is_filter hr (by omega) (pa_cons (pv 0) pa_nil)))) (pss_one (ps_raise1 rfl tk TX.e_InvalidFilter)) pss_nil)), ?_⟩
    refine ⟨_, rfl, v, d, rfl, r, hd, fun b H1 hb S1 => ?_⟩
    obtain rfl : b = false := Bool.eq_false_iff.mpr fun e => no (hb.mp e)
    exact ⟨_, rfl, ite2 (fun _ => k H1 S1) (fun h => absurd rfl h)⟩
def spCkRB (K : PySem.W.Frag) (C : Addr) : Sp := fun vs H _ E => ∃ S v d, vs = [v] ∧ Rv K S H v d ∧ isRule d = false ∧ ∀ H', Stp [] H H' → E (.ref C) none H'
theorem cl_check_ruleB {f : Addr} {fd : FuncData} (D : Df K mg "check_rule" s_check_rule ["rule"] f fd) (T : Nm mg) (TX : Er K mg) (c_is_rule : Cl P w K mg base 3 "is_rule" s_is_rule ["value"] (spTell K isRule)) : ClX P w K mg base 4 "check_rule" s_check_rule ["rule"] (spCkRB K TX.C_InvalidRule) := by
  refine D.clX sc_check_rule (fun vs H Q E h => ?_) (fun cdv A outer s H vs Q E hr h tk => ?_)
  · obtain ⟨S, v, d, rfl, _⟩ := h
    rfl
  · obtain ⟨S, v, d, rfl, r, no, k⟩ := h
    refine ⟨_, (pss_one (ps_if (pt_not (pt_val (pe_cl c_is_rule hr (by omega) (pa_cons (pv 0) pa_nil)))) (pss_one (ps_raise1 rfl tk TX.e_InvalidRule)) pss_nil)), ?_⟩
    refine ⟨_, rfl, S, v, d, rfl, r, fun H1 b S1 hb => ?_⟩
    rw [no] at hb
    subst hb
    exact ⟨_, rfl, ite2 (fun _ => k H1 S1) (fun h => absurd rfl h)⟩
theorem cl_write_filterB {f : Addr} {fd : FuncData} {n m : Nat} (hm : n + 1 ≤ m) (D : Df K mg "write_filter" s_write_filter ["query"] f fd) (T : Nm mg) (TX : Er K mg) (c_check_filterX : ClX P w K mg base m "check_filter" s_check_filter ["query"] (spCkFB K n TX.C_InvalidFilter)) (c_filter_words : Cl P w K mg base (n + 1) "filter_words" s_filter_words ["query"] (spFW K n)) : ClX P w K mg base (m + 1) "write_filter" s_write_filter ["query"] (spCkFB K n TX.C_InvalidFilter) := by
  refine D.clX sc_write_filter (fun vs H Q E h => ?_) (fun cdv A outer s H vs Q E hr h tk => ?_)
  · obtain ⟨v, d, rfl, _⟩ := h
    rfl
  · obtain ⟨v, d, rfl, r, hd, no, k⟩ := h
    refine ⟨_, (pss_cons (ps_expr (pe_clX c_check_filterX tk hr (by omega) (pa_cons (pv 0) pa_nil)))
      (pss_one (ps_ret (pe_join pe_str (pe_cl c_filter_words hr (by omega) (pa_cons (pv 0) pa_nil)))))), ?_⟩
    exact ⟨_, rfl, v, d, rfl, r, hd, no, k⟩
theorem cl_write_valueB {f : Addr} {fd : FuncData} (D : Df K mg "write_value" s_write_value ["value"] f fd) (T : Nm mg) (TX : Er K mg) (c_check_valueX : ClX P w K mg base 3 "check_value" s_check_value ["value"] (spCkVB K TX.C_InvalidValue)) (c_text_word : Cl P w K mg base 1 "text_word" s_text_word ["text"] spTW) : ClX P w K mg base 4 "write_value" s_write_value ["value"] (spCkVB K TX.C_InvalidValue) := by
  refine D.clX sc_write_value (fun vs H Q E h => ?_) (fun cdv A outer s H vs Q E hr h tk => ?_)
  · obtain ⟨v, d, rfl, _⟩ := h
    rfl
  · obtain ⟨v, d, rfl, r, no, nn, k⟩ := h
    refine ⟨_, (pss_cons (ps_expr (pe_clX c_check_valueX tk hr (by omega) (pa_cons (pv 0) pa_nil)))
      (pss_one (ps_ret (pe_ifExp (pt_cmpR op_isN (pv 0) pe_non (by first | exact nomark _ | rfl)) pe_str (pe_cl c_text_word hr (by omega) (pa_cons (pv 0) pa_nil)))))), ?_⟩
    exact ⟨_, rfl, v, d, rfl, r, no, nn, k⟩
theorem cl_write_ruleB {f : Addr} {fd : FuncData} (D : Df K mg "write_rule" s_write_rule ["rule"] f fd) (T : Nm mg) (TX : Er K mg) (c_check_ruleX : ClX P w K mg base 4 "check_rule" s_check_rule ["rule"] (spCkRB K TX.C_InvalidRule)) : ClX P w K mg base 5 "write_rule" s_write_rule ["rule"] (spCkRB K TX.C_InvalidRule) := by
  refine D.clX sc_write_rule (fun vs H Q E h => ?_) (fun cdv A outer s H vs Q E hr h tk => ?_)
  · obtain ⟨S, v, d, rfl, _⟩ := h
    rfl
  · obtain ⟨S, v, d, rfl, r, no, k⟩ := h
    refine ⟨_, (pss_cons (ps_expr (pe_clX c_check_ruleX tk hr (by omega) (pa_cons (pv 0) pa_nil)))
      (pss_cons (ps_asg (pv 0) (pg_tup rfl (pgs_cons (pg_name (i := 1) sc_write_rule.nd rfl (by first | exact Or.inl rfl | exact Or.inr rfl)) (pgs_cons (pg_name (i := 2) sc_write_rule.nd rfl (by first | exact Or.inl rfl | exact Or.inr rfl)) (pgs_cons (pg_name (i := 3) sc_write_rule.nd rfl (by first | exact Or.inl rfl | exact Or.inr rfl)) pgs_nil (by rfl)) (by rfl)) (by rfl)) (by rfl) (by rfl)))
      (pss_cons (ps_set (i := 4) sc_write_rule.nd rfl (by first | exact Or.inl rfl | exact Or.inr rfl) (pe_ifExp (pt_cmpR (op_eqD hr.units) (pv 3) pe_str (by first | exact nomark _ | rfl)) (pv 3) (pe_joined (.cons (pe_fmt (pe_ix ix_tup (pv 3) pe_int (fun _ _ => rfl))) (.cons pe_str (.cons (pe_fmt (pe_ix ix_tup (pv 3) pe_int (fun _ _ => rfl))) .nil))))))
      (pss_one (ps_ret (pe_joined (.cons (pe_fmt (pv 1)) (.cons pe_str (.cons (pe_fmt (pv 2)) (.cons pe_str (.cons (pe_fmt (pv 4)) .nil))))))))))), ?_⟩
    exact ⟨_, rfl, S, v, d, rfl, r, no, k⟩
abbrev s__law_error : Stmt := topS 42
abbrev N__law_error : List Str := ["sort", "worth", "caught", "e", "marks"]
theorem sc__law_error : FnScope ["sort", "worth", "caught", "e", "marks"] ["sort", "worth"] (defScope s__law_error) := ⟨rfl, rfl, rfl, by decide +kernel, rfl, by decide +kernel, by decide +kernel⟩

/-! ### the error of a writer -/
def cOf {mg : Str → Option Value} (TX : Er K mg) : Nat → Addr
  | 0 => TX.C_InvalidFilter
  | 1 => TX.C_InvalidValue
  | _ => TX.C_InvalidRule
/-- a value that the j-th writer refuses -/
def BadAt (K : PySem.W.Frag) (n : Nat) (H : Hp) (v : V) : Nat → Prop
  | 0 => ∃ d, Rp K H v d ∧ d.dep < n ∧ ¬ Flt d
  | 1 => ∃ d, Rp K H v d ∧ ¬ IsTx d ∧ d ≠ .non
  | 2 => ∃ S d, Rv K S H v d ∧ isRule d = false
  | _ => False
def dueE (j : Nat) : List Bool := [decide (j = 0), decide (j = 1), decide (j = 2), false, true]
def spErr (K : PySem.W.Frag) (n : Nat) : Sp := fun vs H Q _ => ∃ (j : Nat) (v : V), vs = [.int (j : Int), v] ∧ BadAt K n H v j ∧ ∀ L H', Stp [] H H' → H' L = some (.lst ((dueE j).map V.bl)) → Q (.ref L) H'
theorem rv_ref {a : Addr} : ∀ u, RelV (.ref a) u → u = .ref a := fun u r => by
  cases r
  rfl
theorem rv_ve : ∀ u, RelV (.ty "ValueError") u → u = .type "ValueError" := fun u r => by
  cases r
  rfl
theorem cl__law_error {f : Addr} {fd : FuncData} {n m : Nat} (hm : 5 ≤ m) (D : Df K mg "_law_error" s__law_error ["sort", "worth"] f fd) (T : Nm mg) (TX : Er K mg) (KT : ∀ j, j < 3 → Kit K TX (cOf TX j) j) (c_write_filterX : ClX P w K mg base m "write_filter" s_write_filter ["query"] (spCkFB K n TX.C_InvalidFilter)) (c_write_valueX : ClX P w K mg base 4 "write_value" s_write_value ["value"] (spCkVB K TX.C_InvalidValue))
    (c_write_ruleX : ClX P w K mg base 5 "write_rule" s_write_rule ["rule"] (spCkRB K TX.C_InvalidRule)) : Cl P w K mg base (m + 1) "_law_error" s__law_error ["sort", "worth"] (spErr K n) := by
  refine D.cl sc__law_error (fun vs H Q E h => ?_) (fun cdv A outer s H vs Q E hr h => ?_)
  · obtain ⟨j, v, rfl, _⟩ := h
    rfl
  · obtain ⟨j, v, rfl, bad, k⟩ := h
    refine ⟨_, (pss_cons (ps_set (i := 2) sc__law_error.nd rfl (by first | exact Or.inl rfl | exact Or.inr rfl) pe_non)
      (pss_cons (ps_try_keep (i := 3) (n := "e") (c := .ref TX.C_SkipError) rfl rfl rfl sc__law_error.nd rfl rfl ⟨rfl, by decide, .inl TX.g_SkipError⟩ takes0 (tb := fun W => _) (fun W pn xe tk _ => (pss_one (ps_if (pt_cmpR op_eq (pv 0) pe_int (by first | exact nomark _ | rfl)) (pss_one (ps_expr (pe_clX c_write_filterX tk hr (by omega) (pa_cons (pv 1) pa_nil)))) (pss_one (ps_if (pt_cmpR op_eq (pv 0) pe_int (by first | exact nomark _ | rfl)) (pss_one (ps_expr (pe_clX c_write_valueX tk hr (by omega) (pa_cons (pv 1) pa_nil)))) (pss_one (ps_expr (pe_clX c_write_ruleX tk hr (by omega) (pa_cons (pv 1) pa_nil))))))))) (fun a pn => (pss_one (ps_set (i := 2) sc__law_error.nd rfl (by first | exact Or.inl rfl | exact Or.inr rfl) (pv 3)))))
      (pss_cons (ps_set (i := 4) sc__law_error.nd rfl (by first | exact Or.inl rfl | exact Or.inr rfl) (pe_lst (pa_cons (pe_callB call_isK (by rfl) T.n_isinstance (by decide +kernel) (pa_cons (pv 2) (pa_cons (pe_glob (v := .ref TX.C_InvalidFilter) rfl TX.g_InvalidFilter rfl) pa_nil))) (pa_cons (pe_callB call_isK (by rfl) T.n_isinstance (by decide +kernel) (pa_cons (pv 2) (pa_cons (pe_glob (v := .ref TX.C_InvalidValue) rfl TX.g_InvalidValue rfl) pa_nil))) (pa_cons (pe_callB call_isK (by rfl) T.n_isinstance (by decide +kernel) (pa_cons (pv 2) (pa_cons (pe_glob (v := .ref TX.C_InvalidRule) rfl TX.g_InvalidRule rfl) pa_nil))) pa_nil)))))
      (pss_one (ps_ret (pe_op op_cat (pv 4) (pe_lst (pa_cons (pe_callB call_isK (by rfl) T.n_isinstance (by decide +kernel) (pa_cons (pv 2) (pa_cons (pe_glob (v := .ref TX.C_InvalidWords) rfl TX.g_InvalidWords rfl) pa_nil))) (pa_cons (pe_callB call_isK (by rfl) T.n_isinstance (by decide +kernel) (pa_cons (pv 2) (pa_cons (pe_bltn (v := .ty "ValueError") (u := Value.type "ValueError") (by rfl) T.n_ValueError (by decide +kernel) rfl) pa_nil))) pa_nil))))))))), ?_⟩
    have nn : ∀ {x : Addr}, x ∉ ([] : List Addr) := fun m => nomatch m
    have jl : j < 3 := by
      match j, bad with
      | 0, _ => decide
      | 1, _ => decide
      | 2, _ => decide
    have KJ := KT j jl
    match j, bad, KJ, k with
    | 0, ⟨d, r, hd, no⟩, KJ, k =>
      refine ⟨_, rfl, rfl, _, rfl, ite2 (fun _ => ?_) (fun h => absurd (decide_eq_true rfl) h)⟩
      refine ⟨_, rfl, v, d, rfl, r, hd, no, fun HX SH => ⟨true, KJ.m, fun _ => ⟨rfl, fun a na => ?_⟩, fun h => nomatch h⟩⟩
      have hx : (upd HX a (ExK (.ref TX.C_InvalidFilter) a)) a = some (ExK (.ref TX.C_InvalidFilter) a) := upd_same
      have SX := SH.trans (Stp.new (o := ExK (.ref TX.C_InvalidFilter) a) na [])
      generalize upd HX a (ExK (.ref TX.C_InvalidFilter) a) = HY at *
      refine ⟨_, rfl, ?_⟩
      refine ⟨_, rfl, a, _, _, _, _, rfl, KJ.c, hx, rv_ref, KJ.f, _, rfl, a, _, _, _, _, rfl, KJ.c, hx, rv_ref, KJ.v, _, rfl, a, _, _, _, _, rfl, KJ.c, hx, rv_ref, KJ.r, (by show 3 ≤ sizeLine; decide), fun p np => ?_⟩
      have S1 : Stp [] HY (upd HY p (.lst [.bl (decide (0 = 0)), .bl (decide (0 = 1)), .bl (decide (0 = 2))])) := Stp.new np _
      have hp : (upd HY p (.lst [.bl (decide (0 = 0)), .bl (decide (0 = 1)), .bl (decide (0 = 2))])) p = some (.lst [.bl (decide (0 = 0)), .bl (decide (0 = 1)), .bl (decide (0 = 2))]) := upd_same
      have hx1 := S1.kp _ _ nn hx
      generalize upd HY p (.lst [.bl (decide (0 = 0)), .bl (decide (0 = 1)), .bl (decide (0 = 2))]) = HZ at *
      refine ⟨_, rfl, _, rfl, a, _, _, _, _, rfl, KJ.c, hx1, rv_ref, KJ.w, _, rfl, a, _, _, _, _, rfl, KJ.c, hx1, rv_ve, KJ.e, (by show 2 ≤ sizeLine; decide), fun q nq => ?_⟩
      have S2 : Stp [] HZ (upd HZ q (.lst [.bl false, .bl true])) := Stp.new nq _
      refine ⟨p, q, _, _, rfl, rfl, S2.kp _ _ nn hp, upd_same, (by show 3 + 2 ≤ sizeLine; decide), fun L nL => ?_⟩
      exact k L _ ((SX.trans S1).trans (S2.new' nL)) upd_same
    | 1, ⟨d, r, no, nz⟩, KJ, k =>
      refine ⟨_, rfl, rfl, _, rfl, ite2 (fun h => absurd h (by decide)) (fun _ => ⟨_, rfl, rfl, _, rfl, ite2 (fun _ => ?_) (fun h => absurd (decide_eq_true rfl) h)⟩)⟩
      have SH : Stp [] H H := Stp.refl _ _
      generalize eX : H = HX at *
      refine ⟨_, rfl, v, d, rfl, r, no, nz, ⟨true, KJ.m, fun _ => ⟨rfl, fun a na => ?_⟩, fun h => nomatch h⟩⟩
      have hx : (upd HX a (ExK (.ref TX.C_InvalidValue) a)) a = some (ExK (.ref TX.C_InvalidValue) a) := upd_same
      have SX := SH.trans (Stp.new (o := ExK (.ref TX.C_InvalidValue) a) na [])
      generalize upd HX a (ExK (.ref TX.C_InvalidValue) a) = HY at *
      refine ⟨_, rfl, ?_⟩
      refine ⟨_, rfl, a, _, _, _, _, rfl, KJ.c, hx, rv_ref, KJ.f, _, rfl, a, _, _, _, _, rfl, KJ.c, hx, rv_ref, KJ.v, _, rfl, a, _, _, _, _, rfl, KJ.c, hx, rv_ref, KJ.r, (by show 3 ≤ sizeLine; decide), fun p np => ?_⟩
      have S1 : Stp [] HY (upd HY p (.lst [.bl (decide (1 = 0)), .bl (decide (1 = 1)), .bl (decide (1 = 2))])) := Stp.new np _
      have hp : (upd HY p (.lst [.bl (decide (1 = 0)), .bl (decide (1 = 1)), .bl (decide (1 = 2))])) p = some (.lst [.bl (decide (1 = 0)), .bl (decide (1 = 1)), .bl (decide (1 = 2))]) := upd_same
      have hx1 := S1.kp _ _ nn hx
      generalize upd HY p (.lst [.bl (decide (1 = 0)), .bl (decide (1 = 1)), .bl (decide (1 = 2))]) = HZ at *
      refine ⟨_, rfl, _, rfl, a, _, _, _, _, rfl, KJ.c, hx1, rv_ref, KJ.w, _, rfl, a, _, _, _, _, rfl, KJ.c, hx1, rv_ve, KJ.e, (by show 2 ≤ sizeLine; decide), fun q nq => ?_⟩
      have S2 : Stp [] HZ (upd HZ q (.lst [.bl false, .bl true])) := Stp.new nq _
      refine ⟨p, q, _, _, rfl, rfl, S2.kp _ _ nn hp, upd_same, (by show 3 + 2 ≤ sizeLine; decide), fun L nL => ?_⟩
      exact k L _ ((SX.trans S1).trans (S2.new' nL)) upd_same
    | 2, ⟨S, d, r, no⟩, KJ, k =>
      refine ⟨_, rfl, rfl, _, rfl, ite2 (fun h => absurd h (by decide)) (fun _ => ⟨_, rfl, rfl, _, rfl, ite2 (fun h => absurd h (by decide)) (fun _ => ?_)⟩)⟩
      refine ⟨_, rfl, S, v, d, rfl, r, no, fun HX SH => ⟨true, KJ.m, fun _ => ⟨rfl, fun a na => ?_⟩, fun h => nomatch h⟩⟩
      have hx : (upd HX a (ExK (.ref TX.C_InvalidRule) a)) a = some (ExK (.ref TX.C_InvalidRule) a) := upd_same
      have SX := SH.trans (Stp.new (o := ExK (.ref TX.C_InvalidRule) a) na [])
      generalize upd HX a (ExK (.ref TX.C_InvalidRule) a) = HY at *
      refine ⟨_, rfl, ?_⟩
      refine ⟨_, rfl, a, _, _, _, _, rfl, KJ.c, hx, rv_ref, KJ.f, _, rfl, a, _, _, _, _, rfl, KJ.c, hx, rv_ref, KJ.v, _, rfl, a, _, _, _, _, rfl, KJ.c, hx, rv_ref, KJ.r, (by show 3 ≤ sizeLine; decide), fun p np => ?_⟩
      have S1 : Stp [] HY (upd HY p (.lst [.bl (decide (2 = 0)), .bl (decide (2 = 1)), .bl (decide (2 = 2))])) := Stp.new np _
      have hp : (upd HY p (.lst [.bl (decide (2 = 0)), .bl (decide (2 = 1)), .bl (decide (2 = 2))])) p = some (.lst [.bl (decide (2 = 0)), .bl (decide (2 = 1)), .bl (decide (2 = 2))]) := upd_same
      have hx1 := S1.kp _ _ nn hx
      generalize upd HY p (.lst [.bl (decide (2 = 0)), .bl (decide (2 = 1)), .bl (decide (2 = 2))]) = HZ at *
      refine ⟨_, rfl, _, rfl, a, _, _, _, _, rfl, KJ.c, hx1, rv_ref, KJ.w, _, rfl, a, _, _, _, _, rfl, KJ.c, hx1, rv_ve, KJ.e, (by show 2 ≤ sizeLine; decide), fun q nq => ?_⟩
      have S2 : Stp [] HZ (upd HZ q (.lst [.bl false, .bl true])) := Stp.new nq _
      refine ⟨p, q, _, _, rfl, rfl, S2.kp _ _ nn hp, upd_same, (by show 3 + 2 ≤ sizeLine; decide), fun L nL => ?_⟩
      exact k L _ ((SX.trans S1).trans (S2.new' nL)) upd_same
abbrev s__law_bent_rule : Stmt := topS 41
abbrev N__law_bent_rule : List Str := ["hand", "rule", "way", "odd"]
theorem sc__law_bent_rule : FnScope ["hand", "rule", "way", "odd"] ["hand", "rule"] (defScope s__law_bent_rule) := ⟨rfl, rfl, rfl, by decide +kernel, rfl, by decide +kernel, by decide +kernel⟩

/-! ### bent rules -/
def oddr0 (r : Ru) : List D := [wd "Many", wd "", wd "lost", .non, .bl true, .int 0, .tup [wd "many"], wd "many ", wd "some\n", wd "none", .lst [wd "some"], wd "hidde", .tup [wd (lk r.lacks), loD r.low, hiD r.high]]
theorem oddr0_len {r : Ru} : (oddr0 r).length = 13 := rfl
def oddr1 (r : Ru) : List D := [.int 7, .int (-1), .bl true, .bl false, .non, wd "1", wd "Lost", wd "", .tup [.int 1], .lst [.int 1], .int (10 ^ (30 : Int).toNat), wd "lost ", .tup [wd "lost"], .int 100, wd "0", .int (-6)]
theorem oddr1_len {r : Ru} : (oddr1 r).length = 16 := rfl
def oddr2 (r : Ru) : List D := [.lst [wd "cut", .int 1], .tup [wd "cut", .int 7], .tup [wd "cut", .bl true], .tup [wd "cut", .bl false], .tup [wd "cut"], .tup [wd "cut", .int 1, .int 2], .tup [wd "lost"], .non]
theorem oddr2_len {r : Ru} : (oddr2 r).length = 8 := rfl
def oddr3 (r : Ru) : List D := [.tup [wd "Cut", .int 1], wd "cut", .tup [wd "lost", .int 1], wd "lost ", .tup [wd "cut", wd "1"], .tup [wd "beyond", .int (-1)], .tup [wd "beyond", .non]]
theorem oddr3_len {r : Ru} : (oddr3 r).length = 7 := rfl
def oddr4 (r : Ru) : List D := [.int 0, .bl true, .tup [], .tup [wd "beyond", .int (10 ^ (30 : Int).toNat)], .tup [wd "cut", .tup [.int 1]], wd "", .tup [wd "beyond", wd "lost"], .lst [wd "beyond", .int 2]]
theorem oddr4_len {r : Ru} : (oddr4 r).length = 8 := rfl
def oddr5 (r : Ru) : List D := [.tup [.int 1, wd "cut"], .tup [wd "beyond", .int 7]]
theorem oddr5_len {r : Ru} : (oddr5 r).length = 2 := rfl
def oddr6 (r : Ru) : List D := [.lst [wd (lk r.lacks), loD r.low, hiD r.high], .tup ([wd (lk r.lacks), loD r.low, hiD r.high] ++ [.non]), .tup (List.take 2 [wd (lk r.lacks), loD r.low, hiD r.high]), .non, .bl true, wd "many 1 lost", .tup [], .lst [], .tup [.tup [wd (lk r.lacks), loD r.low, hiD r.high]], .tup (List.reverse [wd (lk r.lacks), loD r.low, hiD r.high]), wd "many", .int 0]
theorem oddr6_len {r : Ru} : (oddr6 r).length = 12 := rfl
theorem br0 {r : Ru} : ∀ x ∈ oddr0 r, isIn ["many", "some", "hidden"] x = false := by
  intro x m
  simp only [oddr0, List.mem_cons, List.not_mem_nil, or_false] at m
  rcases m with rfl | rfl | rfl | rfl | rfl | rfl | rfl | rfl | rfl | rfl | rfl | rfl | rfl <;> first | rfl | decide +kernel
theorem br1 {r : Ru} : ∀ x ∈ oddr1 r, isLow x = false := fun x m => (show ∀ x ∈ (oddr1 ⟨0, none, none⟩), isLow x = false by decide +kernel) x m
theorem br2 {r : Ru} : ∀ x ∈ oddr2 r ++ oddr3 r ++ oddr4 r ++ oddr5 r, isHigh x = false := fun x m => (show ∀ x ∈ (oddr2 ⟨0, none, none⟩ ++ oddr3 ⟨0, none, none⟩ ++ oddr4 ⟨0, none, none⟩ ++ oddr5 ⟨0, none, none⟩), isHigh x = false by decide +kernel) x m
theorem br6 {r : Ru} : ∀ x ∈ oddr6 r, isRule x = false := by
  intro x m
  simp only [oddr6, List.mem_cons, List.not_mem_nil, or_false] at m
  rcases m with rfl | rfl | rfl | rfl | rfl | rfl | rfl | rfl | rfl | rfl | rfl | rfl
  all_goals first
    | rfl
    | (show (isIn ["many", "some", "hidden"] (hiD r.high) && isLow (loD r.low) && isHigh (wd (lk r.lacks))) = false
       cases r.high with
       | none => rw [show isIn ["many", "some", "hidden"] (hiD none) = false by decide +kernel]; rfl
       | some q => rfl)
def spBentR (K : PySem.W.Frag) : Sp := fun vs H Q _ => ∃ (b : Addr) (n : Nat) (v : V) (r : Ru), vs = [.ref b, v] ∧ Bag H b n ∧ n + 100 < 2 ^ 30 ∧ Rv K [b] H v (ruD r) ∧ ∀ v' d H', Rv K [b] H' v' d → isRule d = false → Stp [b] H H' → Bag H' b (n + 3) → Q v' H'
theorem cl__law_bent_rule {f : Addr} {fd : FuncData} (D : Df K mg "_law_bent_rule" s__law_bent_rule ["hand", "rule"] f fd) (T : Nm mg) (c__law_pick : Cl P w K mg base 1 "_law_pick" s__law_pick ["hand", "size"] spPick) : Cl P w K mg base 2 "_law_bent_rule" s__law_bent_rule ["hand", "rule"] (spBentR K) := by
  refine D.cl sc__law_bent_rule (fun vs H Q E h => ?_) (fun cdv A outer s H vs Q E hr h => ?_)
  · obtain ⟨b, n, v, r, rfl, _⟩ := h
    rfl
  · obtain ⟨b, n, v, r, rfl, B, hn, rz, k⟩ := h
    refine ⟨_, (pss_cons (ps_set (i := 2) sc__law_bent_rule.nd rfl (by first | exact Or.inl rfl | exact Or.inr rfl) (pe_cl c__law_pick hr (by omega) (pa_cons (pv 0) (pa_cons pe_int pa_nil))))
      (pss_cons (ps_if (pt_cmpR op_eq (pv 2) pe_int (by first | exact nomark _ | rfl)) (pss_cons (ps_set (i := 3) sc__law_bent_rule.nd rfl (by first | exact Or.inl rfl | exact Or.inr rfl) (pe_lst (pa_cons pe_str (pa_cons pe_str (pa_cons pe_str (pa_cons pe_non (pa_cons pe_bl (pa_cons pe_int (pa_cons (pe_tup (pa_cons pe_str pa_nil)) (pa_cons pe_str (pa_cons pe_str (pa_cons pe_str (pa_cons (pe_lst (pa_cons pe_str pa_nil)) (pa_cons pe_str (pa_cons (pv 1) pa_nil)))))))))))))))
      (pss_one (ps_ret (pe_op op_catA (pe_tup (pa_cons (pe_ix ix_list (pv 3) (pe_cl c__law_pick hr (by omega) (pa_cons (pv 0) (pa_cons (pe_callB call_len_seq (by rfl) T.n_len (by decide +kernel) (pa_cons (pv 3) pa_nil)) pa_nil))) (fun _ _ => rfl)) pa_nil)) (pe_slice sl_tupA (pv 1) (po_some pe_int) po_none))))) pss_nil)
      (pss_cons (ps_if (pt_cmpR op_eq (pv 2) pe_int (by first | exact nomark _ | rfl)) (pss_cons (ps_set (i := 3) sc__law_bent_rule.nd rfl (by first | exact Or.inl rfl | exact Or.inr rfl) (pe_lst (pa_cons pe_int (pa_cons (pe_un un_neg pe_int) (pa_cons pe_bl (pa_cons pe_bl (pa_cons pe_non (pa_cons pe_str (pa_cons pe_str (pa_cons pe_str (pa_cons (pe_tup (pa_cons pe_int pa_nil)) (pa_cons (pe_lst (pa_cons pe_int pa_nil)) (pa_cons (pe_op op_pow pe_int pe_int) (pa_cons pe_str (pa_cons (pe_tup (pa_cons pe_str pa_nil)) (pa_cons pe_int (pa_cons pe_str (pa_cons (pe_un un_neg pe_int) pa_nil))))))))))))))))))
      (pss_one (ps_ret (pe_tup (pa_cons (pe_ix ix_tup (pv 1) pe_int (fun _ _ => rfl)) (pa_cons (pe_ix ix_list (pv 3) (pe_cl c__law_pick hr (by omega) (pa_cons (pv 0) (pa_cons (pe_callB call_len_seq (by rfl) T.n_len (by decide +kernel) (pa_cons (pv 3) pa_nil)) pa_nil))) (fun _ _ => rfl)) (pa_cons (pe_ix ix_tup (pv 1) pe_int (fun _ _ => rfl)) pa_nil))))))) pss_nil)
      (pss_cons (ps_if (pt_cmpR op_eq (pv 2) pe_int (by first | exact nomark _ | rfl)) (pss_cons (ps_set (i := 3) sc__law_bent_rule.nd rfl (by first | exact Or.inl rfl | exact Or.inr rfl) (pe_lst (pa_cons (pe_lst (pa_cons pe_str (pa_cons pe_int pa_nil))) (pa_cons (pe_tup (pa_cons pe_str (pa_cons pe_int pa_nil))) (pa_cons (pe_tup (pa_cons pe_str (pa_cons pe_bl pa_nil))) (pa_cons (pe_tup (pa_cons pe_str (pa_cons pe_bl pa_nil))) (pa_cons (pe_tup (pa_cons pe_str pa_nil)) (pa_cons (pe_tup (pa_cons pe_str (pa_cons pe_int (pa_cons pe_int pa_nil)))) (pa_cons (pe_tup (pa_cons pe_str pa_nil)) (pa_cons pe_non pa_nil))))))))))
      (pss_cons (ps_set (i := 3) sc__law_bent_rule.nd rfl (by first | exact Or.inl rfl | exact Or.inr rfl) (pe_op op_cat (pv 3) (pe_lst (pa_cons (pe_tup (pa_cons pe_str (pa_cons pe_int pa_nil))) (pa_cons pe_str (pa_cons (pe_tup (pa_cons pe_str (pa_cons pe_int pa_nil))) (pa_cons pe_str (pa_cons (pe_tup (pa_cons pe_str (pa_cons pe_str pa_nil))) (pa_cons (pe_tup (pa_cons pe_str (pa_cons (pe_un un_neg pe_int) pa_nil))) (pa_cons (pe_tup (pa_cons pe_str (pa_cons pe_non pa_nil))) pa_nil))))))))))
      (pss_cons (ps_set (i := 3) sc__law_bent_rule.nd rfl (by first | exact Or.inl rfl | exact Or.inr rfl) (pe_op op_cat (pv 3) (pe_lst (pa_cons pe_int (pa_cons pe_bl (pa_cons (pe_tup pa_nil) (pa_cons (pe_tup (pa_cons pe_str (pa_cons (pe_op op_pow pe_int pe_int) pa_nil))) (pa_cons (pe_tup (pa_cons pe_str (pa_cons (pe_tup (pa_cons pe_int pa_nil)) pa_nil))) (pa_cons pe_str (pa_cons (pe_tup (pa_cons pe_str (pa_cons pe_str pa_nil))) (pa_cons (pe_lst (pa_cons pe_str (pa_cons pe_int pa_nil))) pa_nil)))))))))))
      (pss_cons (ps_set (i := 3) sc__law_bent_rule.nd rfl (by first | exact Or.inl rfl | exact Or.inr rfl) (pe_op op_cat (pv 3) (pe_lst (pa_cons (pe_tup (pa_cons pe_int (pa_cons pe_str pa_nil))) (pa_cons (pe_tup (pa_cons pe_str (pa_cons pe_int pa_nil))) pa_nil)))))
      (pss_one (ps_ret (pe_tup (pa_cons (pe_ix ix_tup (pv 1) pe_int (fun _ _ => rfl)) (pa_cons (pe_ix ix_tup (pv 1) pe_int (fun _ _ => rfl)) (pa_cons (pe_ix ix_list (pv 3) (pe_cl c__law_pick hr (by omega) (pa_cons (pv 0) (pa_cons (pe_callB call_len_seq (by rfl) T.n_len (by decide +kernel) (pa_cons (pv 3) pa_nil)) pa_nil))) (fun _ _ => rfl)) pa_nil)))))))))) pss_nil)
      (pss_cons (ps_set (i := 3) sc__law_bent_rule.nd rfl (by first | exact Or.inl rfl | exact Or.inr rfl) (pe_lst (pa_cons (pe_callTy call_list_of (by rfl) T.n_list (by decide +kernel) (pa_cons (pv 1) pa_nil)) (pa_cons (pe_op op_catA (pv 1) (pe_tup (pa_cons pe_non pa_nil))) (pa_cons (pe_slice sl_tupA (pv 1) po_none (po_some pe_int)) (pa_cons pe_non (pa_cons pe_bl (pa_cons pe_str (pa_cons (pe_tup pa_nil) (pa_cons (pe_lst pa_nil) (pa_cons (pe_tup (pa_cons (pv 1) pa_nil)) (pa_cons (Pg.pe_revT (pv 1)) (pa_cons pe_str (pa_cons pe_int pa_nil))))))))))))))
      (pss_one (ps_ret (pe_ix ix_list (pv 3) (pe_cl c__law_pick hr (by omega) (pa_cons (pv 0) (pa_cons (pe_callB call_len_seq (by rfl) T.n_len (by decide +kernel) (pa_cons (pv 3) pa_nil)) pa_nil))) (fun _ _ => rfl))))))))), ?_⟩
    have nn : ∀ {x : Addr}, x ∉ ([] : List Addr) := fun m => nomatch m
    have one : b ∈ [b] := List.mem_singleton.mpr rfl
    have rz : Rv K [b] H v (.tup [wd (lk r.lacks), loD r.low, hiD r.high]) := rz
    refine ⟨_, rfl, b, 4, n, rfl, B, by omega, by decide, by decide, fun way H1 w0 w1 o1 B1 => ?_⟩
    have S1 : Stp [b] H H1 := o1.stp one
    have rz := rz.stp S1 (Pv.bag_ls B)
    have ls := Pv.bag_ls B1
    dsimp only [gName]
    refine ⟨_, rfl, rfl, _, rfl, ite2 (fun h => ?_) (fun h => ?_)⟩
    · refine asg_name ?_
      refine' Pv.EvDA.newl (K := K) (S := [b]) (ds := oddr0 r) ?e0 ?l0 ?k0
      case e0 => unfold oddr0; (repeat' first | exact Pv.EvDA.nil | apply Pv.EvDA.cons | exact Pv.EvD.bl | exact Pv.EvD.int | exact Pv.EvD.non | exact Pv.EvD.str | exact Pv.EvD.var rz | apply Pv.EvD.list ls | apply Pv.EvD.tup | apply Pv.EvD.lst ls | exact Pv.EvD.upT (n := 2) (Pv.EvD.var rz) | exact Pv.EvD.revT (Pv.EvD.var rz) | apply Pv.EvD.catT | exact Pv.EvD.pow ⟨by decide, by decide, by decide⟩ | apply Pv.EvD.neg | (simp; done))
      case l0 => rw [oddr0_len]; decide
      case k0 =>
      intro L0 vs0 H2 E0 n0 h0 r0
      have B2 := B1.kp E0 nn
      have rz2 := rz.up E0
      have nLb : L0 ∉ [b] := fun m => B1.ne n0 (List.mem_singleton.mp m).symm
      refine ⟨_, rfl, _, rfl, _, rfl, L0, vs0, rfl, .inl (SqL.of h0), b, _, _, rfl, B2, by omega, ?_, ?_, fun e H3 e0 e1 o3 B3 => ?_⟩
      · rw [r0.len, oddr0_len]; decide
      · rw [r0.len, oddr0_len]; decide
      rw [r0.len] at e1
      have S3 : Stp [b] _ H3 := o3.stp one
      have ls2 := Pv.bag_ls B2
      have rz3 := rz2.stp S3 ls2
      obtain ⟨x, dx, mx, rx, ex⟩ := (r0.stp S3 ls2).pick e0 e1
      refine ⟨L0, vs0, e, x, rfl, rfl, SqL.of (S3.kp _ _ nLb h0), ex, ?_⟩
      have S03 := (S1.trans E0.nil).trans S3
      refine ⟨(by show 1 ≤ sizeLine; decide), fun t nt => ?_⟩
      have S4 : Stp [] H3 (upd H3 t (.tup [x])) := Stp.new nt _
      have rz4 := rz3.up S4
      obtain ⟨a, zs, rfl, hs, _, rl⟩ := rz4.tupE
      refine ⟨_, rfl, _, rfl, ?_⟩
      refine nopart ?_
      refine Pv.fromT (n := 1) hs rl fun p5 z5 H5 S5 h5 q5 => ?_
      refine Pv.catT (es := List.drop 1 [wd (lk r.lacks), loD r.low, hiD r.high]) (sqt_stp S5 Lsts.nil (SqT.of upd_same)) h5 (RvL.cons ((rx.up S4).up S5) .nil) q5 (by simp) fun p6 z6 H6 S6 h6 q6 => ?_
      have S46 := (S4.trans S5).trans S6
      refine k _ _ H6 (.tup h6 (by rw [q6.len]; simp) q6) ?_ (S03.trans S46.nil) ((B3.kp S46 nn).mono (by omega))
      show (isIn ["many", "some", "hidden"] dx && isLow (loD r.low) && isHigh (hiD r.high)) = false
      rw [br0 dx mx]
      rfl
    refine ⟨_, rfl, rfl, _, rfl, ite2 (fun h => ?_) (fun h => ?_)⟩
    · refine asg_name ?_
      refine' Pv.EvDA.newl (K := K) (S := [b]) (ds := oddr1 r) ?e1 ?l1 ?k1
      case e1 => unfold oddr1; (repeat' first | exact Pv.EvDA.nil | apply Pv.EvDA.cons | exact Pv.EvD.bl | exact Pv.EvD.int | exact Pv.EvD.non | exact Pv.EvD.str | exact Pv.EvD.var rz | apply Pv.EvD.list ls | apply Pv.EvD.tup | apply Pv.EvD.lst ls | exact Pv.EvD.upT (n := 2) (Pv.EvD.var rz) | exact Pv.EvD.revT (Pv.EvD.var rz) | apply Pv.EvD.catT | exact Pv.EvD.pow ⟨by decide, by decide, by decide⟩ | apply Pv.EvD.neg | (simp; done))
      case l1 => rw [oddr1_len]; decide
      case k1 =>
      intro L0 vs0 H2 E0 n0 h0 r0
      have B2 := B1.kp E0 nn
      have rz2 := rz.up E0
      have nLb : L0 ∉ [b] := fun m => B1.ne n0 (List.mem_singleton.mp m).symm
      obtain ⟨a, zs, rfl, hs, _, rl⟩ := rz2.tupE
      obtain ⟨v1, v2, v3, rfl, t1, t2, t3⟩ := RvL.three rl
      refine ⟨_, rfl, a, _, 0, v1, rfl, rfl, hs, at0, ?_⟩
      refine ⟨_, rfl, _, rfl, _, rfl, L0, vs0, rfl, .inl (SqL.of h0), b, _, _, rfl, B2, by omega, ?_, ?_, fun e H3 e0 e1 o3 B3 => ?_⟩
      · rw [r0.len, oddr1_len]; decide
      · rw [r0.len, oddr1_len]; decide
      rw [r0.len] at e1
      have S3 : Stp [b] _ H3 := o3.stp one
      have ls2 := Pv.bag_ls B2
      have rz3 := rz2.stp S3 ls2
      obtain ⟨x, dx, mx, rx, ex⟩ := (r0.stp S3 ls2).pick e0 e1
      refine ⟨L0, vs0, e, x, rfl, rfl, SqL.of (S3.kp _ _ nLb h0), ex, ?_⟩
      have S03 := (S1.trans E0.nil).trans S3
      refine ⟨_, rfl, a, _, 2, v3, rfl, rfl, sqt_stp S3 ls2 hs, at2, (by show 3 ≤ sizeLine; decide), fun t nt => ?_⟩
      have S4 : Stp [] H3 (upd H3 t (.tup [v1, x, v3])) := Stp.new nt _
      refine k _ _ _ (Rv.newT nt (.cons (t1.stp S3 ls2) (.cons rx (.cons (t3.stp S3 ls2) .nil))) (by simp)) ?_ (S03.trans S4.nil) ((B3.kp S4 nn).mono (by omega))
      show (isIn ["many", "some", "hidden"] (wd (lk r.lacks)) && isLow dx && isHigh (hiD r.high)) = false
      rw [br1 dx mx, Bool.and_false]
      rfl
    refine ⟨_, rfl, rfl, _, rfl, ite2 (fun h => ?_) (fun h => ?_)⟩
    · refine asg_name ?_
      refine' Pv.EvDA.newl (K := K) (S := [b]) (ds := oddr2 r) ?e2 ?l2 ?k2
      case e2 => unfold oddr2; (repeat' first | exact Pv.EvDA.nil | apply Pv.EvDA.cons | exact Pv.EvD.bl | exact Pv.EvD.int | exact Pv.EvD.non | exact Pv.EvD.str | exact Pv.EvD.var rz | apply Pv.EvD.list ls | apply Pv.EvD.tup | apply Pv.EvD.lst ls | exact Pv.EvD.upT (n := 2) (Pv.EvD.var rz) | exact Pv.EvD.revT (Pv.EvD.var rz) | apply Pv.EvD.catT | exact Pv.EvD.pow ⟨by decide, by decide, by decide⟩ | apply Pv.EvD.neg | (simp; done))
      case l2 => rw [oddr2_len]; decide
      case k2 =>
      intro L2 vs2 G2 E2 n2 h2 r2
      have ls3 := Pg.Lsts.stp ls E2
      refine asg_name ?_
      refine op_var rfl ?_
      refine' Pv.EvDA.newl (K := K) (S := [b]) (ds := oddr3 r) ?e3 ?l3 ?k3
      case e3 => unfold oddr3; (repeat' first | exact Pv.EvDA.nil | apply Pv.EvDA.cons | exact Pv.EvD.bl | exact Pv.EvD.int | exact Pv.EvD.non | exact Pv.EvD.str | exact Pv.EvD.var rz | apply Pv.EvD.list ls3 | apply Pv.EvD.tup | apply Pv.EvD.lst ls3 | exact Pv.EvD.upT (n := 2) (Pv.EvD.var rz) | exact Pv.EvD.revT (Pv.EvD.var rz) | apply Pv.EvD.catT | exact Pv.EvD.pow ⟨by decide, by decide, by decide⟩ | apply Pv.EvD.neg | (simp; done))
      case l3 => rw [oddr3_len]; decide
      case k3 =>
      intro M3 ws3 F3 T3 m3 g3 q3
      refine cat_use (T3.kp _ _ (fun m => nomatch m) h2) g3 (r2.up T3) q3 (by simp [oddr2_len, oddr3_len]) fun L3 n3 G3 vs3 J3 h3 r3 => ?_
      have E3 := (E2.trans T3).trans J3
      have n3 := (E2.trans T3).fresh nn n3
      have ls4 := Pg.Lsts.stp ls E3
      refine asg_name ?_
      refine op_var rfl ?_
      refine' Pv.EvDA.newl (K := K) (S := [b]) (ds := oddr4 r) ?e4 ?l4 ?k4
      case e4 => unfold oddr4; (repeat' first | exact Pv.EvDA.nil | apply Pv.EvDA.cons | exact Pv.EvD.bl | exact Pv.EvD.int | exact Pv.EvD.non | exact Pv.EvD.str | exact Pv.EvD.var rz | apply Pv.EvD.list ls4 | apply Pv.EvD.tup | apply Pv.EvD.lst ls4 | exact Pv.EvD.upT (n := 2) (Pv.EvD.var rz) | exact Pv.EvD.revT (Pv.EvD.var rz) | apply Pv.EvD.catT | exact Pv.EvD.pow ⟨by decide, by decide, by decide⟩ | apply Pv.EvD.neg | (simp; done))
      case l4 => rw [oddr4_len]; decide
      case k4 =>
      intro M4 ws4 F4 T4 m4 g4 q4
      refine cat_use (T4.kp _ _ (fun m => nomatch m) h3) g4 (r3.up T4) q4 (by simp [oddr2_len, oddr3_len, oddr4_len]) fun L4 n4 G4 vs4 J4 h4 r4 => ?_
      have E4 := (E3.trans T4).trans J4
      have n4 := (E3.trans T4).fresh nn n4
      have ls5 := Pg.Lsts.stp ls E4
      refine asg_name ?_
      refine op_var rfl ?_
      refine' Pv.EvDA.newl (K := K) (S := [b]) (ds := oddr5 r) ?e5 ?l5 ?k5
      case e5 => unfold oddr5; (repeat' first | exact Pv.EvDA.nil | apply Pv.EvDA.cons | exact Pv.EvD.bl | exact Pv.EvD.int | exact Pv.EvD.non | exact Pv.EvD.str | exact Pv.EvD.var rz | apply Pv.EvD.list ls5 | apply Pv.EvD.tup | apply Pv.EvD.lst ls5 | exact Pv.EvD.upT (n := 2) (Pv.EvD.var rz) | exact Pv.EvD.revT (Pv.EvD.var rz) | apply Pv.EvD.catT | exact Pv.EvD.pow ⟨by decide, by decide, by decide⟩ | apply Pv.EvD.neg | (simp; done))
      case l5 => rw [oddr5_len]; decide
      case k5 =>
      intro M5 ws5 F5 T5 m5 g5 q5
      refine cat_use (T5.kp _ _ (fun m => nomatch m) h4) g5 (r4.up T5) q5 (by simp [oddr2_len, oddr3_len, oddr4_len, oddr5_len]) fun L5 n5 G5 vs5 J5 h5 r5 => ?_
      have E5 := (E4.trans T5).trans J5
      have n5 := (E4.trans T5).fresh nn n5
      have B2 := B1.kp E5 nn
      have rz2 := rz.up E5
      have nLb : L5 ∉ [b] := fun m => B1.ne n5 (List.mem_singleton.mp m).symm
      obtain ⟨a, zs, rfl, hs, _, rl⟩ := rz2.tupE
      obtain ⟨v1, v2, v3, rfl, t1, t2, t3⟩ := RvL.three rl
      refine ⟨_, rfl, a, _, 0, v1, rfl, rfl, hs, at0, _, rfl, a, _, 1, v2, rfl, rfl, hs, at1, ?_⟩
      refine ⟨_, rfl, _, rfl, _, rfl, L5, vs5, rfl, .inl (SqL.of h5), b, _, _, rfl, B2, by omega, ?_, ?_, fun e H3 e0 e1 o3 B3 => ?_⟩
      · rw [r5.len, show (oddr2 r ++ oddr3 r ++ oddr4 r ++ oddr5 r).length = 25 from rfl]; decide
      · rw [r5.len, show (oddr2 r ++ oddr3 r ++ oddr4 r ++ oddr5 r).length = 25 from rfl]; decide
      rw [r5.len] at e1
      have S3 : Stp [b] _ H3 := o3.stp one
      have ls2 := Pv.bag_ls B2
      have rz3 := rz2.stp S3 ls2
      obtain ⟨x, dx, mx, rx, ex⟩ := (r5.stp S3 ls2).pick e0 e1
      refine ⟨L5, vs5, e, x, rfl, rfl, SqL.of (S3.kp _ _ nLb h5), ex, ?_⟩
      have S03 := (S1.trans E5.nil).trans S3
      refine ⟨(by show 3 ≤ sizeLine; decide), fun t nt => ?_⟩
      have S4 : Stp [] H3 (upd H3 t (.tup [v1, v2, x])) := Stp.new nt _
      refine k _ _ _ (Rv.newT nt (.cons (t1.stp S3 ls2) (.cons (t2.stp S3 ls2) (.cons rx .nil))) (by simp)) ?_ (S03.trans S4.nil) ((B3.kp S4 nn).mono (by omega))
      show (isIn ["many", "some", "hidden"] (wd (lk r.lacks)) && isLow (loD r.low) && isHigh dx) = false
      rw [br2 dx mx, Bool.and_false]
    dsimp only [tNext]
    refine asg_name ?_
    refine' Pv.EvDA.newl (K := K) (S := [b]) (ds := oddr6 r) ?e6 ?l6 ?k6
    case e6 => unfold oddr6; (repeat' first | exact Pv.EvDA.nil | apply Pv.EvDA.cons | exact Pv.EvD.bl | exact Pv.EvD.int | exact Pv.EvD.non | exact Pv.EvD.str | exact Pv.EvD.var rz | apply Pv.EvD.list ls | apply Pv.EvD.tup | apply Pv.EvD.lst ls | exact Pv.EvD.upT (n := 2) (Pv.EvD.var rz) | exact Pv.EvD.revT (Pv.EvD.var rz) | apply Pv.EvD.catT | exact Pv.EvD.pow ⟨by decide, by decide, by decide⟩ | apply Pv.EvD.neg | (simp; done))
    case l6 => rw [oddr6_len]; decide
    case k6 =>
    intro L0 vs0 H2 E0 n0 h0 r0
    have B2 := B1.kp E0 nn
    have rz2 := rz.up E0
    have nLb : L0 ∉ [b] := fun m => B1.ne n0 (List.mem_singleton.mp m).symm
    refine ⟨_, rfl, _, rfl, _, rfl, L0, vs0, rfl, .inl (SqL.of h0), b, _, _, rfl, B2, by omega, ?_, ?_, fun e H3 e0 e1 o3 B3 => ?_⟩
    · rw [r0.len, oddr6_len]; decide
    · rw [r0.len, oddr6_len]; decide
    rw [r0.len] at e1
    have S3 : Stp [b] _ H3 := o3.stp one
    have ls2 := Pv.bag_ls B2
    have rz3 := rz2.stp S3 ls2
    obtain ⟨x, dx, mx, rx, ex⟩ := (r0.stp S3 ls2).pick e0 e1
    refine ⟨L0, vs0, e, x, rfl, rfl, SqL.of (S3.kp _ _ nLb h0), ex, ?_⟩
    have S03 := (S1.trans E0.nil).trans S3
    exact k x dx H3 rx (br6 dx mx) S03 (B3.mono (by omega))
/-! ### filters as values -/
mutual
def toD : Dt → D
  | .non => .non
  | .bl b => .bl b
  | .int i => .int i
  | .str l => .str l
  | .tup ds => .tup (toDs ds)
  | .lst => .lst []
  | .obj => .non
def toDs : List Dt → List D
  | [] => []
  | d :: ds => toD d :: toDs ds
end
mutual
/-- no list, no object -/
def pur : Dt → Bool
  | .tup ds => purs ds
  | .lst => false
  | .obj => false
  | _ => true
def purs : List Dt → Bool
  | [] => true
  | d :: ds => pur d && purs ds
end
mutual
theorem rp_rvD {S : List Addr} {H : Hp} : ∀ {v : V} {d : Dt}, Rp K H v d → pur d = true → Rv K S H v (toD d)
  | _, _, .non, _ => by unfold toD; exact .non
  | _, _, .bl b, _ => by unfold toD; exact .bl b
  | _, _, .int i, _ => by unfold toD; exact .int i
  | _, _, .str l h, _ => by unfold toD; exact .str l h
  | _, _, .tup h n r, f => by
    unfold toD
    unfold pur at f
    exact .tup h n (rp_rvDs r f)
  | _, _, .lst _, f => by unfold pur at f; cases f
  | _, _, .obj _, f => by unfold pur at f; cases f
theorem rp_rvDs {S : List Addr} {H : Hp} : ∀ {vs : List V} {ds : List Dt}, RpL K H vs ds → purs ds = true → RvL K S H vs (toDs ds)
  | _, _, .nil, _ => by unfold toDs; exact .nil
  | _, _, .cons h r, f => by
    unfold toDs
    unfold purs at f
    obtain ⟨f1, f2⟩ := Bool.and_eq_true_iff.mp f
    exact .cons (rp_rvD h f1) (rp_rvDs r f2)
end
mutual
theorem toD_deep : ∀ d : Dt, (toD d).deep ≤ d.dep + 1
  | .non => by unfold toD; exact Nat.zero_le _
  | .bl _ => by unfold toD; exact Nat.zero_le _
  | .int _ => by unfold toD; exact Nat.zero_le _
  | .str _ => by unfold toD; exact Nat.zero_le _
  | .tup ds => by
    unfold toD D.deep Dt.dep
    have := toDs_deep ds
    omega
  | .lst => by unfold toD D.deep D.deeps; omega
  | .obj => by unfold toD; exact Nat.zero_le _
theorem toDs_deep : ∀ ds : List Dt, (D.deeps (toDs ds)) ≤ Dt.depL ds + 1
  | [] => by unfold toDs; exact Nat.zero_le _
  | d :: ds => by
    unfold toDs D.deeps Dt.depL
    have h1 := toD_deep d
    have h2 := toDs_deep ds
    omega
end
theorem purs_all : ∀ {ds : List Dt}, (∀ d ∈ ds, pur d = true) → purs ds = true
  | [], _ => rfl
  | d :: ds, h => by
    unfold purs
    rw [h d (by simp), purs_all fun e m => h e (by simp [m])]
    rfl
theorem fairs_all : ∀ {ds : List Dt}, (∀ d ∈ ds, (toD d).fair = true) → D.fairs (toDs ds) = true
  | [], _ => rfl
  | d :: ds, h => by
    unfold toDs D.fairs
    rw [h d (by simp), fairs_all fun e m => h e (by simp [m])]
    rfl
theorem abc_fair {l : Txt} (h : Abc l) : (D.str l).fair = true := by
  unfold D.fair
  rw [List.all_eq_true]
  intro n m
  have := h n m
  exact decide_eq_true (by omega)
theorem FltS.pur {d : Dt} (h : FltS d) : pur d = true := by
  induction h with
  | tx _ _ _ => rfl
  | none => rfl
  | say _ => rfl
  | not _ ih =>
    show (true && (_ && true)) = true
    rw [ih]
    rfl
  | @among ls mt _ =>
    show (true && (purs (ls.map Dt.str) && true)) = true
    rw [purs_all fun d m => by
      obtain ⟨l, _, rfl⟩ := List.mem_map.mp m
      rfl]
    rfl
  | many _ _ _ ih =>
    show (true && (purs _ && true)) = true
    rw [purs_all ih]
    rfl
theorem FltS.fair {d : Dt} (h : FltS d) : (toD d).fair = true := by
  induction h with
  | @tx wd l hw al _ =>
    show ((D.str wd.cps.toList).fair && ((D.str l).fair && true)) = true
    rw [abc_fair al]
    rcases hw with rfl | rfl | rfl | rfl <;> decide +kernel
  | none => decide +kernel
  | say _ => 
    show ((D.str ("say" : Str).cps.toList).fair && (true && true)) = true
    decide +kernel
  | @not d _ ih =>
    show ((D.str ("not" : Str).cps.toList).fair && ((toD d).fair && true)) = true
    rw [ih]
    decide +kernel
  | @among ls mt _ =>
    show ((D.str ("among" : Str).cps.toList).fair && (D.fairs (toDs (ls.map Dt.str)) && true)) = true
    rw [fairs_all fun d m => by
      obtain ⟨l, ml, rfl⟩ := List.mem_map.mp m
      exact abc_fair (mt l ml).1]
    decide +kernel
  | @many wd ds hw _ _ ih =>
    show ((D.str wd.cps.toList).fair && (D.fairs (toDs ds) && true)) = true
    rw [fairs_all ih]
    rcases hw with rfl | rfl <;> decide +kernel
theorem wts_strs : ∀ ls : List Txt, (∀ l ∈ ls, l.length ≤ 40) → D.wts (toDs (ls.map Dt.str)) ≤ 404 * ls.length
  | [], _ => Nat.zero_le _
  | l :: ls, h => by
    have h1 := h l (by simp)
    have h2 := wts_strs ls fun e m => h e (by simp [m])
    show 10 * l.length + 2 + 2 + D.wts (toDs (ls.map Dt.str)) ≤ _
    rw [List.length_cons]
    omega
theorem wts_many {f : Dt → List Str} : ∀ ds : List Dt, (∀ d ∈ ds, (toD d).wt + 2 ≤ 500 * (f d).length) → D.wts (toDs ds) ≤ 500 * (ds.flatMap f).length
  | [], _ => Nat.zero_le _
  | d :: ds, h => by
    have h1 := h d (by simp)
    have h2 := wts_many ds fun e m => h e (by simp [m])
    show (toD d).wt + 2 + D.wts (toDs ds) ≤ _
    rw [List.flatMap_cons, List.length_append]
    omega
theorem fw_wt : ∀ {n : Nat} {d : Dt}, FltS d → d.dep < n → (toD d).wt + 2 ≤ 500 * (fw n d).length
  | 0, _, _, h => absurd h (Nat.not_lt_zero _)
  | n + 1, _, .none, _ => by
    rw [fw_none]
    decide +kernel
  | n + 1, _, .say b, _ => by
    rw [fw_two]
    rw [show fwP (fw n) "say" (.bl b) = [if b = true then ("yes" : Str) else ("no" : Str)] by unfold fwP; rw [if_pos rfl]]
    show (D.str ("say" : Str).cps.toList).wt + 2 + (5 + 2 + 0) + 4 + 2 ≤ 500 * 2
    decide +kernel
  | n + 1, _, .not (d := d) f, h => by
    have ih := fw_wt f (dep_two h)
    rw [fw_two, show fwP (fw n) "not" d = fw n d by unfold fwP; rw [if_neg (by decide +kernel), if_pos rfl], List.length_cons]
    have e : (D.str ("not" : Str).cps.toList).wt = 32 := by decide +kernel
    show (D.str ("not" : Str).cps.toList).wt + 2 + ((toD d).wt + 2 + 0) + 4 + 2 ≤ _
    omega
  | n + 1, _, .tx (wd := wd) (l := l) hw al hl, _ => by
    rw [fw_two, fwP_tx _ hw]
    have e : (D.str wd.cps.toList).wt ≤ 62 := by
      rcases hw with rfl | rfl | rfl | rfl <;> decide +kernel
    show (D.str wd.cps.toList).wt + 2 + (10 * l.length + 2 + 2 + 0) + 4 + 2 ≤ 500 * 2
    omega
  | n + 1, _, .among (ls := ls) mt few, _ => by
    rw [fw_two, fwP_among, List.length_cons, List.length_cons, List.length_map, List.length_map]
    have e : (D.str ("among" : Str).cps.toList).wt = 52 := by decide +kernel
    have h := wts_strs ls fun l m => (mt l m).2
    show (D.str ("among" : Str).cps.toList).wt + 2 + (D.wts (toDs (ls.map Dt.str)) + 4 + 2 + 0) + 4 + 2 ≤ _
    omega
  | n + 1, _, .many (wd := wd) (ds := ds) hw mf few, h => by
    rw [fw_two, fwP_many _ hw, List.length_cons, List.length_cons]
    have e : (D.str wd.cps.toList).wt ≤ 62 := by
      rcases hw with rfl | rfl <;> decide +kernel
    have ih := wts_many (f := fw n) ds fun d md => fw_wt (mf d md) (dep_in h md)
    show (D.str wd.cps.toList).wt + 2 + (D.wts (toDs ds) + 4 + 2 + 0) + 4 + 2 ≤ _
    omega
/-! ### the written line -/
theorem num_sg : ∀ n ∈ List.range 1000, ∀ c ∈ (numS n).cps.toList, c < 256 := by decide +kernel
theorem wds_sg {l : Txt} (h : Abc l) : ∀ c ∈ (wdS l).cps.toList, c < 256 := by
  unfold wdS
  by_cases e : l = []
  · rw [if_pos e]
    decide +kernel
  · rw [if_neg e]
    intro c m
    have := h c (by simpa [tx] using m)
    omega
theorem fw_sg : ∀ {n : Nat} {d : Dt}, FltS d → d.dep < n → ∀ z ∈ fw n d, ∀ c ∈ z.cps.toList, c < 256
  | 0, _, _, h => absurd h (Nat.not_lt_zero _)
  | n + 1, _, .none, _ => by
    rw [fw_none]
    intro z m
    rw [List.mem_singleton.mp m]
    decide +kernel
  | n + 1, _, .say b, _ => by
    rw [fw_two]
    intro z m
    rw [show fwP (fw n) "say" (.bl b) = [if b = true then ("yes" : Str) else ("no" : Str)] by unfold fwP; rw [if_pos rfl]] at m
    have k : ∀ b : Bool, ∀ z ∈ [("say" : Str), (if b = true then ("yes" : Str) else ("no" : Str))], ∀ c ∈ z.cps.toList, c < 256 := by decide +kernel
    exact k b z m
  | n + 1, _, .not (d := d) f, h => by
    rw [fw_two]
    intro z m
    rw [show fwP (fw n) "not" d = fw n d by unfold fwP; rw [if_neg (by decide +kernel), if_pos rfl]] at m
    rcases List.mem_cons.mp m with rfl | m
    · decide +kernel
    · exact fw_sg f (dep_two h) z m
  | n + 1, _, .tx (l := l) hw al hl, _ => by
    rw [fw_two, fwP_tx _ hw]
    intro z m
    rcases List.mem_cons.mp m with rfl | m
    · rcases hw with rfl | rfl | rfl | rfl <;> decide +kernel
    · rw [List.mem_singleton.mp m]
      exact wds_sg al
  | n + 1, _, .among (ls := ls) mt few, _ => by
    rw [fw_two, fwP_among]
    intro z m
    rcases List.mem_cons.mp m with rfl | m
    · decide +kernel
    rcases List.mem_cons.mp m with rfl | m
    · exact num_sg _ (List.mem_range.mpr (by rw [List.length_map]; exact few))
    · obtain ⟨d, md, rfl⟩ := List.mem_map.mp m
      obtain ⟨l, ml, rfl⟩ := List.mem_map.mp md
      exact wds_sg (mt l ml).1
  | n + 1, _, .many (ds := ds) hw mf few, h => by
    rw [fw_two, fwP_many _ hw]
    intro z m
    rcases List.mem_cons.mp m with rfl | m
    · rcases hw with rfl | rfl <;> decide +kernel
    rcases List.mem_cons.mp m with rfl | m
    · exact num_sg _ (List.mem_range.mpr few)
    · obtain ⟨d, md, mz⟩ := List.mem_flatMap.mp m
      exact fw_sg (mf d md) (dep_in h md) z mz
theorem sj_ok {k : Nat} : ∀ ws : List Str, (∀ z ∈ ws, z.length ≤ k) → (∀ z ∈ ws, ∀ c ∈ z.cps.toList, c < 256) → (Str.join " " ws).length ≤ (k + 1) * ws.length ∧ ∀ c ∈ (Str.join " " ws).cps.toList, c < 256
  | [], _, _ => ⟨Nat.le_refl _, fun c m => by cases m⟩
  | [x], h, g => ⟨by have := h x (by simp); show x.length ≤ (k + 1) * 1; omega, g x (by simp)⟩
  | x :: y :: r, h, g => by
    obtain ⟨a, b⟩ := sj_ok (y :: r) (fun z m => h z (by simp [m])) (fun z m => g z (by simp [m]))
    have h1 := h x (by simp)
    have l1 : (" " : Str).length = 1 := by decide +kernel
    show (x ++ " " ++ Str.join " " (y :: r)).length ≤ _ ∧ ∀ c ∈ (x ++ " " ++ Str.join " " (y :: r)).cps.toList, c < 256
    refine ⟨?_, fun c m => ?_⟩
    · rw [Str.length_append, Str.length_append]
      rw [List.length_cons, Nat.mul_succ]
      omega
    · have e : (x ++ (" " : Str) ++ Str.join " " (y :: r)).cps.toList = x.cps.toList ++ (" " : Str).cps.toList ++ (Str.join " " (y :: r)).cps.toList := by
        show (x.cps ++ (" " : Str).cps ++ (Str.join " " (y :: r)).cps).toList = _
        simp
      rw [e] at m
      rcases List.mem_append.mp m with m | m
      · rcases List.mem_append.mp m with m | m
        · exact g x (by simp) c m
        · exact (show ∀ c ∈ (" " : Str).cps.toList, c < 256 by decide +kernel) c m
      · exact b c m
def lineS (d : Dt) : Str := Txt.join " " (fw 12 d)
structure ItOk (d : Dt) : Prop where
  f : FltS d
  dp : d.dep ≤ 10
  few : (fw 12 d).length ≤ 32
theorem ItOk.line {d : Dt} (h : ItOk d) : (lineS d).length ≤ 1312 ∧ ∀ c ∈ (lineS d).cps.toList, c < 256 := by
  have lt : d.dep < 12 := by have := h.dp; omega
  obtain ⟨a, b⟩ := sj_ok (k := 40) (fw 12 d) (fw_short h.f lt) (fw_sg h.f lt)
  unfold lineS
  rw [TL.join_eq]
  have := h.few
  exact ⟨by omega, b⟩
theorem ItOk.sum {d : Dt} (h : ItOk d) : ((fw 12 d).map fun x => x.length).sum ≤ 1280 := by
  have lt : d.dep < 12 := by have := h.dp; omega
  have a := sum_le (fw 12 d) (fw_short h.f lt)
  have := h.few
  omega
def lnD (d : Dt) : D := .str (lineS d).cps.toList
theorem ItOk.fine {d : Dt} (h : ItOk d) : (toD d).Fine := by
  have lt : d.dep < 12 := by have := h.dp; omega
  have a := fw_wt h.f lt
  have b := toD_deep d
  have c := h.few
  have e := h.dp
  exact ⟨h.f.fair, by omega, by omega⟩
theorem ItOk.lfine {d : Dt} (h : ItOk d) : (lnD d).Fine := by
  obtain ⟨a, b⟩ := h.line
  refine ⟨?_, Nat.zero_le _, ?_⟩
  · show (List.all _ _) = true
    rw [List.all_eq_true]
    intro n m
    have := b n m
    exact decide_eq_true (by omega)
  · have e : (lineS d).cps.toList.length = (lineS d).length := by simp [Str.length]
    show 10 * (lineS d).cps.toList.length + 2 ≤ 1000000
    omega
theorem ItOk.rvl {S : List Addr} {H : Hp} {d : Dt} (h : ItOk d) : Rv K S H (.str (lineS d)) (lnD d) := by
  have e : V.str (lineS d) = Tx (lineS d).cps.toList := congrArg V.str (lit_tx _).symm
  rw [e]
  obtain ⟨a, b⟩ := h.line
  exact .str _ (by have e : (lineS d).cps.toList.length = (lineS d).length := by simp [Str.length]
                   omega)
abbrev s__law_rule : Stmt := topS 37
abbrev N__law_rule : List Str := ["hand", "high", "low"]
theorem sc__law_rule : FnScope ["hand", "high", "low"] ["hand"] (defScope s__law_rule) := ⟨rfl, rfl, rfl, by decide +kernel, rfl, by decide +kernel, by decide +kernel⟩

abbrev s__law_rule_words : Stmt := topS 38
abbrev N__law_rule_words : List Str := ["rule", "words"]
theorem sc__law_rule_words : FnScope ["rule", "words"] ["rule"] (defScope s__law_rule_words) := ⟨rfl, rfl, rfl, by decide +kernel, rfl, by decide +kernel, by decide +kernel⟩

/-! ### own rules, their words, data without lists -/
mutual
def noL : D → Bool
  | .lst _ => false
  | .tup ds => noLs ds
  | _ => true
def noLs : List D → Bool
  | [] => true
  | d :: ds => noL d && noLs ds
end
section
variable {S S' : List Addr} {H : Hp}
mutual
theorem Rv.free : ∀ {v : V} {d : D}, Rv K S H v d → noL d = true → Rv K S' H v d
  | _, .non, .non, _ => .non
  | _, .bl _, .bl b, _ => .bl b
  | _, .int _, .int i, _ => .int i
  | _, .str _, .str x h, _ => .str x h
  | _, .tup ds, .tup h n r, f => .tup h n (RvL.free r (by unfold noL at f; exact f))
  | _, .lst _, .lst h _ _ _, f => by
    unfold noL at f
    cases f
  | _, .obj _, .obj h ok, _ => .obj h ok
theorem RvL.free : ∀ {vs : List V} {ds : List D}, RvL K S H vs ds → noLs ds = true → RvL K S' H vs ds
  | _, [], .nil, _ => .nil
  | _, _ :: _, .cons h r, f => by
    unfold noLs at f
    obtain ⟨a, b⟩ := Bool.and_eq_true_iff.mp f
    exact .cons (Rv.free h a) (RvL.free r b)
end
end
theorem noL_ru (r : Ru) : noL (ruD r) = true := by
  obtain ⟨a, lo, hi⟩ := r
  cases lo <;> cases hi <;> rfl
structure Fn (d : D) : Prop where
  fr : d.fair = true
  dp : d.deep ≤ 3
  wt : d.wt ≤ 100000
theorem Fn.fine {d : D} (x : Fn d) : d.Fine := ⟨x.fr, Nat.le_trans x.dp (by decide), Nat.le_trans x.wt (by decide)⟩
theorem fn_abc {l : Txt} (h : Lng l) : Fn (.str l) := by
  refine ⟨?_, by simp [D.deep], by have := h.2; simp only [D.wt]; omega⟩
  simp only [D.fair]
  refine List.all_eq_true.mpr fun c m => decide_eq_true ?_
  have := h.1 c m
  omega
theorem fn_ruL {r : Ru} (h : RuOk r) : Fn (wd (ruL r)) := by
  have k : ∀ a ∈ [0, 1, 2], ∀ lo ∈ lows, ∀ hi ∈ highs, (wd (ruL ⟨a, lo, hi⟩)).fair = true ∧ (wd (ruL ⟨a, lo, hi⟩)).deep ≤ 3 ∧ (wd (ruL ⟨a, lo, hi⟩)).wt ≤ 100000 := by decide +kernel
  obtain ⟨a, b, c⟩ := ru_in h
  obtain ⟨x, y, z⟩ := k _ a _ b _ c
  exact ⟨x, y, z⟩
theorem wv_txt {t : Vl} : (wV t = "none" ∧ t = none) ∨ (wV t = "-" ∧ t = some []) ∨ ∃ l, t = some l ∧ wV t = tx l := by
  cases t with
  | none => exact .inl ⟨rfl, rfl⟩
  | some l =>
    by_cases e : l = []
    · subst e
      exact .inr (.inl ⟨rfl, rfl⟩)
    · exact .inr (.inr ⟨l, rfl, if_neg e⟩)
theorem fn_wV {t : Vl} (h : LgV t) : Fn (wd (wV t)) := by
  rcases wv_txt (t := t) with ⟨e, _⟩ | ⟨e, _⟩ | ⟨l, rfl, e⟩
  · rw [e]; exact ⟨by decide +kernel, by decide +kernel, by decide +kernel⟩
  · rw [e]; exact ⟨by decide +kernel, by decide +kernel, by decide +kernel⟩
  · rw [e]
    have : wd (tx l) = .str l := by simp [wd, tx]
    rw [this]
    exact fn_abc (h l rfl)
theorem rv_str {S : List Addr} {H : Hp} {z : Str} (h : Fn (wd z)) : Rv K S H (.str z) (wd z) := by
  refine Rv.lit z ?_
  have := h.wt
  simp only [wd, D.wt] at this
  omega
def spRule : Sp := fun vs H Q _ => ∃ (b : Addr) (n : Nat), vs = [.ref b] ∧ Bag H b n ∧ n + 20 < 2 ^ 30 ∧ ∀ v r H', Stp [b] H H' → Bag H' b (n + 10) → RuOk r → Rv K [] H' v (ruD r) → Q v H'
theorem rv_draw {S S' : List Addr} {H H' : Hp} {b : Addr} {n : Nat} {v : V} {d : D} (r : Rv K S H v d) (f : noL d = true) (s : Stp [b] H H') (B : Bag H b n) : Rv K S' H' v d := Rv.free (S := [b]) ((Rv.free (S' := [b]) r f).stp s (Pv.bag_ls B)) f
theorem noL_hi (h : Option (Nat × Nat)) : noL (hiD h) = true := by cases h <;> rfl
theorem cl__law_rule {f : Addr} {fd : FuncData} (D : Df K mg "_law_rule" s__law_rule ["hand"] f fd) (T : Nm mg) (c__law_pick : Cl P w K mg base 1 "_law_pick" s__law_pick ["hand", "size"] spPick) : Cl P w K mg base 2 "_law_rule" s__law_rule ["hand"] (spRule (K := K)) := by
  refine D.cl sc__law_rule (fun vs H Q E h => ?_) (fun cdv A outer s H vs Q E hr h => ?_)
  · obtain ⟨b, n, rfl, _⟩ := h
    rfl
  · obtain ⟨b, n, rfl, B, hn, k⟩ := h
    refine ⟨_, (pss_cons (ps_set (i := 1) sc__law_rule.nd rfl (by first | exact Or.inl rfl | exact Or.inr rfl) pe_str)
      (pss_cons (ps_if (pt_cmpR op_gt (pe_cl c__law_pick hr (by omega) (pa_cons (pv 0) (pa_cons pe_int pa_nil))) pe_int (by first | exact nomark _ | rfl)) (pss_one (ps_set (i := 1) sc__law_rule.nd rfl (by first | exact Or.inl rfl | exact Or.inr rfl) (pe_tup (pa_cons (pe_ix ix_list (pe_lst (pa_cons pe_str (pa_cons pe_str pa_nil))) (pe_cl c__law_pick hr (by omega) (pa_cons (pv 0) (pa_cons pe_int pa_nil))) (fun _ _ => rfl)) (pa_cons (pe_cl c__law_pick hr (by omega) (pa_cons (pv 0) (pa_cons pe_int pa_nil))) pa_nil))))) pss_nil)
      (pss_cons (ps_set (i := 2) sc__law_rule.nd rfl (by first | exact Or.inl rfl | exact Or.inr rfl) (pe_cl c__law_pick hr (by omega) (pa_cons (pv 0) (pa_cons pe_int pa_nil))))
      (pss_one (ps_ret (pe_tup (pa_cons (pe_ix ix_list (pe_lst (pa_cons pe_str (pa_cons pe_str (pa_cons pe_str pa_nil)))) (pe_cl c__law_pick hr (by omega) (pa_cons (pv 0) (pa_cons pe_int pa_nil))) (fun _ _ => rfl)) (pa_cons (pe_ifExp (pt_cmpR op_eq (pv 2) pe_int (by first | exact nomark _ | rfl)) pe_str (pv 2)) (pa_cons (pv 1) pa_nil))))))))), ?_⟩
    have nn : ∀ {x : Addr}, x ∉ ([] : List Addr) := fun m => nomatch m
    have one : b ∈ [b] := List.mem_singleton.mpr rfl
    refine asg_name ?_
    dsimp only [tC]
    refine txt_end (fun σ H' => ∃ (hv : V) (hi : Option (Nat × Nat)), σ = [some (.ref b), some hv, none] ∧ (∀ k n, hi = some (k, n) → k < 2 ∧ n ≤ 6) ∧ Rv K [] H' hv (hiD hi) ∧ Stp [b] H H' ∧ Bag H' b (n + 3)) ?_ (fun fin => ?_)
    rotate_left
    · refine ⟨_, rfl, b, 5, n, rfl, B, by omega, by decide, by decide, fun e H1 e0 e1 o1 B1 => ?_⟩
      have S1 : Stp [b] H H1 := o1.stp one
      refine ⟨_, _, rfl, rfl, _, rfl, ite2 (fun _ => ?_) (fun _ => ?_)⟩
      · refine ⟨(by show 2 ≤ sizeLine; decide), fun q nq => ?_⟩
        have S2 : Stp [] H1 (upd H1 q (.lst [.str "cut", .str "beyond"])) := Stp.new nq _
        have hq : (upd H1 q (.lst [.str "cut", .str "beyond"])) q = some (.lst [.str "cut", .str "beyond"]) := upd_same
        have bq : q ∉ [b] := fun m => B1.ne nq (List.mem_singleton.mp m).symm
        have B2 := B1.kp S2 nn
        generalize upd H1 q (.lst [.str "cut", .str "beyond"]) = H2 at *
        refine ⟨_, rfl, b, 2, _, rfl, B2, by omega, by decide, by decide, fun d H3 d0 d1 o3 B3 => ?_⟩
        have S3 : Stp [b] H2 H3 := o3.stp one
        obtain ⟨kk, k2, ek⟩ := words2 d0 d1
        refine ⟨q, _, d, _, rfl, rfl, SqL.of (S3.kp _ _ bq hq), ek, _, rfl, b, 7, _, rfl, B3, by omega, by decide, by decide, fun m H4 m0 m1 o4 B4 => ?_⟩
        have S4 : Stp [b] H3 H4 := o4.stp one
        obtain ⟨m, rfl⟩ := Int.eq_ofNat_of_zero_le m0
        refine ⟨(by show 2 ≤ sizeLine; decide), fun t nt => ?_⟩
        have S5 : Stp [] H4 (upd H4 t (.tup [.str (wy kk), .int (m : Int)])) := Stp.new nt _
        exact fin _ _ ⟨.ref t, some (kk, m), rfl, fun k' n' e => by cases e; exact ⟨k2, by omega⟩, .tup (SqT.of upd_same) (by simp) (.cons (Rv.lit _ (wy_len kk)) (.cons (.int _) .nil)), (((S1.trans S2.nil).trans S3).trans S4).trans S5.nil, (B4.kp S5 nn).mono (by omega)⟩
      · exact fin _ _ ⟨.str "lost", none, rfl, fun k' n' e => (by cases e), Rv.lit _, S1, B1.mono (by omega)⟩
    rintro σ H5 ⟨hv, hi, rfl, hok, rh, S5, B5⟩
    refine ⟨_, rfl, b, 8, _, rfl, B5, by omega, by decide, by decide, fun lo H6 l0 l1 o6 B6 => ?_⟩
    have S6 : Stp [b] H5 H6 := o6.stp one
    refine ⟨(by show 3 ≤ sizeLine; decide), fun q nq => ?_⟩
    have S7 : Stp [] H6 (upd H6 q (.lst [.str "many", .str "some", .str "hidden"])) := Stp.new nq _
    have hq : (upd H6 q (.lst [.str "many", .str "some", .str "hidden"])) q = some (.lst [.str "many", .str "some", .str "hidden"]) := upd_same
    have bq : q ∉ [b] := fun m => B6.ne nq (List.mem_singleton.mp m).symm
    have B7 := B6.kp S7 nn
    generalize upd H6 q (.lst [.str "many", .str "some", .str "hidden"]) = H7 at *
    refine ⟨_, rfl, b, 3, _, rfl, B7, by omega, by decide, by decide, fun d H8 d0 d1 o8 B8 => ?_⟩
    have S8 : Stp [b] H7 H8 := o8.stp one
    obtain ⟨a, a3, ea⟩ := words3 d0 d1
    have S58 : Stp [b] H5 H8 := (S6.trans S7.nil).trans S8
    have rh8 : Rv K [] H8 hv (hiD hi) := rv_draw rh (noL_hi hi) S58 B5
    refine ⟨q, _, d, _, rfl, rfl, SqL.of (S8.kp _ _ bq hq), ea, ?_⟩
    obtain ⟨lo, rfl⟩ := Int.eq_ofNat_of_zero_le l0
    refine ⟨_, rfl, rfl, _, rfl, ite2 (fun _ => ?_) (fun h => ?_)⟩
    · refine ⟨_, rfl, (by show 3 ≤ sizeLine; decide), fun t nt => ?_⟩
      refine k _ ⟨a, none, hi⟩ _ ((S5.trans S58).new' nt) ((B8.kp (Stp.new nt _) nn).mono (by omega)) ⟨a3, fun n e => (by cases e), hok⟩ ?_
      exact .tup (SqT.of upd_same) (by simp) (.cons (Rv.lit _ (lk_len a)) (.cons (Rv.lit ("lost" : Str)) (.cons (rh8.up (Stp.new nt _)) .nil)))
    · have l6 : lo ≤ 6 := by
        have : ¬ (lo : Int) = 7 := fun e => h (by rw [e]; rfl)
        omega
      refine ⟨_, rfl, _, rfl, (by show 3 ≤ sizeLine; decide), fun t nt => ?_⟩
      refine k _ ⟨a, some lo, hi⟩ _ ((S5.trans S58).new' nt) ((B8.kp (Stp.new nt _) nn).mono (by omega)) ⟨a3, fun n e => (by cases e; exact l6), hok⟩ ?_
      exact .tup (SqT.of upd_same) (by simp) (.cons (Rv.lit _ (lk_len a)) (.cons (.int _) (.cons (rh8.up (Stp.new nt _)) .nil)))
def spRuW (K : PySem.W.Frag) : Sp := fun vs H Q _ => ∃ (S : List Addr) (v : V) (r : Ru), vs = [v] ∧ Rv K S H v (ruD r) ∧ RuOk r ∧ ∀ L H', Stp [] H H' → H' L = some (.lst ((ruW r).map V.str)) → Q (.ref L) H'
theorem cl__law_rule_words {f : Addr} {fd : FuncData} (D : Df K mg "_law_rule_words" s__law_rule_words ["rule"] f fd) (T : Nm mg) : Cl P w K mg base 1 "_law_rule_words" s__law_rule_words ["rule"] (spRuW K) := by
  refine D.cl sc__law_rule_words (fun vs H Q E h => ?_) (fun cdv A outer s H vs Q E hr h => ?_)
  · obtain ⟨S, v, r, rfl, _⟩ := h
    rfl
  · obtain ⟨S, v, r, rfl, rv, ok, k⟩ := h
    refine ⟨_, (pss_cons (ps_set (i := 1) sc__law_rule_words.nd rfl (by first | exact Or.inl rfl | exact Or.inr rfl) (pe_lst (pa_cons (pe_ix ix_tup (pv 0) pe_int (fun _ _ => rfl)) (pa_cons (pe_callTy call_str_si (by rfl) T.n_str (by decide +kernel) (pa_cons (pe_ix ix_tup (pv 0) pe_int (fun _ _ => rfl)) pa_nil)) pa_nil))))
      (pss_one (ps_ret (pe_op op_cat (pv 1) (pe_ifExp (pt_cmpR (op_eqD hr.units) (pe_ix ix_tup (pv 0) pe_int (fun _ _ => rfl)) pe_str (by first | exact nomark _ | rfl)) (pe_lst (pa_cons pe_str pa_nil)) (pe_lst (pa_cons (pe_ix ix_tup (pe_ix ix_tup (pv 0) pe_int (fun _ _ => rfl)) pe_int (fun _ _ => rfl)) (pa_cons (pe_callTy call_str_int (by rfl) T.n_str (by decide +kernel) (pa_cons (pe_ix ix_tup (pe_ix ix_tup (pv 0) pe_int (fun _ _ => rfl)) pe_int (fun _ _ => rfl)) pa_nil)) pa_nil)))))))), ?_⟩
    have nn : ∀ {x : Addr}, x ∉ ([] : List Addr) := fun m => nomatch m
    obtain ⟨a, lo, hi⟩ := r
    cases rv with
    | tup hS hz rl =>
      rename_i p vs
      obtain ⟨va, vb, vc, rfl, ra, rb, rc⟩ := RvL.three rl
      obtain rfl : va = .str (lk a) := by
        have : V.str (tx (lk a).cps.toList) = V.str (lk a) := congrArg V.str (lit_tx _)
        cases ra
        exact this
      have low : (∃ z : Str, vb = .str z ∧ z = loS lo) ∨ ∃ n : Nat, vb = .int (n : Int) ∧ n ≤ 6 ∧ loS lo = toString (n : Int) := by
        cases lo with
        | none =>
          cases rb
          exact .inl ⟨_, rfl, lit_tx _⟩
        | some n =>
          cases rb
          exact .inr ⟨n, rfl, ok.low n rfl, rfl⟩
      refine txt_end (fun σ H' => ∃ q, σ = [some (.ref p), some (.ref q)] ∧ H' q = some (.lst [.str (lk a), .str (loS lo)]) ∧ Stp [] H H') ?_ (fun fin => ?_)
      rotate_left
      · refine ⟨_, rfl, p, _, 0, _, rfl, rfl, hS, at0, _, rfl, p, _, 1, vb, rfl, rfl, hS, at1, ?_⟩
        rcases low with ⟨z, rfl, rfl⟩ | ⟨n, rfl, n6, el⟩
        · exact .inl ⟨_, rfl, (by show 2 ≤ sizeLine; decide), fun q nq => fin _ _ ⟨q, rfl, upd_same, Stp.new nq _⟩⟩
        · exact .inr ⟨_, rfl, nat_log n6, (by show 2 ≤ sizeLine; decide), fun q nq => fin _ _ ⟨q, rfl, by rw [el]; exact upd_same, Stp.new nq _⟩⟩
      rintro σ H1 ⟨q, rfl, hq, S1⟩
      have hS1 := sqt_stp S1 Lsts.nil hS
      refine ⟨_, rfl, _, rfl, p, _, 2, vc, rfl, rfl, hS1, at2, ?_⟩
      cases hi with
      | none =>
        cases rc
        have e : Tx ("lost" : Str).cps.toList = .str "lost" := congrArg V.str (lit_tx _)
        rw [e]
        refine ⟨.str "lost", .str "lost", .str _, .str _, by decide +kernel, by decide +kernel, _, rfl, ite2 (fun _ => ?_) (fun h => absurd (by decide +kernel) h)⟩
        refine ⟨(by show 1 ≤ sizeLine; decide), fun q2 nq2 => ⟨q, q2, _, _, rfl, rfl, (Stp.new nq2 ([] : List Addr)).kp _ _ nn hq, upd_same, (by show 3 ≤ sizeLine; decide), fun L nL => ?_⟩⟩
        exact k L _ ((S1.new' nq2).new' nL) upd_same
      | some x =>
        obtain ⟨kk, n⟩ := x
        obtain ⟨k2, n6⟩ := ok.high kk n rfl
        cases rc with
        | tup hC hzc rlc =>
          rename_i pc vsc
          obtain ⟨vx, vy, rfl, rx, ry⟩ := RvL.two rlc
          obtain rfl : vx = .str (wy kk) := by
            have : V.str (tx (wy kk).cps.toList) = V.str (wy kk) := congrArg V.str (lit_tx _)
            cases rx
            exact this
          cases ry
          have lw : SeqAt.shaped (.tuple [.str (wy kk), .int n]) = true ∧ PyData.eqv (.tuple [.str (wy kk), .int n]) (.str "lost") = false := by
            have k : ∀ a ∈ [0, 1], ∀ b ∈ [0, 1, 2, 3, 4, 5, 6], SeqAt.shaped (.tuple [.str (wy a), .int ((b : Nat) : Int)]) = true ∧ PyData.eqv (.tuple [.str (wy a), .int ((b : Nat) : Int)]) (.str "lost") = false := by decide +kernel
            exact k kk (by simp; omega) n (by simp; omega)
          have hC1 := sqt_stp S1 Lsts.nil hC
          refine ⟨.tuple [.str (wy kk), .int n], .str "lost", .tup hC1 (.cons (.str _) (.cons (.int _) .nil)), .str _, lw.1, by decide +kernel, _, rfl, ite2 (fun h => absurd h (by rw [lw.2]; decide)) (fun _ => ?_)⟩
          refine ⟨_, rfl, p, _, 2, _, rfl, rfl, hS1, at2, pc, _, 0, _, rfl, rfl, hC1, at0, _, rfl, p, _, 2, _, rfl, rfl, hS1, at2, pc, _, 1, _, rfl, rfl, hC1, at1, _, rfl, nat_log n6, ?_⟩
          refine ⟨(by show 2 ≤ sizeLine; decide), fun q2 nq2 => ⟨q, q2, _, _, rfl, rfl, (Stp.new nq2 ([] : List Addr)).kp _ _ nn hq, upd_same, (by show 4 ≤ sizeLine; decide), fun L nL => ?_⟩⟩
          exact k L _ ((S1.new' nq2).new' nL) upd_same
theorem ne_repr {te1 te2 : TE} {σ : L2.St} {H : Hp} {d : D} {Q : Bool → Hp → Prop} (fd : d.Fine) (h1 : Pv.EvD K [] te1 σ H d) (h2 : Pv.EvD K [] te2 σ H d) (k : ∀ H', Stp [] H H' → Q false H') :
    tTest (tOp rNe (tCB (rReprD K) (tCons te1 tNil)) (tCB (rReprD K) (tCons te2 tNil))) σ H Q :=
  h1 H (Stp.refl _ _) _ fun v1 H1 s1 r1 => ⟨[], v1, d, rfl, r1, fd, h2 H1 s1 _ fun v2 H2 s2 r2 => ⟨[], v2, d, rfl, r2, fd, rfl, false, by rw [decide_eq_true (rfl : V.str d.told = V.str d.told)]; rfl, k H2 (s1.trans s2)⟩⟩
theorem EvD.call {sp : Sp} {i : Nat} {x : V} {σ : L2.St} {H : Hp} {d : D} (e : σ[i]? = some (some x)) (h : ∀ H1, Stp [] H H1 → ∀ Q : VK, (∀ v H2, Stp [] H1 H2 → Rv K [] H2 v d → Q v H2) → sp [x] H1 Q E0) : Pv.EvD K [] (tCl sp (tCons (tVar i) tNil)) σ H d := fun H1 s Q k => ⟨x, e, h H1 s Q k⟩
theorem tseq_if {t : TT} {a b u : TS} {D : Ends} {σ : L2.St} {H : Hp} (h : t σ H fun c H' => if c = true then a { D with nx := u D } σ H' else b { D with nx := u D } σ H') : tSeq (tIfS t a b) u D σ H := h
theorem tif {t : TT} {a b : TS} {D : Ends} {σ : L2.St} {H : Hp} (h : t σ H fun c H' => if c = true then a D σ H' else b D σ H') : tIfS t a b D σ H := h
theorem ru_sum {r : Ru} (h : RuOk r) : ((ruW r).map fun x => x.length).sum + (ruW r).length * (" " : Str).length ≤ 16777216 := by
  have k : ∀ a ∈ [0, 1, 2], ∀ lo ∈ lows, ∀ hi ∈ highs, ((ruW ⟨a, lo, hi⟩).map fun x => x.length).sum + (ruW ⟨a, lo, hi⟩).length * (" " : Str).length ≤ 16777216 := by decide +kernel
  obtain ⟨a, b, c⟩ := ru_in h
  exact k _ a _ b _ c
abbrev s_law : Stmt := topS 43
abbrev N_law : List Str := ["script", "cell", "hand", "query", "text", "rule", "due", "turn", "bad", "sort", "k"]
theorem sc_law : FnScope ["script", "cell", "hand", "query", "text", "rule", "due", "turn", "bad", "sort", "k"] ["script"] (defScope s_law) := ⟨rfl, rfl, rfl, by decide +kernel, rfl, by decide +kernel, by decide +kernel⟩

/-! ### the law -/
section
variable {H : Hp} {v : V} {d : Dt} {r : Ru} {t : Vl}
theorem h_w (r : Rp K H v d) (ok : ItOk d) : ∀ H1, Stp [] H H1 → ∀ Q : VK, (∀ v H2, Stp [] H1 H2 → Rv K [] H2 v (lnD d) → Q v H2) → spWF K 12 [v] H1 Q E0 := fun H1 s Q k => ⟨v, d, rfl, r.stp s Lsts.nil, ok.f.flt, by have := ok.dp; omega, by have := ok.few; omega, by have := ok.sum; omega, fun H' S' => k _ H' S' ok.rvl⟩
theorem h_wv (lg : LgV t) : ∀ H1, Stp [] H H1 → ∀ Q : VK, (∀ v H2, Stp [] H1 H2 → Rv K [] H2 v (wd (wV t)) → Q v H2) → spWV K [oV t] H1 Q E0 := fun H1 s Q k => ⟨t, rfl, lg, k _ H1 (Stp.refl _ _) (rv_str (fn_wV lg))⟩
theorem h_wr (rv : Rv K [] H v (ruD r)) (ok : RuOk r) : ∀ H1, Stp [] H H1 → ∀ Q : VK, (∀ v H2, Stp [] H1 H2 → Rv K [] H2 v (wd (ruL r)) → Q v H2) → spWR K [v] H1 Q E0 := fun H1 s Q k => ⟨[], v, r, rfl, rv.up s, ok, fun H' S' => k _ H' S' (rv_str (fn_ruL ok))⟩
end
def dueD (d : Dt) (l : Txt) (r : Ru) : D := .lst [lnD d, wd (wV (some l)), wd (ruL r)]
theorem due_fine {d : Dt} {l : Txt} {r : Ru} (ok : ItOk d) (lg : LgV (some l)) (okr : RuOk r) : (dueD d l r).Fine := by
  have x := ok.lfine
  have y := fn_wV lg
  have z := fn_ruL okr
  have x2 := x.deep
  have x3 := x.wt
  have y2 := y.dp
  have y3 := y.wt
  have z2 := z.dp
  have z3 := z.wt
  obtain ⟨a, b⟩ := ok.line
  have e : (lineS d).cps.toList.length = (lineS d).length := by simp [Str.length]
  have w : (lnD d).wt = 10 * (lineS d).cps.toList.length + 2 := rfl
  refine ⟨?_, ?_, ?_⟩
  · simp only [dueD, D.fair, D.fairs, x.fair, y.fr, z.fr, Bool.and_true]
  · have : (lnD d).deep = 0 := rfl
    simp only [dueD, D.deep, D.deeps]; omega
  · simp only [dueD, D.wt, D.wts]; omega
theorem dueE_at {i : Nat} (h : i < 3) : [decide (i = 0), decide (i = 1), decide (i = 2), false, true] = dueE i := rfl
def spLaw (K : PySem.W.Frag) : Sp := fun vs H Q _ => ∃ (a : Addr) (ns : List Int), vs = [.ref a] ∧ SqL K H a (ns.map V.int) ∧ ns.length ≤ 63 ∧ ∀ H', Q (.bl true) H'
theorem cl_law {f : Addr} {fd : FuncData} (Dh : Df K mg "law" s_law ["script"] f fd) (T : Nm mg) (c__law_hand : Cl P w K mg base 1 "_law_hand" s__law_hand ["cell"] spHand) (c__law_query : Cl P w K mg base 8 "_law_query" s__law_query ["hand", "pool", "room", "levels"] (spLQ K 5)) (c__law_text : Cl P w K mg base 2 "_law_text" s__law_text ["hand"] spText) (c__law_rule : Cl P w K mg base 2 "_law_rule" s__law_rule ["hand"] (spRule (K := K)))
    (c__law_words : Cl P w K mg base 13 "_law_words" s__law_words ["query"] (spFW K 12)) (c__law_word : Cl P w K mg base 1 "_law_word" s__law_word ["value"] spWd) (c__law_rule_words : Cl P w K mg base 1 "_law_rule_words" s__law_rule_words ["rule"] (spRuW K))
    (c_write_filter : Cl P w K mg base 50 "write_filter" s_write_filter ["query"] (spWF K 12)) (c_write_value : Cl P w K mg base 4 "write_value" s_write_value ["value"] (spWV K)) (c_write_rule : Cl P w K mg base 5 "write_rule" s_write_rule ["rule"] (spWR K))
    (c__law_bent : Cl P w K mg base 14 "_law_bent" s__law_bent ["hand", "query"] (spBent K 12)) (c__law_odd : Cl P w K mg base 2 "_law_odd" s__law_odd ["hand", "text"] (spOdd K)) (c__law_bent_rule : Cl P w K mg base 2 "_law_bent_rule" s__law_bent_rule ["hand", "rule"] (spBentR K))
    (c__law_error : Cl P w K mg base 50 "_law_error" s__law_error ["sort", "worth"] (spErr K 16)) : FnG P w K mg base 51 f fd ["script"] (spLaw K) := by
  refine Dh.g sc_law (fun vs H Q E h => ?_) (fun cdv A outer s H vs Q E hG hr h => ?_)
  · obtain ⟨a, ns, rfl, _⟩ := h
    rfl
  · obtain ⟨a, ns, rfl, hS, hlen, k⟩ := h
    refine ⟨_, (pss_cons (ps_for PassesOwn.never rfl (pi_list (pe_op Pv.op_catS (pe_lst (pa_cons pe_int pa_nil)) (pv 0))) (pg_name (i := 1) sc_law.nd rfl (by first | exact Or.inl rfl | exact Or.inr rfl)) (pss_cons (ps_set (i := 2) sc_law.nd rfl (by first | exact Or.inl rfl | exact Or.inr rfl) (pe_cl c__law_hand hr (by omega) (pa_cons (pv 1) pa_nil)))
      (pss_cons (ps_set (i := 3) sc_law.nd rfl (by first | exact Or.inl rfl | exact Or.inr rfl) (pe_cl c__law_query hr (by omega) (pa_cons (pv 2) (pa_cons (pe_lst pa_nil) (pa_cons (pe_lst (pa_cons pe_int (pa_cons pe_int pa_nil))) (pa_cons pe_int pa_nil))))))
      (pss_cons (ps_set (i := 4) sc_law.nd rfl (by first | exact Or.inl rfl | exact Or.inr rfl) (pe_cl c__law_text hr (by omega) (pa_cons (pv 2) pa_nil)))
      (pss_cons (ps_set (i := 5) sc_law.nd rfl (by first | exact Or.inl rfl | exact Or.inr rfl) (pe_cl c__law_rule hr (by omega) (pa_cons (pv 2) pa_nil)))
      (pss_cons (ps_set (i := 6) sc_law.nd rfl (by first | exact Or.inl rfl | exact Or.inr rfl) (pe_lst (pa_cons (pe_join pe_str (pe_cl c__law_words hr (by omega) (pa_cons (pv 3) pa_nil))) (pa_cons (pe_cl c__law_word hr (by omega) (pa_cons (pv 4) pa_nil)) (pa_cons (pe_join pe_str (pe_cl c__law_rule_words hr (by omega) (pa_cons (pv 5) pa_nil))) pa_nil)))))
      (pss_one (ps_for PassesOwn.never rfl (pi_range1 (by rfl) T.n_range (pa_cons pe_int pa_nil)) (pg_name (i := 7) sc_law.nd rfl (by first | exact Or.inl rfl | exact Or.inr rfl)) (pss_cons (ps_if (pt_cmpR op_ne (pe_callB (Pv.call_reprD hG hr) (by rfl) T.n_repr (by decide +kernel) (pa_cons (pe_lst (pa_cons (pe_cl c_write_filter hr (by omega) (pa_cons (pv 3) pa_nil)) (pa_cons (pe_cl c_write_value hr (by omega) (pa_cons (pv 4) pa_nil)) (pa_cons (pe_cl c_write_rule hr (by omega) (pa_cons (pv 5) pa_nil)) pa_nil)))) pa_nil)) (pe_callB (Pv.call_reprD hG hr) (by rfl) T.n_repr (by decide +kernel) (pa_cons (pv 6) pa_nil)) (by first | exact nomark _ | rfl)) (pss_one (ps_ret pe_bl)) pss_nil)
      (pss_cons (ps_set (i := 8) sc_law.nd rfl (by first | exact Or.inl rfl | exact Or.inr rfl) (pe_lst (pa_cons (pe_cl c__law_bent hr (by omega) (pa_cons (pv 2) (pa_cons (pv 3) pa_nil))) (pa_cons (pe_cl c__law_odd hr (by omega) (pa_cons (pv 2) (pa_cons (pv 4) pa_nil))) (pa_cons (pe_cl c__law_bent_rule hr (by omega) (pa_cons (pv 2) (pa_cons (pv 5) pa_nil))) pa_nil)))))
      (pss_one (ps_for PassesOwn.never rfl (pi_range1 (by rfl) T.n_range (pa_cons pe_int pa_nil)) (pg_name (i := 9) sc_law.nd rfl (by first | exact Or.inl rfl | exact Or.inr rfl)) (pss_one (ps_if (pt_cmpR (op_neD hr.units) (pe_cl c__law_error hr (by omega) (pa_cons (pv 9) (pa_cons (pe_ix ix_list (pv 8) (pv 9) (fun _ _ => rfl)) pa_nil))) (pe_op op_cat (pe_lc (own := [("k", 10)]) rfl sc_law.nd (pi_range1 (by rfl) T.n_range (pa_cons pe_int pa_nil)) (blkOk_by (own := [("k", 10)]) (N := N_law) (sc := defScope s_law) (by decide +kernel)) (fun _ _ _ _ _ => (pg_name (i := 10) sc_law.nd rfl (by first | exact Or.inl rfl | exact Or.inr rfl))) (fun _ _ _ _ _ => pts_nil) (fun _ _ _ _ _ => (pe_cmpR op_eq (pv 10) (pv 9) (by first | exact nomark _ | rfl)))) (pe_lst (pa_cons pe_bl (pa_cons pe_bl pa_nil)))) (by first | exact nomark _ | rfl)) (pss_one (ps_ret pe_bl)) pss_nil))))))))))))))
      (pss_one (ps_ret pe_bl))), ?_⟩
    have nn : ∀ {x : Addr}, x ∉ ([] : List Addr) := fun m => nomatch m
    refine txt_end (fun σ H' => ∃ (x1 x2 x3 x4 x5 x6 x7 x8 x9 x10 : Option V), σ = [some (.ref a), x1, x2, x3, x4, x5, x6, x7, x8, x9, x10]) ?_ (fun fin => ?_)
    · rintro σ H' ⟨x1, x2, x3, x4, x5, x6, x7, x8, x9, x10, rfl⟩
      exact k H'
    refine ⟨(by show 1 ≤ sizeLine; decide), fun q nq => ?_⟩
    have Sq : Stp [] H (upd H q (.lst [.int 15])) := Stp.new nq _
    have hq : (upd H q (.lst [.int 15])) q = some (.lst [.int 15]) := upd_same
    have hS2 := sql_up Sq hS
    generalize upd H q (.lst [.int 15]) = H2 at *
    refine ⟨_, rfl, q, a, _, _, rfl, rfl, SqL.of hq, hS2, by rw [List.length_map]; exact sm (by simp; omega), fun C nC => ?_⟩
    obtain ⟨cs, ecs, lcs⟩ : ∃ cs : List Int, [V.int 15] ++ ns.map V.int = cs.map V.int ∧ cs.length ≤ 64 := ⟨15 :: ns, rfl, by simp; omega⟩
    have hC : (upd H2 C (.lst ([.int 15] ++ ns.map V.int))) C = some (.lst (cs.map V.int)) := by rw [ecs]; exact upd_same
    generalize upd H2 C (.lst ([.int 15] ++ ns.map V.int)) = H3 at *
    refine ⟨C, rfl, ⟨_, SqL.of hC⟩, for_list (K := K) (a := C) (xs := cs.map V.int) (fun i σ H' => ∃ (x1 x2 x3 x4 x5 x6 x7 x8 x9 x10 : Option V), σ = [some (.ref a), x1, x2, x3, x4, x5, x6, x7, x8, x9, x10] ∧ H' C = some (.lst (cs.map V.int)))
      ⟨none, none, none, none, none, none, none, none, none, none, rfl, hC⟩ (fun i σ H' _ ⟨_, _, _, _, _, _, _, _, _, _, _, h⟩ => SqL.of h) ?_ (fun σ H' ⟨x1, x2, x3, x4, x5, x6, x7, x8, x9, x10, e, _⟩ => fin _ _ ⟨x1, x2, x3, x4, x5, x6, x7, x8, x9, x10, e⟩)⟩
    rintro i y σ H4 hi ⟨x1, x2, x3, x4, x5, x6, x7, x8, x9, x10, rfl, hC4⟩
    obtain ⟨c, rfl⟩ : ∃ c, y = V.int c := by
      rw [List.getElem?_map] at hi
      cases e : cs[i]? with
      | none =>
        rw [e] at hi
        cases hi
      | some u =>
        rw [e] at hi
        exact ⟨u, (Option.some.inj hi).symm⟩
    -- hand
    refine ⟨_, rfl, c, rfl, fun b H5 nb S5 B5 => ?_⟩
    have bC := ne_of_none hC4 nb
    have one : b ∈ [b] := List.mem_singleton.mpr rfl
    dsimp only [gName]
    -- query
    refine ⟨_, rfl, by show 0 ≤ sizeLine; decide, fun p np => ?_⟩
    have S6 : Stp [] H5 (upd H5 p (.lst [])) := Stp.new np _
    have bp : b ≠ p := B5.ne np
    have B6 := B5.upd (o := .lst []) bp
    have hp : (upd H5 p (.lst [])) p = some (.lst []) := upd_same
    have hC6 := S6.kp _ _ nn (S5.kp _ _ nn hC4)
    have pC := ne_of_none (S5.kp _ _ nn hC4) np
    generalize upd H5 p (.lst []) = H6 at *
    refine ⟨by show 2 ≤ sizeLine; decide, fun z nz => ?_⟩
    have S7 : Stp [] H6 (upd H6 z (.lst [.int 12, .int 8])) := Stp.new nz _
    have bz : b ≠ z := B6.ne nz
    have pz : p ≠ z := ne_of_none hp nz
    have B7 := B6.upd (o := .lst [.int 12, .int 8]) bz
    have hz7 : (upd H6 z (.lst [.int 12, .int 8])) z = some (.lst [.int 12, .int 8]) := upd_same
    have hp7 := S7.kp _ _ nn hp
    have hC7 := S7.kp _ _ nn hC6
    have zC := ne_of_none hC6 nz
    generalize upd H6 z (.lst [.int 12, .int 8]) = H7 at *
    have oC : C ∉ [b, p, z] := fun m => by
      simp at m
      rcases m with e | e | e
      · exact bC e
      · exact pC e
      · exact zC e
    refine ⟨b, p, z, 0, 12, 8, [], rfl, ⟨B7, hp7, (fun _ m => by cases m), hz7, bp, bz, pz⟩, by decide, by decide, by decide, by decide, by decide, by decide, by decide, fun v d H8 n' x' y' ls' S8 Q8 le8 _ _ _ rp fd dd fw3 => ?_⟩
    have ok : ItOk d := ⟨fd, by omega, by have := fw3 12 (by omega); omega⟩
    have lt : d.dep < 12 := by omega
    have hC8 := S8.kp _ _ oC hC7
    have B8 := Q8.B
    dsimp only [gName]
    -- text
    refine ⟨_, rfl, b, n', rfl, B8, by omega, fun l H9 al ll S9 B9 => ?_⟩
    have rp9 := rp.stp S9 (Pv.bag_ls B8)
    have lg : LgV (some l) := fun l' e => by
      cases e
      exact ⟨al, by omega⟩
    dsimp only [gName]
    -- rule
    refine ⟨_, rfl, b, _, rfl, B9, by omega, fun vr r HA SA BA okr rv => ?_⟩
    have rpA := rp9.stp SA (Pv.bag_ls B9)
    have bCm : C ∉ [b] := fun m => bC (List.mem_singleton.mp m)
    have hCA := SA.kp _ _ bCm (S9.kp _ _ bCm hC8)
    dsimp only [gName]
    -- due
    refine ⟨⟨_, rfl⟩, _, rfl, v, d, rfl, rpA, fd.flt, lt, by have := ok.few; omega, fun W HB nW SB hW => ?_⟩
    have sm1 := ok.sum
    have fw1 := ok.few
    have sp1 : (" " : Str).length = 1 := by decide +kernel
    refine ⟨_, W, fw 12 d, rfl, rfl, .inl (SqL.of hW), by rw [sp1]; omega, ?_⟩
    rw [show Txt.join " " (fw 12 d) = lineS d from rfl]
    refine ⟨_, rfl, l, rfl, ⟨_, rfl⟩, _, rfl, [], vr, r, rfl, rv.up SB, okr, fun W2 HC2 SC hW2 => ?_⟩
    refine ⟨_, W2, ruW r, rfl, rfl, .inl (SqL.of hW2), ru_sum okr, (by show 3 ≤ sizeLine; decide), fun Du nDu => ?_⟩
    rw [show Txt.join " " (ruW r) = ruL r from rfl]
    have SD : Stp [] HC2 (upd HC2 Du (.lst [.str (lineS d), .str (wdS l), .str (ruL r)])) := Stp.new nDu _
    have hDu : (upd HC2 Du (.lst [.str (lineS d), .str (wdS l), .str (ruL r)])) Du = some (.lst [.str (lineS d), .str (wdS l), .str (ruL r)]) := upd_same
    have SAD := (SB.trans SC).trans SD
    have rpD := rpA.stp SAD Lsts.nil
    have rvD := rv.up SAD
    have BD := BA.kp SAD nn
    have hCD := SAD.kp _ _ nn hCA
    have nDb : Du ∉ [b] := fun m => ((BA.kp (SB.trans SC) nn).ne nDu) (List.mem_singleton.mp m).symm
    generalize upd HC2 Du (.lst [.str (lineS d), .str (wdS l), .str (ruL r)]) = HD at *
    have rdue : ∀ {H' : Hp}, H' Du = some (.lst [.str (lineS d), .str (wdS l), .str (ruL r)]) → Rv K [] H' (.ref Du) (dueD d l r) := fun {H'} h =>
      .lst h nn (by simp) (.cons ok.rvl (.cons (rv_str (fn_wV lg)) (.cons (rv_str (fn_ruL okr)) .nil)))
    have fine := due_fine ok lg okr
    dsimp only [gName]
    -- twice
    refine ⟨2, rfl, by decide, by decide, for_range (lo := 0) (n := 2) (fun i σ H' => ∃ (x7 x8 x9 x10 : Option V), σ = [some (.ref a), some (.int c), some (.ref b), some v, some (Tx l), some vr, some (.ref Du), x7, x8, x9, x10] ∧ Stp [b] HD H' ∧ Bag H' b (1000 + 1000 * i))
      ⟨_, _, _, _, rfl, Stp.refl _ _, BD.mono (by omega)⟩ ?_ (fun σ H' ⟨x7, x8, x9, x10, e, S, _⟩ => ⟨_, _, _, _, _, _, _, _, _, _, e, S.kp _ _ bCm hCD⟩)⟩
    rintro j σ HE hj ⟨x7, x8, x9, x10, rfl, SE, BE⟩
    have rpE := rpD.stp SE (Pv.bag_ls BD)
    have rvE : Rv K [] HE vr (ruD r) := rv_draw rvD (noL_ru r) SE BD
    have hDuE := SE.kp _ _ nDb hDu
    dsimp only [gName]
    refine tseq_if (ne_repr (d := dueD d l r) fine (.lst Lsts.nil (.cons (EvD.call rfl (h_w rpE ok)) (.cons (EvD.call (x := Tx l) rfl (h_wv (t := some l) lg)) (.cons (EvD.call rfl (h_wr rvE okr)) .nil))) (by simp)) (.var (rdue hDuE)) fun HF SF => ite2 (fun h => nomatch h) (fun _ => ?_))
    dsimp only [tNext]
    have rpF := rpE.stp SF Lsts.nil
    have BF := BE.kp SF nn
    -- bad
    refine ⟨_, rfl, _, rfl, b, _, v, d, rfl, lt, by omega, BF, by omega, rpF, fd, fun v1 HG d1 rp1 no1 dp1 SG BG => ?_⟩
    have dB : 50 * (d.dep + 1) ≤ 550 := by omega
    refine ⟨_, rfl, _, rfl, b, _, l, rfl, BG, by omega, ll, fun v2 HH d2 rp2 no2 SH BH => ?_⟩
    have rvH : Rv K [b] HH vr (ruD r) := (Rv.free (S := []) (S' := [b]) (rv_draw (S' := []) (rv_draw (S' := []) (rvE.up SF) (noL_ru r) SG BF) (noL_ru r) SH BG) (noL_ru r))
    refine ⟨_, rfl, _, rfl, b, _, vr, r, rfl, BH, by omega, rvH, fun v3 d3 HI rv3 no3 SI BI => ?_⟩
    have rp1' := (rp1.stp SH (Pv.bag_ls BG)).stp SI (Pv.bag_ls BH)
    have rp2' := rp2.stp SI (Pv.bag_ls BH)
    refine ⟨(by show 3 ≤ sizeLine; decide), fun G nG => ?_⟩
    have SJ : Stp [] HI (upd HI G (.lst [v1, v2, v3])) := Stp.new nG _
    have hG : (upd HI G (.lst [v1, v2, v3])) G = some (.lst [v1, v2, v3]) := upd_same
    have bad1 := rp1'.stp SJ Lsts.nil
    have bad2 := rp2'.stp SJ Lsts.nil
    have bad3 := rv3.up SJ
    have SEJ := (((SF.nil (S := [b])).trans SG).trans SH).trans (SI.trans SJ.nil)
    have BJ := BI.kp SJ nn
    generalize upd HI G (.lst [v1, v2, v3]) = HJ at *
    dsimp only [gName]
    have badN : ∀ i : Nat, i < 3 → ∃ vi, atI [v1, v2, v3] (i : Int) = some vi ∧ ∀ H', Stp [] HJ H' → BadAt K 16 H' vi i := fun i hi => by
      match i, hi with
      | 0, _ => exact ⟨v1, atI_nat (j := 0) rfl, fun H' S' => ⟨d1, bad1.stp S' Lsts.nil, by omega, no1⟩⟩
      | 1, _ => exact ⟨v2, atI_nat (j := 1) rfl, fun H' S' => ⟨d2, bad2.stp S' Lsts.nil, no2.1, no2.2.1⟩⟩
      | 2, _ => exact ⟨v3, atI_nat (j := 2) rfl, fun H' S' => ⟨[b], d3, bad3.up S', no3⟩⟩
    refine ⟨3, rfl, by decide, by decide, for_range (lo := 0) (n := 3) (fun i σ H' => ∃ (x7 x9 x10 : Option V), σ = [some (.ref a), some (.int c), some (.ref b), some v, some (Tx l), some vr, some (.ref Du), x7, some (.ref G), x9, x10] ∧ Stp [] HJ H')
      ⟨_, _, _, rfl, Stp.refl _ _⟩ ?_ (fun σ H' ⟨x7, x9, x10, e, S⟩ => ?_)⟩
    rotate_left
    · exact ⟨_, _, _, _, e, SE.trans (SEJ.trans S.nil), (BJ.kp S nn).mono (by omega)⟩
    rintro i σ HK hi ⟨x7, x9, x10, rfl, SK⟩
    have hi3 : i < 3 := hi
    dsimp only [gName]
    rw [Int.zero_add]
    obtain ⟨vi, ei, bi⟩ := badN i hi3
    refine tif ?_
    refine ⟨_, rfl, _, rfl, _, rfl, G, _, (i : Int), vi, rfl, rfl, SqL.of (SK.kp _ _ nn hG), ei, i, vi, rfl, bi HK SK, fun L HL SL hL => ?_⟩
    refine ⟨3, rfl, by decide, by decide, fun M nM => ?_⟩
    have LM : L ≠ M := ne_of_none hL nM
    refine lc_range (lo := 0) (n := 3) (fun k H' => H' M = some (.lst ((List.range k).map fun m : Nat => V.bl (decide (V.int (0 + (m : Int)) = V.int (i : Int))))) ∧ Stp [] HL H') ⟨upd_same, Stp.new nM _⟩ ?_ ?_
    · rintro m H' hm ⟨hM, S'⟩
      refine ⟨rfl, _, rfl, _, rfl, rfl, _, hM, ?_, ?_, S'.mut nM⟩
      · rw [List.length_map, List.length_range]
        exact Nat.lt_of_lt_of_le (show m < 100000 by omega) (by decide)
      · rw [upd_same, List.range_succ, List.map_append]
        rfl
    rintro HM ⟨hM, SM⟩
    refine ⟨(by show 2 ≤ sizeLine; decide), fun q2 nq2 => ?_⟩
    have SN : Stp [] HM (upd HM q2 (.lst [.bl false, .bl true])) := Stp.new nq2 _
    refine ⟨M, q2, _, _, rfl, rfl, SN.kp _ _ nn hM, upd_same, (by show 3 + 2 ≤ sizeLine; decide), fun N nN => ?_⟩
    have SO := SN.new' (o := .lst (((List.range 3).map fun m : Nat => V.bl (decide (V.int (0 + (m : Int)) = V.int (i : Int)))) ++ [.bl false, .bl true])) nN
    have eN : ((List.range 3).map fun m : Nat => V.bl (decide (V.int (0 + (m : Int)) = V.int (i : Int)))) ++ [.bl false, .bl true] = (dueE i).map V.bl := by
      rcases (by omega : i = 0 ∨ i = 1 ∨ i = 2) with rfl | rfl | rfl <;> rfl
    refine Pv.ne_bools (bs := dueE i) (SqL.of ((SM.trans SO).kp _ _ nn hL)) (SqL.of ?_) ⟨_, rfl, ite2 (fun h => nomatch h) (fun _ => ?_)⟩
    · rw [← eN]
      exact upd_same
    exact ⟨_, _, _, rfl, SK.trans (SL.trans (SM.trans SO))⟩
/-! ### what the top has written, the head -/
theorem all_mk {l : PySem.W.OpenLaw} {w : World} {K : PySem.W.Frag} {h : Heap} {mg : Str → Option Value} {fa : Addr} (X : K.In h) (G : h.Ns mainGlobals mg) (hfa : mg "law" = some (.ref fa))
    {f0 : Addr} {od0 an0 : Option Addr} {sl0 : Array (Option Value)} {oc0 kV0 dc0 pm0 cd0 ct0 : Value}
    (a0 : PySem.W.nsIn K mainGlobals "is_text" = some (some (.ref f0))) (l0 : K.lookup f0 = some ⟨oc0, od0, .func (PySem.W.fnOf "is_text" "is_text" (defArgs s_is_text) (defBody s_is_text) (defScope s_is_text) .none kV0 dc0 pm0 an0 cd0 ct0), sl0⟩) (c0 : PySem.W.codeIn K cd0 "is_text" = true) (k0 : PySem.W.keepIn K (.ref f0) = true)
    {f1 : Addr} {od1 an1 : Option Addr} {sl1 : Array (Option Value)} {oc1 kV1 dc1 pm1 cd1 ct1 : Value}
    (a1 : PySem.W.nsIn K mainGlobals "is_value" = some (some (.ref f1))) (l1 : K.lookup f1 = some ⟨oc1, od1, .func (PySem.W.fnOf "is_value" "is_value" (defArgs s_is_value) (defBody s_is_value) (defScope s_is_value) .none kV1 dc1 pm1 an1 cd1 ct1), sl1⟩) (c1 : PySem.W.codeIn K cd1 "is_value" = true) (k1 : PySem.W.keepIn K (.ref f1) = true)
    {f2 : Addr} {od2 an2 : Option Addr} {sl2 : Array (Option Value)} {oc2 kV2 dc2 pm2 cd2 ct2 : Value}
    (a2 : PySem.W.nsIn K mainGlobals "is_filter" = some (some (.ref f2))) (l2 : K.lookup f2 = some ⟨oc2, od2, .func (PySem.W.fnOf "is_filter" "is_filter" (defArgs s_is_filter) (defBody s_is_filter) (defScope s_is_filter) .none kV2 dc2 pm2 an2 cd2 ct2), sl2⟩) (c2 : PySem.W.codeIn K cd2 "is_filter" = true) (k2 : PySem.W.keepIn K (.ref f2) = true)
    {f3 : Addr} {od3 an3 : Option Addr} {sl3 : Array (Option Value)} {oc3 kV3 dc3 pm3 cd3 ct3 : Value}
    (a3 : PySem.W.nsIn K mainGlobals "can_follow" = some (some (.ref f3))) (l3 : K.lookup f3 = some ⟨oc3, od3, .func (PySem.W.fnOf "can_follow" "can_follow" (defArgs s_can_follow) (defBody s_can_follow) (defScope s_can_follow) .none kV3 dc3 pm3 an3 cd3 ct3), sl3⟩) (c3 : PySem.W.codeIn K cd3 "can_follow" = true) (k3 : PySem.W.keepIn K (.ref f3) = true)
    {f4 : Addr} {od4 an4 : Option Addr} {sl4 : Array (Option Value)} {oc4 kV4 dc4 pm4 cd4 ct4 : Value}
    (a4 : PySem.W.nsIn K mainGlobals "check_value" = some (some (.ref f4))) (l4 : K.lookup f4 = some ⟨oc4, od4, .func (PySem.W.fnOf "check_value" "check_value" (defArgs s_check_value) (defBody s_check_value) (defScope s_check_value) .none kV4 dc4 pm4 an4 cd4 ct4), sl4⟩) (c4 : PySem.W.codeIn K cd4 "check_value" = true) (k4 : PySem.W.keepIn K (.ref f4) = true)
    {f5 : Addr} {od5 an5 : Option Addr} {sl5 : Array (Option Value)} {oc5 kV5 dc5 pm5 cd5 ct5 : Value}
    (a5 : PySem.W.nsIn K mainGlobals "check_filter" = some (some (.ref f5))) (l5 : K.lookup f5 = some ⟨oc5, od5, .func (PySem.W.fnOf "check_filter" "check_filter" (defArgs s_check_filter) (defBody s_check_filter) (defScope s_check_filter) .none kV5 dc5 pm5 an5 cd5 ct5), sl5⟩) (c5 : PySem.W.codeIn K cd5 "check_filter" = true) (k5 : PySem.W.keepIn K (.ref f5) = true)
    {f6 : Addr} {od6 an6 : Option Addr} {sl6 : Array (Option Value)} {oc6 kV6 dc6 pm6 cd6 ct6 : Value}
    (a6 : PySem.W.nsIn K mainGlobals "is_rule" = some (some (.ref f6))) (l6 : K.lookup f6 = some ⟨oc6, od6, .func (PySem.W.fnOf "is_rule" "is_rule" (defArgs s_is_rule) (defBody s_is_rule) (defScope s_is_rule) .none kV6 dc6 pm6 an6 cd6 ct6), sl6⟩) (c6 : PySem.W.codeIn K cd6 "is_rule" = true) (k6 : PySem.W.keepIn K (.ref f6) = true)
    {f7 : Addr} {od7 an7 : Option Addr} {sl7 : Array (Option Value)} {oc7 kV7 dc7 pm7 cd7 ct7 : Value}
    (a7 : PySem.W.nsIn K mainGlobals "is_lacks_part" = some (some (.ref f7))) (l7 : K.lookup f7 = some ⟨oc7, od7, .func (PySem.W.fnOf "is_lacks_part" "is_lacks_part" (defArgs s_is_lacks_part) (defBody s_is_lacks_part) (defScope s_is_lacks_part) .none kV7 dc7 pm7 an7 cd7 ct7), sl7⟩) (c7 : PySem.W.codeIn K cd7 "is_lacks_part" = true) (k7 : PySem.W.keepIn K (.ref f7) = true)
    {f8 : Addr} {od8 an8 : Option Addr} {sl8 : Array (Option Value)} {oc8 kV8 dc8 pm8 cd8 ct8 : Value}
    (a8 : PySem.W.nsIn K mainGlobals "is_low_part" = some (some (.ref f8))) (l8 : K.lookup f8 = some ⟨oc8, od8, .func (PySem.W.fnOf "is_low_part" "is_low_part" (defArgs s_is_low_part) (defBody s_is_low_part) (defScope s_is_low_part) .none kV8 dc8 pm8 an8 cd8 ct8), sl8⟩) (c8 : PySem.W.codeIn K cd8 "is_low_part" = true) (k8 : PySem.W.keepIn K (.ref f8) = true)
    {f9 : Addr} {od9 an9 : Option Addr} {sl9 : Array (Option Value)} {oc9 kV9 dc9 pm9 cd9 ct9 : Value}
    (a9 : PySem.W.nsIn K mainGlobals "is_high_part" = some (some (.ref f9))) (l9 : K.lookup f9 = some ⟨oc9, od9, .func (PySem.W.fnOf "is_high_part" "is_high_part" (defArgs s_is_high_part) (defBody s_is_high_part) (defScope s_is_high_part) .none kV9 dc9 pm9 an9 cd9 ct9), sl9⟩) (c9 : PySem.W.codeIn K cd9 "is_high_part" = true) (k9 : PySem.W.keepIn K (.ref f9) = true)
    {f10 : Addr} {od10 an10 : Option Addr} {sl10 : Array (Option Value)} {oc10 kV10 dc10 pm10 cd10 ct10 : Value}
    (a10 : PySem.W.nsIn K mainGlobals "is_lost" = some (some (.ref f10))) (l10 : K.lookup f10 = some ⟨oc10, od10, .func (PySem.W.fnOf "is_lost" "is_lost" (defArgs s_is_lost) (defBody s_is_lost) (defScope s_is_lost) .none kV10 dc10 pm10 an10 cd10 ct10), sl10⟩) (c10 : PySem.W.codeIn K cd10 "is_lost" = true) (k10 : PySem.W.keepIn K (.ref f10) = true)
    {f11 : Addr} {od11 an11 : Option Addr} {sl11 : Array (Option Value)} {oc11 kV11 dc11 pm11 cd11 ct11 : Value}
    (a11 : PySem.W.nsIn K mainGlobals "is_letter_number" = some (some (.ref f11))) (l11 : K.lookup f11 = some ⟨oc11, od11, .func (PySem.W.fnOf "is_letter_number" "is_letter_number" (defArgs s_is_letter_number) (defBody s_is_letter_number) (defScope s_is_letter_number) .none kV11 dc11 pm11 an11 cd11 ct11), sl11⟩) (c11 : PySem.W.codeIn K cd11 "is_letter_number" = true) (k11 : PySem.W.keepIn K (.ref f11) = true)
    {f12 : Addr} {od12 an12 : Option Addr} {sl12 : Array (Option Value)} {oc12 kV12 dc12 pm12 cd12 ct12 : Value}
    (a12 : PySem.W.nsIn K mainGlobals "check_rule" = some (some (.ref f12))) (l12 : K.lookup f12 = some ⟨oc12, od12, .func (PySem.W.fnOf "check_rule" "check_rule" (defArgs s_check_rule) (defBody s_check_rule) (defScope s_check_rule) .none kV12 dc12 pm12 an12 cd12 ct12), sl12⟩) (c12 : PySem.W.codeIn K cd12 "check_rule" = true) (k12 : PySem.W.keepIn K (.ref f12) = true)
    {f13 : Addr} {od13 an13 : Option Addr} {sl13 : Array (Option Value)} {oc13 kV13 dc13 pm13 cd13 ct13 : Value}
    (a13 : PySem.W.nsIn K mainGlobals "write_filter" = some (some (.ref f13))) (l13 : K.lookup f13 = some ⟨oc13, od13, .func (PySem.W.fnOf "write_filter" "write_filter" (defArgs s_write_filter) (defBody s_write_filter) (defScope s_write_filter) .none kV13 dc13 pm13 an13 cd13 ct13), sl13⟩) (c13 : PySem.W.codeIn K cd13 "write_filter" = true) (k13 : PySem.W.keepIn K (.ref f13) = true)
    {f14 : Addr} {od14 an14 : Option Addr} {sl14 : Array (Option Value)} {oc14 kV14 dc14 pm14 cd14 ct14 : Value}
    (a14 : PySem.W.nsIn K mainGlobals "filter_words" = some (some (.ref f14))) (l14 : K.lookup f14 = some ⟨oc14, od14, .func (PySem.W.fnOf "filter_words" "filter_words" (defArgs s_filter_words) (defBody s_filter_words) (defScope s_filter_words) .none kV14 dc14 pm14 an14 cd14 ct14), sl14⟩) (c14 : PySem.W.codeIn K cd14 "filter_words" = true) (k14 : PySem.W.keepIn K (.ref f14) = true)
    {f15 : Addr} {od15 an15 : Option Addr} {sl15 : Array (Option Value)} {oc15 kV15 dc15 pm15 cd15 ct15 : Value}
    (a15 : PySem.W.nsIn K mainGlobals "text_word" = some (some (.ref f15))) (l15 : K.lookup f15 = some ⟨oc15, od15, .func (PySem.W.fnOf "text_word" "text_word" (defArgs s_text_word) (defBody s_text_word) (defScope s_text_word) .none kV15 dc15 pm15 an15 cd15 ct15), sl15⟩) (c15 : PySem.W.codeIn K cd15 "text_word" = true) (k15 : PySem.W.keepIn K (.ref f15) = true)
    {f16 : Addr} {od16 an16 : Option Addr} {sl16 : Array (Option Value)} {oc16 kV16 dc16 pm16 cd16 ct16 : Value}
    (a16 : PySem.W.nsIn K mainGlobals "write_value" = some (some (.ref f16))) (l16 : K.lookup f16 = some ⟨oc16, od16, .func (PySem.W.fnOf "write_value" "write_value" (defArgs s_write_value) (defBody s_write_value) (defScope s_write_value) .none kV16 dc16 pm16 an16 cd16 ct16), sl16⟩) (c16 : PySem.W.codeIn K cd16 "write_value" = true) (k16 : PySem.W.keepIn K (.ref f16) = true)
    {f17 : Addr} {od17 an17 : Option Addr} {sl17 : Array (Option Value)} {oc17 kV17 dc17 pm17 cd17 ct17 : Value}
    (a17 : PySem.W.nsIn K mainGlobals "write_rule" = some (some (.ref f17))) (l17 : K.lookup f17 = some ⟨oc17, od17, .func (PySem.W.fnOf "write_rule" "write_rule" (defArgs s_write_rule) (defBody s_write_rule) (defScope s_write_rule) .none kV17 dc17 pm17 an17 cd17 ct17), sl17⟩) (c17 : PySem.W.codeIn K cd17 "write_rule" = true) (k17 : PySem.W.keepIn K (.ref f17) = true)
    {f18 : Addr} {od18 an18 : Option Addr} {sl18 : Array (Option Value)} {oc18 kV18 dc18 pm18 cd18 ct18 : Value}
    (a18 : PySem.W.nsIn K mainGlobals "_law_hand" = some (some (.ref f18))) (l18 : K.lookup f18 = some ⟨oc18, od18, .func (PySem.W.fnOf "_law_hand" "_law_hand" (defArgs s__law_hand) (defBody s__law_hand) (defScope s__law_hand) .none kV18 dc18 pm18 an18 cd18 ct18), sl18⟩) (c18 : PySem.W.codeIn K cd18 "_law_hand" = true) (k18 : PySem.W.keepIn K (.ref f18) = true)
    {f19 : Addr} {od19 an19 : Option Addr} {sl19 : Array (Option Value)} {oc19 kV19 dc19 pm19 cd19 ct19 : Value}
    (a19 : PySem.W.nsIn K mainGlobals "_law_pick" = some (some (.ref f19))) (l19 : K.lookup f19 = some ⟨oc19, od19, .func (PySem.W.fnOf "_law_pick" "_law_pick" (defArgs s__law_pick) (defBody s__law_pick) (defScope s__law_pick) .none kV19 dc19 pm19 an19 cd19 ct19), sl19⟩) (c19 : PySem.W.codeIn K cd19 "_law_pick" = true) (k19 : PySem.W.keepIn K (.ref f19) = true)
    {f20 : Addr} {od20 an20 : Option Addr} {sl20 : Array (Option Value)} {oc20 kV20 dc20 pm20 cd20 ct20 : Value}
    (a20 : PySem.W.nsIn K mainGlobals "_law_text" = some (some (.ref f20))) (l20 : K.lookup f20 = some ⟨oc20, od20, .func (PySem.W.fnOf "_law_text" "_law_text" (defArgs s__law_text) (defBody s__law_text) (defScope s__law_text) .none kV20 dc20 pm20 an20 cd20 ct20), sl20⟩) (c20 : PySem.W.codeIn K cd20 "_law_text" = true) (k20 : PySem.W.keepIn K (.ref f20) = true)
    {f21 : Addr} {od21 an21 : Option Addr} {sl21 : Array (Option Value)} {oc21 kV21 dc21 pm21 cd21 ct21 : Value}
    (a21 : PySem.W.nsIn K mainGlobals "_law_near" = some (some (.ref f21))) (l21 : K.lookup f21 = some ⟨oc21, od21, .func (PySem.W.fnOf "_law_near" "_law_near" (defArgs s__law_near) (defBody s__law_near) (defScope s__law_near) .none kV21 dc21 pm21 an21 cd21 ct21), sl21⟩) (c21 : PySem.W.codeIn K cd21 "_law_near" = true) (k21 : PySem.W.keepIn K (.ref f21) = true)
    {f22 : Addr} {od22 an22 : Option Addr} {sl22 : Array (Option Value)} {oc22 kV22 dc22 pm22 cd22 ct22 : Value}
    (a22 : PySem.W.nsIn K mainGlobals "_law_query" = some (some (.ref f22))) (l22 : K.lookup f22 = some ⟨oc22, od22, .func (PySem.W.fnOf "_law_query" "_law_query" (defArgs s__law_query) (defBody s__law_query) (defScope s__law_query) .none kV22 dc22 pm22 an22 cd22 ct22), sl22⟩) (c22 : PySem.W.codeIn K cd22 "_law_query" = true) (k22 : PySem.W.keepIn K (.ref f22) = true)
    {f23 : Addr} {od23 an23 : Option Addr} {sl23 : Array (Option Value)} {oc23 kV23 dc23 pm23 cd23 ct23 : Value}
    (a23 : PySem.W.nsIn K mainGlobals "_law_word" = some (some (.ref f23))) (l23 : K.lookup f23 = some ⟨oc23, od23, .func (PySem.W.fnOf "_law_word" "_law_word" (defArgs s__law_word) (defBody s__law_word) (defScope s__law_word) .none kV23 dc23 pm23 an23 cd23 ct23), sl23⟩) (c23 : PySem.W.codeIn K cd23 "_law_word" = true) (k23 : PySem.W.keepIn K (.ref f23) = true)
    {f24 : Addr} {od24 an24 : Option Addr} {sl24 : Array (Option Value)} {oc24 kV24 dc24 pm24 cd24 ct24 : Value}
    (a24 : PySem.W.nsIn K mainGlobals "_law_words" = some (some (.ref f24))) (l24 : K.lookup f24 = some ⟨oc24, od24, .func (PySem.W.fnOf "_law_words" "_law_words" (defArgs s__law_words) (defBody s__law_words) (defScope s__law_words) .none kV24 dc24 pm24 an24 cd24 ct24), sl24⟩) (c24 : PySem.W.codeIn K cd24 "_law_words" = true) (k24 : PySem.W.keepIn K (.ref f24) = true)
    {f25 : Addr} {od25 an25 : Option Addr} {sl25 : Array (Option Value)} {oc25 kV25 dc25 pm25 cd25 ct25 : Value}
    (a25 : PySem.W.nsIn K mainGlobals "_law_rule" = some (some (.ref f25))) (l25 : K.lookup f25 = some ⟨oc25, od25, .func (PySem.W.fnOf "_law_rule" "_law_rule" (defArgs s__law_rule) (defBody s__law_rule) (defScope s__law_rule) .none kV25 dc25 pm25 an25 cd25 ct25), sl25⟩) (c25 : PySem.W.codeIn K cd25 "_law_rule" = true) (k25 : PySem.W.keepIn K (.ref f25) = true)
    {f26 : Addr} {od26 an26 : Option Addr} {sl26 : Array (Option Value)} {oc26 kV26 dc26 pm26 cd26 ct26 : Value}
    (a26 : PySem.W.nsIn K mainGlobals "_law_rule_words" = some (some (.ref f26))) (l26 : K.lookup f26 = some ⟨oc26, od26, .func (PySem.W.fnOf "_law_rule_words" "_law_rule_words" (defArgs s__law_rule_words) (defBody s__law_rule_words) (defScope s__law_rule_words) .none kV26 dc26 pm26 an26 cd26 ct26), sl26⟩) (c26 : PySem.W.codeIn K cd26 "_law_rule_words" = true) (k26 : PySem.W.keepIn K (.ref f26) = true)
    {f27 : Addr} {od27 an27 : Option Addr} {sl27 : Array (Option Value)} {oc27 kV27 dc27 pm27 cd27 ct27 : Value}
    (a27 : PySem.W.nsIn K mainGlobals "_law_odd" = some (some (.ref f27))) (l27 : K.lookup f27 = some ⟨oc27, od27, .func (PySem.W.fnOf "_law_odd" "_law_odd" (defArgs s__law_odd) (defBody s__law_odd) (defScope s__law_odd) .none kV27 dc27 pm27 an27 cd27 ct27), sl27⟩) (c27 : PySem.W.codeIn K cd27 "_law_odd" = true) (k27 : PySem.W.keepIn K (.ref f27) = true)
    {f28 : Addr} {od28 an28 : Option Addr} {sl28 : Array (Option Value)} {oc28 kV28 dc28 pm28 cd28 ct28 : Value}
    (a28 : PySem.W.nsIn K mainGlobals "_law_bent" = some (some (.ref f28))) (l28 : K.lookup f28 = some ⟨oc28, od28, .func (PySem.W.fnOf "_law_bent" "_law_bent" (defArgs s__law_bent) (defBody s__law_bent) (defScope s__law_bent) .none kV28 dc28 pm28 an28 cd28 ct28), sl28⟩) (c28 : PySem.W.codeIn K cd28 "_law_bent" = true) (k28 : PySem.W.keepIn K (.ref f28) = true)
    {f29 : Addr} {od29 an29 : Option Addr} {sl29 : Array (Option Value)} {oc29 kV29 dc29 pm29 cd29 ct29 : Value}
    (a29 : PySem.W.nsIn K mainGlobals "_law_bent_rule" = some (some (.ref f29))) (l29 : K.lookup f29 = some ⟨oc29, od29, .func (PySem.W.fnOf "_law_bent_rule" "_law_bent_rule" (defArgs s__law_bent_rule) (defBody s__law_bent_rule) (defScope s__law_bent_rule) .none kV29 dc29 pm29 an29 cd29 ct29), sl29⟩) (c29 : PySem.W.codeIn K cd29 "_law_bent_rule" = true) (k29 : PySem.W.keepIn K (.ref f29) = true)
    {f30 : Addr} {od30 an30 : Option Addr} {sl30 : Array (Option Value)} {oc30 kV30 dc30 pm30 cd30 ct30 : Value}
    (a30 : PySem.W.nsIn K mainGlobals "_law_error" = some (some (.ref f30))) (l30 : K.lookup f30 = some ⟨oc30, od30, .func (PySem.W.fnOf "_law_error" "_law_error" (defArgs s__law_error) (defBody s__law_error) (defScope s__law_error) .none kV30 dc30 pm30 an30 cd30 ct30), sl30⟩) (c30 : PySem.W.codeIn K cd30 "_law_error" = true) (k30 : PySem.W.keepIn K (.ref f30) = true)
    {f31 : Addr} {od31 an31 : Option Addr} {sl31 : Array (Option Value)} {oc31 kV31 dc31 pm31 cd31 ct31 : Value}
    (a31 : PySem.W.nsIn K mainGlobals "law" = some (some (.ref f31))) (l31 : K.lookup f31 = some ⟨oc31, od31, .func (PySem.W.fnOf "law" "law" (defArgs s_law) (defBody s_law) (defScope s_law) .none kV31 dc31 pm31 an31 cd31 ct31), sl31⟩) (c31 : PySem.W.codeIn K cd31 "law" = true) (k31 : PySem.W.keepIn K (.ref f31) = true)
    {eT ES EW : Addr} {odT : Option Addr} {nT : Nat} {slT : Array (Option Value)} {tT0 tT1 tT2 tT3 : Tok} {E0 E1 E2 : Addr}
    (aT : PySem.W.nsIn K mainGlobals "TEXT_WORDS" = some (some (.ref eT)))
    (lT : K.lookup eT = some ⟨.type "tuple", odT, .seq #[.str "is" tT0, .str "below" tT1, .str "above" tT2, .str "begins" tT3] nT, slT⟩)
    (aS : PySem.W.nsIn K mainGlobals "SkipError" = some (some (.ref ES)))
    (aW : PySem.W.nsIn K mainGlobals "InvalidWords" = some (some (.ref EW)))
    (eon : PySem.W.specialIn K (.builtin "object.__class__") "__get__" = some (some (.builtin "getset_descriptor.__get__")))
    (eot : PySem.W.takesIn K (.builtin "object.__class__") = some true)
    (ebS : PySem.W.subIn K (.ref ES) (.type "BaseException") = some true)
    (edS : PySem.W.hasDictIn K ES = true)
    (etS : PySem.W.typeIn K (.ref ES) = some (.type "type"))
    (aE0 : PySem.W.nsIn K mainGlobals "InvalidFilter" = some (some (.ref E0)))
    (aE1 : PySem.W.nsIn K mainGlobals "InvalidValue" = some (some (.ref E1)))
    (aE2 : PySem.W.nsIn K mainGlobals "InvalidRule" = some (some (.ref E2)))
    (x_0 : PySem.W.excIn K E0 [.type "ValueError", .type "Exception", .type "BaseException", .type "object"] "ValueError.__new__" = true)
    (kT0 : PySem.W.keepIn K (.ref E0) = true)
    (bT0 : PySem.W.subIn K (.ref E0) (.type "BaseException") = some true)
    (tT0_ : PySem.W.typeIn K (.ref E0) = some (.type "type"))
    (gT0 : PySem.W.findIn K (.ref E0) "__getattribute__" = some (some (.builtin "BaseException.__getattribute__")))
    (hT0 : PySem.W.findIn K (.ref E0) "__getattr__" = some none)
    (dT0 : PySem.W.hasDictIn K E0 = true)
    (cT0 : PySem.W.findIn K (.ref E0) "__class__" = some (some (.builtin "object.__class__")))
    (oT0 : PySem.W.mroIn K E0 (.type "object") = some true)
    (sS0 : PySem.W.subIn K (.ref E0) (.ref ES) = some true)
    (i_V0 : PySem.W.kitOne K (.ref E0) (.type "ValueError") = some true)
    (i_W0 : PySem.W.kitOne K (.ref E0) (.ref EW) = some false)
    (i_0_0 : PySem.W.kitOne K (.ref E0) (.ref E0) = some true)
    (i_0_1 : PySem.W.kitOne K (.ref E0) (.ref E1) = some false)
    (i_0_2 : PySem.W.kitOne K (.ref E0) (.ref E2) = some false)
    (x_1 : PySem.W.excIn K E1 [.type "ValueError", .type "Exception", .type "BaseException", .type "object"] "ValueError.__new__" = true)
    (kT1 : PySem.W.keepIn K (.ref E1) = true)
    (bT1 : PySem.W.subIn K (.ref E1) (.type "BaseException") = some true)
    (tT1_ : PySem.W.typeIn K (.ref E1) = some (.type "type"))
    (gT1 : PySem.W.findIn K (.ref E1) "__getattribute__" = some (some (.builtin "BaseException.__getattribute__")))
    (hT1 : PySem.W.findIn K (.ref E1) "__getattr__" = some none)
    (dT1 : PySem.W.hasDictIn K E1 = true)
    (cT1 : PySem.W.findIn K (.ref E1) "__class__" = some (some (.builtin "object.__class__")))
    (oT1 : PySem.W.mroIn K E1 (.type "object") = some true)
    (sS1 : PySem.W.subIn K (.ref E1) (.ref ES) = some true)
    (i_V1 : PySem.W.kitOne K (.ref E1) (.type "ValueError") = some true)
    (i_W1 : PySem.W.kitOne K (.ref E1) (.ref EW) = some false)
    (i_1_0 : PySem.W.kitOne K (.ref E1) (.ref E0) = some false)
    (i_1_1 : PySem.W.kitOne K (.ref E1) (.ref E1) = some true)
    (i_1_2 : PySem.W.kitOne K (.ref E1) (.ref E2) = some false)
    (x_2 : PySem.W.excIn K E2 [.type "ValueError", .type "Exception", .type "BaseException", .type "object"] "ValueError.__new__" = true)
    (kT2 : PySem.W.keepIn K (.ref E2) = true)
    (bT2 : PySem.W.subIn K (.ref E2) (.type "BaseException") = some true)
    (tT2_ : PySem.W.typeIn K (.ref E2) = some (.type "type"))
    (gT2 : PySem.W.findIn K (.ref E2) "__getattribute__" = some (some (.builtin "BaseException.__getattribute__")))
    (hT2 : PySem.W.findIn K (.ref E2) "__getattr__" = some none)
    (dT2 : PySem.W.hasDictIn K E2 = true)
    (cT2 : PySem.W.findIn K (.ref E2) "__class__" = some (some (.builtin "object.__class__")))
    (oT2 : PySem.W.mroIn K E2 (.type "object") = some true)
    (sS2 : PySem.W.subIn K (.ref E2) (.ref ES) = some true)
    (i_V2 : PySem.W.kitOne K (.ref E2) (.type "ValueError") = some true)
    (i_W2 : PySem.W.kitOne K (.ref E2) (.ref EW) = some false)
    (i_2_0 : PySem.W.kitOne K (.ref E2) (.ref E0) = some false)
    (i_2_1 : PySem.W.kitOne K (.ref E2) (.ref E1) = some false)
    (i_2_2 : PySem.W.kitOne K (.ref E2) (.ref E2) = some true)
    (z0 : PySem.W.nsIn K mainGlobals "int" = some none)
    (z1 : PySem.W.nsIn K mainGlobals "len" = some none)
    (z2 : PySem.W.nsIn K mainGlobals "range" = some none)
    (z3 : PySem.W.nsIn K mainGlobals "type" = some none)
    (z4 : PySem.W.nsIn K mainGlobals "tuple" = some none)
    (z5 : PySem.W.nsIn K mainGlobals "list" = some none)
    (z6 : PySem.W.nsIn K mainGlobals "str" = some none)
    (z7 : PySem.W.nsIn K mainGlobals "repr" = some none)
    (z8 : PySem.W.nsIn K mainGlobals "all" = some none)
    (z9 : PySem.W.nsIn K mainGlobals "bool" = some none)
    (z10 : PySem.W.nsIn K mainGlobals "isinstance" = some none)
    (z11 : PySem.W.nsIn K mainGlobals "ValueError" = some none)
    : ∃ fd : FuncData, (∀ (s : Shared) (v : Value), BindsTo s fd ⟨[v], []⟩ [("script", v)]) ∧ ∀ base : Heap, K.In base → base.Ns mainGlobals mg → FnG l.prog w K mg base 51 fa fd ["script"] (spLaw K) := by
  have e := hfa.symm.trans (PySem.W.mg_of X G a31)
  cases e
  have F_is_text := fun_mk (st := s_is_text) l0 c0 k0
  have D_is_text : Df K mg "is_text" s_is_text ["value"] f0 _ := ⟨F_is_text, PySem.W.mg_of X G a0, F_is_text.binds (ps := ["value"]) fun _ _ _ _ _ _ us hl => match us, hl with | [_], _ => rfl⟩
  have F_is_value := fun_mk (st := s_is_value) l1 c1 k1
  have D_is_value : Df K mg "is_value" s_is_value ["value"] f1 _ := ⟨F_is_value, PySem.W.mg_of X G a1, F_is_value.binds (ps := ["value"]) fun _ _ _ _ _ _ us hl => match us, hl with | [_], _ => rfl⟩
  have F_is_filter := fun_mk (st := s_is_filter) l2 c2 k2
  have D_is_filter : Df K mg "is_filter" s_is_filter ["value"] f2 _ := ⟨F_is_filter, PySem.W.mg_of X G a2, F_is_filter.binds (ps := ["value"]) fun _ _ _ _ _ _ us hl => match us, hl with | [_], _ => rfl⟩
  have F_can_follow := fun_mk (st := s_can_follow) l3 c3 k3
  have D_can_follow : Df K mg "can_follow" s_can_follow ["word", "part"] f3 _ := ⟨F_can_follow, PySem.W.mg_of X G a3, F_can_follow.binds (ps := ["word", "part"]) fun _ _ _ _ _ _ us hl => match us, hl with | [_, _], _ => rfl⟩
  have F_check_value := fun_mk (st := s_check_value) l4 c4 k4
  have D_check_value : Df K mg "check_value" s_check_value ["value"] f4 _ := ⟨F_check_value, PySem.W.mg_of X G a4, F_check_value.binds (ps := ["value"]) fun _ _ _ _ _ _ us hl => match us, hl with | [_], _ => rfl⟩
  have F_check_filter := fun_mk (st := s_check_filter) l5 c5 k5
  have D_check_filter : Df K mg "check_filter" s_check_filter ["query"] f5 _ := ⟨F_check_filter, PySem.W.mg_of X G a5, F_check_filter.binds (ps := ["query"]) fun _ _ _ _ _ _ us hl => match us, hl with | [_], _ => rfl⟩
  have F_is_rule := fun_mk (st := s_is_rule) l6 c6 k6
  have D_is_rule : Df K mg "is_rule" s_is_rule ["value"] f6 _ := ⟨F_is_rule, PySem.W.mg_of X G a6, F_is_rule.binds (ps := ["value"]) fun _ _ _ _ _ _ us hl => match us, hl with | [_], _ => rfl⟩
  have F_is_lacks_part := fun_mk (st := s_is_lacks_part) l7 c7 k7
  have D_is_lacks_part : Df K mg "is_lacks_part" s_is_lacks_part ["part"] f7 _ := ⟨F_is_lacks_part, PySem.W.mg_of X G a7, F_is_lacks_part.binds (ps := ["part"]) fun _ _ _ _ _ _ us hl => match us, hl with | [_], _ => rfl⟩
  have F_is_low_part := fun_mk (st := s_is_low_part) l8 c8 k8
  have D_is_low_part : Df K mg "is_low_part" s_is_low_part ["part"] f8 _ := ⟨F_is_low_part, PySem.W.mg_of X G a8, F_is_low_part.binds (ps := ["part"]) fun _ _ _ _ _ _ us hl => match us, hl with | [_], _ => rfl⟩
  have F_is_high_part := fun_mk (st := s_is_high_part) l9 c9 k9
  have D_is_high_part : Df K mg "is_high_part" s_is_high_part ["part"] f9 _ := ⟨F_is_high_part, PySem.W.mg_of X G a9, F_is_high_part.binds (ps := ["part"]) fun _ _ _ _ _ _ us hl => match us, hl with | [_], _ => rfl⟩
  have F_is_lost := fun_mk (st := s_is_lost) l10 c10 k10
  have D_is_lost : Df K mg "is_lost" s_is_lost ["part"] f10 _ := ⟨F_is_lost, PySem.W.mg_of X G a10, F_is_lost.binds (ps := ["part"]) fun _ _ _ _ _ _ us hl => match us, hl with | [_], _ => rfl⟩
  have F_is_letter_number := fun_mk (st := s_is_letter_number) l11 c11 k11
  have D_is_letter_number : Df K mg "is_letter_number" s_is_letter_number ["part"] f11 _ := ⟨F_is_letter_number, PySem.W.mg_of X G a11, F_is_letter_number.binds (ps := ["part"]) fun _ _ _ _ _ _ us hl => match us, hl with | [_], _ => rfl⟩
  have F_check_rule := fun_mk (st := s_check_rule) l12 c12 k12
  have D_check_rule : Df K mg "check_rule" s_check_rule ["rule"] f12 _ := ⟨F_check_rule, PySem.W.mg_of X G a12, F_check_rule.binds (ps := ["rule"]) fun _ _ _ _ _ _ us hl => match us, hl with | [_], _ => rfl⟩
  have F_write_filter := fun_mk (st := s_write_filter) l13 c13 k13
  have D_write_filter : Df K mg "write_filter" s_write_filter ["query"] f13 _ := ⟨F_write_filter, PySem.W.mg_of X G a13, F_write_filter.binds (ps := ["query"]) fun _ _ _ _ _ _ us hl => match us, hl with | [_], _ => rfl⟩
  have F_filter_words := fun_mk (st := s_filter_words) l14 c14 k14
  have D_filter_words : Df K mg "filter_words" s_filter_words ["query"] f14 _ := ⟨F_filter_words, PySem.W.mg_of X G a14, F_filter_words.binds (ps := ["query"]) fun _ _ _ _ _ _ us hl => match us, hl with | [_], _ => rfl⟩
  have F_text_word := fun_mk (st := s_text_word) l15 c15 k15
  have D_text_word : Df K mg "text_word" s_text_word ["text"] f15 _ := ⟨F_text_word, PySem.W.mg_of X G a15, F_text_word.binds (ps := ["text"]) fun _ _ _ _ _ _ us hl => match us, hl with | [_], _ => rfl⟩
  have F_write_value := fun_mk (st := s_write_value) l16 c16 k16
  have D_write_value : Df K mg "write_value" s_write_value ["value"] f16 _ := ⟨F_write_value, PySem.W.mg_of X G a16, F_write_value.binds (ps := ["value"]) fun _ _ _ _ _ _ us hl => match us, hl with | [_], _ => rfl⟩
  have F_write_rule := fun_mk (st := s_write_rule) l17 c17 k17
  have D_write_rule : Df K mg "write_rule" s_write_rule ["rule"] f17 _ := ⟨F_write_rule, PySem.W.mg_of X G a17, F_write_rule.binds (ps := ["rule"]) fun _ _ _ _ _ _ us hl => match us, hl with | [_], _ => rfl⟩
  have F__law_hand := fun_mk (st := s__law_hand) l18 c18 k18
  have D__law_hand : Df K mg "_law_hand" s__law_hand ["cell"] f18 _ := ⟨F__law_hand, PySem.W.mg_of X G a18, F__law_hand.binds (ps := ["cell"]) fun _ _ _ _ _ _ us hl => match us, hl with | [_], _ => rfl⟩
  have F__law_pick := fun_mk (st := s__law_pick) l19 c19 k19
  have D__law_pick : Df K mg "_law_pick" s__law_pick ["hand", "size"] f19 _ := ⟨F__law_pick, PySem.W.mg_of X G a19, F__law_pick.binds (ps := ["hand", "size"]) fun _ _ _ _ _ _ us hl => match us, hl with | [_, _], _ => rfl⟩
  have F__law_text := fun_mk (st := s__law_text) l20 c20 k20
  have D__law_text : Df K mg "_law_text" s__law_text ["hand"] f20 _ := ⟨F__law_text, PySem.W.mg_of X G a20, F__law_text.binds (ps := ["hand"]) fun _ _ _ _ _ _ us hl => match us, hl with | [_], _ => rfl⟩
  have F__law_near := fun_mk (st := s__law_near) l21 c21 k21
  have D__law_near : Df K mg "_law_near" s__law_near ["hand", "pool"] f21 _ := ⟨F__law_near, PySem.W.mg_of X G a21, F__law_near.binds (ps := ["hand", "pool"]) fun _ _ _ _ _ _ us hl => match us, hl with | [_, _], _ => rfl⟩
  have F__law_query := fun_mk (st := s__law_query) l22 c22 k22
  have D__law_query : Df K mg "_law_query" s__law_query ["hand", "pool", "room", "levels"] f22 _ := ⟨F__law_query, PySem.W.mg_of X G a22, F__law_query.binds (ps := ["hand", "pool", "room", "levels"]) fun _ _ _ _ _ _ us hl => match us, hl with | [_, _, _, _], _ => rfl⟩
  have F__law_word := fun_mk (st := s__law_word) l23 c23 k23
  have D__law_word : Df K mg "_law_word" s__law_word ["value"] f23 _ := ⟨F__law_word, PySem.W.mg_of X G a23, F__law_word.binds (ps := ["value"]) fun _ _ _ _ _ _ us hl => match us, hl with | [_], _ => rfl⟩
  have F__law_words := fun_mk (st := s__law_words) l24 c24 k24
  have D__law_words : Df K mg "_law_words" s__law_words ["query"] f24 _ := ⟨F__law_words, PySem.W.mg_of X G a24, F__law_words.binds (ps := ["query"]) fun _ _ _ _ _ _ us hl => match us, hl with | [_], _ => rfl⟩
  have F__law_rule := fun_mk (st := s__law_rule) l25 c25 k25
  have D__law_rule : Df K mg "_law_rule" s__law_rule ["hand"] f25 _ := ⟨F__law_rule, PySem.W.mg_of X G a25, F__law_rule.binds (ps := ["hand"]) fun _ _ _ _ _ _ us hl => match us, hl with | [_], _ => rfl⟩
  have F__law_rule_words := fun_mk (st := s__law_rule_words) l26 c26 k26
  have D__law_rule_words : Df K mg "_law_rule_words" s__law_rule_words ["rule"] f26 _ := ⟨F__law_rule_words, PySem.W.mg_of X G a26, F__law_rule_words.binds (ps := ["rule"]) fun _ _ _ _ _ _ us hl => match us, hl with | [_], _ => rfl⟩
  have F__law_odd := fun_mk (st := s__law_odd) l27 c27 k27
  have D__law_odd : Df K mg "_law_odd" s__law_odd ["hand", "text"] f27 _ := ⟨F__law_odd, PySem.W.mg_of X G a27, F__law_odd.binds (ps := ["hand", "text"]) fun _ _ _ _ _ _ us hl => match us, hl with | [_, _], _ => rfl⟩
  have F__law_bent := fun_mk (st := s__law_bent) l28 c28 k28
  have D__law_bent : Df K mg "_law_bent" s__law_bent ["hand", "query"] f28 _ := ⟨F__law_bent, PySem.W.mg_of X G a28, F__law_bent.binds (ps := ["hand", "query"]) fun _ _ _ _ _ _ us hl => match us, hl with | [_, _], _ => rfl⟩
  have F__law_bent_rule := fun_mk (st := s__law_bent_rule) l29 c29 k29
  have D__law_bent_rule : Df K mg "_law_bent_rule" s__law_bent_rule ["hand", "rule"] f29 _ := ⟨F__law_bent_rule, PySem.W.mg_of X G a29, F__law_bent_rule.binds (ps := ["hand", "rule"]) fun _ _ _ _ _ _ us hl => match us, hl with | [_, _], _ => rfl⟩
  have F__law_error := fun_mk (st := s__law_error) l30 c30 k30
  have D__law_error : Df K mg "_law_error" s__law_error ["sort", "worth"] f30 _ := ⟨F__law_error, PySem.W.mg_of X G a30, F__law_error.binds (ps := ["sort", "worth"]) fun _ _ _ _ _ _ us hl => match us, hl with | [_, _], _ => rfl⟩
  have F_law := fun_mk (st := s_law) l31 c31 k31
  have D_law : Df K mg "law" s_law ["script"] fa _ := ⟨F_law, PySem.W.mg_of X G a31, F_law.binds (ps := ["script"]) fun _ _ _ _ _ _ us hl => match us, hl with | [_], _ => rfl⟩
  have T : Nm mg := ⟨PySem.W.mg_none_of X G z0, PySem.W.mg_none_of X G z1, PySem.W.mg_none_of X G z2, PySem.W.mg_none_of X G z3, PySem.W.mg_none_of X G z4, PySem.W.mg_none_of X G z5, PySem.W.mg_none_of X G z6, PySem.W.mg_none_of X G z7, PySem.W.mg_none_of X G z8, PySem.W.mg_none_of X G z9, PySem.W.mg_none_of X G z10, PySem.W.mg_none_of X G z11⟩
  obtain ⟨TX, KT⟩ : ∃ TX : Er K mg, ∀ j, j < 3 → Kit K TX (cOf TX j) j := ⟨⟨ES, PySem.W.mg_of X G aS, EW, PySem.W.mg_of X G aW, E0, PySem.W.mg_of X G aE0, ⟨PySem.W.mg_of X G aE0, x_0, kT0, bT0, tT0_⟩, E1, PySem.W.mg_of X G aE1, ⟨PySem.W.mg_of X G aE1, x_1, kT1, bT1, tT1_⟩, E2, PySem.W.mg_of X G aE2, ⟨PySem.W.mg_of X G aE2, x_2, kT2, bT2, tT2_⟩⟩, fun j hj => match j, hj with | 0, _ => ⟨PySem.W.exm_ref ebS edS etS sS0, ⟨gT0, hT0, bT0, dT0, cT0, eon, eot, oT0⟩, i_0_0, i_0_1, i_0_2, i_W0, i_V0⟩ | 1, _ => ⟨PySem.W.exm_ref ebS edS etS sS1, ⟨gT1, hT1, bT1, dT1, cT1, eon, eot, oT1⟩, i_1_0, i_1_1, i_1_2, i_W1, i_V1⟩ | 2, _ => ⟨PySem.W.exm_ref ebS edS etS sS2, ⟨gT2, hT2, bT2, dT2, cT2, eon, eot, oT2⟩, i_2_0, i_2_1, i_2_2, i_W2, i_V2⟩⟩
  obtain ⟨TG, _⟩ : ∃ TG : Ng K w mg, True := ⟨⟨eT, PySem.W.mg_of X G aT, fun H => .inr ⟨_, _, _, lT, rfl, rfl, (show (4 : Nat) ≤ sizeLine by decide), .cons ⟨_, rfl⟩ (.cons ⟨_, rfl⟩ (.cons ⟨_, rfl⟩ (.cons ⟨_, rfl⟩ .nil)))⟩⟩, trivial⟩
  refine ⟨PySem.W.fnOf "law" "law" (defArgs s_law) (defBody s_law) (defScope s_law) .none kV31 dc31 pm31 an31 cd31 ct31, fun s v => .of_eq rfl, fun base _ _ => ?_⟩
  have c_hand := cl__law_hand (P := l.prog) (w := w) (base := base) D__law_hand T
  have c_pick := cl__law_pick (P := l.prog) (w := w) (base := base) D__law_pick T
  have c_text := cl__law_text D__law_text T c_pick
  have c_ist := cl_is_text (P := l.prog) (w := w) (base := base) D_is_text T
  have c_isf := (both_filter (P := l.prog) (w := w) (base := base) D_is_text D_is_filter D_can_follow T 12).1
  have c_isg := (both_filter (P := l.prog) (w := w) (base := base) D_is_text D_is_filter D_can_follow T 16).1
  have c_ckf := cl_check_filter D_check_filter T c_isf
  have c_tw := cl_text_word (P := l.prog) (w := w) (base := base) D_text_word T
  have c_fw := fw_all D_filter_words T TG c_tw 12
  have c_fg := fw_all D_filter_words T TG c_tw 16
  have c_wf := cl_write_filter D_write_filter T (by decide) c_ckf c_fw
  have c_near := cl__law_near D__law_near T c_pick c_text
  have c_lq := lq_all D__law_query T c_pick c_near 5
  have c_lw := cl__law_word (P := l.prog) (w := w) (base := base) D__law_word T
  have c_lws := lw_all D__law_words T c_lw 12
  have c_isv := cl_is_valueA D_is_value T c_ist
  have c_ckv := cl_check_value D_check_value T c_isv
  have c_wv := cl_write_value D_write_value T c_ckv c_tw
  have c_lost := cl_is_lost (P := l.prog) (w := w) (base := base) D_is_lost T
  have c_num := cl_is_letter_number (P := l.prog) (w := w) (base := base) D_is_letter_number T
  have c_lacks := cl_is_lacks_part (P := l.prog) (w := w) (base := base) D_is_lacks_part T
  have c_low := cl_is_low_part D_is_low_part T c_lost c_num
  have c_high := cl_is_high_part D_is_high_part T c_lost c_num
  have c_rule := cl_is_rule D_is_rule T c_lacks c_low c_high
  have c_ckr := cl_check_rule D_check_rule T c_rule
  have c_wr := cl_write_rule D_write_rule T c_ckr
  have c_ckfB := cl_check_filterB D_check_filter T TX c_isg
  have c_ckvB := cl_check_valueB D_check_value T TX c_isv
  have c_ckrB := cl_check_ruleB D_check_rule T TX c_rule
  have c_wfB := cl_write_filterB (by decide) D_write_filter T TX c_ckfB c_fg
  have c_wvB := cl_write_valueB D_write_value T TX c_ckvB c_tw
  have c_wrB := cl_write_ruleB D_write_rule T TX c_ckrB
  have c_err := cl__law_error (by decide) D__law_error T TX KT c_wfB c_wvB c_wrB
  have c_lr := cl__law_rule D__law_rule T c_pick
  have c_lrw := cl__law_rule_words (P := l.prog) (w := w) (base := base) D__law_rule_words T
  have c_odd := cl__law_odd D__law_odd T c_pick
  have c_ben := bent_all D__law_bent T c_pick c_odd 12
  have c_benr := cl__law_bent_rule D__law_bent_rule T c_pick
  exact cl_law D_law T c_hand c_lq c_text c_lr c_lws c_lw c_lrw (c_wf.mono (by decide)) c_wv c_wr c_ben c_odd c_benr (c_err.mono (by decide))
end
end Kq
open PySem PySem.W PyProof.Rows in
set_option maxRecDepth 100000 in
set_option maxHeartbeats 0 in
theorem PySem.Challenge.cw_pageskips_k65_nothing_to_write_holds : PySem.Challenge.rw_pageskips_k65_nothing_to_write.Holds := by
  w_on; o_law; k_head; (case hw => w_witness2)
  k_fill
  refine Pg.walk_g (l := PySem.Challenge.rw_pageskips_k65_nothing_to_write) (n := 63) (k := 51) (x := "script") (sp := fun w => Kq.spLaw _) rfl (by decide) rfl ⟨rfl, by decide, by decide⟩ (fun w h Y => PySem.W.kIn_of Y) ?F (fun _ _ a ns hl _ hS => ⟨a, ns, rfl, hS, hl, fun _ => rfl⟩)
  case F =>
    intro w mg fa h KX G hmg
    refine' Kq.all_mk KX G hmg ?a0 ?l0 ?c0 ?k0 ?a1 ?l1 ?c1 ?k1 ?a2 ?l2 ?c2 ?k2 ?a3 ?l3 ?c3 ?k3 ?a4 ?l4 ?c4 ?k4 ?a5 ?l5 ?c5 ?k5 ?a6 ?l6 ?c6 ?k6 ?a7 ?l7 ?c7 ?k7 ?a8 ?l8 ?c8 ?k8 ?a9 ?l9 ?c9 ?k9 ?a10 ?l10 ?c10 ?k10 ?a11 ?l11 ?c11 ?k11 ?a12 ?l12 ?c12 ?k12 ?a13 ?l13 ?c13 ?k13 ?a14 ?l14 ?c14 ?k14 ?a15 ?l15 ?c15 ?k15 ?a16 ?l16 ?c16 ?k16 ?a17 ?l17 ?c17 ?k17 ?a18 ?l18 ?c18 ?k18 ?a19 ?l19 ?c19 ?k19 ?a20 ?l20 ?c20 ?k20 ?a21 ?l21 ?c21 ?k21 ?a22 ?l22 ?c22 ?k22 ?a23 ?l23 ?c23 ?k23 ?a24 ?l24 ?c24 ?k24 ?a25 ?l25 ?c25 ?k25 ?a26 ?l26 ?c26 ?k26 ?a27 ?l27 ?c27 ?k27 ?a28 ?l28 ?c28 ?k28 ?a29 ?l29 ?c29 ?k29 ?a30 ?l30 ?c30 ?k30 ?a31 ?l31 ?c31 ?k31 ?aT ?lT ?aS ?aW ?eon ?eot ?ebS ?edS ?etS ?aE0 ?aE1 ?aE2 ?x_0 ?kT0 ?bT0 ?tT0_ ?gT0 ?hT0 ?dT0 ?cT0 ?oT0 ?sS0 ?i_V0 ?i_W0 ?i_0_0 ?i_0_1 ?i_0_2 ?x_1 ?kT1 ?bT1 ?tT1_ ?gT1 ?hT1 ?dT1 ?cT1 ?oT1 ?sS1 ?i_V1 ?i_W1 ?i_1_0 ?i_1_1 ?i_1_2 ?x_2 ?kT2 ?bT2 ?tT2_ ?gT2 ?hT2 ?dT2 ?cT2 ?oT2 ?sS2 ?i_V2 ?i_W2 ?i_2_0 ?i_2_1 ?i_2_2 ?z0 ?z1 ?z2 ?z3 ?z4 ?z5 ?z6 ?z7 ?z8 ?z9 ?z10 ?z11
    (case a0 => k_is)
    (case l0 => k_is)
    (case c0 => k_is)
    (case k0 => k_is)
    (case a1 => k_is)
    (case l1 => k_is)
    (case c1 => k_is)
    (case k1 => k_is)
    (case a2 => k_is)
    (case l2 => k_is)
    (case c2 => k_is)
    (case k2 => k_is)
    (case a3 => k_is)
    (case l3 => k_is)
    (case c3 => k_is)
    (case k3 => k_is)
    (case a4 => k_is)
    (case l4 => k_is)
    (case c4 => k_is)
    (case k4 => k_is)
    (case a5 => k_is)
    (case l5 => k_is)
    (case c5 => k_is)
    (case k5 => k_is)
    (case a6 => k_is)
    (case l6 => k_is)
    (case c6 => k_is)
    (case k6 => k_is)
    (case a7 => k_is)
    (case l7 => k_is)
    (case c7 => k_is)
    (case k7 => k_is)
    (case a8 => k_is)
    (case l8 => k_is)
    (case c8 => k_is)
    (case k8 => k_is)
    (case a9 => k_is)
    (case l9 => k_is)
    (case c9 => k_is)
    (case k9 => k_is)
    (case a10 => k_is)
    (case l10 => k_is)
    (case c10 => k_is)
    (case k10 => k_is)
    (case a11 => k_is)
    (case l11 => k_is)
    (case c11 => k_is)
    (case k11 => k_is)
    (case a12 => k_is)
    (case l12 => k_is)
    (case c12 => k_is)
    (case k12 => k_is)
    (case a13 => k_is)
    (case l13 => k_is)
    (case c13 => k_is)
    (case k13 => k_is)
    (case a14 => k_is)
    (case l14 => k_is)
    (case c14 => k_is)
    (case k14 => k_is)
    (case a15 => k_is)
    (case l15 => k_is)
    (case c15 => k_is)
    (case k15 => k_is)
    (case a16 => k_is)
    (case l16 => k_is)
    (case c16 => k_is)
    (case k16 => k_is)
    (case a17 => k_is)
    (case l17 => k_is)
    (case c17 => k_is)
    (case k17 => k_is)
    (case a18 => k_is)
    (case l18 => k_is)
    (case c18 => k_is)
    (case k18 => k_is)
    (case a19 => k_is)
    (case l19 => k_is)
    (case c19 => k_is)
    (case k19 => k_is)
    (case a20 => k_is)
    (case l20 => k_is)
    (case c20 => k_is)
    (case k20 => k_is)
    (case a21 => k_is)
    (case l21 => k_is)
    (case c21 => k_is)
    (case k21 => k_is)
    (case a22 => k_is)
    (case l22 => k_is)
    (case c22 => k_is)
    (case k22 => k_is)
    (case a23 => k_is)
    (case l23 => k_is)
    (case c23 => k_is)
    (case k23 => k_is)
    (case a24 => k_is)
    (case l24 => k_is)
    (case c24 => k_is)
    (case k24 => k_is)
    (case a25 => k_is)
    (case l25 => k_is)
    (case c25 => k_is)
    (case k25 => k_is)
    (case a26 => k_is)
    (case l26 => k_is)
    (case c26 => k_is)
    (case k26 => k_is)
    (case a27 => k_is)
    (case l27 => k_is)
    (case c27 => k_is)
    (case k27 => k_is)
    (case a28 => k_is)
    (case l28 => k_is)
    (case c28 => k_is)
    (case k28 => k_is)
    (case a29 => k_is)
    (case l29 => k_is)
    (case c29 => k_is)
    (case k29 => k_is)
    (case a30 => k_is)
    (case l30 => k_is)
    (case c30 => k_is)
    (case k30 => k_is)
    (case a31 => k_is)
    (case l31 => k_is)
    (case c31 => k_is)
    (case k31 => k_is)
    (case aT => k_is)
    (case lT => k_is)
    (case aS => k_is)
    (case aW => k_is)
    (case eon => k_is)
    (case eot => k_is)
    (case ebS => k_is)
    (case edS => k_is)
    (case etS => k_is)
    (case aE0 => k_is)
    (case aE1 => k_is)
    (case aE2 => k_is)
    (case x_0 => k_exc)
    (case kT0 => k_is)
    (case bT0 => k_is)
    (case tT0_ => k_is)
    (case gT0 => k_is)
    (case hT0 => k_is)
    (case dT0 => k_is)
    (case cT0 => k_is)
    (case oT0 => k_is)
    (case sS0 => k_is)
    (case i_V0 => first | k_is | kit_is)
    (case i_W0 => first | k_is | kit_is)
    (case i_0_0 => first | k_is | kit_is)
    (case i_0_1 => first | k_is | kit_is)
    (case i_0_2 => first | k_is | kit_is)
    (case x_1 => k_exc)
    (case kT1 => k_is)
    (case bT1 => k_is)
    (case tT1_ => k_is)
    (case gT1 => k_is)
    (case hT1 => k_is)
    (case dT1 => k_is)
    (case cT1 => k_is)
    (case oT1 => k_is)
    (case sS1 => k_is)
    (case i_V1 => first | k_is | kit_is)
    (case i_W1 => first | k_is | kit_is)
    (case i_1_0 => first | k_is | kit_is)
    (case i_1_1 => first | k_is | kit_is)
    (case i_1_2 => first | k_is | kit_is)
    (case x_2 => k_exc)
    (case kT2 => k_is)
    (case bT2 => k_is)
    (case tT2_ => k_is)
    (case gT2 => k_is)
    (case hT2 => k_is)
    (case dT2 => k_is)
    (case cT2 => k_is)
    (case oT2 => k_is)
    (case sS2 => k_is)
    (case i_V2 => first | k_is | kit_is)
    (case i_W2 => first | k_is | kit_is)
    (case i_2_0 => first | k_is | kit_is)
    (case i_2_1 => first | k_is | kit_is)
    (case i_2_2 => first | k_is | kit_is)
    (case z0 => k_is)
    (case z1 => k_is)
    (case z2 => k_is)
    (case z3 => k_is)
    (case z4 => k_is)
    (case z5 => k_is)
    (case z6 => k_is)
    (case z7 => k_is)
    (case z8 => k_is)
    (case z9 => k_is)
    (case z10 => k_is)
    (case z11 => k_is)

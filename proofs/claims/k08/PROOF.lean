import PyProof.Rows.All
import Wide.All
import OpenK.AllK
import Wide.FinOn
import HandS.ForMost
import HandS.Wide
import HandS.TupAny
import HandS.ExcValue
import HandS.Style
import HandS.More
import HandS.Defaults
import HandS.EndBits
import HandS.Flow
import HandS.Zip
import HandS.Star
import HandS.StrMore
import HandS.Set
import HandS.SetTxt0
import HandS.IsInst
import HandS.ExcIs
import KE.KRevSl
import PyProof.Rows.SortShellAny
import HandS.RaiseMore
import HandS.Conv
import HandS.IsInst
import HandS.ExcIs
import KE.KRevSl
import PyProof.InstEq
import KE.DataMinMax
import HandS.SortKw
import HandS.ExcOwn
import HandS.ExcValue
import HandS.WordsExc
import HandS.ExcInit
import HandS.ExcField
import KE.KExcIs
import HandS.FStr
import HandS.NoneIn
import PyProof.StrLaws
import PyProof.Rows.StrFit
import PySem.Challenge.RW_pageskips_k08_errors_of_spans
set_option Elab.async false
set_option linter.all false
set_option maxRecDepth 100000
set_option maxHeartbeats 2000000
namespace Pg
open PySem PySem.Spec PyProof.Rows L2
/-! ### heaps: what a piece of the program keeps -/
/-- all that was tracked outside of S stands as it was; in S lists stay lists -/
structure Stp (S : List Addr) (H H' : Hp) : Prop where
  kp : ∀ a o, a ∉ S → H a = some o → H' a = some o
  ls : ∀ a xs, H a = some (.lst xs) → ∃ ys, H' a = some (.lst ys)
theorem Stp.refl (S : List Addr) (H : Hp) : Stp S H H := ⟨fun _ _ _ h => h, fun _ xs h => ⟨xs, h⟩⟩
theorem Stp.trans {S : List Addr} {H H1 H2 : Hp} (a : Stp S H H1) (b : Stp S H1 H2) : Stp S H H2 :=
  ⟨fun x o n h => b.kp x o n (a.kp x o n h), fun x xs h => by
    obtain ⟨ys, h1⟩ := a.ls x xs h
    exact b.ls x ys h1⟩
theorem Stp.sub {S S' : List Addr} {H H' : Hp} (a : Stp S H H') (h : ∀ x ∈ S, x ∈ S') : Stp S' H H' :=
  ⟨fun x o n q => a.kp x o (fun m => n (h x m)) q, a.ls⟩
theorem Stp.nil {S : List Addr} {H H' : Hp} (a : Stp [] H H') : Stp S H H' := a.sub fun _ h => nomatch h
theorem Stp.new {H : Hp} {p : Addr} {o : HO} (h : H p = none) (S : List Addr) : Stp S H (upd H p o) :=
  ⟨fun x u _ q => by rw [upd_ne (ne_of_none q h)]; exact q, fun x xs q => ⟨xs, by rw [upd_ne (ne_of_none q h)]; exact q⟩⟩
theorem Stp.put {S : List Addr} {H : Hp} {p : Addr} {ys : List V} (m : p ∈ S) : Stp S H (upd H p (.lst ys)) :=
  ⟨fun x u n q => by
    rw [upd_ne (fun e => n (by rw [e]; exact m))]
    exact q, fun x xs q => by
    by_cases e : x = p
    · subst e
      exact ⟨ys, upd_same⟩
    · exact ⟨xs, by rw [upd_ne e]; exact q⟩⟩
/-- a local object: it was not there -/
theorem Stp.loc {S : List Addr} {H H' : Hp} {p : Addr} (h : H p = none) (a : Stp (p :: S) H H') : Stp S H H' :=
  ⟨fun x o n q => a.kp x o (fun m => by
    rcases List.mem_cons.mp m with e | m
    · exact ne_of_none q h e
    · exact n m) q, a.ls⟩
theorem Stp.fresh {S : List Addr} {H H' : Hp} {p : Addr} (a : Stp S H H') (n : p ∉ S) (h : H' p = none) : H p = none := by
  cases e : H p with
  | none => rfl
  | some o =>
    rw [a.kp p o n e] at h
    cases h
/-- a list that was not there is changed -/
theorem Stp.mut {S : List Addr} {H H' : Hp} {p : Addr} {ys : List V} (a : Stp S H H') (h : H p = none) : Stp S H (upd H' p (.lst ys)) :=
  ⟨fun x o n q => by
    rw [upd_ne (ne_of_none q h)]
    exact a.kp x o n q, fun x xs q => by
    rw [upd_ne (ne_of_none q h)]
    exact a.ls x xs q⟩
theorem Stp.put' {S : List Addr} {H H' : Hp} {p : Addr} {ys : List V} (a : Stp S H H') (m : p ∈ S) : Stp S H (upd H' p (.lst ys)) := a.trans (Stp.put m)
theorem Stp.new' {S : List Addr} {H H' : Hp} {p : Addr} {o : HO} (a : Stp S H H') (h : H' p = none) : Stp S H (upd H' p o) := a.trans (Stp.new h S)
/-- only the list at p may differ -/
def Only (p : Addr) (H H' : Hp) : Prop := ∃ ys, H' = upd H p (.lst ys)
theorem Only.at {p q : Addr} {H H' : Hp} {o : HO} (h : Only p H H') (e : H q = some o) (n : q ≠ p) : H' q = some o := by
  obtain ⟨ys, rfl⟩ := h
  rw [upd_ne n]
  exact e
theorem Only.stp {p : Addr} {H H' : Hp} {S : List Addr} (h : Only p H H') (m : p ∈ S) : Stp S H H' := by
  obtain ⟨ys, rfl⟩ := h
  exact Stp.put m

/-! ### the draws -/
def BagV (x y z : Int) (n : Nat) : Prop := 0 ≤ x ∧ 0 ≤ y ∧ y < 2 ^ 40 ∧ 0 ≤ z ∧ z ≤ (n : Int)
/-- a bag stands at b, from which at most n draws have been made -/
def Bag (H : Hp) (b : Addr) (n : Nat) : Prop := ∃ x y z, H b = some (.lst [.int x, .int y, .int z]) ∧ BagV x y z n
theorem Bag.mono {H : Hp} {b : Addr} {n m : Nat} (h : Bag H b n) (e : n ≤ m) : Bag H b m := by
  obtain ⟨x, y, z, h1, h2, h3, h4, h5, h6⟩ := h
  exact ⟨x, y, z, h1, h2, h3, h4, h5, by omega⟩
theorem Bag.kp {H H' : Hp} {b : Addr} {n : Nat} {S : List Addr} (h : Bag H b n) (s : Stp S H H') (m : b ∉ S) : Bag H' b n := by
  obtain ⟨x, y, z, h1, h2⟩ := h
  exact ⟨x, y, z, s.kp _ _ m h1, h2⟩
theorem Bag.upd {H : Hp} {b p : Addr} {n : Nat} {o : HO} (h : Bag H b n) (e : b ≠ p) : Bag (L2.upd H p o) b n := by
  obtain ⟨x, y, z, h1, h2⟩ := h
  exact ⟨x, y, z, by rw [upd_ne e]; exact h1, h2⟩
theorem Bag.ne {H : Hp} {b p : Addr} {n : Nat} (h : Bag H b n) (q : H p = none) : b ≠ p := by
  obtain ⟨x, y, z, h1, h2⟩ := h
  exact ne_of_none h1 q
theorem cmul {i j : Int} (a b : Nat) (h1 : 0 ≤ i) (h2 : i < 2 ^ a) (h3 : 0 ≤ j) (h4 : j < 2 ^ b) (ha : 0 < a) (hb : 0 < b) (h : a + b ≤ 1000000) : CMulW i j := by
  refine wide_mul (a := a) (b := b) ?_ ?_ ha hb h
  · have e : ((i.natAbs : Nat) : Int) < ((2 ^ a : Nat) : Int) := by
      rw [Int.natAbs_of_nonneg h1, Int.natCast_pow]
      exact h2
    exact Int.ofNat_lt.mp e
  · have e : ((j.natAbs : Nat) : Int) < ((2 ^ b : Nat) : Int) := by
      rw [Int.natAbs_of_nonneg h3, Int.natCast_pow]
      exact h4
    exact Int.ofNat_lt.mp e
theorem cdiv {i j : Int} (b : Nat) (h1 : 0 < j) (h2 : j < 2 ^ b) (hb : 0 < b) (h9 : b ≤ 9000) : CDivW i j := by
  refine wide_div (b := b) h1 ?_ hb h9
  have e : ((j.natAbs : Nat) : Int) < ((2 ^ b : Nat) : Int) := by
    rw [Int.natAbs_of_nonneg (by omega), Int.natCast_pow]
    exact h2
  exact Int.ofNat_lt.mp e
theorem mul_lt {i j : Int} {a b : Nat} (h1 : 0 ≤ i) (h2 : i < 2 ^ a) (h3 : 0 ≤ j) (h4 : j < 2 ^ b) : 0 ≤ i * j ∧ i * j < 2 ^ (a + b) := by
  refine ⟨Int.mul_nonneg h1 h3, ?_⟩
  have e1 : i * j ≤ i * 2 ^ b := Int.mul_le_mul_of_nonneg_left (Int.le_of_lt h4) h1
  have hp : (0 : Int) < 2 ^ b := Int.pow_pos (by omega)
  have e2 : i * 2 ^ b < 2 ^ a * 2 ^ b := Int.mul_lt_mul_of_pos_right h2 hp
  rw [Int.pow_add]
  omega
/-- a letter for a number -/
theorem genQ {Q : V → Hp → Prop} {H : Hp} {i : Int} (h : ∀ t, t = i → Q (.int t) H) : Q (.int i) H := h i rfl
/-! ### rules of my own -/
section
variable {X : Cx}
/-- 'a' * n -/
theorem op_mul_str : OpR X (binaryOp .Mult) (fun x y H Q => ∃ i j, x = .str i ∧ y = .int j ∧ MulOk i j ∧ Q (.str (Txt.mul i j)) H) := by
  intro pins s σ H x y v u Q I rx ry h
  obtain ⟨i, j, rfl, rfl, hz, q⟩ := h
  obtain ⟨t, rfl⟩ := rx
  obtain ⟨t', rfl⟩ := ry
  exact SB.mul hz (fun t' k => ⟨.str (Txt.mul i j), H, I.tok _, ⟨_, rfl⟩, q⟩)
end
end Pg
namespace Pg
open PySem PySem.Spec PyProof.Rows L2
/-! ### a def of the text: where it stands, what it keeps -/
/-- a def of the text, found by its name -/
structure Df (K : PySem.W.Frag) (mg : Str → Option Value) (x : Str) (st : Stmt) (ps : List Str) (f : Addr) (fd : FuncData) : Prop where
  fn : Fun K x x st f fd
  at_ : mg x = some (.ref f)
  bd : Binds K fd ps []
/-- .. with its promise -/
structure Cl (P : Program) (w : World) (K : PySem.W.Frag) (mg : Str → Option Value) (base : Heap) (k : Nat) (x : Str) (st : Stmt) (ps : List Str) (sp : Sp) : Prop where
  ex : ∃ f fd, Df K mg x st ps f fd ∧ FnOk P w K mg base CX0 k f fd ps sp
theorem Cl.mono {P : Program} {w : World} {K : PySem.W.Frag} {mg : Str → Option Value} {base : Heap} {j k : Nat} {x : Str} {st : Stmt} {ps : List Str} {sp : Sp} (c : Cl P w K mg base j x st ps sp) (h : j ≤ k) : Cl P w K mg base k x st ps sp := by
  obtain ⟨f, fd, D, F⟩ := c.ex
  exact ⟨f, fd, D, F.mono h⟩
theorem Df.cl {P : Program} {w : World} {K : PySem.W.Frag} {mg : Str → Option Value} {base : Heap} {x : Str} {st : Stmt} {f : Addr} {fd : FuncData} {N ps : List Str} {k : Nat} {sp : Sp} (D : Df K mg x st ps f fd) (S : FnScope N ps (defScope st)) (len : ∀ vs H Q E, sp vs H Q E → vs.length = ps.length)
    (hbody : ∀ (cdv : Value) (A : Around) (outer : List Env) (s : Shared) (H : Hp) (vs : List V) (Q : VK) (E : XK), Room k (A.deeper (envOfC x (defScope st) s.heap.objs.size f cdv)) → sp vs H Q E →
      ∃ t, PSs (cxOf CX0 P w K mg base N x (defScope st) f cdv A outer s H E).nox (defBody st) t ∧ t { nx := fun _ H' => Q .non H', rt := Q } (start N vs) H) : Cl P w K mg base (k + 1) x st ps sp :=
  ⟨f, fd, D, D.fn.ok S len hbody⟩
def tCl (sp : Sp) (t : TA) : TE := fun σ H Q => t σ H fun vs H1 => sp vs H1 Q E0
section
variable {X : Cx} {j k : Nat} {st : Stmt} {ps : List Str} {sp : Sp} {x : Str} {p pos : Pos} {e : Expr} {es : List Expr} {t : TA}
theorem pe_cl (c : Cl X.prog X.w X.K X.mg X.base k x st ps sp) (hr : Room j X.A) (hk : k ≤ j) (ha : PA X (e :: es) t) (hg : Gl X x := by rfl) (hdb : (x == ("__debug__" : Str)) = false := by decide)
    (he : starEach (e :: es) X.env = (false, eval e X.env) :: starEach es X.env := by rfl) (hpl : (backTo pos (starEach es X.env)).any (·.1) = false := by rfl) :
    PE X (.Call (.Name x p) (e :: es) [] pos) (tCl sp t) := by
  obtain ⟨f, fd, D, F⟩ := c.ex
  refine ⟨fun pins s σ H Q I h => ?_⟩
  have q := (pe_call (E := E0) (p := p) (F.mono hk) hr hg D.at_ D.fn.kp D.bd .nil pass0 ha hdb he hpl).run pins s σ H Q I
  refine q ?_
  have h' : t σ H (fun vs H1 => sp vs H1 Q E0) := h
  show t σ H fun vs H1 => sp (vs ++ []) H1 Q E0
  simp only [List.append_nil]
  exact h'
theorem pe_cl0 (c : Cl X.prog X.w X.K X.mg X.base k x st ps sp) (hr : Room j X.A) (hk : k ≤ j) (hg : Gl X x := by rfl) (hdb : (x == ("__debug__" : Str)) = false := by decide) :
    PE X (.Call (.Name x p) [] [] pos) (tCl sp tNil) := by
  obtain ⟨f, fd, D, F⟩ := c.ex
  exact pe_call0 (E := E0) (F.mono hk) hr hg D.at_ D.fn.kp D.bd .nil pass0 hdb
/-- f(k = v, ..) -/
def tClK (sp : Sp) (gV : List V → List V → List V) (tk : TA) : TE := fun σ H Q => tk σ H fun zs H1 => sp (gV [] zs) H1 Q E0
theorem pe_clK {ks : List Str} {g : List Value → List Value → List Value} {gV : List V → List V → List V} {kws : List Keyword} {tk : TA} (c : Cl X.prog X.w X.K X.mg X.base k x st ps sp) (hr : Room j X.A) (hk : k ≤ j)
    (hb : ∀ f fd, Fun X.K x x st f fd → KBinds X.K fd ps ks g gV) (hkw : PK X kws tk)
    (hg : Gl X x := by rfl) (hall : (backToKw pos (keywordEach kws X.env)).all (·.1.isSome) = true := by rfl) (hks : (backToKw pos (keywordEach kws X.env)).filterMap (·.1) = ks := by rfl) (hdb : (x == ("__debug__" : Str)) = false := by decide)
    (hpl : ((backTo pos (starEach [] X.env)).any (·.1) || (backToKw pos (keywordEach kws X.env)).any (·.1.isNone)) = false := by rfl) :
    PE X (.Call (.Name x p) [] kws pos) (tClK sp gV tk) := by
  obtain ⟨f, fd, D, F⟩ := c.ex
  refine ⟨fun pins s σ H Q I h => ?_⟩
  refine wpAny_Call_Name_kw (ld_glob I hg D.at_ ?_ hdb)
  refine PySem.W.callWith_KW0 (h₀ := X.base) I.ok.mod.kin D.fn.kp hall ?_ hpl
  refine thn (hkw.run pos pins s σ H _ I h) fun ws s2 ⟨zs, H2, I2, rz, q2⟩ => ⟨I2.kIn, ?_⟩
  rw [hks]
  exact run_fnk (E := E0) (us := []) (vs := []) (F.mono hk) hr (hb f fd D.fn) pass0 I2 .nil rz q2
end
/-- keywords alone, in an order of their own -/
theorem kb_of {K : PySem.W.Frag} {x : Str} {st : Stmt} {f : Addr} {fd : FuncData} {ps ks : List Str} {g : List Value → List Value} {gV : List V → List V} (F : Fun K x x st f fd) (hne : ps ≠ [])
    (h : ∀ (kV doc pm : Value) (an : Option Addr) (cdv ct : Value) (ws : List Value), (g ws).length = ps.length → bindArgs (PySem.W.fnOf x x (defArgs st) (defBody st) (defScope st) .none kV doc pm an cdv ct) ⟨[], ks.zip ws⟩ = pure (ps.zip (g ws)))
    (r : ∀ {zs : List V} {ws : List Value}, Vals zs ws → Vals (gV zs) (g ws)) : KBinds K fd ps ks (fun us ws => match us with | [] => g ws | _ :: _ => []) (fun vs zs => match vs with | [] => gV zs | _ :: _ => []) := by
  obtain ⟨oc, od, kV, doc, pm, an, cdv, ct, osl, rfl, lk, hcd⟩ := F.ex
  refine ⟨fun s us ws _ hl => ?_, fun {vs us zs ws} r1 r2 => ?_⟩
  · cases us with
    | nil => exact .of_eq (h kV doc pm an cdv ct ws hl)
    | cons u us => exact absurd (List.length_eq_zero_iff.mp hl.symm) hne
  · cases r1 with
    | nil => exact r r2
    | cons _ _ => exact .nil
end Pg
namespace Pg
open PySem PySem.Spec PyProof.Rows L2
open Builtin Builtin.Str
/-! ### texts as lists of letters -/
/-- the text of these signs -/
abbrev tx (l : List Nat) : Str := ⟨l.toArray⟩
abbrev Tx (l : List Nat) : V := .str (tx l)
/-- letters a, b, c alone -/
def Abc (l : List Nat) : Prop := ∀ c ∈ l, c = 97 ∨ c = 98 ∨ c = 99
theorem tx_inj {a b : List Nat} (h : tx a = tx b) : a = b := by
  have q : (tx a).cps.toList = (tx b).cps.toList := by rw [h]
  simpa using q
theorem tx_of (s : Str) : ∃ l, s = tx l := ⟨s.cps.toList, by cases s; simp [tx]⟩
theorem tx_len (l : List Nat) : (tx l).length = l.length := by simp [Str.length]
theorem tx_app (a b : List Nat) : tx a ++ tx b = tx (a ++ b) := by
  show (⟨a.toArray ++ b.toArray⟩ : Str) = _
  simp [tx]
theorem tx_cut (l : List Nat) (lo hi : Option Int) : cutS (tx l) lo hi = tx ((l.drop (HT.sIx l.length 0 lo)).take (HT.sIx l.length l.length hi - HT.sIx l.length 0 lo)) := by
  unfold cutS
  rw [tx_len]
theorem tx_upto (l : List Nat) (k : Nat) : cutS (tx l) none (some (k : Int)) = tx (l.take k) := by
  rw [tx_cut, HT.sIx_none, HT.sIx_nat]
  rw [List.drop_zero, Nat.sub_zero]
  rcases Nat.le_total k l.length with h | h
  · rw [Nat.min_eq_left h]
  · rw [Nat.min_eq_right h, List.take_of_length_le (Nat.le_refl _), List.take_of_length_le h]
theorem tx_init (l : List Nat) : cutS (tx l) none (some (-1)) = tx l.dropLast := by
  rw [tx_cut, HT.sIx_none]
  have e : HT.sIx l.length l.length (some (-1)) = l.length - 1 := by
    show (if (-1 : Int) < 0 then ((-1 : Int) + (l.length : Int)).toNat else min (-1 : Int).toNat l.length) = _
    rw [if_pos (by decide)]
    omega
  rw [e, List.drop_zero, Nat.sub_zero, ← List.dropLast_eq_take]
theorem tx_last (l : List Nat) : cutS (tx l) (some (-1)) none = tx (l.drop (l.length - 1)) := by
  rw [tx_cut, HT.sIx_none]
  have e : HT.sIx l.length 0 (some (-1)) = l.length - 1 := by
    show (if (-1 : Int) < 0 then ((-1 : Int) + (l.length : Int)).toNat else min (-1 : Int).toNat l.length) = _
    rw [if_pos (by decide)]
    omega
  rw [e]
  congr 2
  rw [List.take_of_length_le]
  rw [List.length_drop]
  exact Nat.le_refl _
theorem foldl_app_rep {α : Type} (c : α) : ∀ (n : Nat) (acc : Array α), (List.replicate n #[c]).foldl (· ++ ·) acc = acc ++ (List.replicate n c).toArray
  | 0, acc => by simp
  | n + 1, acc => by
    rw [List.replicate_succ, List.foldl_cons, foldl_app_rep c n, List.replicate_succ]
    apply Array.ext'
    simp
theorem tx_mul (c : Nat) (n : Int) : Txt.mul (tx [c]) n = tx (List.replicate n.toNat c) := by
  unfold Txt.mul
  by_cases h : n < 1
  · rw [if_pos h, show n.toNat = 0 by omega]
    rfl
  · rw [if_neg h]
    by_cases h1 : n = 1
    · subst h1
      rfl
    · rw [if_neg (by simp [h1, Str.length])]
      show (⟨(List.replicate n.toNat #[c]).foldl (· ++ ·) #[]⟩ : Str) = _
      rw [foldl_app_rep]
      simp [tx]
theorem mulOk (c : Nat) {n : Int} (h0 : -1000 ≤ n) (h1 : n ≤ 100000) : MulOk (tx [c]) n := by
  refine ⟨by simp; omega, fun a b q => ?_, fun a b => ?_⟩
  · rw [tx_len] at q
    have e : (1 : Int) ≤ (2 ^ 63 - 1) / n := by
      have hp : 0 < n := by omega
      exact (Int.le_ediv_iff_mul_le hp).mpr (by omega)
    have q' : (([c].length : Nat) : Int) = 1 := rfl
    rw [q'] at q
    have e2 : (1 : Int) > (2 ^ 63 - 1) / n := q
    exact absurd e (by omega)
  · rw [tx_len]
    have e : ([c].length * n.toNat) ≤ sizeLine := Nat.le_trans (show [c].length * n.toNat ≤ 100000 by simp; omega) (by decide)
    unfold tooLong
    simpa using e
theorem foldl_app {α : Type} : ∀ (ps : List (List α)) (acc : Array α), (ps.map List.toArray).foldl (fun a p => a ++ p) acc = acc ++ ps.flatten.toArray
  | [], acc => by simp
  | p :: ps, acc => by
    rw [List.map_cons, List.foldl_cons, foldl_app ps, List.flatten_cons]
    apply Array.ext'
    simp
theorem join_abc (cs : List Nat) : Txt.join (tx []) (cs.map fun c => tx [c]) = tx cs := by
  cases cs with
  | nil => rfl
  | cons c cs =>
    show (⟨((cs.map fun c => tx [c])).foldl (fun acc p => acc ++ (tx []).cps ++ p.cps) (tx [c]).cps⟩ : Str) = _
    have e : ∀ (l : List Nat) (acc : Array Nat), (l.map fun c => tx [c]).foldl (fun acc p => acc ++ (tx []).cps ++ p.cps) acc = acc ++ l.toArray := by
      intro l
      induction l with
      | nil => intro acc; simp
      | cons x l ih =>
        intro acc
        rw [List.map_cons, List.foldl_cons, ih]
        apply Array.ext'
        simp
    rw [e]
    simp [tx]
theorem Abc.nil : Abc [] := fun _ h => nomatch h
theorem Abc.app {a b : List Nat} (h : Abc a) (g : Abc b) : Abc (a ++ b) := fun c m => (List.mem_append.mp m).elim (h c) (g c)
theorem Abc.take {a : List Nat} (h : Abc a) (n : Nat) : Abc (a.take n) := fun c m => h c (List.mem_of_mem_take m)
theorem Abc.drop {a : List Nat} (h : Abc a) (n : Nat) : Abc (a.drop n) := fun c m => h c (List.mem_of_mem_drop m)
theorem Abc.init {a : List Nat} (h : Abc a) : Abc a.dropLast := fun c m => h c (List.dropLast_subset _ m)
theorem Abc.rep (n : Nat) {c : Nat} (h : c = 97 ∨ c = 98 ∨ c = 99) : Abc (List.replicate n c) := fun x m => by
  rw [(List.mem_replicate.mp m).2]
  exact h
theorem Abc.one {c : Nat} (h : c = 97 ∨ c = 98 ∨ c = 99) : Abc [c] := fun x m => by
  rw [List.mem_singleton.mp m]
  exact h
theorem abc_lit : ("abc" : Str) = tx [97, 98, 99] := by decide +kernel
theorem nil_lit : ("" : Str) = tx [] := by decide +kernel
theorem goes_abc (c : Nat) : (tx [97, 98, 99]).cps.contains c = true ↔ (c = 97 ∨ c = 98 ∨ c = 99) := by
  simp [tx]
/-- strip('abc') leaves nothing just of letters alone -/
theorem strip_abc (l : List Nat) : (Txt.stripChars (tx l) (tx [97, 98, 99]) = tx []) ↔ Abc l := by
  unfold Txt.stripChars
  rw [stripBy_eq]
  obtain ⟨a1, a2, a3⟩ := lo_facts (tx [97, 98, 99]).cps.contains (tx l)
  obtain ⟨b1, b2, b3, b4⟩ := hi_facts (tx [97, 98, 99]).cps.contains (tx l) _ a1
  generalize stripLo (tx [97, 98, 99]).cps.contains true (tx l) = lo at *
  generalize stripHi (tx [97, 98, 99]).cps.contains true (tx l) lo = hi at *
  have gd : ∀ k, (tx l).cps.getD k 0 = l.getD k 0 := fun k => by rw [← getD_list]
  have hlen : (tx l).length = l.length := tx_len l
  rw [hlen] at a1 a3 b2 b3
  have size : (strSub (tx l) lo hi).length = hi - lo := by
    unfold strSub Str.length
    simp
    omega
  constructor
  · intro h
    have e : hi - lo = 0 := by rw [← size, h]; rfl
    have e2 : hi = lo := by omega
    subst e2
    have all : ∀ k, k < l.length → (tx [97, 98, 99]).cps.contains (l.getD k 0) = true := fun k hk => by
      rw [← gd]
      by_cases q : k < hi
      · exact a2 k q
      · exact b3 k (by omega) hk
    intro c m
    obtain ⟨k, hk, rfl⟩ := List.mem_iff_getElem.mp m
    have := all k hk
    rw [List.getD_eq_getElem?_getD, List.getElem?_eq_getElem hk] at this
    exact (goes_abc _).mp this
  · intro h
    have e : lo = l.length := by
      rcases a3 with e | e
      · exact e
      · by_cases q : lo < l.length
        · rw [gd, List.getD_eq_getElem?_getD, List.getElem?_eq_getElem q] at e
          have := (goes_abc _).mpr (h _ (List.getElem_mem q))
          rw [Option.getD_some] at e
          rw [e] at this
          cases this
        · omega
    have z : (strSub (tx l) lo hi).length = 0 := by omega
    have : (strSub (tx l) lo hi).cps = #[] := Array.eq_empty_of_size_eq_zero z
    cases hh : strSub (tx l) lo hi with
    | mk c =>
      rw [hh] at this
      show (⟨c⟩ : Str) = ⟨#[]⟩
      rw [show c = #[] from this]
/-! ### picking -/
theorem pick {α : Type} {xs : List α} {d : Int} (h0 : 0 ≤ d) (h1 : d < (xs.length : Int)) : ∃ v, v ∈ xs ∧ atI xs d = some v := by
  obtain ⟨k, rfl⟩ := Int.eq_ofNat_of_zero_le h0
  have hk : k < xs.length := by omega
  exact ⟨xs[k], List.getElem_mem hk, atI_nat (List.getElem?_eq_getElem hk)⟩
theorem pick_int {ns : List Int} {d : Int} (h0 : 0 ≤ d) (h1 : d < (ns.length : Int)) : ∃ v, v ∈ ns ∧ atI (ns.map V.int) d = some (.int v) := by
  obtain ⟨v, m, e⟩ := pick (xs := ns.map V.int) h0 (by rw [List.length_map]; exact h1)
  obtain ⟨n, hn, rfl⟩ := List.mem_map.mp m
  exact ⟨n, hn, e⟩
theorem at0 {α : Type} {a : α} {l : List α} : atI (a :: l) 0 = some a := atI_nat (j := 0) rfl
theorem at1 {α : Type} {a b : α} {l : List α} : atI (a :: b :: l) 1 = some b := atI_nat (j := 1) rfl
theorem sz {n : Nat} (h : n ≤ 100000) : n ≤ sizeLine := Nat.le_trans h (by decide)
theorem szt {l : List Nat} (h : l.length ≤ 100000) : (tx l).length ≤ sizeLine := by
  rw [tx_len]
  exact sz h
theorem inV_str (s : Str) : ∀ ws : List Str, inV (.str s) (ws.map V.str) = decide (s ∈ ws)
  | [] => rfl
  | x :: ws => by
    have ih := inV_str s ws
    unfold inV at ih ⊢
    rw [List.map_cons, List.any_cons, ih]
    show ((x == s) || decide (s ∈ ws)) = _
    by_cases e : x = s
    · subst e
      simp
    · have : (x == s) = false := beq_eq_false_iff_ne.mpr e
      rw [this]
      simp
      exact fun q => absurd q.symm e
end Pg
namespace Pg
open PySem PySem.Spec PyProof.Rows L2
/-! ### lists of texts, compared -/
theorem strOk_abc {l : List Nat} (h : Abc l) : PyData.canLay0 (.str (tx l)) = true := by
  unfold PyData.canLay0 PyData.strOk
  simp
  intro c m
  rcases h c m with e | e | e <;> subst e <;> decide
theorem canLay_strs : ∀ {ls : List (List Nat)}, (∀ l ∈ ls, Abc l) → PyData.canLayAll0 (ls.map fun l => .str (tx l)) = true
  | [], _ => rfl
  | l :: ls, h => by
    show (PyData.canLay0 (.str (tx l)) && PyData.canLayAll0 (ls.map fun l => .str (tx l))) = true
    rw [strOk_abc (h l List.mem_cons_self), canLay_strs fun m q => h m (List.mem_cons_of_mem _ q)]
    rfl
theorem depth_strs : ∀ (ls : List (List Nat)), PyData.depthAll (ls.map fun l => .str (tx l)) = 0
  | [] => rfl
  | l :: ls => by
    show max 0 (PyData.depthAll (ls.map fun l => .str (tx l))) = 0
    rw [depth_strs ls]
    rfl
theorem shaped_strs {ls : List (List Nat)} (h : ∀ l ∈ ls, Abc l) : SeqAt.shaped (.list (ls.map fun l => .str (tx l))) = true := by
  unfold SeqAt.shaped
  rw [show PyData.canLay0 (.list (ls.map fun l => .str (tx l))) = true from canLay_strs h]
  rw [show PyData.depth (.list (ls.map fun l => .str (tx l))) = 0 + 1 by show PyData.depthAll _ + 1 = _; rw [depth_strs]]
  rfl
theorem dp_strs {K : PySem.W.Frag} {H : Hp} : ∀ (ls : List (List Nat)), DpAll K H (ls.map Tx) (ls.map fun l => .str (tx l))
  | [] => .nil
  | l :: ls => .cons (.str _) (dp_strs ls)
theorem ne_nil_strs {K : PySem.W.Frag} {H : Hp} {p q : Addr} {ls : List (List Nat)} {Q : VK} (hp : SqL K H p (ls.map Tx)) (h : ∀ l ∈ ls, Abc l) (hq : H q = some (.lst [])) (k : Q (.bl (!ls.isEmpty)) H) : rNeD K (.ref p) (.ref q) H Q := by
  refine ⟨.list (ls.map fun l => .str (tx l)), .list [], .lst hp (dp_strs ls), .lst (SqL.of hq) .nil, shaped_strs h, rfl, ?_⟩
  have e : PyData.eqv (.list (ls.map fun l => .str (tx l))) (.list []) = ls.isEmpty := by
    cases ls with
    | nil => rfl
    | cons l ls => rfl
  rw [e]
  exact k
end Pg
namespace Pg
open PySem PySem.Spec PyProof.Rows L2
/-! ### any values: what they are, as far as the program looks -/
inductive Dt where
  | non | bl (b : Bool) | int (i : Int) | str (l : List Nat) | tup (ds : List Dt) | lst | obj
mutual
def Dt.dep : Dt → Nat
  | .tup ds => Dt.depL ds + 1
  | _ => 0
def Dt.depL : List Dt → Nat
  | [] => 0
  | d :: ds => max d.dep (Dt.depL ds)
end
theorem Dt.dep_mem : ∀ {ds : List Dt} {d : Dt}, d ∈ ds → d.dep ≤ Dt.depL ds
  | e :: ds, d, m => by
    rcases List.mem_cons.mp m with rfl | m
    · exact Nat.le_max_left _ _
    · exact Nat.le_trans (Dt.dep_mem m) (Nat.le_max_right _ _)
theorem Dt.depL_le : ∀ {ds : List Dt} {n : Nat}, (∀ d ∈ ds, d.dep ≤ n) → Dt.depL ds ≤ n
  | [], _, _ => Nat.zero_le _
  | d :: ds, n, h => Nat.max_le.mpr ⟨h d List.mem_cons_self, Dt.depL_le fun e m => h e (List.mem_cons_of_mem _ m)⟩
mutual
inductive Rp (K : PySem.W.Frag) (H : Hp) : V → Dt → Prop
  | non : Rp K H .non .non
  | bl (b : Bool) : Rp K H (.bl b) (.bl b)
  | int (i : Int) : Rp K H (.int i) (.int i)
  | str (l : List Nat) (h : l.length ≤ 100000) : Rp K H (Tx l) (.str l)
  | tup {a : Addr} {vs : List V} {ds : List Dt} : SqT K H a vs → vs.length ≤ 100000 → RpL K H vs ds → Rp K H (.ref a) (.tup ds)
  | lst {a : Addr} {vs : List V} : H a = some (.lst vs) → Rp K H (.ref a) .lst
  | obj {a C : Addr} : H a = some (ExO (.ref C) a) → Rp K H (.ref a) .obj
inductive RpL (K : PySem.W.Frag) (H : Hp) : List V → List Dt → Prop
  | nil : RpL K H [] []
  | cons {v : V} {vs : List V} {d : Dt} {ds : List Dt} : Rp K H v d → RpL K H vs ds → RpL K H (v :: vs) (d :: ds)
end
/-- S has nothing but lists -/
def Lsts (H : Hp) (S : List Addr) : Prop := ∀ p ∈ S, ∃ xs, H p = some (.lst xs)
theorem Lsts.nil {H : Hp} : Lsts H [] := fun _ m => nomatch m
theorem Lsts.one {H : Hp} {p : Addr} {xs : List V} (h : H p = some (.lst xs)) : Lsts H [p] := fun q m => by
  rw [List.mem_singleton.mp m]
  exact ⟨xs, h⟩
theorem Lsts.cons {H : Hp} {p : Addr} {S : List Addr} {xs : List V} (h : H p = some (.lst xs)) (t : Lsts H S) : Lsts H (p :: S) := fun q m => by
  rcases List.mem_cons.mp m with rfl | m
  · exact ⟨xs, h⟩
  · exact t q m
theorem Lsts.stp {H H' : Hp} {S S' : List Addr} (h : Lsts H S) (s : Stp S' H H') : Lsts H' S := fun p m => by
  obtain ⟨xs, e⟩ := h p m
  exact s.ls p xs e
theorem sqt_stp {K : PySem.W.Frag} {H H' : Hp} {S : List Addr} {a : Addr} {vs : List V} (s : Stp S H H') (l : Lsts H S) (h : SqT K H a vs) : SqT K H' a vs := by
  rcases h with (h | ⟨o, h⟩) | h
  · refine .inl (.inl (s.kp a _ (fun m => ?_) h))
    obtain ⟨xs, e⟩ := l a m
    rw [h] at e
    cases e
  · refine .inl (.inr ⟨o, s.kp a _ (fun m => ?_) h⟩)
    obtain ⟨xs, e⟩ := l a m
    rw [h] at e
    cases e
  · exact .inr h
mutual
theorem Rp.stp {K : PySem.W.Frag} {H H' : Hp} {S : List Addr} (s : Stp S H H') (l : Lsts H S) : ∀ {v : V} {d : Dt}, Rp K H v d → Rp K H' v d
  | _, .non, .non => .non
  | _, .bl _, .bl b => .bl b
  | _, .int _, .int i => .int i
  | _, .str _, .str x h => .str x h
  | _, .tup ds, .tup h n r => .tup (sqt_stp s l h) n (RpL.stp s l r)
  | _, .lst, .lst (a := a) (vs := vs) h => by
    obtain ⟨ys, e⟩ := s.ls a vs h
    exact .lst e
  | _, .obj, .obj (a := a) (C := C) h => by
    refine .obj (C := C) (s.kp a _ (fun m => ?_) h)
    obtain ⟨xs, e⟩ := l a m
    rw [h] at e
    cases e
theorem RpL.stp {K : PySem.W.Frag} {H H' : Hp} {S : List Addr} (s : Stp S H H') (l : Lsts H S) : ∀ {vs : List V} {ds : List Dt}, RpL K H vs ds → RpL K H' vs ds
  | _, [], .nil => .nil
  | _, _ :: _, .cons h r => .cons (Rp.stp s l h) (RpL.stp s l r)
end
theorem RpL.len {K : PySem.W.Frag} {H : Hp} : ∀ {vs : List V} {ds : List Dt}, RpL K H vs ds → vs.length = ds.length
  | _, [], .nil => rfl
  | _, _ :: _, .cons _ r => by rw [List.length_cons, List.length_cons, RpL.len r]
theorem RpL.get {K : PySem.W.Frag} {H : Hp} : ∀ {vs : List V} {ds : List Dt} {i : Nat} {v : V}, RpL K H vs ds → vs[i]? = some v → ∃ d, ds[i]? = some d ∧ Rp K H v d
  | _, [], _, _, .nil, e => by simp at e
  | _, d :: _, 0, _, .cons h _, e => by
    simp at e
    subst e
    exact ⟨d, rfl, h⟩
  | _, _ :: _, i + 1, v, .cons _ r, e => RpL.get (i := i) (v := v) r (by simpa using e)
theorem RpL.app {K : PySem.W.Frag} {H : Hp} : ∀ {vs ws : List V} {ds es : List Dt}, RpL K H vs ds → RpL K H ws es → RpL K H (vs ++ ws) (ds ++ es)
  | _, _, [], _, .nil, q => q
  | _, _, _ :: _, _, .cons h r, q => .cons h (RpL.app r q)
theorem RpL.one {K : PySem.W.Frag} {H : Hp} : ∀ {vs : List V} {ds : List Dt}, RpL K H vs ds → vs.length = 1 → ∃ v d, vs = [v] ∧ ds = [d] ∧ Rp K H v d
  | _, [], .nil, h => by simp at h
  | _, [d], .cons h .nil, _ => ⟨_, d, rfl, rfl, h⟩
  | _, _ :: _ :: _, .cons _ (.cons _ _), h => by simp at h
/-! ### type(x), is -/
/-- the name of a value's built-in class; none for an object of the package -/
def Dt.ty : Dt → Option String
  | .non => some "NoneType"
  | .bl _ => some "bool"
  | .int _ => some "int"
  | .str _ => some "str"
  | .tup _ => some "tuple"
  | .lst => some "list"
  | .obj => none
def rTy (K : PySem.W.Frag) : List V → Hp → VK → Prop := fun xs H Q => ∃ x d, xs = [x] ∧ Rp K H x d ∧ ∀ y, (∀ T, d.ty = some T → y = .ty T) → (d.ty = none → ∃ C, y = .ref C) → Q y H
section
variable {X : Cx}
theorem call_type : CallR X (.type "type") (rTy X.K) := by
  intro pins s σ H xs us Q I r h
  obtain ⟨x, d, rfl, rp, q⟩ := h
  have old : ∀ T, TyB X.K H x T → d.ty = some T → wpAny (model X.prog X.w) X.A (call (.type "type") us) (EP X pins σ Q) X.xe s := fun T t e => by
    refine call_type1 pins s σ H [x] us Q I r ⟨x, T, rfl, t, q _ (fun T' e' => ?_) (fun n => ?_)⟩
    · rw [e] at e'
      cases e'
      rfl
    · rw [e] at n
      cases n
  cases rp with
  | non => exact old _ .non rfl
  | bl b => exact old _ (.bl b) rfl
  | int i => exact old _ (.int i) rfl
  | str l hl => exact old _ (.str _) rfl
  | tup hs hn ha => exact old _ (.tup hs) rfl
  | lst hs => exact old _ (.lst (SqL.of hs)) rfl
  | obj ho =>
    rename_i a C
    obtain ⟨u, rfl, rx⟩ := vals1 r
    cases rx
    obtain ⟨⟨oe, vs, e1, ⟨e2, e3⟩, e4, _⟩, _⟩ := I.hok _ _ ho
    obtain ⟨hh, g, dd, t, os⟩ := s
    exact call_type_obj e1 (by rw [e2]; rfl) (by rw [e2]; exact ⟨.ref C, H, I, rfl, q _ (fun T e => nomatch e) (fun _ => ⟨C, rfl⟩)⟩)
def rTyIs (neg : Bool) : R2 := fun x y H Q => ∃ T, y = .ty T ∧ ((∃ T', x = .ty T' ∧ Q (.bl (neg ^^ decide (T' = T))) H) ∨ ∃ C, x = .ref C ∧ Q (.bl neg) H)
theorem op_isTy : OpR X (compareOp .Is) (rTyIs false) := by
  intro pins s σ H x y v u Q I rx ry h
  obtain ⟨T, rfl, ⟨T', rfl, q⟩ | ⟨C, rfl, q⟩⟩ := h
  · exact op_isTyB pins s σ H _ _ _ _ _ I rx ry ⟨T', T, rfl, rfl, by rwa [Bool.false_xor] at q⟩
  · cases (show v = Value.ref C from rx)
    cases (show u = Value.type T from ry)
    exact wpAny_is_other rfl (by intro e; cases e) ⟨.bl false, H, I, rfl, q⟩
theorem op_notTy : OpR X (compareOp .IsNot) (rTyIs true) := by
  intro pins s σ H x y v u Q I rx ry h
  obtain ⟨T, rfl, ⟨T', rfl, q⟩ | ⟨C, rfl, q⟩⟩ := h
  · exact op_notTyB pins s σ H _ _ _ _ _ I rx ry ⟨T', T, rfl, rfl, by rwa [Bool.true_xor] at q⟩
  · cases (show v = Value.ref C from rx)
    cases (show u = Value.type T from ry)
    exact wpAny_isNot_other rfl (by intro e; cases e) ⟨.bl true, H, I, rfl, q⟩
end
/-- type(x) is T, type(x) is not T -/
theorem ty_is {K : PySem.W.Frag} {H : Hp} {x : V} {d : Dt} {T : String} {neg : Bool} {Q : VK} (r : Rp K H x d) (k : Q (.bl (neg ^^ decide (d.ty = some T))) H) : rTy K [x] H fun y H1 => rTyIs neg y (.ty T) H1 Q := by
  refine ⟨x, d, rfl, r, fun y h1 h2 => ⟨T, rfl, ?_⟩⟩
  cases e : d.ty with
  | none =>
    obtain ⟨C, rfl⟩ := h2 e
    refine .inr ⟨C, rfl, ?_⟩
    rw [e] at k
    simpa using k
  | some T' =>
    rw [h1 T' e]
    refine .inl ⟨T', rfl, ?_⟩
    rw [e] at k
    simpa using k
/-! ### type(e) is T as one piece -/
def Mono (te : TE) : Prop := ∀ σ H (Q Q' : VK), (∀ v H', Q v H' → Q' v H') → te σ H Q → te σ H Q'
theorem Mono.var {i : Nat} : Mono (tVar i) := fun σ H Q Q' h ⟨v, e, q⟩ => ⟨v, e, h _ _ q⟩
theorem Mono.c {v : V} : Mono (tC v) := fun σ H Q Q' h q => h _ _ q
theorem Mono.op {r : R2} {ta tb : TE} (ha : Mono ta) (hb : Mono tb) (hr : ∀ x y H (Q Q' : VK), (∀ v H', Q v H' → Q' v H') → r x y H Q → r x y H Q') : Mono (tOp r ta tb) := fun σ H Q Q' h q =>
  ha σ H _ _ (fun x H1 q1 => hb σ H1 _ _ (fun y H2 q2 => hr x y H2 _ _ h q2) q1) q
theorem Mono.ixT {K : PySem.W.Frag} {ta tb : TE} (ha : Mono ta) (hb : Mono tb) : Mono (tOp (rIxT K) ta tb) := Mono.op ha hb fun _ _ _ _ _ h ⟨p, xs, i, v, e1, e2, e3, e4, q⟩ => ⟨p, xs, i, v, e1, e2, e3, e4, h _ _ q⟩
theorem Mono.ixL {K : PySem.W.Frag} {ta tb : TE} (ha : Mono ta) (hb : Mono tb) : Mono (tOp (rIxL K) ta tb) := Mono.op ha hb fun _ _ _ _ _ h ⟨p, xs, i, v, e1, e2, e3, e4, q⟩ => ⟨p, xs, i, v, e1, e2, e3, e4, h _ _ q⟩
def tTyIs (K : PySem.W.Frag) (neg : Bool) (T : String) (te : TE) : TE := fun σ H Q => te σ H fun x H1 => ∃ d, Rp K H1 x d ∧ Q (.bl (neg ^^ decide (d.ty = some T))) H1
def tTTyIs (K : PySem.W.Frag) (neg : Bool) (T : String) (te : TE) : TT := fun σ H Q => te σ H fun x H1 => ∃ d, Rp K H1 x d ∧ Q (neg ^^ decide (d.ty = some T)) H1
section
variable {X : Cx} {e : Expr} {te : TE} {T : String} {x : Str} {p pos q pos2 : Pos}
theorem pe_tyIs (hm : Mono te) (he : PE X e te) (hn : X.mg "type" = none) (hT : X.mg x = none) (hv : bootBuiltins x = some (Value.type T)) (hg : Gl X "type" := by rfl) (hgT : Gl X x := by rfl) (hnn : x ≠ "__name__" := by decide) (hd : (x == ("__debug__" : Str)) = false := by decide)
    (hs : starEach [e] X.env = (false, eval e X.env) :: starEach [] X.env := by rfl) (hpl : (backTo pos (starEach [] X.env)).any (·.1) = false := by rfl) :
    PE X (.Compare (.Call (.Name "type" p) [e] [] pos) [.Is] [.Name x q] pos2) (tTyIs X.K false T te) := by
  have h := pe_cmpR (X := X) (pos := pos2) op_isTy (pe_callTy (p := p) (pos := pos) call_type hg hn (by decide +kernel) (pa_cons he pa_nil (hs := hs)) (he := hs) (hpl := hpl)) (pe_bltn (v := .ty T) (pos := q) hgT hT hv rfl hnn hd) (nomark _)
  refine ⟨fun pins s σ H Q I hw => h.run pins s σ H Q I ?_⟩
  exact hm σ H _ _ (fun v H1 ⟨d, r, k⟩ => ty_is (neg := false) r k) hw
theorem pe_tyNot (hm : Mono te) (he : PE X e te) (hn : X.mg "type" = none) (hT : X.mg x = none) (hv : bootBuiltins x = some (Value.type T)) (hg : Gl X "type" := by rfl) (hgT : Gl X x := by rfl) (hnn : x ≠ "__name__" := by decide) (hd : (x == ("__debug__" : Str)) = false := by decide)
    (hs : starEach [e] X.env = (false, eval e X.env) :: starEach [] X.env := by rfl) (hpl : (backTo pos (starEach [] X.env)).any (·.1) = false := by rfl) :
    PE X (.Compare (.Call (.Name "type" p) [e] [] pos) [.IsNot] [.Name x q] pos2) (tTyIs X.K true T te) := by
  have h := pe_cmpR (X := X) (pos := pos2) op_notTy (pe_callTy (p := p) (pos := pos) call_type hg hn (by decide +kernel) (pa_cons he pa_nil (hs := hs)) (he := hs) (hpl := hpl)) (pe_bltn (v := .ty T) (pos := q) hgT hT hv rfl hnn hd) (nomark _)
  refine ⟨fun pins s σ H Q I hw => h.run pins s σ H Q I ?_⟩
  exact hm σ H _ _ (fun v H1 ⟨d, r, k⟩ => ty_is (neg := true) r k) hw
theorem pt_tyIs (hm : Mono te) (he : PE X e te) (hn : X.mg "type" = none) (hT : X.mg x = none) (hv : bootBuiltins x = some (Value.type T)) (hg : Gl X "type" := by rfl) (hgT : Gl X x := by rfl) (hnn : x ≠ "__name__" := by decide) (hd : (x == ("__debug__" : Str)) = false := by decide)
    (hs : starEach [e] X.env = (false, eval e X.env) :: starEach [] X.env := by rfl) (hpl : (backTo pos (starEach [] X.env)).any (·.1) = false := by rfl) :
    PT X (.Compare (.Call (.Name "type" p) [e] [] pos) [.Is] [.Name x q] pos2) (tTTyIs X.K false T te) := by
  have h := pt_cmpR (X := X) (pos := pos2) op_isTy (pe_callTy (p := p) (pos := pos) call_type hg hn (by decide +kernel) (pa_cons he pa_nil (hs := hs)) (he := hs) (hpl := hpl)) (pe_bltn (v := .ty T) (pos := q) hgT hT hv rfl hnn hd) (nomark _)
  refine ⟨fun pins s σ H Q I hw => h.run pins s σ H Q I ?_⟩
  exact hm σ H _ _ (fun v H1 ⟨d, r, k⟩ => ty_is (neg := false) (Q := fun x H' => ∃ k, x = .bl k ∧ Q k H') r ⟨_, rfl, k⟩) hw
theorem pt_tyNot (hm : Mono te) (he : PE X e te) (hn : X.mg "type" = none) (hT : X.mg x = none) (hv : bootBuiltins x = some (Value.type T)) (hg : Gl X "type" := by rfl) (hgT : Gl X x := by rfl) (hnn : x ≠ "__name__" := by decide) (hd : (x == ("__debug__" : Str)) = false := by decide)
    (hs : starEach [e] X.env = (false, eval e X.env) :: starEach [] X.env := by rfl) (hpl : (backTo pos (starEach [] X.env)).any (·.1) = false := by rfl) :
    PT X (.Compare (.Call (.Name "type" p) [e] [] pos) [.IsNot] [.Name x q] pos2) (tTTyIs X.K true T te) := by
  have h := pt_cmpR (X := X) (pos := pos2) op_notTy (pe_callTy (p := p) (pos := pos) call_type hg hn (by decide +kernel) (pa_cons he pa_nil (hs := hs)) (he := hs) (hpl := hpl)) (pe_bltn (v := .ty T) (pos := q) hgT hT hv rfl hnn hd) (nomark _)
  refine ⟨fun pins s σ H Q I hw => h.run pins s σ H Q I ?_⟩
  exact hm σ H _ _ (fun v H1 ⟨d, r, k⟩ => ty_is (neg := true) (Q := fun x H' => ∃ k, x = .bl k ∧ Q k H') r ⟨_, rfl, k⟩) hw
end
end Pg
namespace Pg
open PySem PySem.Spec PyProof.Rows L2
/-! ### readings are monotone: a piece may be cut off by what it leaves -/
def MonoT (t : TT) : Prop := ∀ σ H (Q Q' : Bool → Hp → Prop), (∀ b H', Q b H' → Q' b H') → t σ H Q → t σ H Q'
def MonoA (t : TA) : Prop := ∀ σ H (Q Q' : List V → Hp → Prop), (∀ vs H', Q vs H' → Q' vs H') → t σ H Q → t σ H Q'
def MonoS (sp : Sp) : Prop := ∀ vs H (Q Q' : VK) E, (∀ v H', Q v H' → Q' v H') → sp vs H Q E → sp vs H Q' E
def MonoR (r : R2) : Prop := ∀ x y H (Q Q' : VK), (∀ v H', Q v H' → Q' v H') → r x y H Q → r x y H Q'
def MonoC (r : List V → Hp → VK → Prop) : Prop := ∀ vs H (Q Q' : VK), (∀ v H', Q v H' → Q' v H') → r vs H Q → r vs H Q'
theorem Mono.cut {te : TE} (m : Mono te) {σ : L2.St} {H : Hp} {Q : VK} (P : V → Hp → Prop) (h : te σ H P) (k : ∀ v H', P v H' → Q v H') : te σ H Q := m σ H P Q k h
theorem MonoT.cut {t : TT} (m : MonoT t) {σ : L2.St} {H : Hp} {Q : Bool → Hp → Prop} (P : Bool → Hp → Prop) (h : t σ H P) (k : ∀ b H', P b H' → Q b H') : t σ H Q := m σ H P Q k h
theorem MonoR.i0 {g : Int → Int → V} : MonoR (rI0 g) := fun _ _ _ _ _ h ⟨i, j, e1, e2, q⟩ => ⟨i, j, e1, e2, h _ _ q⟩
theorem MonoR.i {C : Int → Int → Prop} {g : Int → Int → V} : MonoR (rI C g) := fun _ _ _ _ _ h ⟨i, j, e1, e2, c, q⟩ => ⟨i, j, e1, e2, c, h _ _ q⟩
theorem MonoR.eq : MonoR rEq := fun _ _ _ _ _ h ⟨s, q⟩ => ⟨s, h _ _ q⟩
theorem MonoR.ne : MonoR rNe := fun _ _ _ _ _ h ⟨s, q⟩ => ⟨s, h _ _ q⟩
theorem MonoR.ixL {K : PySem.W.Frag} : MonoR (rIxL K) := fun _ _ _ _ _ h ⟨p, xs, i, v, e1, e2, e3, e4, q⟩ => ⟨p, xs, i, v, e1, e2, e3, e4, h _ _ q⟩
theorem MonoR.ixT {K : PySem.W.Frag} : MonoR (rIxT K) := fun _ _ _ _ _ h ⟨p, xs, i, v, e1, e2, e3, e4, q⟩ => ⟨p, xs, i, v, e1, e2, e3, e4, h _ _ q⟩
theorem MonoR.ixS : MonoR rIxS := fun _ _ _ _ _ h ⟨z, i, c, e1, e2, e3, e4, q⟩ => ⟨z, i, c, e1, e2, e3, e4, h _ _ q⟩
theorem MonoR.inn {K : PySem.W.Frag} {neg : Bool} : MonoR (rIn K neg) := fun _ _ _ _ _ h ⟨p, xs, e1, e2, e3, e4, q⟩ => ⟨p, xs, e1, e2, e3, e4, h _ _ q⟩
theorem MonoR.neD {K : PySem.W.Frag} : MonoR (rNeD K) := fun _ _ _ _ _ h ⟨d, e, a, b, c, f, q⟩ => ⟨d, e, a, b, c, f, h _ _ q⟩
theorem MonoR.eqD {K : PySem.W.Frag} : MonoR (rEqD K) := fun _ _ _ _ _ h ⟨d, e, a, b, c, f, q⟩ => ⟨d, e, a, b, c, f, h _ _ q⟩
theorem MonoR.str {C : Str → Str → Prop} {g : Str → Str → V} : MonoR (fun x y H Q => ∃ i j, x = .str i ∧ y = .str j ∧ C i j ∧ Q (g i j) H) := fun _ _ _ _ _ h ⟨i, j, a, b, c, q⟩ => ⟨i, j, a, b, c, h _ _ q⟩
theorem MonoR.str0 {g : Str → Str → V} : MonoR (fun x y H Q => ∃ i j, x = .str i ∧ y = .str j ∧ Q (g i j) H) := fun _ _ _ _ _ h ⟨i, j, a, b, q⟩ => ⟨i, j, a, b, h _ _ q⟩
theorem Mono.op' {r : R2} {ta tb : TE} (hr : MonoR r) (ha : Mono ta) (hb : Mono tb) : Mono (tOp r ta tb) := Mono.op ha hb hr
theorem Mono.tif {t : TT} {ta tb : TE} (ht : MonoT t) (ha : Mono ta) (hb : Mono tb) : Mono (tIf t ta tb) := fun σ H Q Q' h q => ht σ H _ _ (fun b H1 q1 => by
  cases b with
  | true => exact ha σ H1 _ _ h q1
  | false => exact hb σ H1 _ _ h q1) q
theorem MonoT.test {te : TE} (h : Mono te) : MonoT (tTest te) := fun σ H Q Q' k q => h σ H _ _ (fun x H1 ⟨c, e, q1⟩ => ⟨c, e, k _ _ q1⟩) q
theorem MonoT.b {te : TE} (h : Mono te) : MonoT (tB te) := fun σ H Q Q' k q => h σ H _ _ (fun x H1 ⟨c, e, q1⟩ => ⟨c, e, k _ _ q1⟩) q
theorem MonoT.not {t : TT} (h : MonoT t) : MonoT (tNot t) := fun σ H Q Q' k q => h σ H _ _ (fun b H1 q1 => k _ _ q1) q
theorem MonoT.and {t u : TT} (h : MonoT t) (g : MonoT u) : MonoT (tAnd t u) := fun σ H Q Q' k q => h σ H _ _ (fun b H1 q1 => by
  cases b with
  | true => exact g σ H1 _ _ k q1
  | false => exact k _ _ q1) q
theorem MonoT.or {t u : TT} (h : MonoT t) (g : MonoT u) : MonoT (tOr t u) := fun σ H Q Q' k q => h σ H _ _ (fun b H1 q1 => by
  cases b with
  | true => exact k _ _ q1
  | false => exact g σ H1 _ _ k q1) q
theorem MonoA.nil : MonoA tNil := fun _ _ _ _ h q => h _ _ q
theorem MonoA.cons {te : TE} {ta : TA} (h : Mono te) (g : MonoA ta) : MonoA (tCons te ta) := fun σ H Q Q' k q => h σ H _ _ (fun x H1 q1 => g σ H1 _ _ (fun vs H2 q2 => k _ _ q2) q1) q
theorem Mono.cl {sp : Sp} {ta : TA} (hs : MonoS sp) (ha : MonoA ta) : Mono (tCl sp ta) := fun σ H Q Q' k q => ha σ H _ _ (fun vs H1 q1 => hs vs H1 _ _ E0 k q1) q
theorem Mono.cb {r : List V → Hp → VK → Prop} {ta : TA} (hs : MonoC r) (ha : MonoA ta) : Mono (tCB r ta) := fun σ H Q Q' k q => ha σ H _ _ (fun vs H1 q1 => hs vs H1 _ _ k q1) q
theorem Mono.tup {ta : TA} (ha : MonoA ta) : Mono (tTup ta) := fun σ H Q Q' k q => ha σ H _ _ (fun vs H1 ⟨l, q1⟩ => ⟨l, fun p hp => k _ _ (q1 p hp)⟩) q
theorem Mono.lst {ta : TA} (ha : MonoA ta) : Mono (tLst ta) := fun σ H Q Q' k q => ha σ H _ _ (fun vs H1 ⟨l, q1⟩ => ⟨l, fun p hp => k _ _ (q1 p hp)⟩) q
/-- one of two constants -/
theorem ite_tC {c : Prop} [Decidable c] {a b : V} {σ : L2.St} {H : Hp} {Q : VK} (h : ∀ v, v = a ∨ v = b → Q v H) : if c then tC a σ H Q else tC b σ H Q := by
  split
  · exact h a (.inl rfl)
  · exact h b (.inr rfl)
theorem MonoC.two {g : Int → Int → V} : MonoC (fun xs H Q => ∃ i j, xs = [.int i, .int j] ∧ Q (g i j) H) := fun _ _ _ _ h ⟨i, j, e, q⟩ => ⟨i, j, e, h _ _ q⟩
theorem MonoC.int1 : MonoC (fun xs H Q => (∃ i, xs = [.int i] ∧ Q (.int i) H) ∨ ∃ k : Bool, xs = [.bl k] ∧ Q (.int (if k then 1 else 0)) H) := fun _ _ _ _ h q => by
  rcases q with ⟨i, e, q⟩ | ⟨i, e, q⟩
  · exact .inl ⟨i, e, h _ _ q⟩
  · exact .inr ⟨i, e, h _ _ q⟩
theorem RpL.strs {K : PySem.W.Frag} {H : Hp} : ∀ {ws : List (List Nat)}, (∀ l ∈ ws, l.length ≤ 100000) → RpL K H (ws.map Tx) (ws.map Dt.str)
  | [], _ => .nil
  | l :: ws, h => .cons (.str l (h l List.mem_cons_self)) (RpL.strs fun m q => h m (List.mem_cons_of_mem _ q))
theorem dep_strs : ∀ (ws : List (List Nat)), Dt.depL (ws.map Dt.str) = 0
  | [] => rfl
  | l :: ws => by
    show max 0 (Dt.depL (ws.map Dt.str)) = 0
    rw [dep_strs ws]
    rfl
/-- a text of the program's own as a value -/
theorem Rp.lit {K : PySem.W.Frag} {H : Hp} (s : Str) (h : s.cps.toList.length ≤ 100000 := by decide +kernel) : Rp K H (.str s) (.str s.cps.toList) := by
  have := Rp.str (K := K) (H := H) s.cps.toList h
  have e : tx s.cps.toList = s := by cases s <;> simp [tx]
  rwa [Tx, e] at this
end Pg
namespace Pg
open PySem PySem.Spec PyProof.Rows L2
/-! ### expressions that build data: what they evaluate to -/
def EvD (K : PySem.W.Frag) (te : TE) (σ : L2.St) (H : Hp) (d : Dt) : Prop := ∀ H1, Stp [] H H1 → ∀ Q : VK, (∀ v H2, Stp [] H1 H2 → Rp K H2 v d → Q v H2) → te σ H1 Q
def EvDA (K : PySem.W.Frag) (ta : TA) (σ : L2.St) (H : Hp) (ds : List Dt) : Prop := ∀ H1, Stp [] H H1 → ∀ Q : List V → Hp → Prop, (∀ vs H2, Stp [] H1 H2 → RpL K H2 vs ds → Q vs H2) → ta σ H1 Q
section
variable {K : PySem.W.Frag} {te : TE} {ta : TA} {σ : L2.St} {H : Hp} {d : Dt} {ds : List Dt}
theorem EvD.bl {b : Bool} : EvD K (tC (.bl b)) σ H (.bl b) := fun H1 _ _ k => k _ H1 (Stp.refl _ _) (.bl b)
theorem EvD.int {i : Int} : EvD K (tC (.int i)) σ H (.int i) := fun H1 _ _ k => k _ H1 (Stp.refl _ _) (.int i)
theorem EvD.non : EvD K (tC .non) σ H .non := fun H1 _ _ k => k _ H1 (Stp.refl _ _) .non
theorem EvD.str {s : Str} (h : s.cps.toList.length ≤ 100000 := by decide +kernel) : EvD K (tC (.str s)) σ H (.str s.cps.toList) := fun H1 _ _ k => k _ H1 (Stp.refl _ _) (Rp.lit s h)
theorem EvD.var {i : Nat} {v : V} (r : Rp K H v d) (e : σ[i]? = some (some v) := by rfl) : EvD K (tVar i) σ H d := fun H1 s _ k => ⟨v, e, k v H1 (Stp.refl _ _) (r.stp s Lsts.nil)⟩
theorem EvDA.nil : EvDA K tNil σ H [] := fun H1 _ _ k => k [] H1 (Stp.refl _ _) .nil
theorem EvDA.cons (h : EvD K te σ H d) (g : EvDA K ta σ H ds) : EvDA K (tCons te ta) σ H (d :: ds) := fun H1 s Q k =>
  h H1 s _ fun v H2 s2 r => g H2 (s.trans s2) _ fun vs H3 s3 rs => k (v :: vs) H3 (s2.trans s3) (.cons (r.stp s3 Lsts.nil) rs)
theorem EvD.tup (h : EvDA K ta σ H ds) (hl : ds.length ≤ 1000) : EvD K (tTup ta) σ H (.tup ds) := fun H1 s Q k =>
  h H1 s _ fun vs H2 s2 rs => ⟨sz (by rw [rs.len]; omega), fun p np => k _ _ (s2.new' np) (.tup (SqT.of upd_same) (by rw [rs.len]; omega) (rs.stp (Stp.new np []) Lsts.nil))⟩
theorem EvD.lst (h : EvDA K ta σ H ds) (hl : ds.length ≤ 1000) : EvD K (tLst ta) σ H .lst := fun H1 s Q k =>
  h H1 s _ fun vs H2 s2 rs => ⟨sz (by rw [rs.len]; omega), fun p np => k _ _ (s2.new' np) (.lst upd_same)⟩
theorem EvD.exc {C : Addr} (h : EvD K te σ H d) : EvD K (fun σ H Q => te σ H fun _ H1 => ∀ a, H1 a = none → Q (.ref a) (upd H1 a (ExO (.ref C) a))) σ H .obj := fun H1 s Q k =>
  h H1 s _ fun v H2 s2 _ => fun a na => k _ _ (s2.new' na) (.obj upd_same)
theorem EvD.cat {tb : TE} {a b : List Nat} (h : EvD K te σ H (.str a)) (g : EvD K tb σ H (.str b)) (hl : a.length + b.length ≤ 100000) : EvD K (tOp (fun x y H Q => ∃ i j, x = .str i ∧ y = .str j ∧ i.length + j.length ≤ sizeLine ∧ Q (.str (i ++ j)) H) te tb) σ H (.str (a ++ b)) := fun H1 s Q k =>
  h H1 s _ fun v H2 s2 r => g H2 (s.trans s2) _ fun u H3 s3 q => by
    cases r with
    | str _ h1 =>
      cases q with
      | str _ h2 =>
        refine ⟨tx a, tx b, rfl, rfl, by rw [tx_len, tx_len]; exact sz hl, ?_⟩
        rw [tx_app]
        exact k _ _ (s2.trans s3) (.str _ (by rw [List.length_append]; exact hl))
theorem EvD.pow {i j : Int} (h : CPow i j) : EvD K (tOp (rI CPow fun i j => .int (i ^ j.toNat)) (tC (.int i)) (tC (.int j))) σ H (.int (i ^ j.toNat)) := fun H1 s Q k =>
  ⟨i, j, rfl, rfl, h, k _ _ (Stp.refl _ _) (.int _)⟩
theorem EvD.neg {i : Int} : EvD K (tUn (rU fun i => .int (-i)) (tC (.int i))) σ H (.int (-i)) := fun H1 s Q k => ⟨i, rfl, k _ _ (Stp.refl _ _) (.int _)⟩
/-- list(t) of a tuple -/
theorem EvD.list (h : EvD K te σ H (.tup ds)) : EvD K (tCB (fun xs H Q => ∃ p ys, xs = [.ref p] ∧ (SqL K H p ys ∨ SqT K H p ys) ∧ ∀ l, H l = none → Q (.ref l) (upd H l (.lst ys))) (tCons te tNil)) σ H .lst := fun H1 s Q k =>
  h H1 s _ fun v H2 s2 r => by
    cases r with
    | tup hs hn rl => exact ⟨_, _, rfl, .inr hs, fun l nl => k _ _ (s2.new' nl) (.lst upd_same)⟩
theorem EvDA.use (h : EvDA K ta σ H ds) {Q : List V → Hp → Prop} (k : ∀ vs H2, Stp [] H H2 → RpL K H2 vs ds → Q vs H2) : ta σ H Q := h H (Stp.refl _ _) Q k
theorem EvD.use (h : EvD K te σ H d) {Q : VK} (k : ∀ v H2, Stp [] H H2 → Rp K H2 v d → Q v H2) : te σ H Q := h H (Stp.refl _ _) Q k
/-- a new list of data -/
theorem EvDA.newl (h : EvDA K ta σ H ds) (hl : ds.length ≤ 1000) {Q : VK} (k : ∀ p vs H2, Stp [] H H2 → H p = none → H2 p = some (.lst vs) → RpL K H2 vs ds → Q (.ref p) H2) : tLst ta σ H Q :=
  h.use fun vs H2 s rs => ⟨sz (by rw [rs.len]; omega), fun p np => k p vs _ (s.new' np) (s.fresh (fun m => nomatch m) np) upd_same (rs.stp (Stp.new np []) Lsts.nil)⟩
end
/-! ### tuples put together, cut -/
theorem catA_use {K : PySem.W.Frag} {H : Hp} {a b : Addr} {xs ys : List V} {Q : VK} (ha : SqT K H a xs) (hb : SqT K H b ys) (hl : xs.length + ys.length ≤ 100000) (k : ∀ p H', Stp [] H H' → SqT K H' p (xs ++ ys) → Q (.ref p) H') : rCatA K (.ref a) (.ref b) H Q := by
  refine ⟨a, b, xs, ys, rfl, rfl, ha, hb, sz hl, fun e => ?_, fun _ e => ?_, fun _ _ p np => ?_⟩
  · subst e
    exact k b H (Stp.refl _ _) hb
  · subst e
    refine k a H (Stp.refl _ _) ?_
    rw [List.append_nil]
    exact ha
  · exact k p _ (Stp.new np _) (SqT.of upd_same)
theorem slA_use {K : PySem.W.Frag} {H : Hp} {a : Addr} {xs : List V} {lo hi : Option Int} {Q : VK} (ha : SqT K H a xs) (k : ∀ p H', Stp [] H H' → SqT K H' p (cutV xs lo hi) → Q (.ref p) H') : rSlA K (.ref a) lo hi H Q := by
  refine ⟨a, xs, rfl, ha, fun ⟨e1, e2⟩ => ?_, fun _ p np => ?_⟩
  · refine k a H (Stp.refl _ _) ?_
    have e : cutV xs lo hi = xs := by
      unfold cutV
      rw [e1, e2, List.drop_zero, Nat.sub_zero, List.take_length]
    rw [e]
    exact ha
  · exact k p _ (Stp.new np _) (SqT.of upd_same)
theorem cut_upto {xs : List V} (k : Nat) : cutV xs none (some (k : Int)) = xs.take k := by
  unfold cutV
  rw [HT.sIx_none, HT.sIx_nat, List.drop_zero, Nat.sub_zero]
  rcases Nat.le_total k xs.length with h | h
  · rw [Nat.min_eq_left h]
  · rw [Nat.min_eq_right h, List.take_of_length_le (Nat.le_refl _), List.take_of_length_le h]
theorem cut_from {xs : List V} (k : Nat) : cutV xs (some (k : Int)) none = xs.drop k := by
  unfold cutV
  rw [HT.sIx_none, HT.sIx_nat]
  rcases Nat.le_total k xs.length with h | h
  · rw [Nat.min_eq_left h, List.take_of_length_le (by rw [List.length_drop]; exact Nat.le_refl _)]
  · rw [Nat.min_eq_right h, List.drop_length, List.drop_of_length_le h, List.take_nil]
theorem RpL.take {K : PySem.W.Frag} {H : Hp} : ∀ {vs : List V} {ds : List Dt} (n : Nat), RpL K H vs ds → RpL K H (vs.take n) (ds.take n)
  | _, _, 0, _ => by rw [List.take_zero, List.take_zero]; exact .nil
  | _, [], _ + 1, .nil => .nil
  | _, _ :: _, n + 1, .cons h r => .cons h (RpL.take n r)
theorem RpL.drop {K : PySem.W.Frag} {H : Hp} : ∀ {vs : List V} {ds : List Dt} (n : Nat), RpL K H vs ds → RpL K H (vs.drop n) (ds.drop n)
  | _, _, 0, r => r
  | _, [], _ + 1, .nil => .nil
  | _, _ :: _, n + 1, .cons _ r => RpL.drop n r
/-! ### heads of statements -/
theorem asg_name {te : TE} {i : Nat} {u : TS} {D : Ends} {σ : L2.St} {H : Hp} (h : te σ H fun x H1 => u D (σ.set i (some x)) H1) : tSeq (tAsg te (gName i)) u D σ H := h
theorem op_var {r : R2} {i : Nat} {tb : TE} {σ : L2.St} {H : Hp} {Q : VK} {v : V} (e : σ[i]? = some (some v)) (h : tb σ H fun y H2 => r v y H2 Q) : tOp r (tVar i) tb σ H Q := ⟨v, e, h⟩
theorem nopart {σ : L2.St} {H : Hp} {Q : Option Int → Hp → Prop} (h : Q none H) : tNoPart σ H Q := h
end Pg
namespace Pv
open PySem PySem.Spec PyProof.Rows L2 Pg
/-! ### values with all that is in them -/
inductive D where
  | non | bl (b : Bool) | int (i : Int) | str (l : List Nat) | tup (ds : List D) | lst (ds : List D) | obj (C : Addr)
mutual
def D.old : D → Dt
  | .non => .non
  | .bl b => .bl b
  | .int i => .int i
  | .str l => .str l
  | .tup ds => .tup (D.olds ds)
  | .lst _ => .lst
  | .obj _ => .obj
def D.olds : List D → List Dt
  | [] => []
  | d :: ds => d.old :: D.olds ds
end
def D.ty (d : D) : Option String := d.old.ty
/-- isinstance(d, T) -/
def D.isi (T : String) : D → Bool
  | .bl _ => T == "bool" || T == "int"
  | .int _ => T == "int"
  | .str _ => T == "str"
  | .tup _ => T == "tuple"
  | .lst _ => T == "list"
  | _ => false
/-- what the class of an object says -/
structure OkC (K : PySem.W.Frag) (C : Addr) : Prop where
  exc : ExcC K C
  is_str : PySem.W.kitOne K (.ref C) (.type "str") = some false
  is_int : PySem.W.kitOne K (.ref C) (.type "int") = some false
  is_bool : PySem.W.kitOne K (.ref C) (.type "bool") = some false
  is_tuple : PySem.W.kitOne K (.ref C) (.type "tuple") = some false
  is_list : PySem.W.kitOne K (.ref C) (.type "list") = some false
mutual
/-- v is d; no list in it stands at an address of S -/
inductive Rv (K : PySem.W.Frag) (S : List Addr) (H : Hp) : V → D → Prop
  | non : Rv K S H .non .non
  | bl (b : Bool) : Rv K S H (.bl b) (.bl b)
  | int (i : Int) : Rv K S H (.int i) (.int i)
  | str (l : List Nat) (h : l.length ≤ 100000) : Rv K S H (Tx l) (.str l)
  | tup {a : Addr} {vs : List V} {ds : List D} : SqT K H a vs → vs.length ≤ 100000 → RvL K S H vs ds → Rv K S H (.ref a) (.tup ds)
  | lst {a : Addr} {vs : List V} {ds : List D} : H a = some (.lst vs) → a ∉ S → vs.length ≤ 100000 → RvL K S H vs ds → Rv K S H (.ref a) (.lst ds)
  | obj {a C : Addr} : H a = some (ExO (.ref C) a) → OkC K C → Rv K S H (.ref a) (.obj C)
inductive RvL (K : PySem.W.Frag) (S : List Addr) (H : Hp) : List V → List D → Prop
  | nil : RvL K S H [] []
  | cons {v : V} {vs : List V} {d : D} {ds : List D} : Rv K S H v d → RvL K S H vs ds → RvL K S H (v :: vs) (d :: ds)
end
section
variable {K : PySem.W.Frag} {S : List Addr} {H H' : Hp}
mutual
theorem Rv.old : ∀ {v : V} {d : D}, Rv K S H v d → Rp K H v d.old
  | _, .non, .non => .non
  | _, .bl _, .bl b => .bl b
  | _, .int _, .int i => .int i
  | _, .str _, .str x h => .str x h
  | _, .tup ds, .tup h n r => .tup h n (RvL.old r)
  | _, .lst _, .lst h _ _ _ => .lst h
  | _, .obj _, .obj h _ => .obj h
theorem RvL.old : ∀ {vs : List V} {ds : List D}, RvL K S H vs ds → RpL K H vs (D.olds ds)
  | _, [], .nil => .nil
  | _, _ :: _, .cons h r => .cons (Rv.old h) (RvL.old r)
end
mutual
theorem Rv.fr {S' : List Addr} (s : Stp S' H H') (l : Lsts H S') (sub : ∀ x ∈ S', x ∈ S) : ∀ {v : V} {d : D}, Rv K S H v d → Rv K S H' v d
  | _, .non, .non => .non
  | _, .bl _, .bl b => .bl b
  | _, .int _, .int i => .int i
  | _, .str _, .str x h => .str x h
  | _, .tup ds, .tup h n r => .tup (sqt_stp s l h) n (RvL.fr s l sub r)
  | _, .lst ds, .lst h o n r => .lst (s.kp _ _ (fun m => o (sub _ m)) h) o n (RvL.fr s l sub r)
  | _, .obj _, .obj (a := a) (C := C) h k => by
    refine .obj (C := C) (s.kp a _ (fun m => ?_) h) k
    obtain ⟨xs, e⟩ := l a m
    rw [h] at e
    cases e
theorem RvL.fr {S' : List Addr} (s : Stp S' H H') (l : Lsts H S') (sub : ∀ x ∈ S', x ∈ S) : ∀ {vs : List V} {ds : List D}, RvL K S H vs ds → RvL K S H' vs ds
  | _, [], .nil => .nil
  | _, _ :: _, .cons h r => .cons (Rv.fr s l sub h) (RvL.fr s l sub r)
end
theorem Rv.stp {v : V} {d : D} (r : Rv K S H v d) (s : Stp S H H') (l : Lsts H S) : Rv K S H' v d := Rv.fr s l (fun _ m => m) r
theorem RvL.stp {vs : List V} {ds : List D} (r : RvL K S H vs ds) (s : Stp S H H') (l : Lsts H S) : RvL K S H' vs ds := RvL.fr s l (fun _ m => m) r
theorem Rv.up {v : V} {d : D} (r : Rv K S H v d) (s : Stp [] H H') : Rv K S H' v d := Rv.fr s Lsts.nil (fun _ m => nomatch m) r
theorem RvL.up {vs : List V} {ds : List D} (r : RvL K S H vs ds) (s : Stp [] H H') : RvL K S H' vs ds := RvL.fr s Lsts.nil (fun _ m => nomatch m) r
mutual
theorem Rv.sub {S' : List Addr} (h : ∀ x ∈ S', x ∈ S) : ∀ {v : V} {d : D}, Rv K S H v d → Rv K S' H v d
  | _, .non, .non => .non
  | _, .bl _, .bl b => .bl b
  | _, .int _, .int i => .int i
  | _, .str _, .str x h => .str x h
  | _, .tup ds, .tup q n r => .tup q n (RvL.sub h r)
  | _, .lst ds, .lst q o n r => .lst q (fun m => o (h _ m)) n (RvL.sub h r)
  | _, .obj _, .obj q k => .obj q k
theorem RvL.sub {S' : List Addr} (h : ∀ x ∈ S', x ∈ S) : ∀ {vs : List V} {ds : List D}, RvL K S H vs ds → RvL K S' H vs ds
  | _, [], .nil => .nil
  | _, _ :: _, .cons q r => .cons (Rv.sub h q) (RvL.sub h r)
end
theorem RvL.len : ∀ {vs : List V} {ds : List D}, RvL K S H vs ds → vs.length = ds.length
  | _, [], .nil => rfl
  | _, _ :: _, .cons _ r => by rw [List.length_cons, List.length_cons, RvL.len r]
theorem RvL.get : ∀ {vs : List V} {ds : List D} {i : Nat} {v : V}, RvL K S H vs ds → vs[i]? = some v → ∃ d, ds[i]? = some d ∧ Rv K S H v d
  | _, [], _, _, .nil, e => by simp at e
  | _, d :: _, 0, _, .cons h _, e => by
    simp at e
    subst e
    exact ⟨d, rfl, h⟩
  | _, _ :: _, i + 1, v, .cons _ r, e => RvL.get (i := i) (v := v) r (by simpa using e)
theorem RvL.app : ∀ {vs ws : List V} {ds es : List D}, RvL K S H vs ds → RvL K S H ws es → RvL K S H (vs ++ ws) (ds ++ es)
  | _, _, [], _, .nil, q => q
  | _, _, _ :: _, _, .cons h r, q => .cons h (RvL.app r q)
theorem RvL.take : ∀ {vs : List V} {ds : List D} (n : Nat), RvL K S H vs ds → RvL K S H (vs.take n) (ds.take n)
  | _, _, 0, _ => by rw [List.take_zero, List.take_zero]; exact .nil
  | _, [], _ + 1, .nil => .nil
  | _, _ :: _, n + 1, .cons h r => .cons h (RvL.take n r)
theorem RvL.drop : ∀ {vs : List V} {ds : List D} (n : Nat), RvL K S H vs ds → RvL K S H (vs.drop n) (ds.drop n)
  | _, _, 0, r => r
  | _, [], _ + 1, .nil => .nil
  | _, _ :: _, n + 1, .cons _ r => RvL.drop n r
theorem RvL.rev : ∀ {vs : List V} {ds : List D}, RvL K S H vs ds → RvL K S H vs.reverse ds.reverse
  | _, [], .nil => .nil
  | _, _ :: _, .cons h r => by
    rw [List.reverse_cons, List.reverse_cons]
    exact RvL.app (RvL.rev r) (.cons h .nil)
theorem RvL.pick {vs : List V} {ds : List D} {i : Int} (r : RvL K S H vs ds) (h0 : 0 ≤ i) (h1 : i < (ds.length : Int)) : ∃ v d, d ∈ ds ∧ Rv K S H v d ∧ atI vs i = some v := by
  obtain ⟨k, rfl⟩ := Int.eq_ofNat_of_zero_le h0
  have hk : k < vs.length := by rw [r.len]; omega
  obtain ⟨d, hd, rd⟩ := r.get (List.getElem?_eq_getElem hk)
  exact ⟨vs[k], d, List.mem_of_getElem? hd, rd, atI_nat (List.getElem?_eq_getElem hk)⟩
/-- a text of the program's own -/
def wd (s : Str) : D := .str s.cps.toList
theorem tx_cps (s : Str) : tx s.cps.toList = s := by cases s <;> simp [tx]
theorem Rv.lit (s : Str) (h : s.cps.toList.length ≤ 100000 := by decide +kernel) : Rv K S H (.str s) (wd s) := by
  have := Rv.str (K := K) (S := S) (H := H) s.cps.toList h
  rwa [Tx, tx_cps] at this
theorem out_new {p : Addr} (l : Lsts H S) (h : H p = none) : p ∉ S := fun m => by
  obtain ⟨xs, e⟩ := l p m
  rw [h] at e
  cases e
/-- a new tuple, a new list -/
theorem Rv.newT {p : Addr} {vs : List V} {ds : List D} (np : H p = none) (r : RvL K S H vs ds) (h : ds.length ≤ 100000) : Rv K S (upd H p (.tup vs)) (.ref p) (.tup ds) := .tup (SqT.of upd_same) (by rw [r.len]; exact h) (r.up (Stp.new np []))
theorem Rv.newL {p : Addr} {vs : List V} {ds : List D} (l : Lsts H S) (np : H p = none) (r : RvL K S H vs ds) (h : ds.length ≤ 100000) : Rv K S (upd H p (.lst vs)) (.ref p) (.lst ds) := .lst upd_same (out_new l np) (by rw [r.len]; exact h) (r.up (Stp.new np []))
theorem Lsts.up {H H' : Hp} (l : Lsts H S) (s : Stp [] H H') : Lsts H' S := l.stp s
end
/-! ### type(x) is T -/
theorem D.ty_old (d : D) : d.old.ty = d.ty := rfl
theorem ty_non : D.non.ty = some "NoneType" := rfl
theorem ty_bl {b : Bool} : (D.bl b).ty = some "bool" := rfl
theorem ty_int {i : Int} : (D.int i).ty = some "int" := rfl
theorem ty_str {l : List Nat} : (D.str l).ty = some "str" := rfl
theorem ty_tup {ds : List D} : (D.tup ds).ty = some "tuple" := by unfold D.ty D.old; rfl
theorem ty_lst {ds : List D} : (D.lst ds).ty = some "list" := by unfold D.ty D.old; rfl
theorem ty_obj {C : Addr} : (D.obj C).ty = none := rfl
theorem D.lst_of {d : D} (h : d.ty = some "list") : ∃ ds, d = .lst ds := by
  cases d with
  | lst ds => exact ⟨ds, rfl⟩
  | tup ds => rw [ty_tup] at h; exact absurd h (by decide)
  | obj C => rw [ty_obj] at h; cases h
  | non => exact absurd h (by rw [ty_non]; decide)
  | bl b => exact absurd h (by rw [ty_bl]; decide)
  | int i => exact absurd h (by rw [ty_int]; decide)
  | str l => exact absurd h (by rw [ty_str]; decide)
theorem D.tup_of {d : D} (h : d.ty = some "tuple") : ∃ ds, d = .tup ds := by
  cases d with
  | tup ds => exact ⟨ds, rfl⟩
  | lst ds => rw [ty_lst] at h; exact absurd h (by decide)
  | obj C => rw [ty_obj] at h; cases h
  | non => exact absurd h (by rw [ty_non]; decide)
  | bl b => exact absurd h (by rw [ty_bl]; decide)
  | int i => exact absurd h (by rw [ty_int]; decide)
  | str l => exact absurd h (by rw [ty_str]; decide)
theorem D.str_of {d : D} (h : d.ty = some "str") : ∃ l, d = .str l := by
  cases d with
  | str ds => exact ⟨ds, rfl⟩
  | lst ds => rw [ty_lst] at h; exact absurd h (by decide)
  | tup ds => rw [ty_tup] at h; exact absurd h (by decide)
  | obj C => rw [ty_obj] at h; cases h
  | non => exact absurd h (by rw [ty_non]; decide)
  | bl b => exact absurd h (by rw [ty_bl]; decide)
  | int i => exact absurd h (by rw [ty_int]; decide)
theorem D.int_of {d : D} (h : d.ty = some "int") : ∃ i, d = .int i := by
  cases d with
  | int i => exact ⟨i, rfl⟩
  | lst ds => rw [ty_lst] at h; exact absurd h (by decide)
  | tup ds => rw [ty_tup] at h; exact absurd h (by decide)
  | obj C => rw [ty_obj] at h; cases h
  | non => exact absurd h (by rw [ty_non]; decide)
  | bl b => exact absurd h (by rw [ty_bl]; decide)
  | str l => exact absurd h (by rw [ty_str]; decide)
/-! ### isinstance -/
def rIsD (K : PySem.W.Frag) (T : String) : List V → Hp → VK → Prop := fun xs H Q => ∃ (S : List Addr) (x : V) (d : D), xs = [x, .ty T] ∧ Rv K S H x d ∧ Q (.bl (d.isi T)) H
section
variable {X : Cx} {T : String}
theorem tyx_of {K : PySem.W.Frag} {S : List Addr} {H : Hp} {x : V} {d : D} (r : Rv K S H x d) (t : String) (h : d.ty = some t) : TyX K H x (.type t) := by
  cases r with
  | non => rw [ty_non] at h; cases h; exact .base .non
  | bl b => rw [ty_bl] at h; cases h; exact .base (.bl b)
  | int i => rw [ty_int] at h; cases h; exact .base (.int i)
  | str l hl => rw [ty_str] at h; cases h; exact .base (.str _)
  | lst hs _ _ _ => rw [ty_lst] at h; cases h; exact .base (.lst hs)
  | obj ho _ => rw [ty_obj] at h; cases h
  | tup hs _ _ =>
    rw [ty_tup] at h
    cases h
    rcases hs with (hs | ⟨o, hs⟩) | ⟨o, its, n, e, c, _⟩
    · exact .base (.tup hs)
    · exact .fTuple hs
    · exact .kTuple e c
theorem kit_str : ∀ t : String, t ∈ ["NoneType", "bool", "int", "str", "tuple", "list"] → kitB t "str" = some (t == "str") := by decide +kernel
theorem kit_int : ∀ t : String, t ∈ ["NoneType", "bool", "int", "str", "tuple", "list"] → kitB t "int" = some (t == "bool" || t == "int") := by decide +kernel
theorem kit_bool : ∀ t : String, t ∈ ["NoneType", "bool", "int", "str", "tuple", "list"] → kitB t "bool" = some (t == "bool") := by decide +kernel
theorem kit_tuple : ∀ t : String, t ∈ ["NoneType", "bool", "int", "str", "tuple", "list"] → kitB t "tuple" = some (t == "tuple") := by decide +kernel
theorem kit_list : ∀ t : String, t ∈ ["NoneType", "bool", "int", "str", "tuple", "list"] → kitB t "list" = some (t == "list") := by decide +kernel
theorem kit_d {d : D} {t : String} (h : d.ty = some t) (hT : T ∈ ["str", "int", "bool", "tuple", "list"]) : kitB t T = some (d.isi T) := by
  simp only [List.mem_cons, List.not_mem_nil, or_false] at hT
  have go : ∀ u, d.ty = some u → u = t := fun u e => by rw [h] at e; exact (Option.some.inj e).symm
  rcases hT with rfl | rfl | rfl | rfl | rfl <;> cases d
  all_goals first
    | (have q := go _ ty_non; subst q; first | exact kit_str _ (by decide) | exact kit_int _ (by decide) | exact kit_bool _ (by decide) | exact kit_tuple _ (by decide) | exact kit_list _ (by decide))
    | (have q := go _ ty_bl; subst q; first | exact kit_str _ (by decide) | exact kit_int _ (by decide) | exact kit_bool _ (by decide) | exact kit_tuple _ (by decide) | exact kit_list _ (by decide))
    | (have q := go _ ty_int; subst q; first | exact kit_str _ (by decide) | exact kit_int _ (by decide) | exact kit_bool _ (by decide) | exact kit_tuple _ (by decide) | exact kit_list _ (by decide))
    | (have q := go _ ty_str; subst q; first | exact kit_str _ (by decide) | exact kit_int _ (by decide) | exact kit_bool _ (by decide) | exact kit_tuple _ (by decide) | exact kit_list _ (by decide))
    | (have q := go _ ty_tup; subst q; first | exact kit_str _ (by decide) | exact kit_int _ (by decide) | exact kit_bool _ (by decide) | exact kit_tuple _ (by decide) | exact kit_list _ (by decide))
    | (have q := go _ ty_lst; subst q; first | exact kit_str _ (by decide) | exact kit_int _ (by decide) | exact kit_bool _ (by decide) | exact kit_tuple _ (by decide) | exact kit_list _ (by decide))
    | (rw [ty_obj] at h; cases h)
theorem D.has_ty (d : D) : (∃ t, d.ty = some t) ∨ ∃ C, d = .obj C := by
  cases d with
  | obj C => exact .inr ⟨C, rfl⟩
  | non => exact .inl ⟨_, ty_non⟩
  | bl b => exact .inl ⟨_, ty_bl⟩
  | int i => exact .inl ⟨_, ty_int⟩
  | str l => exact .inl ⟨_, ty_str⟩
  | tup ds => exact .inl ⟨_, ty_tup⟩
  | lst ds => exact .inl ⟨_, ty_lst⟩
theorem call_isiD (hT : T ∈ ["str", "int", "bool", "tuple", "list"]) : CallR X (.builtin "isinstance") (rIsD X.K T) := by
  intro pins s σ H xs us Q I r h
  obtain ⟨S, x, d, rfl, rv, q⟩ := h
  rcases d.has_ty with ⟨t, ht⟩ | ⟨C, rfl⟩
  · exact call_isi pins s σ H _ us Q I r ⟨x, .ty T, _, _, d.isi T, rfl, .ty T, tyx_of rv t ht, kit_ty (kit_d ht hT), q⟩
  · cases rv with
    | obj ho ok =>
      rename_i a
      obtain ⟨u1, u2, rfl, r1, r2⟩ := vals2 r
      cases r1
      cases (show u2 = Value.type T from r2)
      obtain ⟨⟨oe, vs, e1, ⟨e2, e3⟩, e4, _⟩, _⟩ := I.hok _ _ ho
      have J : PySem.W.InstAt s.heap a oe C none := by
        obtain ⟨oc, od, oda, osl⟩ := oe
        dsimp only at e2 e3 e4
        subst e2 e3 e4
        exact ⟨e1, rfl, rfl, trivial⟩
      have kit : PySem.W.kitOne X.K (.ref C) (.type T) = some ((D.obj C).isi T) := by
        simp only [List.mem_cons, List.not_mem_nil, or_false] at hT
        rcases hT with rfl | rfl | rfl | rfl | rfl
        · exact ok.is_str
        · exact ok.is_int
        · exact ok.is_bool
        · exact ok.is_tuple
        · exact ok.is_list
      exact PySem.W.kia_one (PySem.W.handS_kitx_exc ok.exc.hg ok.exc.hk ok.exc.hs ok.exc.hd ok.exc.ha ok.exc.hn ok.exc.ht ok.exc.hm) I.kIn J kit (fun z => nomatch z) fun tk => ⟨.bl ((D.obj C).isi T), H, I.kept (t' := tk) fun _ _ z => z, rfl, q⟩
end
theorem call_isiDK {X : Cx} {T : String} {K : PySem.W.Frag} (hK : X.K = K) (hT : T ∈ ["str", "int", "bool", "tuple", "list"]) : CallR X (.builtin "isinstance") (rIsD K T) := by
  subst hK
  exact call_isiD hT
/-! ### t[::-1] -/
section
variable {prog : Program} {w : World} {A : Around} {E : Value → Shared → Prop} {s : Shared}
open HT
theorem sliceApplied_rev {sl : Addr} {vl vu vs : Value} {n : Nat} {Q : Int × Int × Nat → Shared → Prop} (hs : s.heap.IsSliceOf sl vl vu vs) (pl : IsPart vl none) (pu : IsPart vu none) (ps : IsPart vs (some (-1)))
    (h : Q ((n : Int) - 1, -1, n) s) : wpAny (model prog w) A (Builtin.Slice.sliceApplied (.ref sl) (pure (n : Int))) Q E s := by
  obtain ⟨os, hos, hcs, hds⟩ := id hs
  unfold Builtin.Slice.sliceApplied Builtin.Slice.sliceFields
  refine wpAny_bind (wpAny_bind (wpAny_field hos hds (x := vl) rfl (wpAny_bind (wpAny_field hos hds (x := vu) rfl (wpAny_bind (wpAny_field hos hds (x := vs) rfl (wpAny_pure ?_)))))))
  refine wpAny_bind (slicePart_ ps ?_)
  show wpAny _ _ (if ((-1 : Int) == 0) = true then _ else _) _ _ s
  rw [if_neg (by decide)]
  refine wpAny_bind (slicePart_ pl (wpAny_bind (slicePart_ pu (wpAny_bind (wpAny_pure ?_)))))
  show wpAny _ _ (pure ((n : Int) - 1, (-1 : Int), Builtin.Slice.slicePlaces ((n : Int) - 1) (-1) (-1))) _ _ s
  have e : Builtin.Slice.slicePlaces ((n : Int) - 1) (-1) (-1) = n := by
    unfold Builtin.Slice.slicePlaces
    rw [if_neg (by decide)]
    by_cases c : (n : Int) - 1 > -1
    · rw [if_pos c, show (- -1 : Int) = 1 by decide, Int.ediv_one]
      omega
    · rw [if_neg c]
      omega
  rw [e]
  exact wpAny_pure h
theorem pick_rev (xs : Array Value) : ((List.range xs.size).filterMap fun (k : Nat) => xs[((xs.size : Int) - 1 + (k : Int) * (-1)).toNat]?).toArray = xs.toList.reverse.toArray := by
  have e : (fun (k : Nat) => xs[((xs.size : Int) - 1 + (k : Int) * (-1)).toNat]?) = (fun k => xs[xs.size - 1 - k]?) := by
    funext k
    have : ((xs.size : Int) - 1 + (k : Int) * (-1)).toNat = xs.size - 1 - k := by omega
    rw [this]
  rw [e]
  have e2 : (fun k => xs[xs.size - 1 - k]?) = (fun k => xs[k]?) ∘ fun k => xs.size - 1 - k := rfl
  rw [e2, ← List.filterMap_map, PySem.W.krv_range, List.filterMap_reverse, PySem.W.krv_all]
theorem getItem_tuple_rev {t sl : Addr} {items : Array Value} {vl vu vs : Value} {Q : Value → Shared → Prop} (ht : IsTup s.heap t items) (hs : s.heap.IsSliceOf sl vl vu vs) (pl : IsPart vl none) (pu : IsPart vu none) (ps : IsPart vs (some (-1)))
    (h : Q (.ref s.heap.objs.size) { s with heap := s.heap.push { cls := .type "tuple", data := .seq items.toList.reverse.toArray } })
    (hsz : items.size ≤ sizeLine) : wpAny (model prog w) A (getItem (.ref t) (.ref sl)) Q E s := by
  have htake : sizeOk (.seq items.toList.reverse.toArray) := by
    show items.toList.reverse.toArray.size ≤ sizeLine
    rw [List.size_toArray, List.length_reverse, Array.length_toList]
    exact hsz
  obtain ⟨os, hos, hcs, hds⟩ := id hs
  have hTs : s.TypeIs (.ref sl) "slice" := ⟨os, hos, hcs⟩
  unfold getItem
  try with_reducible refine wpAny_holding ?_
  first | refine wpAny_bind (wpAny_pure ?_) | skip
  refine wpAny_bind (wpAny_sequenceKey ht.typeIs (by decide) ?_)
  refine wpAny_bind (wpAny_callSpecial?_slot (name := Str.ofString "__getitem__") ht.typeIs PyProof.Rows.slot_tuple_getitem
    (wpAny_call_entry PyProof.Rows.slot_tuple_getitem ht.typeIs entry_tuple_getitem ?_ (args_tuple_getitem _ _)))
  show wpAny _ _ (Builtin.Tuple.tupleItemsOf (.ref t) >>= _) _ _ s
  refine wpAny_bind (tupleItemsOf_ ht ?_)
  refine wpAny_bind (wpAny_typeOf hTs ?_)
  rw [if_pos (by decide)]
  refine wpAny_bind (sliceApplied_rev hs pl pu ps ?_)
  have hno : ¬ ((((items.size : Int) - 1) == 0 && (-1 : Int) == 1 && items.size == items.size) = true) := by
    intro q
    rw [Bool.and_eq_true, Bool.and_eq_true] at q
    exact absurd q.1.2 (by decide)
  show wpAny _ _ (if (((items.size : Int) - 1) == 0 && (-1 : Int) == 1 && items.size == items.size) = true then _ else _) _ _ s
  rw [if_neg hno, pick_rev]
  first
    | exact wpAny_bind (m := Builtin.Tuple.tupleExact _) (wpAny_newObj_type (wpAny_pure ⟨_, rfl, wpAny_pure h⟩) htake)
    | exact wpAny_bind (m := Builtin.Tuple.tupleExact _) (wpAny_newObj_type (wpAny_bind (wpAny_pure (wpAny_pure ⟨_, rfl, wpAny_pure h⟩))) htake)
    | exact wpAny_bind (wpAny_bind (m := Builtin.Tuple.tupleExact _) (wpAny_newObj_type (wpAny_pure (wpAny_pure ⟨_, rfl, wpAny_pure h⟩)) htake))
    | exact wpAny_bind (wpAny_bind (m := Builtin.Tuple.tupleExact _) (wpAny_newObj_type (wpAny_pure ⟨_, rfl, wpAny_pure h⟩) htake))
end
section
variable {X : Cx}
def tRevT (K : PySem.W.Frag) (te : TE) : TE := fun σ H Q => te σ H fun x H1 => ∃ a xs, x = .ref a ∧ SqT K H1 a xs ∧ ∀ p, H1 p = none → Q (.ref p) (upd H1 p (.tup xs.reverse))
theorem pe_revT {e : Expr} {te : TE} {k : Nat} {p1 p2 p3 pos : Pos} (he : PE X e te) : PE X (.Subscript e (.Slice none none (some (.UnaryOp .USub (.Constant (.int 1) k p1) p2)) p3) pos) (tRevT X.K te) := by
  refine ⟨fun pins s σ H Q I h => ?_⟩
  refine Subscript_ (thn (he.run pins s σ H _ I h) fun v s1 ⟨x, H1, I1, r1, q1⟩ => ?_)
  obtain ⟨a, xs, ex, hx, q⟩ := q1
  subst ex
  cases r1
  have hst : PO X (some (.UnaryOp .USub (.Constant (.int 1) k p1) p2)) (tPart (tUn (rU fun i => .int (-i)) (tC (.int 1)))) := po_some (pe_un un_neg pe_int)
  refine wpAny_Slice (thn (po_none.run pins s1 σ H1 (fun o H2 => o = none ∧ H2 = H1) I1 ⟨rfl, rfl⟩) fun vl s2 ⟨l, H2, I2, pl, el, e2⟩ => ?_)
  subst el e2
  refine thn (po_none.run pins s2 σ H2 (fun o H3 => o = none ∧ H3 = H2) I2 ⟨rfl, rfl⟩) fun vu s3 ⟨u, H3, I3, pu, eu, e3⟩ => ?_
  subst eu e3
  refine thn (hst.run pins s3 σ H3 (fun o H4 => o = some (-1) ∧ H4 = H3) I3 ⟨1, rfl, -1, rfl, rfl, rfl⟩) fun vs s4 ⟨o, H4, I4, ps, eo, e4⟩ => ?_
  subst eo e4
  have I5 : Inv X pins σ H4 { s4 with heap := s4.heap.push { cls := .type "slice", data := .fields #[vl, vu, vs] } } := I4.kept (t' := s4.toks) fun b ob q => Heap.get?_push_of_some _ q
  obtain ⟨its, r, ht, hz⟩ := I5.tuple hx
  have hlen := r.length
  show wpAny (model X.prog X.w) X.A (subscriptTail e (.Slice none none (some (.UnaryOp .USub (.Constant (.int 1) k p1) p2)) p3) (.ref a) (.ref s4.heap.objs.size)) (EP X pins σ Q) X.xe { s4 with heap := s4.heap.push { cls := .type "slice", data := .fields #[vl, vu, vs] } }
  refine tail_any (ops := [.ref a, .ref s4.heap.objs.size]) ht.typeIs (PyProof.Rows.slot_tuple_getitem.lookup) ?_ (by with_unfolding_all rfl)
  refine getItem_tuple_rev ht (Heap.IsSliceOf.new _ vl vu vs) pl pu ps ?_ (by rw [List.size_toArray]; omega)
  refine ⟨.ref _, _, I5.laid (t' := s4.toks) (o := .tup xs.reverse) (fun b ob q => Heap.get?_push_of_some _ q) (Nat.le_refl _) ?_, rfl, q _ (I5.hok.fresh (Nat.le_refl _))⟩
  exact ⟨by rw [List.length_reverse]; exact hz, _, r.reverse, IsTup.new _ _⟩
end
/-! ### expressions that build values -/
def EvD (K : PySem.W.Frag) (S : List Addr) (te : TE) (σ : L2.St) (H : Hp) (d : D) : Prop := ∀ H1, Stp [] H H1 → ∀ Q : VK, (∀ v H2, Stp [] H1 H2 → Rv K S H2 v d → Q v H2) → te σ H1 Q
def EvDA (K : PySem.W.Frag) (S : List Addr) (ta : TA) (σ : L2.St) (H : Hp) (ds : List D) : Prop := ∀ H1, Stp [] H H1 → ∀ Q : List V → Hp → Prop, (∀ vs H2, Stp [] H1 H2 → RvL K S H2 vs ds → Q vs H2) → ta σ H1 Q
section
variable {K : PySem.W.Frag} {S : List Addr} {te : TE} {ta : TA} {σ : L2.St} {H : Hp} {d : D} {ds : List D}
theorem EvD.bl {b : Bool} : EvD K S (tC (.bl b)) σ H (.bl b) := fun H1 _ _ k => k _ H1 (Stp.refl _ _) (.bl b)
theorem EvD.int {i : Int} : EvD K S (tC (.int i)) σ H (.int i) := fun H1 _ _ k => k _ H1 (Stp.refl _ _) (.int i)
theorem EvD.non : EvD K S (tC .non) σ H .non := fun H1 _ _ k => k _ H1 (Stp.refl _ _) .non
theorem EvD.str {s : Str} (h : s.cps.toList.length ≤ 100000 := by decide +kernel) : EvD K S (tC (.str s)) σ H (wd s) := fun H1 _ _ k => k _ H1 (Stp.refl _ _) (Rv.lit s h)
theorem EvD.var {i : Nat} {v : V} (r : Rv K S H v d) (e : σ[i]? = some (some v) := by rfl) : EvD K S (tVar i) σ H d := fun H1 s _ k => ⟨v, e, k v H1 (Stp.refl _ _) (r.up s)⟩
theorem EvDA.nil : EvDA K S tNil σ H [] := fun H1 _ _ k => k [] H1 (Stp.refl _ _) .nil
theorem EvDA.cons (h : EvD K S te σ H d) (g : EvDA K S ta σ H ds) : EvDA K S (tCons te ta) σ H (d :: ds) := fun H1 s Q k =>
  h H1 s _ fun v H2 s2 r => g H2 (s.trans s2) _ fun vs H3 s3 rs => k (v :: vs) H3 (s2.trans s3) (.cons (r.up s3) rs)
theorem EvD.tup (h : EvDA K S ta σ H ds) (hl : ds.length ≤ 1000) : EvD K S (tTup ta) σ H (.tup ds) := fun H1 s Q k =>
  h H1 s _ fun vs H2 s2 rs => ⟨sz (by rw [rs.len]; omega), fun p np => k _ _ (s2.new' np) (Rv.newT np rs (by omega))⟩
theorem EvD.lst (L : Lsts H S) (h : EvDA K S ta σ H ds) (hl : ds.length ≤ 1000) : EvD K S (tLst ta) σ H (.lst ds) := fun H1 s Q k =>
  h H1 s _ fun vs H2 s2 rs => ⟨sz (by rw [rs.len]; omega), fun p np => k _ _ (s2.new' np) (Rv.newL (Pv.Lsts.up L (s.trans s2)) np rs (by omega))⟩
theorem EvD.exc {C : Addr} (ok : OkC K C) (h : EvD K S te σ H d) : EvD K S (fun σ H Q => te σ H fun _ H1 => ∀ a, H1 a = none → Q (.ref a) (upd H1 a (ExO (.ref C) a))) σ H (.obj C) := fun H1 s Q k =>
  h H1 s _ fun v H2 s2 _ => fun a na => k _ _ (s2.new' na) (.obj upd_same ok)
theorem EvD.pow {i j : Int} (h : CPow i j) : EvD K S (tOp (rI CPow fun i j => .int (i ^ j.toNat)) (tC (.int i)) (tC (.int j))) σ H (.int (i ^ j.toNat)) := fun H1 s Q k =>
  ⟨i, j, rfl, rfl, h, k _ _ (Stp.refl _ _) (.int _)⟩
theorem EvD.neg {i : Int} : EvD K S (tUn (rU fun i => .int (-i)) (tC (.int i))) σ H (.int (-i)) := fun H1 s Q k => ⟨i, rfl, k _ _ (Stp.refl _ _) (.int _)⟩
theorem EvDA.use (h : EvDA K S ta σ H ds) {Q : List V → Hp → Prop} (k : ∀ vs H2, Stp [] H H2 → RvL K S H2 vs ds → Q vs H2) : ta σ H Q := h H (Stp.refl _ _) Q k
theorem EvD.use (h : EvD K S te σ H d) {Q : VK} (k : ∀ v H2, Stp [] H H2 → Rv K S H2 v d → Q v H2) : te σ H Q := h H (Stp.refl _ _) Q k
theorem EvDA.newl (h : EvDA K S ta σ H ds) (hl : ds.length ≤ 1000) {Q : VK} (k : ∀ p vs H2, Stp [] H H2 → H p = none → H2 p = some (.lst vs) → RvL K S H2 vs ds → Q (.ref p) H2) : tLst ta σ H Q :=
  h.use fun vs H2 s rs => ⟨sz (by rw [rs.len]; omega), fun p np => k p vs _ (s.new' np) (s.fresh (fun m => nomatch m) np) upd_same (rs.up (Stp.new np []))⟩
end
/-! ### lists of truths, compared -/
theorem dp_bools {K : PySem.W.Frag} {H : Hp} : ∀ (bs : List Bool), DpAll K H (bs.map V.bl) (bs.map PyData.bool)
  | [] => .nil
  | b :: bs => .cons (.bl b) (dp_bools bs)
theorem lay_bools : ∀ (bs : List Bool), PyData.canLayAll0 (bs.map PyData.bool) = true
  | [] => rfl
  | b :: bs => by
    show (PyData.canLay0 (.bool b) && PyData.canLayAll0 (bs.map PyData.bool)) = true
    rw [lay_bools bs]
    rfl
theorem dep_bools : ∀ (bs : List Bool), PyData.depthAll (bs.map PyData.bool) = 0
  | [] => rfl
  | b :: bs => by
    show max 0 (PyData.depthAll (bs.map PyData.bool)) = 0
    rw [dep_bools bs]
    rfl
theorem shaped_bools (bs : List Bool) : SeqAt.shaped (.list (bs.map PyData.bool)) = true := by
  unfold SeqAt.shaped
  rw [show PyData.canLay0 (.list (bs.map PyData.bool)) = true from lay_bools bs]
  rw [show PyData.depth (.list (bs.map PyData.bool)) = 0 + 1 by show PyData.depthAll _ + 1 = _; rw [dep_bools]]
  rfl
/-- the same list of truths twice: != says no -/
theorem ne_bools {K : PySem.W.Frag} {H : Hp} {p q : Addr} {bs : List Bool} {Q : VK} (hp : SqL K H p (bs.map V.bl)) (hq : SqL K H q (bs.map V.bl)) (k : Q (.bl false) H) : rNeD K (.ref p) (.ref q) H Q := by
  refine ⟨.list (bs.map PyData.bool), .list (bs.map PyData.bool), .lst hp (dp_bools bs), .lst hq (dp_bools bs), shaped_bools bs, shaped_bools bs, ?_⟩
  rw [SeqAt.eqv_refl _ (show PyData.canLay0 (.list (bs.map PyData.bool)) = true from lay_bools bs)]
  exact k
end Pv
namespace Pv
open PySem PySem.Spec PyProof.Rows L2 Pg
/-- the ways of an expression, joined by what they leave -/
theorem te_join {te : TE} {σ : L2.St} {H : Hp} {Q : VK} (I : V → Hp → Prop) (h : (∀ v H', I v H' → Q v H') → te σ H Q) (k : ∀ v H', I v H' → Q v H') : te σ H Q := h k
/-- xs + ys, new lists of values -/
theorem cat_use {K : PySem.W.Frag} {S : List Addr} {H : Hp} {a b : Addr} {xs ys : List V} {ds es : List D} {Q : VK} (ha : H a = some (.lst xs)) (hb : H b = some (.lst ys)) (ra : RvL K S H xs ds) (rb : RvL K S H ys es) (hl : ds.length + es.length ≤ 100000)
    (k : ∀ p, H p = none → ∀ H' zs, Stp [] H H' → H' p = some (.lst zs) → RvL K S H' zs (ds ++ es) → Q (.ref p) H') : rCat (.ref a) (.ref b) H Q :=
  ⟨a, b, xs, ys, rfl, rfl, ha, hb, by rw [ra.len, rb.len]; exact sz hl, fun p np => k p np _ _ (Stp.new np _) upd_same ((ra.app rb).up (Stp.new np _))⟩
/-- xs + ys, also of a list that is locked -/
def rCatS (K : PySem.W.Frag) : R2 := fun x y H Q => ∃ l b xs zs, x = .ref l ∧ y = .ref b ∧ SqL K H l xs ∧ SqL K H b zs ∧ xs.length + zs.length ≤ sizeLine ∧ ∀ p, H p = none → Q (.ref p) (upd H p (.lst (xs ++ zs)))
theorem op_catS {X : Cx} : OpR X (binaryOp .Add) (rCatS X.K) := by
  intro pins s σ H x y v u Q I rx ry h
  obtain ⟨l, b, xs, zs, rfl, rfl, hH, hB, hz, q⟩ := h
  cases rx
  cases ry
  obtain ⟨its, r, pl, _⟩ := I.list hH
  obtain ⟨its2, r2, pl2, _⟩ := I.list hB
  have hl := r.length
  have hl2 := r2.length
  have ea : its.toArray ++ its2.toArray = (its ++ its2).toArray := by simp
  obtain ⟨⟨cls, dd, data, sl⟩, ho, hc, n, hd⟩ := pl.isList
  obtain ⟨⟨cls2, dd2, data2, sl2⟩, ho2, hc2, n2, hd2⟩ := pl2.isList
  simp only at hc hd hc2 hd2
  subst hc hd hc2 hd2
  refine concat_meets ⟨_, ho, rfl⟩ ⟨_, ho2, rfl⟩ noFill_list_add seq_list_add PySem.F.slot_list_add PySem.F.entry_list_add (PySem.F.args_list_add_2 _ _) (list_addW l b its.toArray its2.toArray n n2 dd dd2 sl sl2 (by rw [List.size_toArray, List.size_toArray]; omega)) ⟨ho, ho2, ?_⟩
  rw [ea]
  exact ⟨.ref _, _, I.lnew (t' := s.toks) (r.append r2) (by rw [List.length_append]; omega), rfl, q _ I.fresh⟩
theorem out_of {b p : Addr} {H : Hp} {o : HO} (h : H b = some o) (np : H p = none) : p ∉ [b] := fun m => by
  rw [List.mem_singleton.mp m, h] at np
  cases np
end Pv
namespace Pv
open PySem PySem.Spec PyProof.Rows L2 Pg
section
variable {K : PySem.W.Frag} {S : List Addr} {te : TE} {ta : TA} {σ : L2.St} {H : Hp} {d : D} {ds es : List D}
theorem catT {a b : Addr} {xs ys : List V} {Q : VK} (ha : SqT K H a xs) (hb : SqT K H b ys) (ra : RvL K S H xs ds) (rb : RvL K S H ys es) (hl : ds.length + es.length ≤ 100000)
    (k : ∀ p zs H', Stp [] H H' → SqT K H' p zs → RvL K S H' zs (ds ++ es) → Q (.ref p) H') : rCatA K (.ref a) (.ref b) H Q :=
  catA_use ha hb (by rw [ra.len, rb.len]; exact hl) fun p H' s h => k p _ H' s h ((ra.app rb).up s)
theorem upT {a : Addr} {xs : List V} {n : Nat} {Q : VK} (ha : SqT K H a xs) (ra : RvL K S H xs ds) (k : ∀ p zs H', Stp [] H H' → SqT K H' p zs → RvL K S H' zs (ds.take n) → Q (.ref p) H') : rSlA K (.ref a) none (some (n : Int)) H Q :=
  slA_use ha fun p H' s h => k p _ H' s (by rwa [cut_upto] at h) ((ra.take n).up s)
theorem fromT {a : Addr} {xs : List V} {n : Nat} {Q : VK} (ha : SqT K H a xs) (ra : RvL K S H xs ds) (k : ∀ p zs H', Stp [] H H' → SqT K H' p zs → RvL K S H' zs (ds.drop n) → Q (.ref p) H') : rSlA K (.ref a) (some (n : Int)) none H Q :=
  slA_use ha fun p H' s h => k p _ H' s (by rwa [cut_from] at h) ((ra.drop n).up s)
theorem fromT1 {a : Addr} {xs : List V} {n : Nat} {Q : VK} (ha : SqT K H a xs) (ra : RvL K S H xs ds) (k : ∀ p zs H', Stp [] H H' → SqT K H' p zs → RvL K S H' zs (ds.drop (n + 1)) → Q (.ref p) H') : rSlA K (.ref a) (some ((n : Int) + 1)) none H Q :=
  Pv.fromT (n := n + 1) ha ra k
/-! more expressions -/
theorem Rv.tupE {a : V} (r : Rv K S H a (.tup ds)) : ∃ p vs, a = .ref p ∧ SqT K H p vs ∧ vs.length ≤ 100000 ∧ RvL K S H vs ds := by
  cases r with
  | tup h n r => exact ⟨_, _, rfl, h, n, r⟩
theorem EvD.list (L : Lsts H S) (h : EvD K S te σ H (.tup ds)) : EvD K S (tCB (fun xs H Q => ∃ p ys, xs = [.ref p] ∧ (SqL K H p ys ∨ SqT K H p ys) ∧ ∀ l, H l = none → Q (.ref l) (upd H l (.lst ys))) (tCons te tNil)) σ H (.lst ds) := fun H1 s Q k =>
  h H1 s _ fun v H2 s2 r => by
    obtain ⟨p, vs, rfl, hs, n, rl⟩ := r.tupE
    exact ⟨_, _, rfl, .inr hs, fun l nl => k _ _ (s2.new' nl) (Rv.newL (Pg.Lsts.stp L (s.trans s2)) nl rl (by rw [← rl.len]; exact n))⟩
theorem EvD.upT {n : Nat} (h : EvD K S te σ H (.tup ds)) : EvD K S (tSl (rSlA K) te tNoPart (tPart (tC (.int (n : Int))))) σ H (.tup (ds.take n)) := fun H1 s Q k =>
  h H1 s _ fun v H2 s2 r => by
    obtain ⟨p, vs, rfl, hs, n, rl⟩ := r.tupE
    exact ⟨_, rfl, Pv.upT hs rl fun p zs H' s3 h2 r2 => k _ _ (s2.trans s3) (.tup h2 (by rw [r2.len, List.length_take, ← rl.len]; omega) r2)⟩
theorem EvD.fromT {n : Nat} (h : EvD K S te σ H (.tup ds)) : EvD K S (tSl (rSlA K) te (tPart (tC (.int (n : Int)))) tNoPart) σ H (.tup (ds.drop n)) := fun H1 s Q k =>
  h H1 s _ fun v H2 s2 r => by
    obtain ⟨p, vs, rfl, hs, n, rl⟩ := r.tupE
    exact ⟨_, rfl, Pv.fromT hs rl fun p zs H' s3 h2 r2 => k _ _ (s2.trans s3) (.tup h2 (by rw [r2.len, List.length_drop, ← rl.len]; omega) r2)⟩
theorem EvD.catT {tb : TE} (h : EvD K S te σ H (.tup ds)) (g : EvD K S tb σ H (.tup es)) (hl : ds.length + es.length ≤ 100000) : EvD K S (tOp (rCatA K) te tb) σ H (.tup (ds ++ es)) := fun H1 s Q k =>
  h H1 s _ fun v H2 s2 r => g H2 (s.trans s2) _ fun u H3 s3 q => by
    obtain ⟨p, vs, rfl, hs, n, rl⟩ := (r.up s3).tupE
    obtain ⟨p2, vs2, rfl, hs2, n2, rl2⟩ := q.tupE
    exact Pv.catT hs hs2 rl rl2 hl fun p zs H' s4 h2 r2 => k _ _ ((s2.trans s3).trans s4) (.tup h2 (by rw [r2.len, List.length_append]; exact hl) r2)
theorem EvD.ixT {i : Nat} (h : EvD K S te σ H (.tup ds)) (e : ds[i]? = some d) : EvD K S (tOp (rIxT K) te (tC (.int (i : Int)))) σ H d := fun H1 s Q k =>
  h H1 s _ fun v H2 s2 r => by
    obtain ⟨p, vs, rfl, hs, n, rl⟩ := r.tupE
    have hi : i < vs.length := by
      rw [rl.len]
      exact (List.getElem?_eq_some_iff.mp e).1
    obtain ⟨d', e', r'⟩ := rl.get (List.getElem?_eq_getElem hi)
    rw [e] at e'
    cases e'
    exact ⟨p, vs, _, _, rfl, rfl, hs, atI_nat (List.getElem?_eq_getElem hi), k _ _ s2 r'⟩
theorem EvD.revT (h : EvD K S te σ H (.tup ds)) : EvD K S (tRevT K te) σ H (.tup ds.reverse) := fun H1 s Q k =>
  h H1 s _ fun v H2 s2 r => by
    obtain ⟨p, vs, rfl, hs, n, rl⟩ := r.tupE
    exact ⟨p, vs, rfl, hs, fun p np => k _ _ (s2.new' np) (Rv.newT np rl.rev (by rw [List.length_reverse, ← rl.len]; exact n))⟩
theorem op_newl {r : R2} {tb : TE} {Q : VK} (h : EvDA K S ta σ H ds) (hl : ds.length ≤ 1000) (k : ∀ p vs H2, Stp [] H H2 → H p = none → H2 p = some (.lst vs) → RvL K S H2 vs ds → tb σ H2 fun y H3 => r (.ref p) y H3 Q) : tOp r (tLst ta) tb σ H Q := h.newl hl k
theorem EvDA.one (h : EvD K S te σ H d) : EvDA K S (tCons te tNil) σ H [d] := .cons h .nil
end
end Pv
namespace Pv
open PySem PySem.Spec PyProof.Rows L2 Pg
/-! ### xs == [], xs any values -/
def rEqNil (K : PySem.W.Frag) : R2 := fun x y H Q => ∃ a b xs, x = .ref a ∧ y = .ref b ∧ a ≠ b ∧ SqL K H a xs ∧ SqL K H b [] ∧ Q (.bl xs.isEmpty) H
def rNeNil (K : PySem.W.Frag) : R2 := fun x y H Q => ∃ a b xs, x = .ref a ∧ y = .ref b ∧ a ≠ b ∧ SqL K H a xs ∧ SqL K H b [] ∧ Q (.bl (!xs.isEmpty)) H
theorem op_eqNil {X : Cx} (hu : X.A.units + 64 < cLine) : OpR X (compareOp .Eq) (rEqNil X.K) := by
  intro pins s σ H x y v u Q I rx ry h
  obtain ⟨a, b, xs, rfl, rfl, ne, hH, hB, q⟩ := h
  cases rx
  cases ry
  obtain ⟨its, r, pl, _⟩ := I.list hH
  obtain ⟨its2, r2, pl2, _⟩ := I.list hB
  cases r2
  cases xs with
  | nil =>
    cases r
    refine SeqAt.RcAt.lists (e := fun _ => true) pl.isList pl2.isList rfl (by omega) (fun j h1 h2 => absurd h1 (by simp)) _ _ _ _ ?_
    exact ⟨.bl true, H, I, rfl, q⟩
  | cons x xs =>
    cases r with
    | cons r1 r =>
      refine SeqAt.RcAt.lists_lengths pl.isList pl2.isList (by simp) (by omega) _ _ _ _ ?_
      exact ⟨.bl false, H, I, rfl, q⟩
theorem op_neNil {X : Cx} (hu : X.A.units + 64 < cLine) : OpR X (compareOp .NotEq) (rNeNil X.K) := by
  intro pins s σ H x y v u Q I rx ry h
  obtain ⟨a, b, xs, rfl, rfl, ne, hH, hB, q⟩ := h
  cases rx
  cases ry
  obtain ⟨its, r, pl, _⟩ := I.list hH
  obtain ⟨its2, r2, pl2, _⟩ := I.list hB
  cases r2
  cases xs with
  | nil =>
    cases r
    refine SeqAt.RcNeAt.lists (e := fun _ => true) pl.isList pl2.isList rfl (by omega) (fun j h1 h2 => absurd h1 (by simp)) _ _ _ _ ?_
    exact ⟨.bl false, H, I, rfl, q⟩
  | cons x xs =>
    cases r with
    | cons r1 r =>
      refine SeqAt.RcNeAt.lists_lengths pl.isList pl2.isList (by simp) (by omega) _ _ _ _ ?_
      exact ⟨.bl true, H, I, rfl, q⟩
/-- one value told twice -/
theorem eq_rel {v : V} {d : D} {K : PySem.W.Frag} {S : List Addr} {H : Hp} {u u' : Value} (h : Rv K S H v d) (r : RelV v u) (r' : RelV v u') (A : Around) (s : Shared) : SeqAt.EqAt A s u u' true := by
  cases h with
  | non => cases r; cases r'; exact SeqAt.EqAt.same _
  | bl b => cases r; cases r'; exact SeqAt.EqAt.same _
  | int i =>
    obtain ⟨t, rfl⟩ := r
    obtain ⟨t', rfl⟩ := r'
    have := (MeetsSeq.EqGives.int i i t t').at A s
    rwa [show (i == i) = true from beq_self_eq_true i] at this
  | str l hl =>
    obtain ⟨t, rfl⟩ := r
    obtain ⟨t', rfl⟩ := r'
    have := (SeqRoads2.EqGives.str (tx l) (tx l) t t').at A s
    rwa [show ((tx l).cps.toList == (tx l).cps.toList) = true from beq_self_eq_true _] at this
  | tup _ _ _ => cases r; cases r'; exact SeqAt.EqAt.same _
  | lst _ _ _ _ => cases r; cases r'; exact SeqAt.EqAt.same _
  | obj _ _ => cases r; cases r'; exact SeqAt.EqAt.same _
theorem vals_at : ∀ {vs : List V} {us us' : List Value} {ds : List D} {K : PySem.W.Frag} {S : List Addr} {H : Hp}, RvL K S H vs ds → Vals vs us → Vals vs us' → ∀ (A : Around) (s : Shared) (j : Nat) (h1 : j < us.length) (h2 : j < us'.length), SeqAt.EqAt A s us[j] us'[j] true
  | _, _, _, _, _, _, _, .nil, .nil, .nil, _, _, _, h1, _ => absurd h1 (Nat.not_lt_zero _)
  | _, _, _, _, _, _, _, .cons h _, .cons r _, .cons r' _, A, s, 0, _, _ => eq_rel h r r' A s
  | _, _, _, _, _, _, _, .cons _ h, .cons _ r, .cons _ r', A, s, j + 1, h1, h2 => vals_at h r r' A s j (Nat.lt_of_succ_lt_succ h1) (Nat.lt_of_succ_lt_succ h2)
/-- xs != ys, both hold the same values -/
def rNeL (K : PySem.W.Frag) : R2 := fun x y H Q => ∃ (S : List Addr) (a b : Addr) (xs : List V) (ds : List D), x = .ref a ∧ y = .ref b ∧ SqL K H a xs ∧ SqL K H b xs ∧ RvL K S H xs ds ∧ Q (.bl false) H
theorem op_neL {X : Cx} (hu : X.A.units + 64 < cLine) : OpR X (compareOp .NotEq) (rNeL X.K) := by
  intro pins s σ H x y v u Q I rx ry h
  obtain ⟨S, a, b, xs, ds, rfl, rfl, hH, hB, rv, q⟩ := h
  cases rx
  cases ry
  obtain ⟨its, r, pl, _⟩ := I.list hH
  obtain ⟨its2, r2, pl2, _⟩ := I.list hB
  have e1 := Vals.length r
  have e2 := Vals.length r2
  refine SeqAt.RcNeAt.lists (e := fun _ => true) pl.isList pl2.isList (by simp; omega) (by omega) (fun j h1 h2 => ?_) _ _ _ _ ?_
  · have := vals_at rv r r2 X.A.in1 s j (by simpa using h1) (by simpa using h2)
    simpa using this
  · refine ⟨.bl _, H, I, rfl, ?_⟩
    rw [show ((List.range its.toArray.size).all fun _ => true) = true from by simp]
    exact q
end Pv
namespace PySem.W
open PySem PySem.Spec PySem.Calls PyProof.Rows Sem
/-- what a class says of == and != : no own ones -/
structure SameC (K : Frag) (D : Addr) : Prop where
  eq : findIn K (.ref D) "__eq__" = some (some (.builtin "object.__eq__"))
  ne : findIn K (.ref D) "__ne__" = some (some (.builtin "object.__ne__"))
  sub : subIn K (.ref D) (.type "object") = some true
section
variable {prog : Program} {w : World} {A : Around} {E : Value → Shared → Prop} {K : Frag} {x D : Addr} {ox : Obj} {h : Heap} {g : Array GenState} {d : Drawn} {t : Nat} {os : OsState}
theorem sp_same {name : Str} {id : String} {args : List Value} {Q : Option Value → Shared → Prop} (LS : Looks (model prog w) h (specialOf (.ref x) name) (some (.builtin id))) (S : PySem.Slot "object" name id)
    (hcall : wpAny (model prog w) A (call (.builtin id) (.ref x :: args)) (fun v => Q (some v)) E ⟨h, g, d, t, os⟩) : wpAny (model prog w) A (callSpecialIfBound? (.ref x) name args) Q E ⟨h, g, d, t, os⟩ := by
  simp only [callSpecialIfBound?, bindSpecialIfBound?]
  refine wpAny_holding (wpAny_bind (wpAny_bind (LS.at ?_)))
  simp only [S.bind]
  refine wpAny_bind (wpAny_askSetting (wpAny_ite ?_))
  have fin : wpAny (model prog w) A (call (.builtin id) ([.ref x] ++ args) >>= fun v => Pure.pure (some v)) Q E ⟨h, g, d, t, os⟩ :=
    wpAny_bind (wpAny_mono hcall (fun v s' h' => wpAny_pure h') fun _ _ h' => h')
  split
  · exact wpAny_bind (wpAny_pure (wpAny_pure fin))
  · exact wpAny_tryCatch (wpAny_bind (wpAny_pure (wpAny_pure fin)))
theorem eq_same (C : SameC K D) (X : K.In h) (I : InstAt h x ox D none) {Q : Option Value → Shared → Prop} (hq : Q (some (.bool true)) ⟨h, g, d, t, os⟩) :
    wpAny (model prog w) A (callSpecialIfBound? (.ref x) "__eq__" [.ref x]) Q E ⟨h, g, d, t, os⟩ := by
  have L0 := I.type (M := model prog w)
  have sub : Looks (model prog w) h (isInstance (.ref x) (.type "object")) true := L0.andThen (looks_subIn X C.sub)
  refine sp_same (L0.andThen (looks_findIn X C.eq)) PySem.F.cmp_object.eq ?_
  refine wpAny_call (codeAny_call_builtin PySem.F.cmp_object.eq.plain PySem.F.cmpEntry_eq ?_)
  exact @check_slot (model prog w) _ _ ⟨h, g, d, t, os⟩ "object.__eq__" "object" "__eq__" (.ref x) [.ref x] [] _ PySem.F.cmpKind_eq PySem.F.cmpSplit_eq sub (PySem.F.cmpArgs_eq _ _) (objEq_entry_same hq)
theorem ne_same (C : SameC K D) (X : K.In h) (I : InstAt h x ox D none) (hu : A.units + 1 < cLine) {Q : Option Value → Shared → Prop} (hq : Q (some (.bool false)) ⟨h, g, d, t, os⟩) :
    wpAny (model prog w) A (callSpecialIfBound? (.ref x) "__ne__" [.ref x]) Q E ⟨h, g, d, t, os⟩ := by
  have L0 := I.type (M := model prog w)
  have sub : Looks (model prog w) h (isInstance (.ref x) (.type "object")) true := L0.andThen (looks_subIn X C.sub)
  refine sp_same (L0.andThen (looks_findIn X C.ne)) PySem.F.cmp_object.ne ?_
  refine wpAny_call (codeAny_call_builtin PySem.F.cmp_object.ne.plain PySem.F.cmpEntry_ne ?_)
  refine @check_slot (model prog w) _ _ ⟨h, g, d, t, os⟩ "object.__ne__" "object" "__ne__" (.ref x) [.ref x] [] _ PySem.F.cmpKind_ne PySem.F.cmpSplit_ne sub (PySem.F.cmpArgs_ne _ _) ?_
  unfold Builtin.«object.__ne__»
  repeat (first | with_reducible refine wpAny_cRoomFor hu ?_ | with_reducible refine eq_same C X I ?_ | wp_step)
  exact hq
theorem compare_ne_same (C : SameC K D) (X : K.In h) (I : InstAt h x ox D none) (hu : A.units + 1 < cLine) {Q : Value → Shared → Prop} (hq : Q (.bool false) ⟨h, g, d, t, os⟩) :
    wpAny (model prog w) A (compareOp .NotEq (.ref x) (.ref x)) Q E ⟨h, g, d, t, os⟩ := by
  have hu0 : A.units < cLine := Nat.lt_of_succ_lt hu
  show wpAny (model prog w) A (richCompare .NotEq (.ref x) (.ref x)) Q E ⟨h, g, d, t, os⟩
  simp only [richCompare, cmpInfo_NotEq, oneThing_ref]
  have L0 := I.type (M := model prog w)
  have tc : ∀ {Q : Option Value → Shared → Prop}, Q (some (.bool false)) ⟨h, g, d, t, os⟩ → wpAny (model prog w) A (tryCompare (.ref x) "__ne__" (.ref x)) Q E ⟨h, g, d, t, os⟩ := fun hq => by
    simp only [tryCompare]
    exact wpAny_bind (ne_same C X I hu (wpAny_pure hq))
  repeat (first | with_reducible refine wpAny_cRoomFor hu0 ?_ | with_reducible refine L0.at ?_ | with_reducible refine tc ?_ | wp_step)
  exact hq
end
end PySem.W
namespace Pv
open PySem PySem.Spec PyProof.Rows L2 Pg
/-- x != x, any value -/
def rNeV (K : PySem.W.Frag) : R2 := fun x y H Q => x = y ∧ ∃ (S : List Addr) (d : D), Rv K S H x d ∧ (∀ C, d = .obj C → PySem.W.SameC K C) ∧ Q (.bl false) H
/-- kept != due: lists of the same values, or one value -/
def rNeK (K : PySem.W.Frag) : R2 := fun x y H Q => rNeL K x y H Q ∨ rNeV K x y H Q
theorem op_neK {X : Cx} (hu : X.A.units + 64 < cLine) : OpR X (compareOp .NotEq) (rNeK X.K) := by
  intro pins s σ H x y v u Q I rx ry h
  rcases h with h | ⟨rfl, S, d, rv, ob, q⟩
  · exact op_neL hu pins s σ H x y v u Q I rx ry h
  · have sc := fun e => op_ne pins s σ H x x v u Q I rx ry ⟨e, by rw [decide_eq_true rfl]; exact q⟩
    cases rv with
    | non => exact sc rfl
    | bl b => exact sc rfl
    | int i => exact sc rfl
    | str l hl => exact sc rfl
    | lst ha hn hl rl => exact op_neL hu pins s σ H _ _ v u Q I rx ry ⟨S, _, _, _, _, rfl, rfl, SqL.of ha, SqL.of ha, rl, q⟩
    | tup hs hl rl =>
      cases rx
      cases ry
      obtain ⟨its, r, pl, _⟩ := I.tuple hs
      refine SeqAt.RcNeAt.tuples (e := fun _ => true) pl pl (by omega) (fun j h1 h2 => SeqAt.EqAt.same _) _ _ _ _ ?_
      refine ⟨.bl _, H, I, rfl, ?_⟩
      have e : ∀ n : Nat, ((List.range n).all fun _ => true) = true := fun n => List.all_eq_true.mpr fun _ _ => rfl
      rw [e]
      simpa using q
    | obj ho ok =>
      rename_i a C
      cases rx
      cases ry
      obtain ⟨⟨oe, vs, e1, ⟨e2, e3⟩, e4, _⟩, _⟩ := I.hok _ _ ho
      have J : PySem.W.InstAt s.heap a oe C none := by
        obtain ⟨oc, od, oda, osl⟩ := oe
        dsimp only at e2 e3 e4
        subst e2 e3 e4
        exact ⟨e1, rfl, rfl, trivial⟩
      obtain ⟨hp, g, d, t, os⟩ := s
      refine PySem.W.compare_ne_same (ob C rfl) I.kIn J (by omega) ⟨.bl false, H, I, rfl, q⟩
end Pv
namespace Pg
open PySem PySem.Spec PyProof.Rows L2 PySem.Froz
/-! ### sets of texts, with what their order leans on -/
/-- the payload D holds the texts l; its table rises, and its order is to be told -/
structure TxR (P : Program) (w : World) (D : SD) (l : List Str) : Prop where
  ok : TxOk P w D l
  all : ∃ us : List Tok, us.length = l.length ∧ D.1.toList.Perm ((l.zip us).map fun p => (hashStr w p.1, Value.str p.1 p.2))
  nd : l.Nodup
  ris : Ris D.2.2.place.toList
  led : w.params.followText "set-order" = true ∨ D.2.2.led = true
section
variable {P : Program} {w : World} {A : Around} {E : Value → Shared → Prop} {s : Shared}
theorem tail_ris {ep : Nat} {xs : Array (Int × Value)} {t : SetTable} {b : Bool} (h : Ris t.place.toList) : Ris (tailTx ep xs t b).2.2.place.toList := by
  unfold tailTx
  by_cases c : (!b && t.tooFull) = true
  · rw [if_pos c]; exact relayAll_ris _ _ _
  · rw [if_neg c]; exact h
theorem tail_led {ep : Nat} {xs : Array (Int × Value)} {t : SetTable} {b : Bool} : (tailTx ep xs t b).2.2.led = t.led := by
  unfold tailTx
  by_cases c : (!b && t.tooFull) = true
  · rw [if_pos c]; exact relayAll_led _ _ _
  · rw [if_neg c]
theorem tail_all {ep : Nat} {xs : Array (Int × Value)} {t : SetTable} {b : Bool} : (tailTx ep xs t b).1.toList.Perm xs.toList := by
  unfold tailTx
  by_cases c : (!b && t.tooFull) = true
  · rw [if_pos c]; exact relayAll_perm _ _ _
  · rw [if_neg c]
theorem TxR.add {D : SD} {l : List Str} {k : Str} (u : Tok) (R : TxR P w D l) (hk : k ∉ l) : TxR P w (addTx (hashStr w k) (.str k u) D) (k :: l) := by
  obtain ⟨us, hu, hp⟩ := R.all
  refine ⟨add_ok u R.ok, ⟨u :: us, by rw [List.length_cons, List.length_cons, hu], ?_⟩, List.nodup_cons.mpr ⟨hk, R.nd⟩, ?_, ?_⟩
  · have p1 : (addTx (hashStr w k) (.str k u) D).1.toList.Perm (D.1.push (hashStr w k, .str k u)).toList := tail_all.trans (layNew_perm _ _ _ _)
    rw [Array.toList_push] at p1
    exact p1.trans ((List.perm_append_singleton _ _).trans (hp.cons _))
  · refine tail_ris ?_
    have q := layNew_ris D.2.2 D.1 (hashStr w k) (.str k u) R.ris
    split
    · exact q
    · exact q
  · have e1 : (addTx (hashStr w k) (.str k u) D).2.2.led = D.2.2.led := by
      unfold addTx
      rw [tail_led]
      have q := layNew_led D.2.2 D.1 (hashStr w k) (.str k u)
      split
      · exact q
      · exact q
    exact R.led.imp id fun z => e1.trans z
/-- a text that is there already is put in -/
theorem add_old {a : Addr} {T : String} {D : SD} {l : List Str} {k : Str} {u : Tok} {Q : Bool → Shared → Prop} (at_ : s.heap.get? a = some (sObj T D)) (F : TxOk P w D l) (hk : k ∈ l) (hb : l.length < scanBound)
    (h : Q false s) : wpAny (model P w) A (setAddHashed a (.str k u) (hashStr w k)) Q E s := by
  obtain ⟨xs, ep, t⟩ := D
  obtain ⟨e, he, hq⟩ := (F.mem k).mp hk
  have size : xs.size < scanBound := by have e : xs.size = l.length := F.sz; omega
  obtain ⟨j, hj⟩ : ∃ j, List.findIdx? (fun e => (strKind P w).is k e.2) xs.toList = some j := by
    cases c : List.findIdx? (fun e => (strKind P w).is k e.2) xs.toList with
    | some j => exact ⟨j, rfl⟩
    | none =>
      have := List.findIdx?_eq_none_iff.mp c e he
      rw [hq] at this
      cases this
  have dat : (sObj T (xs, ep, t)).data = .set xs ep t := rfl
  unfold setAddHashed setAddHashedIn
  refine wpAny_holding (wpAny_bind (wpAny_setState_of at_ dat F.fit ?_)); dsimp only
  rw [byScan_of rfl size F.el]; simp only [↓reduceIte]
  unfold setAddByScan
  refine wpAny_bind (wpAny_bind (wpAny_rule (wpAny_bind (wpAny_setScan_of (knd := strKind P w) (k := k) (is_str k u) at_ dat F.fit F.el ?_))))
  rw [hj]; dsimp only
  exact wpAny_pure (wpAny_pure h)
end
end Pg
namespace Pg
open PySem PySem.Spec PyProof.Rows L2 PySem.Froz
/-- of some texts each once: in the order in which a set takes them -/
def onceL (acc : List Str) : List Str → List Str
  | [] => acc
  | x :: xs => onceL (if x ∈ acc then acc else x :: acc) xs
theorem once_mem : ∀ (xs acc : List Str) (k : Str), k ∈ onceL acc xs ↔ k ∈ acc ∨ k ∈ xs
  | [], acc, k => by show k ∈ acc ↔ _; simp
  | x :: xs, acc, k => by
    show k ∈ onceL (if x ∈ acc then acc else x :: acc) xs ↔ _
    rw [once_mem xs]
    by_cases h : x ∈ acc
    · rw [if_pos h, List.mem_cons]
      constructor
      · rintro (q | q)
        · exact .inl q
        · exact .inr (.inr q)
      · rintro (q | rfl | q)
        · exact .inl q
        · exact .inl h
        · exact .inr q
    · rw [if_neg h, List.mem_cons, List.mem_cons]
      constructor
      · rintro ((q | q) | q)
        · exact .inr (.inl q)
        · exact .inl q
        · exact .inr (.inr q)
      · rintro (q | q | q)
        · exact .inl (.inr q)
        · exact .inl (.inl q)
        · exact .inr q
theorem once_len : ∀ (xs acc : List Str), (onceL acc xs).length ≤ acc.length + xs.length
  | [], acc => Nat.le_refl _
  | x :: xs, acc => by
    have h := once_len xs (if x ∈ acc then acc else x :: acc)
    show (onceL (if x ∈ acc then acc else x :: acc) xs).length ≤ _
    have e : (if x ∈ acc then acc else x :: acc).length ≤ acc.length + 1 := by split <;> simp
    rw [List.length_cons]
    omega
/-- a set of these texts stands at a -/
def SetS (P : Program) (w : World) (h : Heap) (a : Addr) (l : List Str) : Prop := ∃ D, h.get? a = some (sObj "set" D) ∧ TxR P w D l
section
variable {P : Program} {w : World} {A : Around} {E : Value → Shared → Prop} {s : Shared}
/-- one text is put in, new or not -/
theorem put_txt {a : Addr} {l : List Str} {k : Str} {u : Tok} {Q : Bool → Shared → Prop} (R : SetS P w s.heap a l) (hb : l.length + 1 < scanBound)
    (h : ∀ (b : Bool) h', Heap.SameBut a s.heap h' → SetS P w h' a (if k ∈ l then l else k :: l) → Q b { s with heap := h' }) : wpAny (model P w) A (setAddHashed a (.str k u) (hashStr w k)) Q E s := by
  obtain ⟨D, at_, R⟩ := R
  by_cases hk : k ∈ l
  · refine add_old at_ R.ok hk (by omega) ?_
    exact h false s.heap (Heap.SameBut.refl _ _) (by rw [if_pos hk]; exact ⟨D, at_, R⟩)
  · refine add_x at_ R.ok hk hb ?_
    refine h true _ (Heap.SameBut.update s.heap a _) ?_
    rw [if_neg hk]
    exact ⟨_, get_upd _ at_ rfl, R.add u hk⟩
end
section
variable {prog : Program} {w : World} {A : Around} {R : Result → Shared → Prop} {I : Addr} {fp wr : List Addr} {G : Array GenState → Array GenState → Prop} {n : Nat} {P : Nat → Value → Prop} {St : Nat → Shared → Prop}
theorem SetS.moved {h h' : Heap} {a : Addr} {l : List Str} (R : SetS prog w h a l) (k : ∀ o, h.get? a = some o → h'.get? a = some o) : SetS prog w h' a l := by
  obtain ⟨D, at_, q⟩ := R
  exact ⟨D, k _ at_, q⟩
/-- the loop that puts the items of a walk in -/
theorem puts (W : WalksS prog w A.in1 I fp wr G n P St) {D : Addr} (out : D ∉ fp) (xs : List Str) (len : xs.length = n) (few : n + 1 < scanBound) (is : ∀ i v, P i v → ∃ t, v = .str (xs.getD i Str.empty) t) :
    ∀ (m i : Nat) (s : Shared) (acc : List Str), n - i = m → i ≤ n → acc.length ≤ i → St i s → SetS prog w s.heap D acc →
      (∀ s', Moved (D :: wr) G s s' → SetS prog w s'.heap D (onceL acc (xs.drop i)) → R (.ok (.ret .none)) s') →
      codeAny (model prog w) A (.builtin "set.update.loop" ⟨[.ref D, .ref I], []⟩) R s := by
  have offw : D ∉ wr := fun q => out (W.sub _ q)
  have up : ∀ b ∈ wr, b ∈ D :: wr := fun b q => List.mem_cons_of_mem _ q
  intro m
  induction m with
  | zero =>
    intro i s acc hm hi _ st S fin
    obtain rfl : i = n := by omega
    refine codeAny_builtin PyProof.Rows.F.entry_set_update_loop ?_
    rw [Around.under_plainId PyProof.Rows.F.plain_set_update_loop _]
    refine wpAny_bind (W.done s _ _ st fun s' mv => wpAny_pure (fin s' (mv.mono up) ?_))
    rw [List.drop_of_length_le (by omega)]
    exact S.moved fun o e => mv.heap D o offw e
  | succ m ih =>
    intro i s acc hm hi ha st S fin
    have lt : i < n := by omega
    refine codeAny_builtin PyProof.Rows.F.entry_set_update_loop ?_
    rw [Around.under_plainId PyProof.Rows.F.plain_set_update_loop _]
    refine wpAny_bind (W.item i s _ _ lt st fun v s' pv st' mv => ?_)
    obtain ⟨t, rfl⟩ := is i v pv
    have S' : SetS prog w s'.heap D acc := S.moved fun o e => mv.heap D o offw e
    show wpAny _ A.in1 (holding [Value.str (xs.getD i Str.empty) t] (setAdd D (.str (xs.getD i Str.empty) t)) >>= _) _ _ s'
    refine wpAny_bind (wpAny_holding ?_)
    unfold setAdd
    refine wpAny_holding (wpAny_bind ((PySem.strKind prog w).pyHash (k := xs.getD i Str.empty) (strKind_is _ _ _ _) ?_))
    refine put_txt (s := { s' with toks := s'.toks + 1 }) S' (by omega) fun b h' sb S2 => ?_
    have dr : xs.drop i = xs.getD i Str.empty :: xs.drop (i + 1) := by
      rw [List.drop_eq_getElem_cons (by omega), List.getD_eq_getElem?_getD, List.getElem?_eq_getElem (by omega)]
      rfl
    refine wpAny_pure ⟨plainId_quiet PyProof.Rows.F.plain_set_update_loop _, ih (i + 1) _ (if xs.getD i Str.empty ∈ acc then acc else xs.getD i Str.empty :: acc) (by omega) lt ?_ (W.frame _ s' _ _ st' (Nat.le_succ _) fun b hb o e => ?_) S2 fun s'' mv2 S3 => ?_⟩
    · split
      · omega
      · rw [List.length_cons]; omega
    · rw [sb.2 b fun z => out (z ▸ hb)]; exact e
    · refine fin s'' (Moved.trans W.gtrans ((mv.mono up).then_heap (Nat.le_succ _) fun b o hb e => ?_) mv2) ?_
      · rw [sb.2 b fun z => hb (z ▸ List.mem_cons_self)]; exact e
      · rw [dr]; exact S3
end
end Pg
namespace Pg
open PySem PySem.Spec PyProof.Rows L2 PySem.Froz
section
variable {prog : Program} {w : World} {A : Around} {E : Value → Shared → Prop} {s : Shared}
/-- an empty set as it is laid -/
abbrev set0 (w : World) : Obj := { cls := .type "set", dict := none, data := .set #[] 0 (.fresh 0 0 (!w.params.followText "set-order")) }
theorem code_new1 (x : Value) {Z : Value → Shared → Prop} (h : Z (.ref s.heap.objs.size) { s with heap := s.heap.push (set0 w) }) : codeAny (model prog w) A (.call (.builtin "set.__new__") ⟨[.type "set", x], []⟩) (wants Z E) s := by
  refine codeAny_of_tree ?_
  show wpAny _ A.in1 (do checkBuiltinCall "set.__new__" ⟨[.type "set", x], []⟩; again (.builtin "set.__new__" ⟨[.type "set", x], []⟩)) _ _ s
  refine wpAny_bind (wpAny_of_eq (PySem.F.newCall_set_1 x) (wpAny_pure ⟨plainId_quiet PySem.F.plain_set_new _, codeAny_builtin PySem.F.entry_set_new ?_⟩)); rw [Around.under_plainId PySem.F.plain_set_new _]
  unfold Builtin.«set.__new__» Builtin.Frozenset.newClass
  have _sub := sub_set_self
  obtain ⟨heap, gens, drawn, toks, os⟩ := s; dsimp only; wp_walk
  refine wpAny_askSetting (wpAny_pure ?_); dsimp only; simp only [newObj]
  exact wpAny_bind (wpAny_alloc (wpAny_pure (wpAny_pure h)))
theorem set0_ok {h : Heap} : SetS prog w (h.push (set0 w)) h.objs.size [] := by
  refine ⟨(#[], 0, .fresh 0 0 (!w.params.followText "set-order")), Heap.get?_push_size _ rfl, TxOk.nil (by rfl), ⟨[], rfl, List.Perm.refl _⟩, List.nodup_nil, List.Pairwise.nil, ?_⟩
  show _ ∨ (!w.params.followText "set-order") = true
  cases w.params.followText "set-order" with
  | true => exact .inl rfl
  | false => exact .inr rfl
theorem str_at : ∀ {vs : List Value} {xs : List Str}, StrsAre vs xs → ∀ (i : Nat) (v : Value), vs[i]? = some v → ∃ t, v = .str (xs.getD i Str.empty) t
  | _, _, .nil, i, v, h => by simp at h
  | _, _, .cons n t r, 0, v, h => by
    rw [List.getElem?_cons_zero] at h
    exact ⟨t, (Option.some.inj h).symm⟩
  | _, _, .cons n t r, i + 1, v, h => str_at r i v h
set_option maxHeartbeats 4000000 in
/-- set(xs), xs a list of texts -/
theorem call_set_txt {l : Addr} {items : Array Value} {xs : List Str} {Q : Value → Shared → Prop} (hh : A.handled = none) (hl : s.heap.IsList l items) (his : StrsAre items.toList xs) (few : xs.length + 1 < scanBound)
    (h : ∀ (h' : Heap) (tk : Nat), SetS prog w h' s.heap.objs.size (onceL [] xs) → (∀ b o, s.heap.get? b = some o → h'.get? b = some o) → Q (.ref s.heap.objs.size) { s with heap := h', toks := tk }) :
    wpAny (model prog w) A (call (.type "set") [.ref l]) Q E s := by
  obtain ⟨cc, tt, mro⟩ := PySem.F.called_set.mro
  have g1 := PySem.F.called_set.made; have g2 := PySem.F.called_set.sub
  refine wpAny_call (codeAny_of_tree (wpAny_pure ⟨Code.quiet_builtin _ (by decide +kernel), codeAny_builtin PySem.F.entry_type_call ?_⟩))
  rw [Around.under_plain (weight_type_call_type "set" [.ref l] []) rfl]
  have g3 := PySem.F.called_set.notType; have g4 := PySem.F.called_set.canCreate; have g5 := PySem.F.typeCall_set_1 (.ref l)
  repeat (any_goals (first | assumption | wp_step))
  refine codeAny_mono (code_new1 (prog := prog) (.ref l) (E := E) (Z := fun obj z => obj = .ref s.heap.objs.size ∧ z = { s with heap := s.heap.push (set0 w) }) ⟨rfl, rfl⟩) fun r z hr => ?_
  cases r with
  | error e => exact hr
  | ok fl =>
    cases fl with
    | ret obj =>
      obtain ⟨rfl, rfl⟩ := hr
      have at0 : (s.heap.push (set0 w)).get? s.heap.objs.size = some (set0 w) := Heap.get?_push_size _ rfl
      have ty : Shared.TypeIs { s with heap := s.heap.push (set0 w) } (.ref s.heap.objs.size) "set" := ⟨_, at0, rfl⟩
      have g6 := PySem.F.called_set.init.lookup; have g7 := PySem.F.called_set.init.bind (.ref s.heap.objs.size)
      repeat (any_goals (first | assumption | wp_step))
      refine codeAny_mono (codeAny_call_builtin (R := wants (fun r z => r = .none ∧ ∃ h' tk, z = { s with heap := h', toks := tk } ∧ SetS prog w h' s.heap.objs.size (onceL [] xs) ∧ (∀ b o, s.heap.get? b = some o → h'.get? b = some o)) E)
        PySem.F.called_set.init.plain PySem.F.entry_set_init (check_set_init_1 ty ?_)) fun r2 z2 hr2 => ?_
      · obtain ⟨⟨oc, od, odata, osl⟩, hol, hcl, nl, hdl⟩ := hl
        simp only at hcl hdl
        subst hcl hdl
        have hol2 : (s.heap.push (set0 w)).get? l = some { cls := .type "list", dict := od, data := .seq items nl, slots := osl } := Heap.get?_push_of_some _ hol
        have hl2 : (s.heap.push (set0 w)).IsList l items := ⟨_, hol2, rfl, nl, rfl⟩
        have q1 := PySem.F.sub_list_set; have q2 := PySem.F.sub_list_frozenset
        have q3 : (Value.type "list" == Value.type "dict") = false := by decide
        unfold Builtin.«set.__init__» noKeywords Builtin.Frozenset.updateFrom
        generalize hp : pyIter = pi
        wp_walk
        subst hp
        refine wpAny_pyIter_list hl2 (wpAny_bind (wpAny_runValue ?_))
        have lt : l < s.heap.objs.size := Heap.lt_size hol
        have handled : A.in1.in1.in1.handled = none := by simp [hh]
        have sz1 : (s.heap.push (set0 w)).objs.size = s.heap.objs.size + 1 := Heap.size_push _ _
        have ne : l ≠ (s.heap.push (set0 w)).objs.size := by rw [sz1]; exact Nat.ne_of_lt (Nat.lt_succ_of_lt lt)
        have out : s.heap.objs.size ∉ [(s.heap.push (set0 w)).objs.size, l] := by
          rw [sz1]
          intro m
          rcases List.mem_cons.mp m with m | m
          · exact absurd m (Nat.ne_of_lt (Nat.lt_succ_self _))
          · exact absurd (List.mem_singleton.mp m) (Nat.ne_of_gt lt)
        have len : xs.length = items.size := by rw [← StrsAre.len_eq his, Array.length_toList]
        have is : ∀ (i : Nat) (v : Value), items[i]? = some v → ∃ t, v = .str (xs.getD i Str.empty) t := fun i v hv => str_at his i v (by rw [Array.getElem?_toList]; exact hv)
        refine puts ((Walks.list handled _ l ne items).toS) out xs len (by rw [← len]; exact few) is (items.size - 0) 0 _ [] (by omega) (Nat.zero_le _) (Nat.le_refl _) ⟨⟨_, Heap.get?_push_size _ rfl, rfl, rfl⟩, hl2.push _⟩ (set0_ok.moved fun o e => Heap.get?_push_of_some _ e) ?_
        rintro ⟨h', g', d', tk', os'⟩ mv S
        obtain rfl : g' = s.gens := mv.gens
        obtain rfl : d' = s.drawn := mv.drawn
        obtain rfl : os' = s.os := mv.os
        refine wpAny_pure ?_
        refine wpAny_pure ⟨rfl, h', tk', rfl, S, fun b o e => ?_⟩
        have hb : b < s.heap.objs.size := Heap.lt_size e
        refine mv.heap b o (fun m => ?_) (Heap.get?_push_of_some _ (Heap.get?_push_of_some _ e))
        rcases List.mem_cons.mp m with m | m
        · exact absurd m (Nat.ne_of_lt hb)
        · have q := List.mem_singleton.mp m
          rw [sz1] at q
          exact absurd q (Nat.ne_of_lt (Nat.lt_succ_of_lt hb))
      · cases r2 with
        | error e => exact hr2
        | ok fl2 =>
          cases fl2 with
          | ret r =>
            obtain ⟨rfl, h', tk, rfl, a1, a2⟩ := hr2
            repeat (any_goals (first | assumption | wp_step))
            exact h _ _ a1 a2
          | _ => exact hr2.elim
    | _ => exact hr.elim
end
end Pg
namespace Pg
open PySem PySem.Spec PyProof.Rows L2 PySem.Froz
section
variable {prog : Program} {w : World} {A : Around} {E : Value → Shared → Prop} {s : Shared}
/-- the values of a set of texts, in some order, are texts -/
theorem vals_strs : ∀ {vs : List Value} {ps : List (Str × Tok)}, vs.Perm (ps.map fun p => Value.str p.1 p.2) → StrsAre vs (vs.map strOf) ∧ (vs.map strOf).Perm (ps.map Prod.fst) := fun {vs ps} h => by
  refine ⟨strsAre_map vs fun v m => ?_, ?_⟩
  · obtain ⟨p, _, rfl⟩ := List.mem_map.mp (h.mem_iff.mp m)
    exact ⟨p.1, p.2, rfl⟩
  · have q := h.map strOf
    rw [List.map_map] at q
    exact q.trans (List.Perm.of_eq rfl)
theorem zip_fst {α β : Type} : ∀ (l : List α) (us : List β), us.length = l.length → (l.zip us).map Prod.fst = l
  | [], _, _ => rfl
  | x :: l, [], h => by simp at h
  | x :: l, u :: us, h => by rw [List.zip_cons_cons, List.map_cons, zip_fst l us (by simpa using h)]
/-- sorted(a), a set of texts -/
theorem sorted_txt {a : Addr} {l : List Str} {Q : Value → Shared → Prop} (R : SetS prog w s.heap a l) (hh : A.handled = none) (few : l.length < 4000)
    (h : ∀ z p (out : Array Value) (n : Nat) (ys : List Str), (∀ b o, s.heap.get? b = some o → z.heap.get? b = some o) → z.gens = s.gens → z.os = s.os → s.heap.objs.size ≤ p → z.heap.get? p = some (seqObj "list" out n) →
      StrsAre out.toList ys → ys.Perm l → sortedS ys = true → Q (.ref p) z) : wpAny (model prog w) A (call (.builtin "sorted") [.ref a]) Q E s := by
  obtain ⟨⟨es, ep, t⟩, at_, R⟩ := R
  obtain ⟨us, hu, pm⟩ := R.all
  have sz : es.size = l.length := R.ok.sz
  have scan : es.size < scanBound := by rw [sz]; exact Nat.lt_of_lt_of_le few (by decide)
  refine Calls.call_function_entry kind_sorted plain_sorted entry_sorted (args_sorted1 _) ?_
  unfold Builtin.«sorted»
  refine wpAny_bind (m := checkCount "sorted" 1 1 _) (wpAny_pure (wpAny_bind (collect_set (A := A.in1) hh ⟨_, at_, rfl, rfl⟩ R.ok.fit scan R.ris R.led fun z vs k1 hz g1 o1 pv => ?_)))
  have pv2 : vs.Perm ((l.zip us).map fun p => Value.str p.1 p.2) := by
    have q := pv.trans (pm.map (·.2))
    rw [List.map_map] at q
    exact q
  obtain ⟨st, ps⟩ := vals_strs pv2
  rw [zip_fst l us hu] at ps
  have vlen : vs.length = l.length := by
    have := ps.length_eq
    rwa [List.length_map] at this
  refine wpAny_bind (wpAny_newList ?_ (by rw [vlen, sizeLine_eq]; omega))
  have new : (z.heap.push (seqObj "list" vs.toArray 0)).get? z.heap.objs.size = some (seqObj "list" vs.toArray 0) := Heap.get?_push_size _ rfl
  refine wpAny_bind (wpAny_holding (wpAny_call_entry slot_list_sort ⟨_, new, rfl⟩ entry_list_sort (list_sort_treeKAny strKind_oneLt new st.keysOf (fun v1 v2 rest e => keyKind_strs (by rw [← e]; exact st)) (by rw [vlen, sizeLine_eq]; omega) fun st' hp hs => ?_) (args_list_sort _)))
  obtain ⟨ys, y1, y2, y3⟩ := sorted_out_str st hp hs
  obtain ⟨n, hn⟩ := sortedHeap_at (vs := vs) (out := (arrOf st').map (·.2)) new
  refine ⟨_, rfl, wpAny_pure ⟨_, rfl, h _ z.heap.objs.size _ n ys (fun b o e => ?_) g1 o1 hz hn y1 (y2.trans ps) y3⟩⟩
  have q := k1 b o e
  have lt := Heap.lt_size q
  show (sortedHeap (z.heap.push (seqObj "list" vs.toArray 0)) z.heap.objs.size vs _).get? b = some o
  rw [sortedHeap_old (Nat.ne_of_lt lt) (by rw [size_push']; exact Nat.lt_succ_of_lt lt)]
  exact Heap.get?_push_of_some _ q
end
end Pg
namespace Pg
open PySem PySem.Spec PyProof.Rows L2
/-! ### defs that are called where no text is being written of anything -/
structure FnG (P : Program) (w : World) (K : PySem.W.Frag) (mg : Str → Option Value) (base : Heap) (k : Nat) (f : Addr) (fd : FuncData) (ps : List Str) (sp : Sp) : Prop where
  ln : ∀ vs H Q E, sp vs H Q E → vs.length = ps.length
  go : ∀ (A : Around), A.guards = some [] → Room k A → ∀ (outer : List Env) (s : Shared) (H : Hp), Env0 P w K mg base A outer s H →
    ∀ (args : Args) (us : List Value) (vs : List V) (Q : VK) (E : XK), BindsTo s fd args (ps.zip us) → Vals vs us → sp vs H Q E →
    codeAny (model P w) A (.call (.ref f) args) (CR CX0 outer P w H s Q E) s
section
variable {P : Program} {w : World} {K : PySem.W.Frag} {mg : Str → Option Value} {base : Heap}
theorem FnG.of {k : Nat} {f : Addr} {fd : FuncData} {ps : List Str} {sp : Sp} (F : FnOk P w K mg base CX0 k f fd ps sp) : FnG P w K mg base k f fd ps sp :=
  ⟨F.len, fun A _ r outer s H e args us vs Q E b v h => F.run A outer s H args us vs Q E r e b v h⟩
theorem FnG.mono {j k : Nat} {f : Addr} {fd : FuncData} {ps : List Str} {sp : Sp} (F : FnG P w K mg base j f fd ps sp) (h : j ≤ k) : FnG P w K mg base k f fd ps sp :=
  ⟨F.ln, fun A g r => F.go A g (r.mono h)⟩
/-- a def by its body -/
theorem Df.g {x : Str} {st : Stmt} {f : Addr} {fd : FuncData} {N ps : List Str} {k : Nat} {sp : Sp} (D : Df K mg x st ps f fd) (S : FnScope N ps (defScope st)) (len : ∀ vs H Q E, sp vs H Q E → vs.length = ps.length)
    (hb : ∀ (cdv : Value) (A : Around) (outer : List Env) (s : Shared) (H : Hp) (vs : List V) (Q : VK) (E : XK), (A.deeper (envOfC x (defScope st) s.heap.objs.size f cdv)).guards = some [] →
      Room k (A.deeper (envOfC x (defScope st) s.heap.objs.size f cdv)) → sp vs H Q E →
      ∃ t, PSs (cxOf CX0 P w K mg base N x (defScope st) f cdv A outer s H E).nox (defBody st) t ∧ t { nx := fun _ H' => Q .non H', rt := Q } (start N vs) H) : FnG P w K mg base (k + 1) f fd ps sp := by
  obtain ⟨oc, od, kV, doc, pm, an, cdv, ct, osl, rfl, lk, hcd⟩ := D.fn.ex
  refine ⟨len, fun A g hr outer s H e0 args us vs Q E bt rv hsp => ?_⟩
  have hlen := len _ _ _ _ hsp
  have KX : K.In s.heap := e0.mod.kin.keeps fun b o e => (e0.bs b o e).1
  have lim : s.heap.NoLimit := e0.mod.nolimit.keeps fun b o e => (e0.bs b o e).1
  refine codeAny_call_function hr.depth (KX _ _ lk) rfl S.co S.gen rfl (PySem.W.codeRec_of KX hcd) (bt _ _ _ _ ?_)
  refine wpAny_newFunctionEnv_cells S.kind (fun y hy => ?_) fun env he s1 x1 => ?_
  · have hp : y.1 ∈ ps := (List.of_mem_zip (show (y.1, y.2) ∈ ps.zip us from hy)).1
    refine (S.par y.1 hp).imp id fun q => ⟨q, ?_⟩
    exact PySem.W.cellsFrom_some _ _ _ (.inl q)
  subst he
  refine ⟨lim.keeps x1.toInCall.keep, codeAny_func ?_⟩
  obtain ⟨t, ht, hq⟩ := hb cdv A outer s H vs Q E (by rw [← g]; rfl) (hr.deeper _) hsp
  refine wpAny_mono (ht.nox.run [] s1 (start N vs) H _ (inv_start S hr.hd e0 hlen rv x1) hq) (fun fl s' hs => ?_) fun e s' hs => hs
  cases fl with
  | ret u =>
    obtain ⟨v, σ', H', J, rv', q⟩ := hs
    exact ⟨v, H', J.os, J.bare, J.base, J.hok, rv', q⟩
  | next =>
    obtain ⟨σ', H', J, q⟩ := hs
    exact ⟨.non, H', J.os, J.bare, J.base, J.hok, rfl, q⟩
  | brk =>
    obtain ⟨_, _, _, q⟩ := hs
    exact q.elim
  | cont =>
    obtain ⟨_, _, _, q⟩ := hs
    exact q.elim
end
/-- a def of the text with such a promise -/
structure ClG (P : Program) (w : World) (K : PySem.W.Frag) (mg : Str → Option Value) (base : Heap) (k : Nat) (x : Str) (st : Stmt) (ps : List Str) (sp : Sp) : Prop where
  ex : ∃ f fd, Df K mg x st ps f fd ∧ FnG P w K mg base k f fd ps sp
section
variable {X : Cx} {j k : Nat} {st : Stmt} {f : Addr} {fd : FuncData} {ps : List Str} {sp : Sp} {x : Str} {p pos : Pos} {e : Expr} {es : List Expr} {t : TA}
theorem run_g {pins : List (Addr × Obj)} {σ : L2.St} {H : Hp} {s : Shared} {Q : VK} {us : List Value} {vs : List V} (F : FnG X.prog X.w X.K X.mg X.base k f fd ps sp) (hG : X.A.guards = some []) (hr : Room k X.A) (hb : Binds X.K fd ps [])
    (I : Inv X pins σ H s) (r : Vals vs us) (h : sp vs H Q E0) : wpAny (model X.prog X.w) X.A (call (.ref f) us) (EP X pins σ Q) X.xe s := by
  have hl : (us ++ []).length = ps.length := by rw [List.append_nil, ← r.length]; exact F.ln _ _ _ _ h
  have bt := hb s us I.kIn hl
  rw [List.append_nil] at bt
  refine wpAny_call (codeAny_mono (F.go X.A hG hr X.stack s H I.env0 ⟨us, []⟩ us vs Q E0 bt r h) fun r s' hq => ?_)
  cases r with
  | error e => exact (pass0 (X := X) pins σ H s e s' I hq)
  | ok fl =>
    cases fl with
    | ret u => exact I.after hq
    | next => exact hq.elim
    | brk => exact hq.elim
    | cont => exact hq.elim
theorem pe_clG (c : ClG X.prog X.w X.K X.mg X.base k x st ps sp) (hG : X.A.guards = some []) (hr : Room j X.A) (hk : k ≤ j) (ha : PA X (e :: es) t) (hg : Gl X x := by rfl) (hdb : (x == ("__debug__" : Str)) = false := by decide)
    (he : starEach (e :: es) X.env = (false, eval e X.env) :: starEach es X.env := by rfl) (hpl : (backTo pos (starEach es X.env)).any (·.1) = false := by rfl) :
    PE X (.Call (.Name x p) (e :: es) [] pos) (tCl sp t) := by
  obtain ⟨f, fd, D, F⟩ := c.ex
  refine ⟨fun pins s σ H Q I h => ?_⟩
  refine wpAny_Call_Name_kw (ld_glob I hg D.at_ ?_ hdb)
  refine PySem.W.callWith_K (h₀ := X.base) I.ok.mod.kin D.fn.kp (thn (ha.run pos pins s σ H _ I h) fun us s1 ⟨vs, H1, I1, r, q⟩ => ⟨I1.kIn, ?_⟩) he hpl
  exact run_g (F.mono hk) hG hr D.bd I1 r q
end
end Pg
namespace Pg
open PySem PySem.Spec PyProof.Rows L2
/-! ### the end of a law, from a promise that is kept where no text is being written -/
section
variable {P : Program} {w : World} {K : PySem.W.Frag} {mg mb : Str → Option Value} {h : Heap} {a : Addr} {ob : Obj} {xs : List V}
/-- what is known of the store at first: the script, where it is no object of the module -/
def H0 (K : PySem.W.Frag) (a : Addr) (ob : Obj) (xs : List V) : Hp := fun b => if b = a ∧ K.lookup a = none then some (.frz ob (.lst xs)) else none
theorem h0_cases (b : Addr) : H0 K a ob xs b = none ∨ (b = a ∧ K.lookup a = none ∧ H0 K a ob xs b = some (.frz ob (.lst xs))) := by
  by_cases c : b = a ∧ K.lookup a = none
  · exact .inr ⟨c.1, c.2, if_pos c⟩
  · exact .inl (if_neg c)
theorem h0_none {b : Addr} (n : b ≠ a) : H0 K a ob xs b = none := if_neg fun c => n c.1
theorem h0_base {b : Addr} {o : Obj} (e : h.get? b = some o) (n : H0 K a ob xs b = none) : (hidT h (H0 K a ob xs)).get? b = some o := hidT_get e n
theorem h0_ns {b : Addr} {m : Str → Option Value} {l : List Value} {n : Nat} (ha : h.get? a = some { cls := .type "list", data := .seq l.toArray n }) (q : h.Ns b m) : (hidT h (H0 K a ob xs)).Ns b m := by
  obtain ⟨o, es, ep, e, d, r⟩ := q
  refine ⟨o, es, ep, h0_base e (h0_none fun z => ?_), d, r⟩
  subst z
  rw [ha] at e
  cases e
  exact Data.noConfusion d
theorem law_g {k : Nat} {fa : Addr} {fd : FuncData} {x : Str} {sp : Sp} {s₁ : Shared} {vs : List Value} {ns : List Int}
    (KX : K.In s₁.heap) (hns : s₁.heap.Ns mainGlobals mg) (hb : s₁.heap.Ns builtinsNs mb) (hbb : ∀ x : Str, x ≠ "__name__" → mb x = bootBuiltins x) (hlim : s₁.heap.NoLimit) (hg : s₁.gens = #[])
    (ha : s₁.heap.get? a = some { cls := .type "list", data := .seq vs.toArray }) (hi : IntsAre vs ns) (hl : ns.length ≤ sizeLine) (hr : Room k callerA)
    (F : ∀ base : Heap, K.In base → base.Ns mainGlobals mg → FnG P w K mg base k fa fd [x] sp) (hbind : ∀ (s : Shared) (u : Value), BindsTo s fd ⟨[u], []⟩ [(x, u)])
    (hsp : ∀ H : Hp, L2.Only H → SqL K H a (ns.map V.int) → sp [.ref a] H (fun v _ => v = .bl true) fun _ _ _ => False) :
    codeAny (model P w) callerA (.call (.ref fa) ⟨[.ref a], []⟩) (fun r s' => r = .ok (.ret (.bool true)) ∧ OldK s₁.heap s'.heap ∧ s'.os = s₁.os ∧ AllBare s'.gens) s₁ := by
  have rv := vals_ints hi
  have hlen : (ns.map V.int).length ≤ sizeLine := by rw [List.length_map]; exact hl
  have hK : K.In (hidT s₁.heap (H0 K a { cls := .type "list", data := .seq vs.toArray } (ns.map V.int))) := fun b o e => h0_base (KX b o e) (by
    rcases h0_cases (K := K) (a := a) (ob := { cls := .type "list", data := .seq vs.toArray }) (xs := ns.map V.int) b with q | ⟨rfl, q, _⟩
    · exact q
    · rw [q] at e
      cases e)
  have hM : Mod K mg (hidT s₁.heap (H0 K a { cls := .type "list", data := .seq vs.toArray } (ns.map V.int))) := by
    obtain ⟨mc, l1, l2⟩ := hlim
    exact ⟨hK, h0_ns ha hns, ⟨mb, h0_ns ha hb, hbb⟩, ⟨mc, h0_ns ha l1, l2⟩⟩
  have hok : HOk P w (H0 K a { cls := .type "list", data := .seq vs.toArray } (ns.map V.int)) s₁.heap := fun b u z => by
    rcases h0_cases (K := K) (a := a) (ob := { cls := .type "list", data := .seq vs.toArray }) (xs := ns.map V.int) b with q | ⟨rfl, _, q⟩
    · rw [q] at z
      cases z
    · rw [q] at z
      cases z
      exact ⟨ha, hlen, vs, _, rv, ha⟩
  have e0 : Env0 P w K mg (hidT s₁.heap (H0 K a { cls := .type "list", data := .seq vs.toArray } (ns.map V.int))) callerA [] s₁ (H0 K a { cls := .type "list", data := .seq vs.toArray } (ns.map V.int)) :=
    ⟨rfl, hM, fun b o e => of_hidT e, Nat.le_of_eq (hidT_size _ _), trivial, fun b z => absurd (show b ∈ ([] : List Addr) from z) (by simp), hok, .of_eq hg⟩
  have hO : L2.Only (H0 K a { cls := .type "list", data := .seq vs.toArray } (ns.map V.int)) := fun b => by
    rcases h0_cases (K := K) (a := a) (ob := { cls := .type "list", data := .seq vs.toArray }) (xs := ns.map V.int) b with q | ⟨_, _, q⟩
    · exact .inl q
    · exact .inr ⟨_, _, q⟩
  have hS : SqL K (H0 K a { cls := .type "list", data := .seq vs.toArray } (ns.map V.int)) a (ns.map V.int) := by
    cases hk : K.lookup a with
    | none => exact .inl (.inr ⟨_, if_pos ⟨rfl, hk⟩⟩)
    | some o =>
      have e := KX a o hk
      rw [ha] at e
      cases e
      exact .inr ⟨_, vs.toArray, _, hk, rfl, rfl, rfl, by rw [List.size_toArray, hi.length]; exact hl, by simpa using rv⟩
  refine codeAny_mono ((F _ hK (h0_ns ha hns)).go callerA rfl hr [] s₁ _ e0 ⟨[.ref a], []⟩ [.ref a] [.ref a] _ _ (hbind s₁ (.ref a)) (.cons rfl .nil) (hsp _ hO hS)) fun r s' q => ?_
  cases r with
  | error e => exact q.elim
  | ok fl =>
    cases fl with
    | next => exact q.elim
    | brk => exact q.elim
    | cont => exact q.elim
    | ret u =>
      obtain ⟨v, H', os, bare, un, hok', r', q⟩ := q
      have q' : v = .bl true := q
      subst q'
      obtain rfl : u = Value.bool true := r'
      refine ⟨rfl, OldK.of_keep fun b o e => ?_, os, bare⟩
      rcases h0_cases (K := K) (a := a) (ob := { cls := .type "list", data := .seq vs.toArray }) (xs := ns.map V.int) b with z | ⟨_, _, z⟩
      · exact un.keep b o e z (fun z => absurd (show b ∈ ([] : List Addr) from z) (by simp)) (by simp)
      · obtain ⟨e1, _⟩ := hok b _ z
        obtain ⟨e2, _⟩ := hok' b _ (un.frzs b _ _ z)
        rw [e] at e1
        cases e1
        exact e2
end
/-- the goal that the end of a law leaves -/
theorem walk_g {l : PySem.W.OpenLaw} {n k : Nat} {q : Program} {loose : List Str} {XP : (Str → Option Value) → Heap → Prop} {YP : World → Heap → Prop} {d : DefRec} {K : Params → PySem.W.Frag} {sp : World → Sp} {x : Str}
    (hn : l.most = some n) (hn2 : n ≤ sizeLine) (hdf : d.params.defaults = []) (hr : Room k callerA) (hY : ∀ (w : World) (h : Heap), YP w h → (K w.params).In h)
    (F : ∀ (w : World) (mg : Str → Option Value) (fa : Addr) (h : Heap), (K w.params).In h → h.Ns mainGlobals mg → mg d.name = some (.ref fa) →
      ∃ fd : FuncData, (∀ (s : Shared) (u : Value), BindsTo s fd ⟨[u], []⟩ [(x, u)]) ∧ ∀ base : Heap, (K w.params).In base → base.Ns mainGlobals mg → FnG l.prog w (K w.params) mg base k fa fd [x] (sp w))
    (hsp : ∀ (w : World) (H : Hp) (a : Addr) (ns : List Int), ns.length ≤ n → L2.Only H → SqL (K w.params) H a (ns.map V.int) → sp w [.ref a] H (fun v _ => v = .bl true) fun _ _ _ => False) :
    PySem.W.WalkO q loose XP YP l.row.toRowW d [] (fun f vs => PySem.call f vs) :=
  Att.attach_call hn hdf fun w _ s₁ mg _ fa _ _ _ _ a _ ns G Y _ _ _ hmg hobj hints hlen hg => by
    obtain ⟨fd, hb, hF⟩ := F w mg fa _ (hY w _ Y) G.T.g hmg
    exact law_g (hY w _ Y) G.T.g G.T.b G.T.builtins G.T.nolimit hg hobj hints (Nat.le_trans hlen hn2) hr hF hb fun H hO hS => hsp w H a ns hlen hO hS
end Pg
namespace Pg
open PySem PySem.Spec PyProof.Rows L2
/-! ### repr of data -/
mutual
theorem dp_plain {K : PySem.W.Frag} {H : Hp} : ∀ (d : PyData) {v : V}, Dp K H v d → d.hasDict = false
  | .none, _, _ => by simp only [PyData.hasDict]
  | .bool _, _, _ => by simp only [PyData.hasDict]
  | .int _, _, _ => by simp only [PyData.hasDict]
  | .str _, _, _ => by simp only [PyData.hasDict]
  | .list ds, _, h => by
    cases h with
    | lst _ q =>
      simp only [PyData.hasDict]
      exact dps_plain ds q
  | .tuple ds, _, h => by
    cases h with
    | tup _ q =>
      simp only [PyData.hasDict]
      exact dps_plain ds q
  | .dict _, _, h => by cases h
theorem dps_plain {K : PySem.W.Frag} {H : Hp} : ∀ (ds : List PyData) {vs : List V}, DpAll K H vs ds → PyData.hasDictAll ds = false
  | [], _, _ => by simp only [PyData.hasDictAll]
  | d :: ds, _, h => by
    cases h with
    | cons a b => simp only [PyData.hasDictAll, dp_plain d a, dps_plain ds b, Bool.or_self]
end
def rRepr (K : PySem.W.Frag) : List V → Hp → VK → Prop := fun xs H Q => ∃ v d, xs = [v] ∧ Dp K H v d ∧ d.showable = true ∧ d.depth ≤ 100 ∧ d.shown.length ≤ sizeLine ∧ Q (.str d.shown) H
theorem call_repr {X : Cx} {j : Nat} (hG : X.A.guards = some []) (hr : Room j X.A) : CallR X (.builtin "repr") (rRepr X.K) := by
  intro pins s σ H xs us Q I r h
  obtain ⟨v, d, rfl, dp, sh, dd, sz, q⟩ := h
  obtain ⟨u, rfl, rv⟩ := vals1 r
  have hu : X.A.units + (d.depth + 1) < cLine := by have := hr.un; omega
  obtain ⟨as, rd⟩ := Dp.reads I d v u dp rv
  have nd : d.hasDict = true → sysModules ∉ as := PyData.noDict_hsm (dp_plain d dp)
  have deep : ∀ a, u = .ref a → wpAny (model X.prog X.w) X.A (call (.builtin "repr") [u]) (EP X pins σ Q) X.xe s := fun a e => by
    subst e
    exact repr_of_reads' rd sh nd hG hu (fun _ _ e => e) (fun h' t tk k => ⟨.str d.shown, H, I.kept k, ⟨t, rfl⟩, q⟩) sz
  cases rd with
  | none => exact PySem.P.repr_of_none ⟨.str _, H, I.tok _, ⟨_, rfl⟩, by simpa only [PyData.shown] using q⟩
  | bool b => exact PySem.P.repr_of_bool ⟨.str _, H, I.tok _, ⟨_, rfl⟩, by simpa only [PyData.shown] using q⟩
  | int i t => exact PySem.P.repr_of_int (by simpa [PyData.showable] using sh) ⟨.str _, H, I.tok _, ⟨_, rfl⟩, by simpa only [PyData.shown] using q⟩
  | str x t => exact PySem.P.repr_of_str ⟨.str _, H, I.tok _, ⟨_, rfl⟩, by simpa only [PyData.shown] using q⟩ (by simpa only [PyData.shown] using sz)
  | list _ _ _ _ => exact deep _ rfl
  | tuple _ _ _ _ => exact deep _ rfl
  | dict _ _ _ _ _ => exact deep _ rfl
-- a bound for the signs of data whose texts are short: 4 more for every part, 402 for a text
mutual
def dW : PyData → Nat
  | .none => 4
  | .bool _ => 5
  | .int _ => 30
  | .str _ => 402
  | .list ds => dWs ds + 4
  | .tuple ds => dWs ds + 4
  | .dict _ => 0
def dWs : List PyData → Nat
  | [] => 0
  | d :: ds => dW d + 2 + dWs ds
end
-- no ints, texts of 40 letters at most
mutual
inductive Neat : PyData → Prop
  | non : Neat .none
  | bl (b : Bool) : Neat (.bool b)
  | str {x : Str} (h : x.length ≤ 40) (c : ∀ n ∈ x.cps.toList, n < 16 ^ 8) : Neat (.str x)
  | lst {ds : List PyData} : Neats ds → Neat (.list ds)
  | tup {ds : List PyData} : Neats ds → Neat (.tuple ds)
inductive Neats : List PyData → Prop
  | nil : Neats []
  | cons {d : PyData} {ds : List PyData} : Neat d → Neats ds → Neats (d :: ds)
end
mutual
theorem neat_sh : ∀ (d : PyData), Neat d → d.showable = true
  | .none, _ => by simp only [PyData.showable]
  | .bool _, _ => by simp only [PyData.showable]
  | .str _, _ => by simp only [PyData.showable]
  | .int _, h => by cases h
  | .list ds, .lst q => by
    simp only [PyData.showable]
    exact neats_sh ds q
  | .tuple ds, .tup q => by
    simp only [PyData.showable]
    exact neats_sh ds q
  | .dict _, h => by cases h
theorem neats_sh : ∀ (ds : List PyData), Neats ds → PyData.showableAll ds = true
  | [], _ => by simp only [PyData.showableAll]
  | d :: ds, .cons a b => by simp only [PyData.showableAll, neat_sh d a, neats_sh ds b, Bool.and_self]
end
theorem textFrom_le : ∀ (ts : List Str) (k : Nat) (acc : Str), (textFrom k acc ts).length ≤ acc.length + (ts.map fun t => t.length + 2).sum
  | [], k, acc => by
    show acc.length ≤ _
    simp
  | t :: ts, k, acc => by
    have ih := textFrom_le ts (k + 1) (acc ++ (if k > 0 then ", " else "" : String) ++ t)
    have e : (acc ++ (if k > 0 then ", " else "" : String) ++ t).length ≤ acc.length + 2 + t.length := by
      rw [strLen_append, strLen_append]
      by_cases c : k > 0
      · rw [if_pos c]
        have : (Str.ofString ", ").length = 2 := rfl
        omega
      · rw [if_neg c]
        have : (Str.ofString "").length = 0 := rfl
        omega
    rw [List.map_cons, List.sum_cons]
    show (textFrom (k + 1) (acc ++ (if k > 0 then ", " else "" : String) ++ t) ts).length ≤ _
    omega
theorem piled_sum : ∀ ts : List Str, piled ts = (ts.map fun t => t.length + 2).sum
  | [] => rfl
  | t :: ts => by simp [piled, piled_sum ts]
theorem tupleText_le (ts : List Str) : (tupleText ts).length ≤ (ts.map fun t => t.length + 2).sum + 4 := by
  have e1 : (Str.ofString "(").length = 1 := rfl
  have e2 : (Str.ofString (if ts.length == 1 then ",)" else ")")).length ≤ 2 := by split <;> decide
  have e3 : (Str.join (Str.ofString ", ") ts).length ≤ (ts.map fun t => t.length + 2).sum := by
    cases ts with
    | nil => exact Nat.zero_le _
    | cons t ts =>
      have q := join_length_add (t :: ts) (by simp)
      rw [piled_sum] at q
      omega
  unfold tupleText
  rw [strLen_append, strLen_append]
  omega
theorem listText_le (ts : List Str) : (listText ts).length ≤ (ts.map fun t => t.length + 2).sum + 4 := by
  have e1 : (Str.ofString "[").length = 1 := rfl
  have e2 : (Str.ofString "]").length = 1 := rfl
  have q := textFrom_le ts 0 (Str.ofString "[")
  show (textFrom 0 "[" ts ++ "]").length ≤ _
  rw [strLen_append]
  omega
mutual
theorem neat_le : ∀ (d : PyData), Neat d → d.shown.length ≤ dW d
  | .none, _ => by
    simp only [PyData.shown, dW]
    decide
  | .bool b, _ => by
    cases b <;> simp only [PyData.shown, dW] <;> decide
  | .str x, .str h c => by
    simp only [PyData.shown, dW]
    have := StrLaws.reprText_len x c
    omega
  | .int _, h => by cases h
  | .list ds, .lst q => by
    simp only [PyData.shown, dW]
    have a := listText_le (PyData.shownAll ds)
    have b := neats_le ds q
    omega
  | .tuple ds, .tup q => by
    simp only [PyData.shown, dW]
    have a := tupleText_le (PyData.shownAll ds)
    have b := neats_le ds q
    omega
  | .dict _, h => by cases h
theorem neats_le : ∀ (ds : List PyData), Neats ds → ((PyData.shownAll ds).map fun t => t.length + 2).sum ≤ dWs ds
  | [], _ => by
    simp only [PyData.shownAll, dWs]
    decide
  | d :: ds, .cons a b => by
    have p := neat_le d a
    have q := neats_le ds b
    simp only [PyData.shownAll, dWs, List.map_cons, List.sum_cons]
    omega
end
/-- repr of data with short texts and no ints -/
def rNeat (K : PySem.W.Frag) : List V → Hp → VK → Prop := fun xs H Q => ∃ v d, xs = [v] ∧ Dp K H v d ∧ Neat d ∧ d.depth ≤ 100 ∧ dW d ≤ 10000000 ∧ Q (.str d.shown) H
theorem call_repr_neat {X : Cx} {j : Nat} (hG : X.A.guards = some []) (hr : Room j X.A) : CallR X (.builtin "repr") (rNeat X.K) := fun pins s σ H xs us Q I r h => by
  obtain ⟨v, d, e, dp, n, dd, sz, q⟩ := h
  exact call_repr hG hr pins s σ H xs us Q I r ⟨v, d, e, dp, neat_sh d n, dd, Nat.le_trans (neat_le d n) (Nat.le_trans sz (by decide)), q⟩
end Pg
namespace Pg
open PySem PySem.Spec PyProof.Rows L2
/-! ### sorted(set(xs)), texts -/
theorem once_nodup : ∀ (xs acc : List Str), acc.Nodup → (onceL acc xs).Nodup
  | [], _, h => h
  | x :: xs, acc, h => by
    show (onceL (if x ∈ acc then acc else x :: acc) xs).Nodup
    refine once_nodup xs _ ?_
    by_cases c : x ∈ acc
    · rw [if_pos c]
      exact h
    · rw [if_neg c]
      exact List.nodup_cons.mpr ⟨c, h⟩
theorem txt_lt_of {a b : List Nat} (n : ¬ b < a) (d : a ≠ b) : a < b := by
  by_cases h : a < b
  · exact h
  · exact absurd (List.le_antisymm (List.not_lt.mp n) (List.not_lt.mp h)) d
theorem rising_pw : ∀ (zs : List (List Nat)) (p : List Nat), (p :: zs).Nodup → risingS (tx p) (zs.map tx) = true → (p :: zs).Pairwise (· < ·)
  | [], p, _, _ => List.pairwise_singleton _ _
  | z :: zs, p, nd, h => by
    have h' : (!ltCps z p && risingS (tx z) (zs.map tx)) = true := by simpa [risingS] using h
    rw [ltCps_eq] at h'
    obtain ⟨h1, h2⟩ := Bool.and_eq_true_iff.mp h'
    obtain ⟨n1, n2⟩ := List.nodup_cons.mp nd
    have ih := rising_pw zs z n2 h2
    have pz : p < z := txt_lt_of (by simpa using h1) fun e => n1 (by rw [e]; exact List.mem_cons_self)
    refine List.pairwise_cons.mpr ⟨fun y m => ?_, ih⟩
    rcases List.mem_cons.mp m with rfl | m
    · exact pz
    · exact List.lt_trans pz ((List.pairwise_cons.mp ih).1 y m)
theorem sorted_pw {ls : List (List Nat)} {ys : List Str} (pm : ys.Perm (onceL [] (ls.map tx))) (so : sortedS ys = true) : ∃ zs : List (List Nat), ys = zs.map tx ∧ zs.Pairwise (· < ·) ∧ (∀ l, l ∈ zs ↔ l ∈ ls) ∧ zs.length ≤ ls.length := by
  have e : ys = (ys.map fun s => s.cps.toList).map tx := by
    rw [List.map_map]
    conv => lhs; rw [← List.map_id ys]
    rfl
  have nd : ys.Nodup := pm.nodup_iff.mpr (once_nodup _ _ List.nodup_nil)
  have mem : ∀ s, s ∈ ys ↔ s ∈ ls.map tx := fun s => by
    rw [pm.mem_iff, once_mem]
    simp
  refine ⟨ys.map fun s => s.cps.toList, e, ?_, fun l => ?_, ?_⟩
  · have nd2 : (ys.map fun s => s.cps.toList).Nodup := by
      rw [e] at nd
      exact List.Pairwise.of_map tx (fun a b h e => h (by rw [e])) nd
    revert nd2
    rw [e] at so
    generalize (ys.map fun s => s.cps.toList) = zs at so
    intro nd2
    cases zs with
    | nil => exact List.Pairwise.nil
    | cons z zs => exact rising_pw zs z nd2 so
  · constructor
    · intro m
      obtain ⟨s, m1, rfl⟩ := List.mem_map.mp m
      obtain ⟨l, m2, rfl⟩ := List.mem_map.mp ((mem s).mp m1)
      simpa using m2
    · intro m
      exact List.mem_map.mpr ⟨tx l, (mem _).mpr (List.mem_map.mpr ⟨l, m, rfl⟩), by simp⟩
  · rw [List.length_map, pm.length_eq]
    have := once_len (ls.map tx) []
    simpa using this
/-- sorted(set(xs)): xs texts, under 64 of them; strictly ascending -/
def tSS (K : PySem.W.Frag) (te : TE) : TE := fun σ H Q => te σ H fun v H1 => ∃ (a : Addr) (ls : List (List Nat)), v = .ref a ∧ SqL K H1 a (ls.map Tx) ∧ ls.length < 4000 ∧
  ∀ (zs : List (List Nat)) (p : Addr), zs.Pairwise (· < ·) → (∀ l, l ∈ zs ↔ l ∈ ls) → zs.length ≤ ls.length → H1 p = none → Q (.ref p) (upd H1 p (.lst (zs.map Tx)))
theorem pe_sortset {X : Cx} {e : Expr} {te : TE} {p p2 pos pos2 : Pos} (hh : X.A.handled = none) (g1 : Gl X "sorted") (m1 : X.mg "sorted" = none) (g2 : Gl X "set") (m2 : X.mg "set" = none) (he : PE X e te)
    (hs : starEach [e] X.env = (false, eval e X.env) :: starEach [] X.env := by rfl)
    (hs2 : starEach [Expr.Call (.Name "set" p2) [e] [] pos2] X.env = (false, eval (Expr.Call (.Name "set" p2) [e] [] pos2) X.env) :: starEach [] X.env := by rfl) :
    PE X (.Call (.Name "sorted" p) [.Call (.Name "set" p2) [e] [] pos2] [] pos) (tSS X.K te) := by
  refine ⟨fun pins s σ H Q I h => ?_⟩
  refine wpAny_Call_Name_kw (ld_blt I g1 m1 (by rfl) ?_ (by decide) (by decide))
  refine PyProof.Rows.callWith_builtin1 ?_ hs2 (by rfl)
  rw [hs2]
  show wpAny _ _ (spliced ((false, eval (Expr.Call (.Name "set" p2) [e] [] pos2) X.env) :: backTo pos (starEach [] X.env))) _ _ s
  refine Calls.spliced_cons ?_
  refine wpAny_Call_Name_kw (ld_blt I g2 m2 (by rfl) ?_ (by decide) (by decide))
  refine PyProof.Rows.callWith_type1 ?_ hs (by rfl)
  rw [hs]
  show wpAny _ _ (spliced ((false, eval e X.env) :: backTo pos2 (starEach [] X.env))) _ _ s
  refine Calls.spliced_cons (thn (he.run pins s σ H _ I h) fun u s1 ⟨v, H1, I1, r1, q1⟩ => Calls.spliced_nil ?_)
  obtain ⟨a, ls, rfl, hl, few, q⟩ := q1
  obtain rfl : u = .ref a := r1
  obtain ⟨its, rv, pl, _⟩ := I1.list hl
  have st : StrsAre its.toArray.toList (ls.map tx) := by
    have : ls.map Tx = (ls.map tx).map V.str := by rw [List.map_map]; rfl
    rw [this] at rv
    exact rv.strs
  refine call_set_txt hh pl.isList st (by rw [List.length_map]; exact Nat.lt_of_lt_of_le (Nat.succ_lt_succ few) (by decide)) fun h' tk S k => ?_
  refine Calls.spliced_nil ?_
  have few2 : (onceL [] (ls.map tx)).length < 4000 := by
    have := once_len (ls.map tx) []
    rw [List.length_map] at this
    simp at this
    omega
  refine sorted_txt (s := { s1 with heap := h', toks := tk }) S hh few2 fun z p out n ys k2 hg ho hp hat hst pm so => ?_
  obtain ⟨zs, rfl, pw, mem, len⟩ := sorted_pw pm so
  have k3 : ∀ b u, s1.heap.get? b = some u → z.heap.get? b = some u := fun b u e => k2 b u (k b u e)
  have sz : s1.heap.objs.size ≤ p := by
    obtain ⟨D, at_, _⟩ := S
    exact Nat.le_trans (Nat.le_of_lt (Heap.lt_size at_)) hp
  have fr := I1.hok.fresh sz
  refine ⟨.ref p, upd H1 p (.lst (zs.map Tx)), ?_, rfl, q zs p pw mem len fr⟩
  have ok : ObjOk X.prog X.w (upd H1 p (.lst (zs.map Tx))) z.heap p (.lst (zs.map Tx)) :=
    ⟨by rw [List.length_map]; exact Nat.le_trans len (Nat.le_of_lt (Nat.lt_of_lt_of_le few (by decide))), out.toList, n, by
      have := vals_of_strs hst
      rw [List.map_map] at this
      exact this, hat⟩
  exact I1.call' (ch := []) ho (Un.laid k3 sz fr) (I1.hok.laid k3 sz ok) (by rw [hg]; exact I1.bare) (fun b z => absurd z (by simp))
end Pg
namespace Pg
open PySem PySem.Spec PyProof.Rows L2
/-! ### comprehensions that give values -/
theorem sql_up {K : PySem.W.Frag} {H H' : Hp} {a : Addr} {xs : List V} (s : Stp [] H H') (h : SqL K H a xs) : SqL K H' a xs := by
  rcases h with (h | ⟨o, h⟩) | h
  · exact .inl (.inl (s.kp _ _ (fun m => nomatch m) h))
  · exact .inl (.inr ⟨o, s.kp _ _ (fun m => nomatch m) h⟩)
  · exact .inr h
theorem ix_listK {X : Cx} {K : PySem.W.Frag} (hK : X.K = K) : IxR X (rIxL K) := by
  subst hK
  exact ix_list
theorem tn {σ : L2.St} {H : Hp} {Q : List V → Hp → Prop} (h : Q [] H) : tNil σ H Q := h
theorem RpL.snoc {K : PySem.W.Frag} {H : Hp} {vs : List V} {ds : List Dt} {i : Nat} {v : V} {d : Dt} (r : RpL K H vs (ds.take i)) (e : ds[i]? = some d) (h : Rp K H v d) : RpL K H (vs ++ [v]) (ds.take (i + 1)) := by
  rw [List.take_add_one, e]
  exact r.app (.cons h .nil)
theorem rpl_strs {K : PySem.W.Frag} {H : Hp} : ∀ {ls : List (List Nat)} {vs : List V}, RpL K H vs (ls.map Dt.str) → vs = ls.map Tx
  | [], _, .nil => rfl
  | l :: ls, _, .cons h r => by
    cases h
    rw [List.map_cons, rpl_strs r]
theorem rpl_bls {K : PySem.W.Frag} {H : Hp} : ∀ {bs : List Bool} {vs : List V}, RpL K H vs (bs.map Dt.bl) → vs = bs.map V.bl
  | [], _, .nil => rfl
  | b :: bs, _, .cons h r => by
    cases h
    rw [List.map_cons, rpl_bls r]
section
variable {K : PySem.W.Frag} {a : Addr} {xs : List V} {ds : List Dt} {g : TG} {te : TE} {vs : List Nat} {σ : L2.St} {H1 : Hp} {D : Addr} {Qd : Hp → Prop}
theorem lc_mapL (nD : H1 D = none) (hs : SqL K H1 a xs) (hl : ds.length = xs.length) (hz : xs.length ≤ 90000)
    (step : ∀ (i : Nat) x d H, xs[i]? = some x → ds[i]? = some d → Stp [] H1 H → ∀ Q : VK, (∀ y H', Stp [] H H' → Rp K H' y d → Q y H') → g x (wipe σ vs) H fun σ2 H2 => wipe σ2 vs = wipe σ vs ∧ te σ2 H2 Q)
    (hd : ∀ ws H, Stp [] H1 H → H D = some (.lst ws) → RpL K H ws ds → Qd H) :
    ∃ W : Nat → Nat → Hp → Prop, (∃ m, W 0 m (upd H1 D (.lst []))) ∧ ∀ i m H, W i m H →
      ((Itl K a).stop i H ∧ Qd H) ∨ ((Itl K a).go i H ∧ ∃ Nx : Hp → Prop, (∀ H', Nx H' → ∃ m', m' < m ∧ W (i + 1) m' H') ∧ ∀ x H', (Itl K a).yld i H x H' → g x (wipe σ vs) H' fun σ2 H2 => wipe σ2 vs = wipe σ vs ∧ tYes σ2 H2 fun b H3 =>
        if b = true then te σ2 H3 fun y H4 => ∃ acc, H4 D = some (.lst acc) ∧ acc.length < sizeLine ∧ Nx (upd H4 D (.lst (acc ++ [y]))) else Nx H3) := by
  refine lc_list (a := a) (xs := xs) (fun i H => ∃ ws, H D = some (.lst ws) ∧ RpL K H ws (ds.take i) ∧ Stp [] H1 H) ⟨[], upd_same, .nil, Stp.new nD _⟩ (fun i H _ ⟨_, _, _, S⟩ => sql_up S hs) ?_ ?_
  · rintro i x H hi ⟨ws, hL, rv, S⟩
    have il : i < ds.length := by rw [hl]; exact (List.getElem?_eq_some_iff.mp hi).1
    refine step i x ds[i] H hi (List.getElem?_eq_getElem il) S _ fun y H' S' ry => ?_
    refine ⟨ws, S'.kp _ _ (fun m => nomatch m) hL, ?_, ws ++ [y], upd_same, ?_, (S.trans S').mut nD⟩
    · rw [rv.len, List.length_take]
      exact Nat.lt_of_le_of_lt (show min i ds.length ≤ 90000 by omega) (by decide)
    · have s4 : Stp [D] H' (upd H' D (.lst (ws ++ [y]))) := Stp.put (by simp)
      have hL' := S'.kp _ _ (fun m => nomatch m) hL
      exact RpL.snoc ((rv.stp S' Lsts.nil).stp s4 (.one hL')) (List.getElem?_eq_getElem il) (ry.stp s4 (.one hL'))
  · rintro H ⟨ws, hL, rv, S⟩
    rw [← hl, List.take_length] at rv
    exact hd ws H S hL rv
theorem lc_mapT (nD : H1 D = none) (hs : SqT K H1 a xs) (hl : ds.length = xs.length) (hz : xs.length ≤ 90000)
    (step : ∀ (i : Nat) x d H, xs[i]? = some x → ds[i]? = some d → Stp [] H1 H → ∀ Q : VK, (∀ y H', Stp [] H H' → Rp K H' y d → Q y H') → g x (wipe σ vs) H fun σ2 H2 => wipe σ2 vs = wipe σ vs ∧ te σ2 H2 Q)
    (hd : ∀ ws H, Stp [] H1 H → H D = some (.lst ws) → RpL K H ws ds → Qd H) :
    ∃ W : Nat → Nat → Hp → Prop, (∃ m, W 0 m (upd H1 D (.lst []))) ∧ ∀ i m H, W i m H →
      ((Itt K a).stop i H ∧ Qd H) ∨ ((Itt K a).go i H ∧ ∃ Nx : Hp → Prop, (∀ H', Nx H' → ∃ m', m' < m ∧ W (i + 1) m' H') ∧ ∀ x H', (Itt K a).yld i H x H' → g x (wipe σ vs) H' fun σ2 H2 => wipe σ2 vs = wipe σ vs ∧ tYes σ2 H2 fun b H3 =>
        if b = true then te σ2 H3 fun y H4 => ∃ acc, H4 D = some (.lst acc) ∧ acc.length < sizeLine ∧ Nx (upd H4 D (.lst (acc ++ [y]))) else Nx H3) := by
  refine lc_tup (a := a) (xs := xs) (fun i H => ∃ ws, H D = some (.lst ws) ∧ RpL K H ws (ds.take i) ∧ Stp [] H1 H) ⟨[], upd_same, .nil, Stp.new nD _⟩ (fun i H _ ⟨_, _, _, S⟩ => sqt_stp S Lsts.nil hs) ?_ ?_
  · rintro i x H hi ⟨ws, hL, rv, S⟩
    have il : i < ds.length := by rw [hl]; exact (List.getElem?_eq_some_iff.mp hi).1
    refine step i x ds[i] H hi (List.getElem?_eq_getElem il) S _ fun y H' S' ry => ?_
    refine ⟨ws, S'.kp _ _ (fun m => nomatch m) hL, ?_, ws ++ [y], upd_same, ?_, (S.trans S').mut nD⟩
    · rw [rv.len, List.length_take]
      exact Nat.lt_of_le_of_lt (show min i ds.length ≤ 90000 by omega) (by decide)
    · have s4 : Stp [D] H' (upd H' D (.lst (ws ++ [y]))) := Stp.put (by simp)
      have hL' := S'.kp _ _ (fun m => nomatch m) hL
      exact RpL.snoc ((rv.stp S' Lsts.nil).stp s4 (.one hL')) (List.getElem?_eq_getElem il) (ry.stp s4 (.one hL'))
  · rintro H ⟨ws, hL, rv, S⟩
    rw [← hl, List.take_length] at rv
    exact hd ws H S hL rv
theorem lc_mapR {n : Nat} (nD : H1 D = none) (hl : ds.length = n) (hz : n ≤ 90000)
    (step : ∀ (i : Nat) d H, ds[i]? = some d → Stp [] H1 H → ∀ Q : VK, (∀ y H', Stp [] H H' → Rp K H' y d → Q y H') → g (.int ((0 : Int) + (i : Int))) (wipe σ vs) H fun σ2 H2 => wipe σ2 vs = wipe σ vs ∧ te σ2 H2 Q)
    (hd : ∀ ws H, Stp [] H1 H → H D = some (.lst ws) → RpL K H ws ds → Qd H) :
    ∃ W : Nat → Nat → Hp → Prop, (∃ m, W 0 m (upd H1 D (.lst []))) ∧ ∀ i m H, W i m H →
      ((Itr 0 n).stop i H ∧ Qd H) ∨ ((Itr 0 n).go i H ∧ ∃ Nx : Hp → Prop, (∀ H', Nx H' → ∃ m', m' < m ∧ W (i + 1) m' H') ∧ ∀ x H', (Itr 0 n).yld i H x H' → g x (wipe σ vs) H' fun σ2 H2 => wipe σ2 vs = wipe σ vs ∧ tYes σ2 H2 fun b H3 =>
        if b = true then te σ2 H3 fun y H4 => ∃ acc, H4 D = some (.lst acc) ∧ acc.length < sizeLine ∧ Nx (upd H4 D (.lst (acc ++ [y]))) else Nx H3) := by
  refine lc_range (lo := 0) (n := n) (fun i H => ∃ ws, H D = some (.lst ws) ∧ RpL K H ws (ds.take i) ∧ Stp [] H1 H) ⟨[], upd_same, .nil, Stp.new nD _⟩ ?_ ?_
  · rintro i H hi ⟨ws, hL, rv, S⟩
    have il : i < ds.length := by rw [hl]; exact hi
    refine step i ds[i] H (List.getElem?_eq_getElem il) S _ fun y H' S' ry => ?_
    refine ⟨ws, S'.kp _ _ (fun m => nomatch m) hL, ?_, ws ++ [y], upd_same, ?_, (S.trans S').mut nD⟩
    · rw [rv.len, List.length_take]
      exact Nat.lt_of_le_of_lt (show min i ds.length ≤ 90000 by omega) (by decide)
    · have s4 : Stp [D] H' (upd H' D (.lst (ws ++ [y]))) := Stp.put (by simp)
      have hL' := S'.kp _ _ (fun m => nomatch m) hL
      exact RpL.snoc ((rv.stp S' Lsts.nil).stp s4 (.one hL')) (List.getElem?_eq_getElem il) (ry.stp s4 (.one hL'))
  · rintro H ⟨ws, hL, rv, S⟩
    rw [← hl, List.take_length] at rv
    exact hd ws H S hL rv
end
end Pg
namespace Pg
open PySem PySem.Spec PyProof.Rows L2
/-- a new object is changed -/
theorem Stp.mutO {S : List Addr} {H H' : Hp} {p : Addr} {o : HO} (a : Stp S H H') (h : H p = none) : Stp S H (upd H' p o) :=
  ⟨fun x u n q => by
    rw [upd_ne (ne_of_none q h)]
    exact a.kp x u n q, fun x xs q => by
    rw [upd_ne (ne_of_none q h)]
    exact a.ls x xs q⟩
/-- sorted(xs), texts, any number of them -/
def rSortedSA (K : PySem.W.Frag) : List V → Hp → VK → Prop := fun vs H Q => ∃ (a : Addr) (ls : List (List Nat)), vs = [V.ref a] ∧ SqL K H a (ls.map Tx) ∧
  ∀ (zs : List (List Nat)) (p : Addr), zs.Perm ls → zs.Pairwise (· ≤ ·) → H p = none → Q (.ref p) (upd H p (.lst (zs.map Tx)))
theorem rising_le : ∀ (zs : List (List Nat)) (p : List Nat), risingS (tx p) (zs.map tx) = true → (p :: zs).Pairwise (· ≤ ·)
  | [], p, _ => List.pairwise_singleton _ _
  | z :: zs, p, h => by
    have h' : (!ltCps z p && risingS (tx z) (zs.map tx)) = true := by simpa [risingS] using h
    rw [ltCps_eq] at h'
    obtain ⟨h1, h2⟩ := Bool.and_eq_true_iff.mp h'
    have ih := rising_le zs z h2
    have pz : p ≤ z := List.not_lt.mp (by simpa using h1)
    refine List.pairwise_cons.mpr ⟨fun y m => ?_, ih⟩
    rcases List.mem_cons.mp m with rfl | m
    · exact pz
    · exact List.le_trans pz ((List.pairwise_cons.mp ih).1 y m)
theorem cr_sortedSA {X : Cx} : CallR X (.builtin "sorted") (rSortedSA X.K) := by
  intro pins s σ H vs us Q I r h
  obtain ⟨a, ls, rfl, hs, q⟩ := h
  obtain ⟨its, rv, hl, hz⟩ := I.list hs
  rw [Vals.ref1 r]
  have st : StrsAre its (ls.map tx) := by
    have : ls.map Tx = (ls.map tx).map V.str := by rw [List.map_map]; rfl
    rw [this] at rv
    exact rv.strs
  refine sorted_strsAny hl.isList st (by rw [← rv.length]; exact hz) fun out ys h1 h2 h3 => ?_
  have e : ys = (ys.map fun s => s.cps.toList).map tx := by
    rw [List.map_map]
    conv => lhs; rw [← List.map_id ys]
    rfl
  have pm : (ys.map fun s => s.cps.toList).Perm ls := by
    have := h2.map fun s : Str => s.cps.toList
    rw [List.map_map] at this
    refine this.trans (List.Perm.of_eq ?_)
    conv => rhs; rw [← List.map_id ls]
    refine List.map_congr_left fun l _ => ?_
    simp
  have so : (ys.map fun s => s.cps.toList).Pairwise (· ≤ ·) := by
    rw [e] at h3
    generalize (ys.map fun s => s.cps.toList) = zs at h3
    cases zs with
    | nil => exact List.Pairwise.nil
    | cons z zs => exact rising_le zs z h3
  obtain ⟨ep, he'⟩ := PyProof.Rows.sortedAll_at s.heap its out
  rw [e] at h1
  have hv := vals_of_strs h1
  rw [List.map_map] at hv
  have hv : Vals ((ys.map fun s => s.cps.toList).map Tx) out.toList := hv
  have hlen : ((ys.map fun s => s.cps.toList).map Tx).length ≤ sizeLine := by
    rw [List.length_map, pm.length_eq]
    rw [List.length_map] at hz
    exact hz
  exact ⟨.ref _, upd H (s.heap.objs.size + 1) (.lst ((ys.map fun s => s.cps.toList).map Tx)), I.laid (t' := s.toks) (fun _ _ => PyProof.Rows.sortedAll_old) (Nat.le_succ _) ⟨hlen, out.toList, ep, hv, he'⟩, rfl, q _ _ pm so (I.hok.fresh (Nat.le_succ _))⟩
end Pg
namespace Pg
open PySem PySem.Spec PyProof.Rows L2
theorem RpL.rev {K : PySem.W.Frag} {H : Hp} : ∀ {vs : List V} {ds : List Dt}, RpL K H vs ds → RpL K H vs.reverse ds.reverse
  | _, [], .nil => .nil
  | _, _ :: _, .cons h r => by
    rw [List.reverse_cons, List.reverse_cons]
    exact RpL.app (RpL.rev r) (.cons h .nil)
theorem RpL.erase {K : PySem.W.Frag} {H : Hp} {α : Type} {f : α → Dt} : ∀ {vs : List V} {ps : List α} {k : Nat}, RpL K H vs (ps.map f) → RpL K H (vs.eraseIdx k) ((ps.eraseIdx k).map f)
  | _, [], _, .nil => .nil
  | _, _ :: _, 0, .cons _ r => r
  | _, _ :: _, k + 1, .cons h r => .cons h (RpL.erase (k := k) r)
theorem seqIx {n : Nat} {d : Int} (h0 : 0 ≤ d) (h1 : d < (n : Int)) : seqIndex? d n = some d.toNat := (ixN_seq (by unfold ixN; rw [if_pos h0, if_pos h1])).1
/-! ### t[::-1] -/
section
variable {prog : Program} {w : World} {A : Around} {E : Value → Shared → Prop} {s : Shared}
open HT
theorem sliceApplied_rev {sl : Addr} {vl vu vs : Value} {n : Nat} {Q : Int × Int × Nat → Shared → Prop} (hs : s.heap.IsSliceOf sl vl vu vs) (pl : IsPart vl none) (pu : IsPart vu none) (ps : IsPart vs (some (-1)))
    (h : Q ((n : Int) - 1, -1, n) s) : wpAny (model prog w) A (Builtin.Slice.sliceApplied (.ref sl) (pure (n : Int))) Q E s := by
  obtain ⟨os, hos, hcs, hds⟩ := id hs
  unfold Builtin.Slice.sliceApplied Builtin.Slice.sliceFields
  refine wpAny_bind (wpAny_bind (wpAny_field hos hds (x := vl) rfl (wpAny_bind (wpAny_field hos hds (x := vu) rfl (wpAny_bind (wpAny_field hos hds (x := vs) rfl (wpAny_pure ?_)))))))
  refine wpAny_bind (slicePart_ ps ?_)
  show wpAny _ _ (if ((-1 : Int) == 0) = true then _ else _) _ _ s
  rw [if_neg (by decide)]
  refine wpAny_bind (slicePart_ pl (wpAny_bind (slicePart_ pu (wpAny_bind (wpAny_pure ?_)))))
  show wpAny _ _ (pure ((n : Int) - 1, (-1 : Int), Builtin.Slice.slicePlaces ((n : Int) - 1) (-1) (-1))) _ _ s
  have e : Builtin.Slice.slicePlaces ((n : Int) - 1) (-1) (-1) = n := by
    unfold Builtin.Slice.slicePlaces
    rw [if_neg (by decide)]
    by_cases c : (n : Int) - 1 > -1
    · rw [if_pos c, show (- -1 : Int) = 1 by decide, Int.ediv_one]
      omega
    · rw [if_neg c]
      omega
  rw [e]
  exact wpAny_pure h
theorem pick_rev (xs : Array Value) : ((List.range xs.size).filterMap fun (k : Nat) => xs[((xs.size : Int) - 1 + (k : Int) * (-1)).toNat]?).toArray = xs.toList.reverse.toArray := by
  have e : (fun (k : Nat) => xs[((xs.size : Int) - 1 + (k : Int) * (-1)).toNat]?) = (fun k => xs[xs.size - 1 - k]?) := by
    funext k
    have : ((xs.size : Int) - 1 + (k : Int) * (-1)).toNat = xs.size - 1 - k := by omega
    rw [this]
  rw [e]
  have e2 : (fun k => xs[xs.size - 1 - k]?) = (fun k => xs[k]?) ∘ fun k => xs.size - 1 - k := rfl
  rw [e2, ← List.filterMap_map, PySem.W.krv_range, List.filterMap_reverse, PySem.W.krv_all]
theorem getItem_tuple_rev {t sl : Addr} {items : Array Value} {vl vu vs : Value} {Q : Value → Shared → Prop} (ht : IsTup s.heap t items) (hs : s.heap.IsSliceOf sl vl vu vs) (pl : IsPart vl none) (pu : IsPart vu none) (ps : IsPart vs (some (-1)))
    (h : Q (.ref s.heap.objs.size) { s with heap := s.heap.push { cls := .type "tuple", data := .seq items.toList.reverse.toArray } })
    (hsz : items.size ≤ sizeLine) : wpAny (model prog w) A (getItem (.ref t) (.ref sl)) Q E s := by
  have htake : sizeOk (.seq items.toList.reverse.toArray) := by
    show items.toList.reverse.toArray.size ≤ sizeLine
    rw [List.size_toArray, List.length_reverse, Array.length_toList]
    exact hsz
  obtain ⟨os, hos, hcs, hds⟩ := id hs
  have hTs : s.TypeIs (.ref sl) "slice" := ⟨os, hos, hcs⟩
  unfold getItem
  try with_reducible refine wpAny_holding ?_
  first | refine wpAny_bind (wpAny_pure ?_) | skip
  refine wpAny_bind (wpAny_sequenceKey ht.typeIs (by decide) ?_)
  refine wpAny_bind (wpAny_callSpecial?_slot (name := Str.ofString "__getitem__") ht.typeIs PyProof.Rows.slot_tuple_getitem
    (wpAny_call_entry PyProof.Rows.slot_tuple_getitem ht.typeIs entry_tuple_getitem ?_ (args_tuple_getitem _ _)))
  show wpAny _ _ (Builtin.Tuple.tupleItemsOf (.ref t) >>= _) _ _ s
  refine wpAny_bind (tupleItemsOf_ ht ?_)
  refine wpAny_bind (wpAny_typeOf hTs ?_)
  rw [if_pos (by decide)]
  refine wpAny_bind (sliceApplied_rev hs pl pu ps ?_)
  have hno : ¬ ((((items.size : Int) - 1) == 0 && (-1 : Int) == 1 && items.size == items.size) = true) := by
    intro q
    rw [Bool.and_eq_true, Bool.and_eq_true] at q
    exact absurd q.1.2 (by decide)
  show wpAny _ _ (if (((items.size : Int) - 1) == 0 && (-1 : Int) == 1 && items.size == items.size) = true then _ else _) _ _ s
  rw [if_neg hno, pick_rev]
  first
    | exact wpAny_bind (m := Builtin.Tuple.tupleExact _) (wpAny_newObj_type (wpAny_pure ⟨_, rfl, wpAny_pure h⟩) htake)
    | exact wpAny_bind (m := Builtin.Tuple.tupleExact _) (wpAny_newObj_type (wpAny_bind (wpAny_pure (wpAny_pure ⟨_, rfl, wpAny_pure h⟩))) htake)
    | exact wpAny_bind (wpAny_bind (m := Builtin.Tuple.tupleExact _) (wpAny_newObj_type (wpAny_pure (wpAny_pure ⟨_, rfl, wpAny_pure h⟩)) htake))
    | exact wpAny_bind (wpAny_bind (m := Builtin.Tuple.tupleExact _) (wpAny_newObj_type (wpAny_pure ⟨_, rfl, wpAny_pure h⟩) htake))
end
section
variable {X : Cx}
def tRevT (K : PySem.W.Frag) (te : TE) : TE := fun σ H Q => te σ H fun x H1 => ∃ a xs, x = .ref a ∧ SqT K H1 a xs ∧ ∀ p, H1 p = none → Q (.ref p) (upd H1 p (.tup xs.reverse))
theorem pe_revT {e : Expr} {te : TE} {k : Nat} {p1 p2 p3 pos : Pos} (he : PE X e te) : PE X (.Subscript e (.Slice none none (some (.UnaryOp .USub (.Constant (.int 1) k p1) p2)) p3) pos) (tRevT X.K te) := by
  refine ⟨fun pins s σ H Q I h => ?_⟩
  refine Subscript_ (thn (he.run pins s σ H _ I h) fun v s1 ⟨x, H1, I1, r1, q1⟩ => ?_)
  obtain ⟨a, xs, ex, hx, q⟩ := q1
  subst ex
  cases r1
  have hst : PO X (some (.UnaryOp .USub (.Constant (.int 1) k p1) p2)) (tPart (tUn (rU fun i => .int (-i)) (tC (.int 1)))) := po_some (pe_un un_neg pe_int)
  refine wpAny_Slice (thn (po_none.run pins s1 σ H1 (fun o H2 => o = none ∧ H2 = H1) I1 ⟨rfl, rfl⟩) fun vl s2 ⟨l, H2, I2, pl, el, e2⟩ => ?_)
  subst el e2
  refine thn (po_none.run pins s2 σ H2 (fun o H3 => o = none ∧ H3 = H2) I2 ⟨rfl, rfl⟩) fun vu s3 ⟨u, H3, I3, pu, eu, e3⟩ => ?_
  subst eu e3
  refine thn (hst.run pins s3 σ H3 (fun o H4 => o = some (-1) ∧ H4 = H3) I3 ⟨1, rfl, -1, rfl, rfl, rfl⟩) fun vs s4 ⟨o, H4, I4, ps, eo, e4⟩ => ?_
  subst eo e4
  have I5 : Inv X pins σ H4 { s4 with heap := s4.heap.push { cls := .type "slice", data := .fields #[vl, vu, vs] } } := I4.kept (t' := s4.toks) fun b ob q => Heap.get?_push_of_some _ q
  obtain ⟨its, r, ht, hz⟩ := I5.tuple hx
  have hlen := r.length
  show wpAny (model X.prog X.w) X.A (subscriptTail e (.Slice none none (some (.UnaryOp .USub (.Constant (.int 1) k p1) p2)) p3) (.ref a) (.ref s4.heap.objs.size)) (EP X pins σ Q) X.xe { s4 with heap := s4.heap.push { cls := .type "slice", data := .fields #[vl, vu, vs] } }
  refine tail_any (ops := [.ref a, .ref s4.heap.objs.size]) ht.typeIs (PyProof.Rows.slot_tuple_getitem.lookup) ?_ (by with_unfolding_all rfl)
  refine getItem_tuple_rev ht (Heap.IsSliceOf.new _ vl vu vs) pl pu ps ?_ (by rw [List.size_toArray]; omega)
  refine ⟨.ref _, _, I5.laid (t' := s4.toks) (o := .tup xs.reverse) (fun b ob q => Heap.get?_push_of_some _ q) (Nat.le_refl _) ?_, rfl, q _ (I5.hok.fresh (Nat.le_refl _))⟩
  exact ⟨by rw [List.length_reverse]; exact hz, _, r.reverse, IsTup.new _ _⟩
end
end Pg
namespace Pg
open PySem PySem.Spec PyProof.Rows L2
theorem pe_clG0 {X : Cx} {j k : Nat} {st : Stmt} {ps : List Str} {sp : Sp} {x : Str} {p pos : Pos} (c : ClG X.prog X.w X.K X.mg X.base k x st ps sp) (hG : X.A.guards = some []) (hr : Room j X.A) (hk : k ≤ j) (hg : Gl X x := by rfl) (hdb : (x == ("__debug__" : Str)) = false := by decide) :
    PE X (.Call (.Name x p) [] [] pos) (tCl sp tNil) := by
  obtain ⟨f, fd, D, F⟩ := c.ex
  refine ⟨fun pins s σ H Q I h => ?_⟩
  refine wpAny_Call_Name_kw (ld_glob I hg D.at_ ?_ hdb)
  exact PySem.W.callWith_K0 I.kIn D.fn.kp (run_g (us := []) (F.mono hk) hG hr D.bd I .nil h)
end Pg
namespace Pv
open PySem PySem.Spec PyProof.Rows L2 Pg
/-! ### values as data, told by repr -/
mutual
def D.py : D → PyData
  | .non => .none
  | .bl b => .bool b
  | .int i => .int i
  | .str l => .str (tx l)
  | .tup ds => .tuple (D.pys ds)
  | .lst ds => .list (D.pys ds)
  | .obj _ => .none
def D.pys : List D → List PyData
  | [] => []
  | d :: ds => d.py :: D.pys ds
end
mutual
/-- signs at most -/
def D.wt : D → Nat
  | .non => 4
  | .bl _ => 5
  | .int _ => 12
  | .str l => 10 * l.length + 2
  | .tup ds => D.wts ds + 4
  | .lst ds => D.wts ds + 4
  | .obj _ => 0
def D.wts : List D → Nat
  | [] => 0
  | d :: ds => d.wt + 2 + D.wts ds
end
mutual
def D.deep : D → Nat
  | .tup ds => D.deeps ds + 1
  | .lst ds => D.deeps ds + 1
  | _ => 0
def D.deeps : List D → Nat
  | [] => 0
  | d :: ds => max d.deep (D.deeps ds)
end
mutual
/-- no objects, small numbers, signs that are signs -/
def D.fair : D → Bool
  | .non => true
  | .bl _ => true
  | .int i => decide (i.natAbs < 10 ^ 10)
  | .str l => l.all fun n => decide (n < 16 ^ 8)
  | .tup ds => D.fairs ds
  | .lst ds => D.fairs ds
  | .obj _ => false
def D.fairs : List D → Bool
  | [] => true
  | d :: ds => d.fair && D.fairs ds
end
section
variable {K : PySem.W.Frag} {S : List Addr} {H : Hp}
mutual
theorem rv_dp : ∀ {v : V} {d : D}, Rv K S H v d → d.fair = true → Dp K H v d.py
  | _, .non, .non, _ => by unfold D.py; exact .non
  | _, .bl _, .bl b, _ => by unfold D.py; exact .bl b
  | _, .int _, .int i, _ => by unfold D.py; exact .int i
  | _, .str _, .str x h, _ => by unfold D.py; exact .str _
  | _, .tup ds, .tup h n r, f => by
    unfold D.py
    unfold D.fair at f
    exact .tup h (rvs_dp r f)
  | _, .lst ds, .lst h o n r, f => by
    unfold D.py
    unfold D.fair at f
    exact .lst (SqL.of h) (rvs_dp r f)
  | _, .obj _, .obj _ _, f => by
    unfold D.fair at f
    cases f
theorem rvs_dp : ∀ {vs : List V} {ds : List D}, RvL K S H vs ds → D.fairs ds = true → DpAll K H vs (D.pys ds)
  | _, [], .nil, _ => by unfold D.pys; exact .nil
  | _, _ :: _, .cons h r, f => by
    unfold D.pys
    unfold D.fairs at f
    obtain ⟨f1, f2⟩ := Bool.and_eq_true_iff.mp f
    exact .cons (rv_dp h f1) (rvs_dp r f2)
end
end
mutual
theorem D.shw : ∀ (d : D), d.fair = true → d.py.showable = true
  | .non, _ => by unfold D.py; simp only [PyData.showable]
  | .bl _, _ => by unfold D.py; simp only [PyData.showable]
  | .int i, f => by
    unfold D.py
    unfold D.fair at f
    simp only [PyData.showable]
    have h := of_decide_eq_true f
    refine decide_eq_true ?_
    by_cases z : i.natAbs = 0
    · rw [z]; decide
    · exact (Nat.log2_lt z).mpr (Nat.lt_trans h (by decide +kernel))
  | .str _, _ => by unfold D.py; simp only [PyData.showable]
  | .tup ds, f => by
    unfold D.py
    unfold D.fair at f
    simp only [PyData.showable]
    exact D.shws ds f
  | .lst ds, f => by
    unfold D.py
    unfold D.fair at f
    simp only [PyData.showable]
    exact D.shws ds f
  | .obj _, f => by
    unfold D.fair at f
    cases f
theorem D.shws : ∀ (ds : List D), D.fairs ds = true → PyData.showableAll (D.pys ds) = true
  | [], _ => by unfold D.pys; simp only [PyData.showableAll]
  | d :: ds, f => by
    unfold D.pys
    unfold D.fairs at f
    obtain ⟨f1, f2⟩ := Bool.and_eq_true_iff.mp f
    simp only [PyData.showableAll, D.shw d f1, D.shws ds f2, Bool.and_self]
end
mutual
theorem D.dpt : ∀ (d : D), d.py.depth = d.deep
  | .non => by unfold D.py D.deep; rfl
  | .bl _ => by unfold D.py D.deep; rfl
  | .int _ => by unfold D.py D.deep; rfl
  | .str _ => by unfold D.py D.deep; rfl
  | .obj _ => by unfold D.py D.deep; rfl
  | .tup ds => by
    unfold D.py D.deep
    show PyData.depthAll _ + 1 = _
    rw [D.dpts ds]
  | .lst ds => by
    unfold D.py D.deep
    show PyData.depthAll _ + 1 = _
    rw [D.dpts ds]
theorem D.dpts : ∀ (ds : List D), PyData.depthAll (D.pys ds) = D.deeps ds
  | [] => by unfold D.pys D.deeps; rfl
  | d :: ds => by
    unfold D.pys D.deeps
    show max d.py.depth (PyData.depthAll (D.pys ds)) = _
    rw [D.dpt d, D.dpts ds]
end
mutual
theorem D.sgn : ∀ (d : D), d.fair = true → d.py.shown.length ≤ d.wt
  | .non, _ => by
    unfold D.py D.wt
    simp only [PyData.shown]
    decide
  | .bl b, _ => by
    unfold D.py D.wt
    cases b <;> simp only [PyData.shown] <;> decide
  | .int i, f => by
    unfold D.py D.wt
    unfold D.fair at f
    simp only [PyData.shown]
    have h := int_text_length_le10 (k := 10) (by decide) (of_decide_eq_true f)
    show (Str.ofString (toString i)).length ≤ 12
    rw [PySem.ofString_length]
    omega
  | .str l, f => by
    unfold D.py D.wt
    unfold D.fair at f
    simp only [PyData.shown]
    have := StrLaws.reprText_len (tx l) (fun c m => of_decide_eq_true (List.all_eq_true.mp f c (by simpa using m)))
    rw [tx_len] at this
    exact this
  | .tup ds, f => by
    unfold D.py D.wt
    unfold D.fair at f
    simp only [PyData.shown]
    have a := tupleText_le (PyData.shownAll (D.pys ds))
    have b := D.sgns ds f
    omega
  | .lst ds, f => by
    unfold D.py D.wt
    unfold D.fair at f
    simp only [PyData.shown]
    have a := listText_le (PyData.shownAll (D.pys ds))
    have b := D.sgns ds f
    omega
  | .obj _, f => by
    unfold D.fair at f
    cases f
theorem D.sgns : ∀ (ds : List D), D.fairs ds = true → ((PyData.shownAll (D.pys ds)).map fun t => t.length + 2).sum ≤ D.wts ds
  | [], _ => by
    unfold D.pys D.wts
    simp only [PyData.shownAll]
    decide
  | d :: ds, f => by
    unfold D.pys D.wts
    unfold D.fairs at f
    obtain ⟨f1, f2⟩ := Bool.and_eq_true_iff.mp f
    have p := D.sgn d f1
    have q := D.sgns ds f2
    simp only [PyData.shownAll, List.map_cons, List.sum_cons]
    omega
end
/-- what repr tells of a value -/
def D.told (d : D) : Str := d.py.shown
structure D.Fine (d : D) : Prop where
  fair : d.fair = true
  deep : d.deep ≤ 100
  wt : d.wt ≤ 1000000
/-- repr of values -/
def rReprD (K : PySem.W.Frag) : List V → Hp → VK → Prop := fun xs H Q => ∃ (S : List Addr) (v : V) (d : D), xs = [v] ∧ Rv K S H v d ∧ d.Fine ∧ Q (.str d.told) H
theorem call_reprD {X : Cx} {j : Nat} (hG : X.A.guards = some []) (hr : Room j X.A) : CallR X (.builtin "repr") (rReprD X.K) := fun pins s σ H xs us Q I r h => by
  obtain ⟨S, v, d, e, rv, ⟨f, dd, sz⟩, q⟩ := h
  exact call_repr hG hr pins s σ H xs us Q I r ⟨v, d.py, e, rv_dp rv f, D.shw d f, by rw [D.dpt]; exact dd, Nat.le_trans (D.sgn d f) (Nat.le_trans sz (by decide)), q⟩
/-! ### list.count of flat items -/
def rCntF (K : PySem.W.Frag) : V → List V → Hp → VK → Prop := fun x xs H Q => ∃ (p : Addr) (ys : List V) (y : V), x = .ref p ∧ xs = [y] ∧ SqL K H p ys ∧ flatV y = true ∧ ys.all flatV = true ∧ Q (.int ((ys.countP fun z => eqV z y : Nat) : Int)) H
theorem count_eqU {x : V} : ∀ {ys : List V} {us : List Value}, Vals ys us → ys.all flatV = true → us.countP (eqU x) = ys.countP fun z => eqV z x
  | [], _, .nil, _ => rfl
  | y :: ys, _, .cons r t, f => by
    rw [List.all_cons, Bool.and_eq_true] at f
    rw [List.countP_cons, List.countP_cons, count_eqU t f.2, eqU_of r f.1]
theorem mt_lcountF {X : Cx} : MtR X "list.count" (rCntF X.K) := by
  intro pins s σ H x xs v us Q I rx rxs h
  obtain ⟨p, ys, y, rfl, rfl, hs, fy, fys, q⟩ := h
  cases rx
  obtain ⟨u, rfl, ru⟩ := rxs.one
  obtain ⟨its, rv, ⟨⟨cls, dd, data, sl⟩, n, ho, hc, hdn, hd⟩, hlen⟩ := I.list hs
  simp only at hc hd
  subst hc hd
  refine call_meets PySem.F.slot_list_count ⟨_, ho, rfl⟩ PySem.F.entry_list_count (PySem.F.args_list_count_2 _ _)
    (SeqAt.list_countAt p its.toArray n dd sl u (eqU y)) ⟨ho, fun u' hu' => mem_eqAt ru fy rv fys u' (by simpa using hu'), ?_⟩
  have ec : its.toArray.toList.countP (eqU y) = ys.countP fun z => eqV z y := count_eqU rv fys
  refine ⟨.int ((ys.countP fun z => eqV z y : Nat) : Int), H, I.tok _, ⟨s.toks, ?_⟩, q⟩
  show Value.int ((its.toArray.toList.countP (eqU y) : Nat) : Int) s.toks = _
  rw [ec]
/-! ### str.index of what is there -/
def rIdxS : V → List V → Hp → VK → Prop := fun x xs H Q => ∃ (a b : Str) (k : Nat), x = .str a ∧ xs = [.str b] ∧ Txt.index0 a b = some k ∧ Q (.int (k : Int)) H
theorem mt_idxS {X : Cx} : MtR X "str.index" rIdxS := by
  intro pins s σ H x xs v us Q I rx rs h
  obtain ⟨a, b, k, rfl, rfl, hk, w⟩ := h
  obtain ⟨t, rfl⟩ := rx
  cases rs with
  | cons r1 rs =>
    cases rs
    obtain ⟨u, rfl⟩ := r1
    cases q : Builtin.Str.occurrences a b 0 a.length 1 with
    | nil =>
      unfold Txt.index0 at hk
      rw [q] at hk
      cases hk
    | cons k' rest =>
      unfold Txt.index0 at hk
      rw [q] at hk
      cases hk
      exact PySem.SC.index q ⟨.int (k : Nat), H, I.tok _, ⟨_, rfl⟩, w⟩
/-! ### xs == ys, both hold the same values -/
def rEqL (K : PySem.W.Frag) : R2 := fun x y H Q => ∃ (S : List Addr) (a b : Addr) (xs : List V) (ds : List D), x = .ref a ∧ y = .ref b ∧ SqL K H a xs ∧ SqL K H b xs ∧ RvL K S H xs ds ∧ Q (.bl true) H
theorem op_eqL {X : Cx} (hu : X.A.units + 64 < cLine) : OpR X (compareOp .Eq) (rEqL X.K) := by
  intro pins s σ H x y v u Q I rx ry h
  obtain ⟨S, a, b, xs, ds, rfl, rfl, hH, hB, rv, q⟩ := h
  cases rx
  cases ry
  obtain ⟨its, r, pl, _⟩ := I.list hH
  obtain ⟨its2, r2, pl2, _⟩ := I.list hB
  have e1 := Vals.length r
  have e2 := Vals.length r2
  refine SeqAt.RcAt.lists (e := fun _ => true) pl.isList pl2.isList (by simp; omega) (by omega) (fun j h1 h2 => ?_) _ _ _ _ ?_
  · have := vals_at rv r r2 X.A.in1 s j (by simpa using h1) (by simpa using h2)
    simpa using this
  · refine ⟨.bl _, H, I, rfl, ?_⟩
    rw [show ((List.range its.toArray.size).all fun _ => true) = true from by simp]
    exact q
/-! ### letters c at the end -/
/-- without the letters c at its end -/
def cOff (l : List Nat) : List Nat := l.take (l.length - (l.reverse.takeWhile fun c => c == 99).length)
theorem cOff_rev (l : List Nat) : cOff l = (l.reverse.dropWhile fun c => c == 99).reverse := by
  unfold cOff
  have e := List.takeWhile_append_dropWhile (p := fun c => c == 99) (l := l.reverse)
  have e2 : l = (l.reverse.dropWhile fun c => c == 99).reverse ++ (l.reverse.takeWhile fun c => c == 99).reverse := by
    rw [← List.reverse_append, e, List.reverse_reverse]
  have hl : l.length = (l.reverse.dropWhile fun c => c == 99).length + (l.reverse.takeWhile fun c => c == 99).length := by
    have := congrArg List.length e2
    simpa using this
  generalize (l.reverse.dropWhile fun c => c == 99) = A at *
  generalize (l.reverse.takeWhile fun c => c == 99) = B at *
  rw [e2, List.length_append, List.length_reverse, List.length_reverse, Nat.add_sub_cancel, ← List.length_reverse (as := A), List.take_left]
theorem contains_c (n : Nat) : (tx [99]).cps.contains n = (n == 99) := by
  by_cases h : n = 99
  · subst h
    decide +kernel
  · rw [show (n == 99) = false from beq_eq_false_iff_ne.mpr h]
    simp [tx]
    exact fun q => h (by omega)
theorem rstrip_c (l : List Nat) : Txt.rstripChars (tx l) (tx [99]) = tx (cOff l) := by
  unfold Txt.rstripChars
  rw [PyProof.Rows.stripBy_eq]
  have e : (tx [99]).cps.contains = fun n => n == 99 := funext contains_c
  rw [e]
  unfold stripLo stripHi Builtin.Str.strSub cOff
  simp [tx, Str.length]
theorem drop_all : ∀ {l : List Nat}, (l.dropWhile fun c => c == 99) = [] → ∀ c ∈ l, c = 99
  | x :: l, h, c, m => by
    rw [List.dropWhile_cons] at h
    by_cases z : (x == 99) = true
    · rw [if_pos z] at h
      rcases List.mem_cons.mp m with rfl | m
      · exact beq_iff_eq.mp z
      · exact drop_all h c m
    · rw [if_neg z] at h
      cases h
theorem cOff_nil {l : List Nat} (h : cOff l = []) : ∀ c ∈ l, c = 99 := fun c m => by
  rw [cOff_rev] at h
  exact drop_all (List.reverse_eq_nil_iff.mp h) c (List.mem_reverse.mpr m)
theorem cOff_last {l : List Nat} (h : cOff l ≠ []) : ∃ i c, cOff l = i ++ [c] ∧ c ≠ 99 := by
  rw [cOff_rev] at h ⊢
  cases e : (l.reverse.dropWhile fun c => c == 99) with
  | nil => rw [e] at h; exact absurd rfl h
  | cons c t =>
    refine ⟨t.reverse, c, by rw [List.reverse_cons], fun z => ?_⟩
    have := List.head?_dropWhile_not (fun c => c == 99) l.reverse
    rw [e] at this
    simp at this
    exact this z
theorem abc_cOff {l : List Nat} (h : Abc l) : Abc (cOff l) := h.take _
theorem cOff_len (l : List Nat) : (cOff l).length ≤ l.length := by
  unfold cOff
  rw [List.length_take]
  omega
/-- the text beyond -/
def bey (l : List Nat) : Option (List Nat) := if cOff l = [] then none else some ((cOff l).dropLast ++ [(cOff l).getLastD 0 + 1])
theorem abc_bey {l m : List Nat} (h : Abc l) (e : bey l = some m) : Abc m ∧ m.length ≤ l.length := by
  unfold bey at e
  by_cases z : cOff l = []
  · rw [if_pos z] at e; cases e
  · rw [if_neg z] at e
    obtain ⟨i, c, hc, n⟩ := cOff_last z
    have hl := cOff_len l
    have ha := abc_cOff h
    rw [hc] at e hl ha
    simp at e
    subst e
    refine ⟨Abc.app (fun x m => ha x (List.mem_append_left _ m)) (Abc.one ?_), by simpa using hl⟩
    rcases ha c (List.mem_append_right _ List.mem_cons_self) with q | q | q <;> omega
end Pv
namespace Pv
open PySem PySem.Spec PyProof.Rows L2 Pg
theorem bag_ls {H : Hp} {b : Addr} {n : Nat} (B : Bag H b n) : Lsts H [b] := by
  obtain ⟨x, y, z, hb, _⟩ := B
  exact .one hb
theorem catle {a b : List Nat} (h : a.length ≤ 12) (g : b.length ≤ 1000) : a.length + b.length ≤ 100000 := by omega
theorem catle' {a b : List Nat} (h : a.length ≤ 1000) (g : b.length ≤ 12) : a.length + b.length ≤ 100000 := by omega
theorem EvD.cat {K : PySem.W.Frag} {S : List Addr} {te tb : TE} {σ : L2.St} {H : Hp} {a b : List Nat} (h : EvD K S te σ H (.str a)) (g : EvD K S tb σ H (.str b)) (hl : a.length + b.length ≤ 100000) : EvD K S (tOp (fun x y H Q => ∃ i j, x = .str i ∧ y = .str j ∧ i.length + j.length ≤ sizeLine ∧ Q (.str (i ++ j)) H) te tb) σ H (.str (a ++ b)) := fun H1 s Q k =>
  h H1 s _ fun v H2 s2 r => g H2 (s.trans s2) _ fun u H3 s3 q => by
    cases r with
    | str _ h1 =>
      cases q with
      | str _ h2 =>
        refine ⟨tx a, tx b, rfl, rfl, by rw [tx_len, tx_len]; exact sz hl, ?_⟩
        rw [tx_app]
        exact k _ _ (s2.trans s3) (.str _ (by rw [List.length_append]; exact hl))
/-! ### t == () -/
def rEqNilT (K : PySem.W.Frag) : R2 := fun x y H Q => ∃ a b xs, x = .ref a ∧ y = .ref b ∧ SqT K H a xs ∧ SqT K H b [] ∧ Q (.bl xs.isEmpty) H
theorem op_eqNilT {X : Cx} (hu : X.A.units + 64 < cLine) : OpR X (compareOp .Eq) (rEqNilT X.K) := by
  intro pins s σ H x y v u Q I rx ry h
  obtain ⟨a, b, xs, rfl, rfl, hH, hB, q⟩ := h
  cases rx
  cases ry
  obtain ⟨its, r, pl, _⟩ := I.tuple hH
  obtain ⟨its2, r2, pl2, _⟩ := I.tuple hB
  cases r2
  have e1 := Vals.length r
  refine SeqAt.RcAt.tuples (e := fun _ => true) pl pl2 (by omega) (fun j h1 h2 => absurd h2 (by simp)) _ _ _ _ ?_
  refine ⟨.bl _, H, I, rfl, ?_⟩
  have e : ((List.range (min its.toArray.size ([] : List Value).toArray.size)).all (fun _ => true) && its.toArray.size == ([] : List Value).toArray.size) = xs.isEmpty := by
    cases r with
    | nil => rfl
    | cons _ _ => simp
  rw [e]
  exact q
end Pv
namespace Pg
open PySem PySem.Spec PyProof.Rows L2
/-! ### min, max of a list of ints with default= -/
theorem ints_reads {h : Heap} : ∀ {its : List Value} {ns : List Int}, IntsAre its ns → ∃ as, ReadsAll h its (ns.map PyData.int) as
  | _, _, .nil => ⟨_, ReadsAll.nil⟩
  | _, _, .cons a t hi => by
    obtain ⟨as, r⟩ := ints_reads (h := h) hi
    exact ⟨_, ReadsAll.cons (Reads.int a t) r⟩
def foldMin (ns : List Int) (d : Int) : Int := match ns with | [] => d | n :: r => r.foldl min n
def foldMax (ns : List Int) (d : Int) : Int := match ns with | [] => d | n :: r => r.foldl max n
theorem alike_ints (ns : List Int) : PySem.W.AlikeAll (ns.map PyData.int) := by
  refine ⟨fun x hx y hy => ?_, fun x hx => ?_⟩
  · obtain ⟨i, _, rfl⟩ := List.mem_map.mp hx
    obtain ⟨j, _, rfl⟩ := List.mem_map.mp hy
    rfl
  · obtain ⟨i, _, rfl⟩ := List.mem_map.mp hx
    exact fun e => nomatch e
theorem depth_ints : ∀ ns : List Int, PyData.depthAll (ns.map PyData.int) ≤ 1
  | [] => Nat.zero_le _
  | n :: ns => Nat.max_le.mpr ⟨(Nat.zero_le 1 : PyData.depth (.int n) ≤ 1), depth_ints ns⟩
section
variable {X : Cx}
def rMinDf (K : PySem.W.Frag) : List V → List V → Hp → VK → Prop := fun vs zs H Q => ∃ (a : Addr) (ns : List Int) (d : Int), vs = [V.ref a] ∧ zs = [.int d] ∧ SqL K H a (ns.map V.int) ∧ Q (.int (foldMin ns d)) H
def rMaxDf (K : PySem.W.Frag) : List V → List V → Hp → VK → Prop := fun vs zs H Q => ∃ (a : Addr) (ns : List Int) (d : Int), vs = [V.ref a] ∧ zs = [.int d] ∧ SqL K H a (ns.map V.int) ∧ Q (.int (foldMax ns d)) H
theorem cr_minDf (hc : X.calm = true) (hu : X.A.units + 64 < cLine) : CallRK X (.builtin "min") [Str.ofString "default"] (rMinDf X.K) := by
  intro pins s σ H vs zs us ws Q I r rz h
  obtain ⟨a, ns, d, rfl, rfl, hs, q⟩ := h
  obtain rfl := Vals.ref1 r
  obtain ⟨w1, rfl, e1⟩ := vals1 rz
  obtain ⟨t1, rfl⟩ := e1
  obtain ⟨its, rv, hl, _⟩ := I.list hs
  obtain ⟨as, ra⟩ := ints_reads (h := s.heap) rv.ints
  refine PySem.W.min_list_default (I.ok.hd hc) hl.isList ra ?_ ?_ (fun e h' tk hk => ?_) fun y ys i v h' tk bs e hv rd hk => ?_
  · exact alike_ints ns
  · have := depth_ints ns
    omega
  · have : ns = [] := List.map_eq_nil_iff.mp e
    subst this
    exact ⟨.int _, H, I.kept hk, ⟨_, rfl⟩, q⟩
  · cases ns with
    | nil => cases e
    | cons n ns =>
      cases e
      rw [PySem.W.minD_ints] at rd
      cases rd
      exact ⟨.int _, H, I.kept hk, ⟨_, rfl⟩, q⟩
theorem cr_maxDf (hc : X.calm = true) (hu : X.A.units + 64 < cLine) : CallRK X (.builtin "max") [Str.ofString "default"] (rMaxDf X.K) := by
  intro pins s σ H vs zs us ws Q I r rz h
  obtain ⟨a, ns, d, rfl, rfl, hs, q⟩ := h
  obtain rfl := Vals.ref1 r
  obtain ⟨w1, rfl, e1⟩ := vals1 rz
  obtain ⟨t1, rfl⟩ := e1
  obtain ⟨its, rv, hl, _⟩ := I.list hs
  obtain ⟨as, ra⟩ := ints_reads (h := s.heap) rv.ints
  refine PySem.W.max_list_default (I.ok.hd hc) hl.isList ra ?_ ?_ (fun e h' tk hk => ?_) fun y ys i v h' tk bs e hv rd hk => ?_
  · exact alike_ints ns
  · have := depth_ints ns
    omega
  · have : ns = [] := List.map_eq_nil_iff.mp e
    subst this
    exact ⟨.int _, H, I.kept hk, ⟨_, rfl⟩, q⟩
  · cases ns with
    | nil => cases e
    | cons n ns =>
      cases e
      rw [PySem.W.maxD_ints] at rd
      cases rd
      exact ⟨.int _, H, I.kept hk, ⟨_, rfl⟩, q⟩
end
section
variable {K : PySem.W.Frag} {a : Addr} {xs : List V} {ds : List Dt} {g : TG} {te : TE} {vs : List Nat} {σ : L2.St} {H1 : Hp} {D : Addr} {Qd : Hp → Prop}
theorem lc_mapT9 (nD : H1 D = none) (hs : SqT K H1 a xs) (hl : ds.length = xs.length) (hz : xs.length ≤ 100000)
    (step : ∀ (i : Nat) x d H, xs[i]? = some x → ds[i]? = some d → Stp [] H1 H → ∀ Q : VK, (∀ y H', Stp [] H H' → Rp K H' y d → Q y H') → g x (wipe σ vs) H fun σ2 H2 => wipe σ2 vs = wipe σ vs ∧ te σ2 H2 Q)
    (hd : ∀ ws H, Stp [] H1 H → H D = some (.lst ws) → RpL K H ws ds → Qd H) :
    ∃ W : Nat → Nat → Hp → Prop, (∃ m, W 0 m (upd H1 D (.lst []))) ∧ ∀ i m H, W i m H →
      ((Itt K a).stop i H ∧ Qd H) ∨ ((Itt K a).go i H ∧ ∃ Nx : Hp → Prop, (∀ H', Nx H' → ∃ m', m' < m ∧ W (i + 1) m' H') ∧ ∀ x H', (Itt K a).yld i H x H' → g x (wipe σ vs) H' fun σ2 H2 => wipe σ2 vs = wipe σ vs ∧ tYes σ2 H2 fun b H3 =>
        if b = true then te σ2 H3 fun y H4 => ∃ acc, H4 D = some (.lst acc) ∧ acc.length < sizeLine ∧ Nx (upd H4 D (.lst (acc ++ [y]))) else Nx H3) := by
  refine lc_tup (a := a) (xs := xs) (fun i H => ∃ ws, H D = some (.lst ws) ∧ RpL K H ws (ds.take i) ∧ Stp [] H1 H) ⟨[], upd_same, .nil, Stp.new nD _⟩ (fun i H _ ⟨_, _, _, S⟩ => sqt_stp S Lsts.nil hs) ?_ ?_
  · rintro i x H hi ⟨ws, hL, rv, S⟩
    have il : i < ds.length := by rw [hl]; exact (List.getElem?_eq_some_iff.mp hi).1
    refine step i x ds[i] H hi (List.getElem?_eq_getElem il) S _ fun y H' S' ry => ?_
    refine ⟨ws, S'.kp _ _ (fun m => nomatch m) hL, ?_, ws ++ [y], upd_same, ?_, (S.trans S').mut nD⟩
    · rw [rv.len, List.length_take]
      exact Nat.lt_of_lt_of_le (show min i ds.length < 100000 by omega) (by decide)
    · have s4 : Stp [D] H' (upd H' D (.lst (ws ++ [y]))) := Stp.put (by simp)
      have hL' := S'.kp _ _ (fun m => nomatch m) hL
      exact RpL.snoc ((rv.stp S' Lsts.nil).stp s4 (.one hL')) (List.getElem?_eq_getElem il) (ry.stp s4 (.one hL'))
  · rintro H ⟨ws, hL, rv, S⟩
    rw [← hl, List.take_length] at rv
    exact hd ws H S hL rv
end
end Pg
namespace Pg
open PySem PySem.Spec PyProof.Rows L2
/-! ### an exception that was caught, kept as a value -/
/-- an exception object of the class cls, raised and caught, without a dict of its own, at a -/
def ExK (cls : Value) (a : Addr) : HO := .ext fun h => ∃ (oe : Obj) (vs : Array Value), h.get? a = some oe ∧ Zc cls none oe ∧ oe.data = .fields vs
theorem exK_ok {P : Program} {w : World} {H : Hp} {h : Heap} {a : Addr} {cls : Value} {oe : Obj} {vs : Array Value} (e : h.get? a = some oe) (z : Zc cls none oe) (d : oe.data = .fields vs) : ObjOk P w H h a (ExK cls a) :=
  ⟨⟨oe, vs, e, z, d⟩, ⟨oe, e⟩, fun _ _ ⟨o, v, q, r⟩ k => ⟨o, v, k o q, r⟩⟩
section
variable {X : Cx} {pins : List (Addr × Obj)} {σ : L2.St} {H : Hp} {s : Shared}
/-- an object that stands in the heap, new since the entry, is tracked from here on -/
theorem track {a : Addr} {o : HO} {oe : Obj} {vs : Array Value} (I : Inv X pins σ H s) (na : H a = none) (n0 : X.s_0.heap.get? a = none) (ha : s.heap.get? a = some oe) (hd : oe.data = .fields vs) (nL : a ≠ X.env.locals) (np : ∀ p ∈ X.pn ++ pins, p.1 ≠ a)
    (new : ObjOk X.prog X.w (upd H a o) s.heap a o) : Inv X pins σ (upd H a o) s := by
  have ne : ∀ {b : Addr} {u : HO}, H b = some u → b ≠ a := fun e z => by rw [z, na] at e; cases e
  refine ⟨I.ok, I.os, I.bare, ⟨I.base.keep, I.base.slot, fun b u e n hx => ?_, I.base.there, fun b xs e => ?_, fun b u z e => ?_, fun b ps e => ?_⟩, I.loc, I.cell, ?_, fun x c e => ?_, fun p hp => ?_, fun b u e => ?_, I.len⟩
  · rw [upd_ne (fun z => by rw [z, n0] at e; cases e)]
    exact I.base.free b u e n hx
  · have q := I.base.tups b xs e
    rw [upd_ne (ne q)]
    exact q
  · have q := I.base.frzs b u z e
    rw [upd_ne (ne q)]
    exact q
  · obtain ⟨m, q⟩ := I.base.tbls b ps e
    exact ⟨m, by rw [upd_ne (ne q)]; exact q⟩
  · rw [upd_ne nL.symm]
    exact I.free
  · have : c ≠ a := fun z => by
      obtain ⟨v, ob, ho, hc⟩ := I.cell x c e
      rw [z, ha] at ho
      cases ho
      rw [hd] at hc
      cases hc
    rw [upd_ne this]
    exact I.freeC x c e
  · obtain ⟨e, n, n1, n2, d⟩ := I.pin p hp
    exact ⟨e, by rw [upd_ne (np p hp)]; exact n, n1, n2, d⟩
  · by_cases hb : b = a
    · subst hb
      rw [upd_same] at e
      cases e
      exact new
    · rw [upd_ne hb] at e
      exact (I.hok b u e).stay (fun _ _ _ q => q) (fun c q => by rw [upd_ne (ne q)]; exact q) fun c xs q => by rw [upd_ne (ne q)]; exact q
theorem toSuite (I : Inv X pins σ H s) (a : Addr) : Inv (X.suite a (X.pn ++ pins)) [] σ H s :=
  ⟨I.ok.suite _ _, I.os, I.bare, I.base, I.loc, I.cell, I.free, I.freeC, fun p hp => I.pin p (by rw [List.append_nil] at hp; exact hp), I.hok, I.len⟩
theorem ofSuite {a : Addr} {pn' : List (Addr × Obj)} (I : Inv (X.suite a (X.pn ++ pins)) pn' σ H s) (ok : X.Ok) : Inv X pins σ H s :=
  ⟨ok, I.os, I.bare, I.base, I.loc, I.cell, I.free, I.freeC, fun p hp => I.pin p (List.mem_append_left _ hp), I.hok, I.len⟩
end
/-- what the clause 'except x as n' wishes, where what was caught is kept: slot i is n's -/
def wKeep (K : PySem.W.Frag) (c : Value) (i : Nat) (ts : TS) (Wout : WX) (D : Ends) : WX := fun cls d σ H =>
  ∃ b, PySem.W.exmOne K cls c = some b ∧ (b = true → d = none ∧ ∀ a, H a = none → ts { nx := fun σ' H' => D.nx (σ'.set i none) H', rt := D.rt, bk := fun σ' H' => D.bk (σ'.set i none) H', ct := fun σ' H' => D.ct (σ'.set i none) H' } (σ.set i (some (.ref a))) (upd H a (ExK cls a))) ∧
    (b = false → Wout cls d σ H)
section
variable {X : Cx} {x n : Str} {c : Value} {i : Nat} {body suite : List Stmt} {b₀ : Stmt} {np pos pos' : Pos} {tb : WX → TS} {ts : TS} {Wout : WX}
theorem ps_try_keep (hs : X.stack = X.env :: X.outer) (hf : X.env.frame = some X.env.locals) (hx : X.ex = []) (hN : X.N.Nodup) (hi : X.N[i]? = some n) (hln : X.env.kindOf n = some .local) (hc : Names X x c) (tk : Takes X Wout)
    (hb : ∀ (W : WX) (pn : List (Addr × Obj)) (xe : Value → Shared → Prop), Takes (X.tr pn xe) W → PassesOwn (model X.prog X.w) X.A X.env xe → PSs (X.tr pn xe) body (tb W))
    (hsu : ∀ (a : Addr) (pn : List (Addr × Obj)), PSs (X.suite a pn) (b₀ :: suite) ts) :
    PS X (.Try body [.ExceptHandler (some (.Name x np)) (some n) (b₀ :: suite) pos'] [] [] pos) (fun D σ H => tb (wKeep X.K c i ts Wout D) D σ H) := by
  refine ⟨fun pins s σ H D I h => ?_⟩
  have ok := I.ok
  have hfr : X.A.frames = some (X.env :: X.outer) := by rw [ok.frames, hs]
  have hloc : Loc X.env.scope n := .inl hln
  refine wpAny_Try_except ?_
  refine wpAny_mono ((hb (wKeep X.K c i ts Wout D) (X.pn ++ pins) (fun e s₁ => wpAny (model X.prog X.w) X.A (noteFrame e X.env) (fun _ s₂ => wpAny (model X.prog X.w) X.A (setFlight e none) (fun _ s₃ =>
    wpAny (model X.prog X.w) X.A (handleBy e X.env [.ExceptHandler (some (.Name x np)) (some n) (b₀ :: suite) pos']) (SP X pins D) X.xe s₃) X.xe s₂) X.xe s₁) (fun u s' xx => ?_) PassesOwn.looking).run [] s σ H D (I.toTry _) h) (fun f s1 hsp => ?_) (fun e s1 he => he)
  · -- the catch
    obtain ⟨a, B, sI, pins', σ', H', cls, d, rfl, J', nb, up, sky, na, os, ag, b, hb1, hyes, hno⟩ := xx
    have J : Inv X pins σ' H' sI := J'.ofTry ok
    have sky' : Sky B (X.env :: X.outer) a (Zc cls d) X.env.locals s'.heap := by rw [← hs]; exact sky
    show wpAny (model X.prog X.w) X.A (noteFrame (.ref a) X.env) _ _ _
    refine Sky.land Zc.steady hfr hf sky' fun h3 fl3 up3 => ?_
    have J3 : Inv X pins σ' H' { s' with heap := h3 } := J.landed nb fl3.1 (up.trans up3) os ag
    obtain ⟨oe3, vs3, he3, hz3, hd3⟩ := fl3.there
    have notFr : ∀ {h : Heap} {o : Obj} {vs : Array Value}, h.FunFrames B (X.env :: X.outer) → h.get? a = some o → o.data = .fields vs → a ∉ frs (X.env :: X.outer) := fun {h o vs} ff e dd hm => by
      obtain ⟨_, o', e', hnf⟩ := ff.mem hm
      rw [e] at e'; cases e'
      exact hnf _ dd
    have nfr := notFr fl3.2.2.1 he3 hd3
    have nL : a ≠ X.env.locals := fun z => nfr (List.mem_filterMap.mpr ⟨X.env, List.mem_cons_self, by rw [hf, z]⟩)
    have nF : a ∉ X.fs := fun hm => by
      obtain ⟨e, he, q⟩ := List.mem_filterMap.mp hm
      exact nfr (List.mem_filterMap.mpr ⟨e, List.mem_cons_of_mem _ he, q⟩)
    have nI : sI.heap.get? a = none := by
      cases e : sI.heap.get? a with
      | none => rfl
      | some o =>
        have q := nb a o e (by rw [hs]; exact nfr)
        rw [fl3.2.1] at q
        cases q
    have n0 : X.s_0.heap.get? a = none := by
      cases e : X.s_0.heap.get? a with
      | none => rfl
      | some o =>
        obtain ⟨o', q⟩ := J.base.there a o e (by rw [hx]; exact fun z => nomatch z)
        rw [nI] at q
        cases q
    have npn : ∀ p ∈ X.pn ++ pins, p.1 ≠ a := fun p hp z => by
      have q := (J.pin p hp).1
      rw [z, nI] at q
      cases q
    have S3 := J3.suite he3 hd3 na nL nF
    refine wpAny_handleBy_cons (codeAny_handlers_test ?_) (by intro q; cases q)
    have LT : PySem.W.Looks (model X.prog X.w) h3 (typeOf (.ref a)) cls := fun A Q E s k q => wpAny_typeOf_ref (k _ _ he3) (by rw [hz3.1]; exact q)
    have LM := PySem.W.exm_one (M := model X.prog X.w) (J3.kIn) LT hb1
    have test : ∀ {Q : Value → Shared → Prop} {E : Value → Shared → Prop}, Q c { s' with heap := h3 } → wpAny (model X.prog X.w) (X.A.mark (some (.ref a))) (eval (.Name x np) X.env) Q E { s' with heap := h3 } := fun {Q E} q => by
      obtain ⟨hg, hdbg, hm | ⟨hm, hv, hnn⟩⟩ := hc
      · exact ld_glob (X := X.suite a ((a, oe3) :: (X.pn ++ pins))) S3 hg hm q hdbg
      · exact ld_blt (X := X.suite a ((a, oe3) :: (X.pn ++ pins))) S3 hg hm hv q hnn hdbg
    refine test (LM.here ?_)
    cases b with
    | true =>
      obtain ⟨ed, hy⟩ := hyes rfl
      subst ed
      refine codeAny_handlers_suite_as ?_
      refine HandSPX.lands_againZ fl3 fun h4 fl4 up4 => ?_
      have J4 : Inv X pins σ' H' { s' with heap := h4 } := J.landed nb fl4.1 ((up.trans up3).trans up4) os ag
      obtain ⟨oe4, vs4, he4, hz4, hd4⟩ := fl4.there
      have S4 := toSuite (track (o := ExK cls a) J4 na n0 he4 hd4 nL npn (exK_ok he4 hz4 hd4)) a
      refine store_ok (X := X.suite a (X.pn ++ pins)) (v := .ref a) S4 hN hi hloc rfl (fun s5 S5 => ?_) (.inr hln)
      refine wpAny_mono ((hsu a (X.pn ++ pins)).run [] s5 _ _ _ S5 (hy a na)) (fun f s6 hsp => ?_) (fun _ _ z => False.elim z)
      have end_ : ∀ {σ6 : L2.St} {H6 : Hp} {Q : Shared → Prop}, Inv (X.suite a (X.pn ++ pins)) [] σ6 H6 s6 → (∀ s7, Inv X pins (σ6.set i none) H6 s7 → Q s7) →
          wpAny (model X.prog X.w) X.A (do bindName X.env n .none; unbindBehindTheSuite X.env n pos') (fun _ s7 => Q s7) X.xe s6 := fun {σ6 H6 Q} S6 hq => gone_ok (ofSuite S6 ok) hN hi hln hq
      cases f with
      | next =>
        obtain ⟨σ6, H6, S6, q6⟩ := hsp
        exact end_ S6 fun s7 J7 => ⟨_, _, J7, q6⟩
      | brk =>
        obtain ⟨σ6, H6, S6, q6⟩ := hsp
        exact end_ S6 fun s7 J7 => ⟨_, _, J7, q6⟩
      | cont =>
        obtain ⟨σ6, H6, S6, q6⟩ := hsp
        exact end_ S6 fun s7 J7 => ⟨_, _, J7, q6⟩
      | ret u =>
        obtain ⟨v6, σ6, H6, S6, r6, q6⟩ := hsp
        exact end_ S6 fun s7 J7 => ⟨_, _, _, J7, r6, q6⟩
    | false =>
      show wpAny _ X.A (handleBy (.ref a) X.env []) _ _ _
      refine wpAny_handleBy_nil ?_
      obtain ⟨k1, k2, k3, oe, vs, T, oT, ts', he, hz, hd, h1, hr⟩ := id fl3
      unfold PySem.passOn
      refine wpAny_bind (wpAny_field he hd h1 ?_)
      rw [if_neg (show ¬ ((Value.ref T == Value.none) = true) from by simp)]
      have fin : wpAny (model X.prog X.w) X.A (setFlight (.ref a) X.env.frame) (fun _ s4 => wpAny (model X.prog X.w) X.A (throw (.ref a) : Sem Flow) (SP X pins D) X.xe s4) X.xe { s' with heap := h3 } := by
        rw [hf]
        refine HandSPX.setFlight_upZ fl3 fun h4 hh4 up4 => wpAny_throw (tk _ _ ?_)
        exact ⟨a, B, sI, pins, σ', H', cls, d, rfl, J, nb, (up.trans up3).trans up4, .inr (.inr (by rw [hs]; exact hh4)), na, os, ag, hno rfl⟩
      first
        | exact wpAny_bind (wpAny_pure (wpAny_bind fin))
        | exact wpAny_bind fin
  · cases f with
    | next =>
      obtain ⟨σ', H', J', q⟩ := hsp
      exact wpAny_execs_nil ⟨σ', H', J'.ofTry ok, q⟩
    | brk =>
      obtain ⟨σ', H', J', q⟩ := hsp
      exact ⟨σ', H', J'.ofTry ok, q⟩
    | cont =>
      obtain ⟨σ', H', J', q⟩ := hsp
      exact ⟨σ', H', J'.ofTry ok, q⟩
    | ret u =>
      obtain ⟨v, σ', H', J', r, q⟩ := hsp
      exact ⟨v, σ', H', J'.ofTry ok, r, q⟩
end
/-- isinstance(e, c), e an exception that is kept -/
def rIsK (K : PySem.W.Frag) : List V → Hp → VK → Prop := fun xs H Q => ∃ (a D : Addr) (c : V) (cv : Value) (b : Bool), xs = [.ref a, c] ∧ ExcC K D ∧ H a = some (ExK (.ref D) a) ∧ (∀ u, RelV c u → u = cv) ∧ PySem.W.kitOne K (.ref D) cv = some b ∧ Q (.bl b) H
theorem call_isK {X : Cx} : CallR X (.builtin "isinstance") (rIsK X.K) := by
  intro pins s σ H xs us Q I r h
  obtain ⟨a, D, c, cv, b, rfl, C, ha, hcv, e, q⟩ := h
  cases r with
  | cons rx rr =>
    cases rr with
    | cons rt rr =>
      cases rr
      cases rx
      have ec := hcv _ rt
      subst ec
      obtain ⟨⟨oe, vs, hget, hz, hv⟩, _, _⟩ := I.hok a _ ha
      have J : PySem.W.InstAt s.heap a oe D none := by
        obtain ⟨oc, od, oda, osl⟩ := oe
        obtain ⟨h1, h2⟩ := hz
        dsimp only at h1 h2 hv
        subst h1 h2 hv
        exact ⟨hget, rfl, rfl, trivial⟩
      exact PySem.W.kia_one (PySem.W.handS_kitx_exc C.hg C.hk C.hs C.hd C.ha C.hn C.ht C.hm) I.kIn J e (fun z => nomatch z) fun tk => ⟨.bl b, H, I.kept (t' := tk) fun _ _ z => z, rfl, q⟩
end Pg
namespace Pg
open PySem PySem.Spec PyProof.Rows L2
/-! ### defs that may raise -/
/-- a def's promise, what it lets out told too -/
structure ClX (P : Program) (w : World) (K : PySem.W.Frag) (mg : Str → Option Value) (base : Heap) (k : Nat) (x : Str) (st : Stmt) (ps : List Str) (sp : Sp) : Prop where
  ex : ∃ f fd, Df K mg x st ps f fd ∧ FnOk P w K mg base (L2.CX P w) k f fd ps sp
theorem ClX.mono {P : Program} {w : World} {K : PySem.W.Frag} {mg : Str → Option Value} {base : Heap} {j k : Nat} {x : Str} {st : Stmt} {ps : List Str} {sp : Sp} (c : ClX P w K mg base j x st ps sp) (h : j ≤ k) : ClX P w K mg base k x st ps sp := by
  obtain ⟨f, fd, D, F⟩ := c.ex
  exact ⟨f, fd, D, F.mono h⟩
theorem Df.clX {P : Program} {w : World} {K : PySem.W.Frag} {mg : Str → Option Value} {base : Heap} {x : Str} {st : Stmt} {f : Addr} {fd : FuncData} {N ps : List Str} {k : Nat} {sp : Sp} (D : Df K mg x st ps f fd) (S : FnScope N ps (defScope st)) (len : ∀ vs H Q E, sp vs H Q E → vs.length = ps.length)
    (hbody : ∀ (cdv : Value) (A : Around) (outer : List Env) (s : Shared) (H : Hp) (vs : List V) (Q : VK) (E : XK), Room k (A.deeper (envOfC x (defScope st) s.heap.objs.size f cdv)) → sp vs H Q E →
      Takes (cxOf (L2.CX P w) P w K mg base N x (defScope st) f cdv A outer s H E) (fun cls d _ H => E cls d H) →
      ∃ t, PSs (cxOf (L2.CX P w) P w K mg base N x (defScope st) f cdv A outer s H E) (defBody st) t ∧ t { nx := fun _ H' => Q .non H', rt := Q } (start N vs) H) : ClX P w K mg base (k + 1) x st ps sp :=
  ⟨f, fd, D, D.fn.okX S len fun cdv A outer s H vs Q E hr h => hbody cdv A outer s H vs Q E hr h (takes_of rfl rfl rfl rfl)⟩
/-- f(e, ..): what it lets out is what W wants -/
def tClX (sp : Sp) (W : WX) (t : TA) : TE := fun σ H Q => t σ H fun vs H1 => sp vs H1 Q fun cls d H' => W cls d σ H'
def tClXK (sp : Sp) (gV : List V → List V → List V) (W : WX) (tk : TA) : TE := fun σ H Q => tk σ H fun zs H1 => sp (gV [] zs) H1 Q fun cls d H' => W cls d σ H'
section
variable {X : Cx} {j k : Nat} {st : Stmt} {ps : List Str} {sp : Sp} {x : Str} {p pos : Pos} {e : Expr} {es : List Expr} {t : TA} {W : WX}
theorem pe_clX (c : ClX X.prog X.w X.K X.mg X.base k x st ps sp) (tk : Takes X W) (hr : Room j X.A) (hk : k ≤ j) (ha : PA X (e :: es) t) (hg : Gl X x := by rfl) (hdb : (x == ("__debug__" : Str)) = false := by decide)
    (he : starEach (e :: es) X.env = (false, eval e X.env) :: starEach es X.env := by rfl) (hpl : (backTo pos (starEach es X.env)).any (·.1) = false := by rfl) :
    PE X (.Call (.Name x p) (e :: es) [] pos) (tClX sp W t) := by
  obtain ⟨f, fd, D, F⟩ := c.ex
  exact pe_callS (E := WE W) (F.mono hk) hr hg D.at_ D.fn.kp D.bd (passAt tk) ha hdb he hpl
theorem run_fnkS {CX : CXT} {f : Addr} {fd : FuncData} {E : XK} {ks : List Str} {g : List Value → List Value → List Value} {gV : List V → List V → List V} {pins : List (Addr × Obj)} {σ : L2.St} {H : Hp} {s : Shared} {Q : VK} {us ws : List Value} {vs zs : List V} (F : FnOk X.prog X.w X.K X.mg X.base CX k f fd ps sp) (hr : Room k X.A) (hb : KBinds X.K fd ps ks g gV) (hx : PassesAt CX X σ E)
    (I : Inv X pins σ H s) (r : Vals vs us) (rz : Vals zs ws) (h : sp (gV vs zs) H Q E) : wpAny (model X.prog X.w) X.A (call (.ref f) us (ks.zip ws)) (EP X pins σ Q) X.xe s := by
  have r2 := hb.rel r rz
  have hl : (g us ws).length = ps.length := by rw [← r2.length]; exact F.len _ _ _ _ h
  refine wpAny_call (codeAny_mono (F.run X.A X.stack s H ⟨us, ks.zip ws⟩ (g us ws) (gV vs zs) Q E hr I.env0 (hb.to s us ws I.kIn hl) r2 h) fun r s' hq => ?_)
  cases r with
  | error e => exact hx pins H s e s' I hq
  | ok fl =>
    cases fl with
    | ret u => exact I.after hq
    | next => exact False.elim hq
    | brk => exact False.elim hq
    | cont => exact False.elim hq
theorem pe_clXK {ks : List Str} {g : List Value → List Value → List Value} {gV : List V → List V → List V} {kws : List Keyword} {tkw : TA} (c : ClX X.prog X.w X.K X.mg X.base k x st ps sp) (tk : Takes X W) (hr : Room j X.A) (hk : k ≤ j)
    (hb : ∀ f fd, Fun X.K x x st f fd → KBinds X.K fd ps ks g gV) (hkw : PK X kws tkw)
    (hg : Gl X x := by rfl) (hall : (backToKw pos (keywordEach kws X.env)).all (·.1.isSome) = true := by rfl) (hks : (backToKw pos (keywordEach kws X.env)).filterMap (·.1) = ks := by rfl) (hdb : (x == ("__debug__" : Str)) = false := by decide)
    (hpl : ((backTo pos (starEach [] X.env)).any (·.1) || (backToKw pos (keywordEach kws X.env)).any (·.1.isNone)) = false := by rfl) :
    PE X (.Call (.Name x p) [] kws pos) (tClXK sp gV W tkw) := by
  obtain ⟨f, fd, D, F⟩ := c.ex
  refine ⟨fun pins s σ H Q I h => ?_⟩
  refine wpAny_Call_Name_kw (ld_glob I hg D.at_ ?_ hdb)
  refine PySem.W.callWith_KW0 (h₀ := X.base) I.ok.mod.kin D.fn.kp hall ?_ hpl
  refine thn (hkw.run pos pins s σ H _ I h) fun ws s2 ⟨zs, H2, I2, rz, q2⟩ => ⟨I2.kIn, ?_⟩
  rw [hks]
  exact run_fnkS (us := []) (vs := []) (F.mono hk) hr (hb f fd D.fn) (passAt tk σ) I2 .nil rz q2
end
/-- an own class of errors, made with a text and raised -/
structure Err (K : PySem.W.Frag) (mg : Str → Option Value) (x : Str) (C : Addr) : Prop where
  g : mg x = some (.ref C)
  x : PySem.W.excIn K C [.type "ValueError", .type "Exception", .type "BaseException", .type "object"] "ValueError.__new__" = true
  k : PySem.W.keepIn K (.ref C) = true
  b : PySem.W.subIn K (.ref C) (.type "BaseException") = some true
  t : PySem.W.typeIn K (.ref C) = some (.type "type")
theorem ps_raise1 {X : Cx} {W : WX} {C : Addr} {x m : Str} {j : Nat} {p p2 pos pos2 : Pos} (hc : X.calm = true) (tk : Takes X W) (E : Err X.K X.mg x C) (hg : Gl X x := by rfl) (hdb : (x == ("__debug__" : Str)) = false := by decide) :
    PS X (.Raise (some (.Call (.Name x p) [.Constant (.str m) j p2] [] pos)) none pos2) (fun _ σ H => W (.ref C) none σ H) :=
  ps_raise hc tk (pmk_own PySem.F.excBase_ValueError E.x E.g E.k (raises_own E.b E.t) hg hdb)
end Pg
namespace Pg
open PySem PySem.Spec PyProof.Rows L2
/-! ### a def's promises, joined: what is kept, what is let out -/
theorem FnOk.lift {P : Program} {w : World} {K : PySem.W.Frag} {mg : Str → Option Value} {base : Heap} {k : Nat} {f : Addr} {fd : FuncData} {ps : List Str} {sp : Sp} (F : FnOk P w K mg base CX0 k f fd ps sp) : FnOk P w K mg base (L2.CX P w) k f fd ps sp :=
  ⟨F.len, fun A outer s H args us vs Q E hr he hb hv hs => codeAny_mono (F.run A outer s H args us vs Q E hr he hb hv hs) fun r s' h => by
    cases r with
    | error e => exact False.elim h
    | ok fl => cases fl <;> exact h⟩
theorem FnOk.or {P : Program} {w : World} {K : PySem.W.Frag} {mg : Str → Option Value} {base : Heap} {CX : CXT} {k : Nat} {f : Addr} {fd : FuncData} {ps : List Str} {sp sp' : Sp} (F : FnOk P w K mg base CX k f fd ps sp) (G : FnOk P w K mg base CX k f fd ps sp') :
    FnOk P w K mg base CX k f fd ps (fun vs H Q E => sp vs H Q E ∨ sp' vs H Q E) :=
  ⟨fun vs H Q E h => h.elim (F.len vs H Q E) (G.len vs H Q E), fun A outer s H args us vs Q E hr he hb hv hs => hs.elim (F.run A outer s H args us vs Q E hr he hb hv) (G.run A outer s H args us vs Q E hr he hb hv)⟩
theorem Df.uniq {K : PySem.W.Frag} {mg : Str → Option Value} {x : Str} {st : Stmt} {ps : List Str} {f f' : Addr} {fd fd' : FuncData} (D : Df K mg x st ps f fd) (D' : Df K mg x st ps f' fd') : f' = f ∧ fd' = fd := by
  have e := D.at_.symm.trans D'.at_
  cases e
  obtain ⟨oc, od, kV, doc, pm, an, cdv, ct, osl, e1, lk, _⟩ := D.fn.ex
  obtain ⟨oc', od', kV', doc', pm', an', cdv', ct', osl', e1', lk', _⟩ := D'.fn.ex
  refine ⟨rfl, ?_⟩
  have e2 := lk.symm.trans lk'
  injection e2 with e2
  injection e2 with _ _ e3 _
  injection e3 with e3
  exact e3.symm
section
variable {P : Program} {w : World} {K : PySem.W.Frag} {mg : Str → Option Value} {base : Heap} {k : Nat} {x : Str} {st : Stmt} {ps : List Str} {sp sp' : Sp}
/-- a def that lets nothing out, among those that may -/
theorem Cl.lx (c : Cl P w K mg base k x st ps sp) : ClX P w K mg base k x st ps sp := by
  obtain ⟨f, fd, D, F⟩ := c.ex
  exact ⟨f, fd, D, FnOk.lift F⟩
theorem ClX.or (c : ClX P w K mg base k x st ps sp) (c' : ClX P w K mg base k x st ps sp') : ClX P w K mg base k x st ps (fun vs H Q E => sp vs H Q E ∨ sp' vs H Q E) := by
  obtain ⟨f, fd, D, F⟩ := c.ex
  obtain ⟨f', fd', D', F'⟩ := c'.ex
  obtain ⟨rfl, rfl⟩ := D.uniq D'
  exact ⟨_, _, D, FnOk.or F F'⟩
theorem ClX.imp (c : ClX P w K mg base k x st ps sp) (h : ∀ vs H Q E, sp' vs H Q E → sp vs H Q E) : ClX P w K mg base k x st ps sp' := by
  obtain ⟨f, fd, D, F⟩ := c.ex
  exact ⟨f, fd, D, F.imp h⟩
theorem Cl.imp (c : Cl P w K mg base k x st ps sp) (h : ∀ vs H Q E, sp' vs H Q E → sp vs H Q E) : Cl P w K mg base k x st ps sp' := by
  obtain ⟨f, fd, D, F⟩ := c.ex
  exact ⟨f, fd, D, F.imp h⟩
end
/-! ### data, what stands in a list told too -/
/-- no float, no bytes -/
def Sc : V → Prop
  | .flt _ => False
  | .byt _ => False
  | _ => True
theorem eq_sc {v : V} {u u' : Value} (h : Sc v) (r : RelV v u) (r' : RelV v u') (A : Around) (s : Shared) : SeqAt.EqAt A s u u' true := by
  cases v with
  | non => cases r; cases r'; exact SeqAt.EqAt.same _
  | bl b => cases r; cases r'; exact SeqAt.EqAt.same _
  | int i =>
    obtain ⟨t, rfl⟩ := r
    obtain ⟨t', rfl⟩ := r'
    have := (MeetsSeq.EqGives.int i i t t').at A s
    rwa [show (i == i) = true from beq_self_eq_true i] at this
  | str x =>
    obtain ⟨t, rfl⟩ := r
    obtain ⟨t', rfl⟩ := r'
    have := (SeqRoads2.EqGives.str x x t t').at A s
    rwa [show (x.cps.toList == x.cps.toList) = true from beq_self_eq_true _] at this
  | byt b => exact False.elim h
  | flt b => exact False.elim h
  | ref a => cases r; cases r'; exact SeqAt.EqAt.same _
  | ty n => cases r; cases r'; exact SeqAt.EqAt.same _
theorem vals_sc : ∀ {vs : List V} {us us' : List Value}, (∀ v ∈ vs, Sc v) → Vals vs us → Vals vs us' → ∀ (A : Around) (s : Shared) (j : Nat) (h1 : j < us.length) (h2 : j < us'.length), SeqAt.EqAt A s us[j] us'[j] true
  | _, _, _, _, .nil, .nil, _, _, _, h1, _ => absurd h1 (Nat.not_lt_zero _)
  | _, _, _, h, .cons r _, .cons r' _, A, s, 0, _, _ => eq_sc (h _ List.mem_cons_self) r r' A s
  | _, _, _, h, .cons _ r, .cons _ r', A, s, j + 1, h1, h2 => vals_sc (fun v m => h v (List.mem_cons_of_mem _ m)) r r' A s j (Nat.lt_of_succ_lt_succ h1) (Nat.lt_of_succ_lt_succ h2)
/-- xs != ys, both hold the same values -/
def rNeS (K : PySem.W.Frag) : R2 := fun x y H Q => ∃ (a b : Addr) (xs : List V), x = .ref a ∧ y = .ref b ∧ SqL K H a xs ∧ SqL K H b xs ∧ (∀ v ∈ xs, Sc v) ∧ Q (.bl false) H
theorem op_neS {X : Cx} (hu : X.A.units + 64 < cLine) : OpR X (compareOp .NotEq) (rNeS X.K) := by
  intro pins s σ H x y v u Q I rx ry h
  obtain ⟨a, b, xs, rfl, rfl, hH, hB, sc, q⟩ := h
  cases rx
  cases ry
  obtain ⟨its, r, pl, _⟩ := I.list hH
  obtain ⟨its2, r2, pl2, _⟩ := I.list hB
  have e1 := Vals.length r
  have e2 := Vals.length r2
  refine SeqAt.RcNeAt.lists (e := fun _ => true) pl.isList pl2.isList (by simp; omega) (by omega) (fun j h1 h2 => ?_) _ _ _ _ ?_
  · have := vals_sc sc r r2 X.A.in1 s j (by simpa using h1) (by simpa using h2)
    simpa using this
  · refine ⟨.bl _, H, I, rfl, ?_⟩
    rw [show ((List.range its.toArray.size).all fun _ => true) = true from by simp]
    exact q
theorem Rp.sc {K : PySem.W.Frag} {H : Hp} {v : V} {d : Dt} (r : Rp K H v d) : Sc v := by cases r <;> trivial
theorem RpL.sc {K : PySem.W.Frag} {H : Hp} : ∀ {vs : List V} {ds : List Dt}, RpL K H vs ds → ∀ v ∈ vs, Sc v
  | _, _, .nil, _, m => nomatch m
  | _, _, .cons h r, v, m => by
    rcases List.mem_cons.mp m with rfl | m
    · exact h.sc
    · exact RpL.sc r v m
/-- what is to be known of a list, of an object -/
structure Rq (K : PySem.W.Frag) (H : Hp) (v : V) (d : Dt) : Prop where
  rp : Rp K H v d
  ls : d = .lst → ∃ a xs, v = .ref a ∧ H a = some (.lst xs) ∧ ∀ x ∈ xs, Sc x
  ob : d = .obj → ∃ a C, v = .ref a ∧ H a = some (ExO (.ref C) a) ∧ Pv.OkC K C
theorem Rq.of {K : PySem.W.Frag} {H : Hp} {v : V} {d : Dt} (r : Rp K H v d) (h : d ≠ .lst) (g : d ≠ .obj) : Rq K H v d := ⟨r, fun e => absurd e h, fun e => absurd e g⟩
theorem Rq.tup {K : PySem.W.Frag} {H : Hp} {v : V} {ds : List Dt} (r : Rp K H v (.tup ds)) : Rq K H v (.tup ds) := .of r (fun e => nomatch e) (fun e => nomatch e)
theorem Rq.stp {K : PySem.W.Frag} {H H' : Hp} {v : V} {d : Dt} (r : Rq K H v d) (s : Stp [] H H') (l : Lsts H []) : Rq K H' v d :=
  ⟨r.rp.stp s l, fun e => by
    obtain ⟨a, xs, h1, h2, h3⟩ := r.ls e
    exact ⟨a, xs, h1, s.kp _ _ (fun m => nomatch m) h2, h3⟩, fun e => by
    obtain ⟨a, C, h1, h2, h3⟩ := r.ob e
    exact ⟨a, C, h1, s.kp _ _ (fun m => nomatch m) h2, h3⟩⟩
/-- behind draws -/
theorem Rq.draw {K : PySem.W.Frag} {H H' : Hp} {v : V} {d : Dt} {b : Addr} {n m : Nat} (r : Rq K H v d) (s : Stp [b] H H') (B : Bag H b n) (B' : Bag H' b m) : Rq K H' v d :=
  ⟨r.rp.stp s (fun p q => by
      obtain ⟨x, y, z, h, _⟩ := B
      rw [List.mem_singleton.mp q]
      exact ⟨_, h⟩), fun e => by
    obtain ⟨a, xs, h1, h2, h3⟩ := r.ls e
    by_cases ab : a = b
    · subst ab
      obtain ⟨x, y, z, h, _⟩ := B'
      exact ⟨a, _, h1, h, fun v m => by
        simp only [List.mem_cons, List.not_mem_nil, or_false] at m
        rcases m with rfl | rfl | rfl <;> trivial⟩
    · exact ⟨a, xs, h1, s.kp _ _ (fun m => ab (List.mem_singleton.mp m)) h2, h3⟩, fun e => by
    obtain ⟨a, C, h1, h2, h3⟩ := r.ob e
    refine ⟨a, C, h1, s.kp _ _ (fun m => ?_) h2, h3⟩
    obtain ⟨x, y, z, h, _⟩ := B
    rw [List.mem_singleton.mp m, h] at h2
    cases h2⟩
inductive RqL (K : PySem.W.Frag) (H : Hp) : List V → List Dt → Prop
  | nil : RqL K H [] []
  | cons {v : V} {vs : List V} {d : Dt} {ds : List Dt} : Rq K H v d → RqL K H vs ds → RqL K H (v :: vs) (d :: ds)
theorem RqL.rp {K : PySem.W.Frag} {H : Hp} : ∀ {vs : List V} {ds : List Dt}, RqL K H vs ds → RpL K H vs ds
  | _, _, .nil => .nil
  | _, _, .cons h r => .cons h.rp r.rp
theorem RqL.len {K : PySem.W.Frag} {H : Hp} {vs : List V} {ds : List Dt} (r : RqL K H vs ds) : vs.length = ds.length := r.rp.len
theorem RqL.stp {K : PySem.W.Frag} {H H' : Hp} (s : Stp [] H H') (l : Lsts H []) : ∀ {vs : List V} {ds : List Dt}, RqL K H vs ds → RqL K H' vs ds
  | _, _, .nil => .nil
  | _, _, .cons h r => .cons (h.stp s l) (RqL.stp s l r)
theorem RqL.app {K : PySem.W.Frag} {H : Hp} : ∀ {vs ws : List V} {ds es : List Dt}, RqL K H vs ds → RqL K H ws es → RqL K H (vs ++ ws) (ds ++ es)
  | _, _, _, _, .nil, q => q
  | _, _, _, _, .cons h r, q => .cons h (RqL.app r q)
theorem RqL.get {K : PySem.W.Frag} {H : Hp} : ∀ {vs : List V} {ds : List Dt} {i : Nat} {v : V}, RqL K H vs ds → vs[i]? = some v → ∃ d, ds[i]? = some d ∧ Rq K H v d
  | _, _, _, _, .nil, e => by simp at e
  | _, _, 0, _, .cons (d := d) h _, e => by
    simp at e
    subst e
    exact ⟨d, rfl, h⟩
  | _, _, i + 1, v, .cons _ r, e => RqL.get (i := i) (v := v) r (by simpa using e)
theorem RqL.rep {K : PySem.W.Frag} {H : Hp} {v : V} {d : Dt} (r : Rq K H v d) : ∀ n : Nat, RqL K H (List.replicate n v) (List.replicate n d)
  | 0 => .nil
  | n + 1 => .cons r (RqL.rep r n)
def EvQ (K : PySem.W.Frag) (te : TE) (σ : L2.St) (H : Hp) (d : Dt) : Prop := ∀ H1, Stp [] H H1 → ∀ Q : VK, (∀ v H2, Stp [] H1 H2 → Rq K H2 v d → Q v H2) → te σ H1 Q
def EvQA (K : PySem.W.Frag) (ta : TA) (σ : L2.St) (H : Hp) (ds : List Dt) : Prop := ∀ H1, Stp [] H H1 → ∀ Q : List V → Hp → Prop, (∀ vs H2, Stp [] H1 H2 → RqL K H2 vs ds → Q vs H2) → ta σ H1 Q
section
variable {K : PySem.W.Frag} {te : TE} {ta : TA} {σ : L2.St} {H : Hp} {d : Dt} {ds : List Dt}
theorem EvQ.of (h : EvD K te σ H d) (h1 : d ≠ .lst := by intro e; cases e) (h2 : d ≠ .obj := by intro e; cases e) : EvQ K te σ H d := fun H1 s Q k => h H1 s Q fun v H2 s2 r => k v H2 s2 (.of r h1 h2)
theorem EvQ.bl {b : Bool} : EvQ K (tC (.bl b)) σ H (.bl b) := .of EvD.bl
theorem EvQ.int {i : Int} : EvQ K (tC (.int i)) σ H (.int i) := .of EvD.int
theorem EvQ.non : EvQ K (tC .non) σ H .non := .of EvD.non
theorem EvQ.str {s : Str} (h : s.cps.toList.length ≤ 100000 := by decide +kernel) : EvQ K (tC (.str s)) σ H (.str s.cps.toList) := .of (EvD.str h)
theorem EvQ.var {i : Nat} {v : V} (r : Rq K H v d) (e : σ[i]? = some (some v) := by rfl) : EvQ K (tVar i) σ H d := fun H1 s _ k => ⟨v, e, k v H1 (Stp.refl _ _) (r.stp s Lsts.nil)⟩
theorem EvQA.nil : EvQA K tNil σ H [] := fun H1 _ _ k => k [] H1 (Stp.refl _ _) .nil
theorem EvQA.cons (h : EvQ K te σ H d) (g : EvQA K ta σ H ds) : EvQA K (tCons te ta) σ H (d :: ds) := fun H1 s Q k =>
  h H1 s _ fun v H2 s2 r => g H2 (s.trans s2) _ fun vs H3 s3 rs => k (v :: vs) H3 (s2.trans s3) (.cons (r.stp s3 Lsts.nil) rs)
theorem EvQA.rp (h : EvQA K ta σ H ds) : EvDA K ta σ H ds := fun H1 s Q k => h H1 s Q fun vs H2 s2 r => k vs H2 s2 r.rp
theorem EvQ.rp (h : EvQ K te σ H d) : EvD K te σ H d := fun H1 s Q k => h H1 s Q fun vs H2 s2 r => k vs H2 s2 r.rp
theorem EvQ.tup (h : EvQA K ta σ H ds) (hl : ds.length ≤ 1000) : EvQ K (tTup ta) σ H (.tup ds) := .of (EvD.tup h.rp hl)
theorem EvQ.lst (h : EvQA K ta σ H ds) (hl : ds.length ≤ 1000) : EvQ K (tLst ta) σ H .lst := fun H1 s Q k =>
  h H1 s _ fun vs H2 s2 rs => ⟨sz (by rw [rs.len]; omega), fun p np => k _ _ (s2.new' np) ⟨.lst upd_same, fun _ => ⟨p, vs, rfl, upd_same, rs.rp.sc⟩, (fun e => nomatch e)⟩⟩
theorem EvQ.exc {C : Addr} (ok : Pv.OkC K C) (h : EvQ K te σ H d) : EvQ K (fun σ H Q => te σ H fun _ H1 => ∀ a, H1 a = none → Q (.ref a) (upd H1 a (ExO (.ref C) a))) σ H .obj := fun H1 s Q k =>
  h H1 s _ fun v H2 s2 _ => fun a na => k _ _ (s2.new' na) ⟨.obj upd_same, (fun e => nomatch e), fun _ => ⟨a, C, rfl, upd_same, ok⟩⟩
theorem EvQ.cat {tb : TE} {a b : List Nat} (h : EvQ K te σ H (.str a)) (g : EvQ K tb σ H (.str b)) (hl : a.length + b.length ≤ 100000) : EvQ K (tOp (fun x y H Q => ∃ i j, x = .str i ∧ y = .str j ∧ i.length + j.length ≤ sizeLine ∧ Q (.str (i ++ j)) H) te tb) σ H (.str (a ++ b)) := .of (EvD.cat h.rp g.rp hl)
theorem EvQ.pow {i j : Int} (h : CPow i j) : EvQ K (tOp (rI CPow fun i j => .int (i ^ j.toNat)) (tC (.int i)) (tC (.int j))) σ H (.int (i ^ j.toNat)) := .of (EvD.pow h)
theorem EvQ.neg {i : Int} : EvQ K (tUn (rU fun i => .int (-i)) (tC (.int i))) σ H (.int (-i)) := .of EvD.neg
theorem EvQ.list (h : EvQ K te σ H (.tup ds)) : EvQ K (tCB (fun xs H Q => ∃ p ys, xs = [.ref p] ∧ (SqL K H p ys ∨ SqT K H p ys) ∧ ∀ l, H l = none → Q (.ref l) (upd H l (.lst ys))) (tCons te tNil)) σ H .lst := fun H1 s Q k =>
  h H1 s _ fun v H2 s2 r => by
    cases r.rp with
    | tup hs hn rl => exact ⟨_, _, rfl, .inr hs, fun l nl => k _ _ (s2.new' nl) ⟨.lst upd_same, fun _ => ⟨l, _, rfl, upd_same, rl.sc⟩, (fun e => nomatch e)⟩⟩
theorem EvQA.use (h : EvQA K ta σ H ds) {Q : List V → Hp → Prop} (k : ∀ vs H2, Stp [] H H2 → RqL K H2 vs ds → Q vs H2) : ta σ H Q := h H (Stp.refl _ _) Q k
theorem EvQ.use (h : EvQ K te σ H d) {Q : VK} (k : ∀ v H2, Stp [] H H2 → Rq K H2 v d → Q v H2) : te σ H Q := h H (Stp.refl _ _) Q k
theorem EvQA.newl (h : EvQA K ta σ H ds) (hl : ds.length ≤ 1000) {Q : VK} (k : ∀ p vs H2, Stp [] H H2 → H p = none → H2 p = some (.lst vs) → RqL K H2 vs ds → Q (.ref p) H2) : tLst ta σ H Q :=
  h.use fun vs H2 s rs => ⟨sz (by rw [rs.len]; omega), fun p np => k p vs _ (s.new' np) (s.fresh (fun m => nomatch m) np) upd_same (rs.stp (Stp.new np []) Lsts.nil)⟩
end
/-- a value with its contents -/
theorem Rq.ofRv {K : PySem.W.Frag} {S : List Addr} {H : Hp} {v : V} {d : Pv.D} (r : Pv.Rv K S H v d) : Rq K H v d.old := by
  cases r with
  | non => exact .of .non (fun e => nomatch e) (fun e => nomatch e)
  | bl b => exact .of (.bl b) (fun e => nomatch e) (fun e => nomatch e)
  | int i => exact .of (.int i) (fun e => nomatch e) (fun e => nomatch e)
  | str l h => exact .of (.str l h) (fun e => nomatch e) (fun e => nomatch e)
  | tup h n r => exact ⟨(Pv.Rv.tup h n r).old, (fun e => nomatch e), (fun e => nomatch e)⟩
  | lst h o n r => exact ⟨.lst h, fun _ => ⟨_, _, rfl, h, r.old.sc⟩, (fun e => nomatch e)⟩
  | obj h k => exact ⟨.obj h, (fun e => nomatch e), fun _ => ⟨_, _, rfl, h, k⟩⟩
/-! ### isinstance(x, list) -/
def isL : Dt → Bool
  | .lst => true
  | _ => false
def rIsQ (K : PySem.W.Frag) : List V → Hp → VK → Prop := fun xs H Q => ∃ (x : V) (d : Dt), xs = [x, .ty "list"] ∧ Rq K H x d ∧ Q (.bl (isL d)) H
theorem call_isiQ {X : Cx} : CallR X (.builtin "isinstance") (rIsQ X.K) := by
  intro pins s σ H xs us Q I r h
  obtain ⟨x, d, rfl, rq, q⟩ := h
  have go : ∀ (t : String), TyX X.K H x (.type t) → t ∈ ["NoneType", "bool", "int", "str", "tuple", "list"] → isL d = (t == "list") → wpAny (model X.prog X.w) X.A (call (.builtin "isinstance") us) (EP X pins σ Q) X.xe s := fun t ty m e =>
    call_isi pins s σ H _ us Q I r ⟨x, .ty "list", _, _, isL d, rfl, .ty "list", ty, kit_ty (by rw [e]; exact Pv.kit_list t m), q⟩
  cases rq.rp with
  | non => exact go "NoneType" (.base .non) (by decide) rfl
  | bl b => exact go "bool" (.base (.bl b)) (by decide) rfl
  | int i => exact go "int" (.base (.int i)) (by decide) rfl
  | str l hl => exact go "str" (.base (.str _)) (by decide) rfl
  | lst hs => exact go "list" (.base (.lst hs)) (by decide) rfl
  | tup hs _ _ =>
    refine go "tuple" ?_ (by decide) rfl
    rcases hs with (hs | ⟨o, hs⟩) | ⟨o, its, n, e, c, _⟩
    · exact .base (.tup hs)
    · exact .fTuple hs
    · exact .kTuple e c
  | obj hs =>
    obtain ⟨a, C, e, ho, ok⟩ := rq.ob rfl
    rw [e] at r
    exact Pv.call_isiD (T := "list") (by decide) pins s σ H _ us Q I r ⟨[], .ref a, .obj C, rfl, .obj ho ok, q⟩
theorem call_isiQK {X : Cx} {K : PySem.W.Frag} (hK : X.K = K) : CallR X (.builtin "isinstance") (rIsQ K) := by
  subst hK
  exact call_isiQ
end Pg
namespace Pg
open PySem PySem.Spec PyProof.Rows L2
/-! ### own errors with an __init__ of their own, made as values -/
section
variable {X : Cx} {e : Expr} {es : List Expr} {ta : TA} {te : TE} {x n : Str} {C : Addr} {p p1 p2 pos : Pos}
/-- C.__init__(self, ..), C an own class over ValueError without an __init__ of its own -/
theorem pe_skinit {pl : Sem Bool} (hg : Gl X x) (hm : X.mg x = some (.ref C)) (sg : PySem.W.specialIn X.K (.ref C) "__getattribute__" = some (some (.builtin "type.__getattribute__"))) (rd : PySem.W.readsIn (mc := .type "type") X.K C = true)
    (fc : PySem.W.findCls X.K (.ref C) (.type "type") "__init__" = some (.val (.builtin "ValueError.__init__"))) (ha : PA X (e :: es) ta) (hdb : (x == ("__debug__" : Str)) = false := by decide)
    (hc : eval (.Call (.Attribute (.Name x p1) "__init__" p2) (e :: es) [] pos) X.env = (do
      let ov ← eval (.Name x p1) X.env
      standAt p2.atName
      let (f, first) ← holding [ov] (getMethod ov "__init__" pl)
      callWith pos f first (backTo pos (starEach (e :: es) X.env)) (backToKw pos (keywordEach [] X.env))) := by rfl)
    (he : starEach (e :: es) X.env = (false, eval e X.env) :: starEach es X.env := by rfl) (hpl : (backTo pos (starEach es X.env)).any (·.1) = false := by rfl) :
    PE X (.Call (.Attribute (.Name x p1) "__init__" p2) (e :: es) [] pos) (tVeI X.K ta) := by
  refine ⟨fun pins s σ H Q I h => ?_⟩
  refine PySem.W.methodCall_KW (ld_glob I hg hm ?_ hdb) hc
  refine PySem.W.method_cls I.kIn sg (PySem.W.cls_value I.kIn rd fc (by decide +kernel) ?_)
  show wpAny _ _ (callWith pos (Value.builtin "ValueError.__init__") [] (backTo pos (starEach (e :: es) X.env)) []) _ _ _
  refine PyProof.Rows.callWith_method1 (thn (ha.run pos pins _ σ H _ (I.tok _) h) fun us s1 ⟨vs, H1, I1, r1, a, C, ws, ev, hl, T, ea, q⟩ => ?_) he hpl
  subst ev
  cases r1 with
  | @cons _ u0 _ ur ra rw' =>
    obtain rfl : u0 = Value.ref a := ra
    have hlen : ur.length ≤ sizeLine := by
      rw [← Paired.length rw', sizeLine_eq]
      omega
    exact oinit_ok T I1 ea hlen fun s' J => ⟨.non, H1, J, rfl, q⟩
/-- C(e, ..) as a value: C's own __init__ keeps sp -/
def tMkE (C : Addr) (sp : Sp) (ta : TA) : TE := fun σ H Q => ta σ H fun vs H1 => vs.length ≤ 1000 ∧ ∀ a, H1 a = none → sp (.ref a :: vs) (upd H1 a (exo a C none)) (fun v H2 => v = .non ∧ Q (.ref a) H2) E0
/-- what is known of a class whose __init__ is a def -/
structure OexI (K : PySem.W.Frag) (C fI : Addr) : Prop where
  t : OexC K C
  i : PySem.W.findIn K (.ref C) "__init__" = some (some (.ref fI))
  f : PySem.W.typeIn K (.ref fI) = some (.type "function")
theorem pe_oexE {fI : Addr} {k : Nat} {fd : FuncData} {ps : List Str} {sp : Sp} (T : OexI X.K C fI)
    (F1 : FnOk X.prog X.w X.K X.mg X.base CX0 k fI fd ps sp) (hr : Room (k + 1) X.A) (hb : Binds X.K fd ps []) (hg : Gl X x) (hm : X.mg x = some (.ref C)) (ha : PA X (e :: es) ta)
    (hdb : (x == ("__debug__" : Str)) = false := by decide) (he : starEach (e :: es) X.env = (false, eval e X.env) :: starEach es X.env := by rfl) (hpl : (backTo pos (starEach es X.env)).any (·.1) = false := by rfl) :
    PE X (.Call (.Name x p) (e :: es) [] pos) (tMkE C sp ta) := by
  refine ⟨fun pins s σ H Q I h => ?_⟩
  obtain ⟨nm, q, N, bs, bm, sn, sub, ab, col, dd, k0, k1, k2, k3, k5, hC, hbm⟩ := T.t.cls
  refine wpAny_Call_Name_kw (ld_glob I hg hm ?_ hdb)
  refine PySem.W.callWith_K (h₀ := X.base) I.ok.mod.kin T.t.kC (thn (ha.run pos pins s σ H _ I h) fun us s1 ⟨vs, H1, I1, r1, hz, q1⟩ => ⟨I1.kIn, ?_⟩) he hpl
  show wpAny _ _ (call (.ref C) us) _ _ _
  obtain ⟨hp, g, dr, tk, os⟩ := s1
  have hsz : hp.objs.size ≤ hp.objs.size + 1 := Nat.le_succ _
  have hn : H1 (hp.objs.size + 1) = none := I1.hok.fresh hsz
  have hq := q1 (hp.objs.size + 1) hn
  have kk : ∀ b o, hp.get? b = some o → ((hp.push (PySem.W.kdv_tup us)).push (PySem.HandSPX.excO C hp.objs.size)).get? b = some o := fun b o e => Heap.get?_push_of_some _ (Heap.get?_push_of_some _ e)
  have hget : ((hp.push (PySem.W.kdv_tup us)).push (PySem.HandSPX.excO C hp.objs.size)).get? (hp.objs.size + 1) = some (PySem.HandSPX.excO C hp.objs.size) := by heap_get
  have I2 : Inv X pins σ (upd H1 (hp.objs.size + 1) (exo (hp.objs.size + 1) C none)) ⟨(hp.push (PySem.W.kdv_tup us)).push (PySem.HandSPX.excO C hp.objs.size), g, dr, tk, os⟩ :=
    I1.laid (t' := tk) (a := hp.objs.size + 1) (o := exo (hp.objs.size + 1) C none) (h' := (hp.push (PySem.W.kdv_tup us)).push (PySem.HandSPX.excO C hp.objs.size)) kk hsz (exo_ok hget)
  have r2 : Vals (V.ref (hp.objs.size + 1) :: vs) (Value.ref (hp.objs.size + 1) :: us) := .cons rfl r1
  have hl : (Value.ref (hp.objs.size + 1) :: us ++ []).length = ps.length := by
    have e := r2.length
    rw [F1.len _ _ _ _ hq] at e
    rw [List.append_nil]
    exact e.symm
  have hus : us.length ≤ sizeLine := by
    rw [← Paired.length r1, sizeLine_eq]
    omega
  have bt := hb ⟨(hp.push (PySem.W.kdv_tup us)).push (PySem.HandSPX.excO C hp.objs.size), g, dr, tk, os⟩ (Value.ref (hp.objs.size + 1) :: us) I2.kIn hl
  rw [List.append_nil] at bt
  refine wpAny_call (PySem.HandSPX.call_own F.excBase_ValueError (fun Y => PySem.HandSPX.refsVE_contains Y bm hbm) (I1.kIn _ _ hC) (PySem.W.looks_findIn I1.kIn T.i) (fun self => PySem.W.bind_fn I1.kIn self T.f) hus
    (codeAny_mono (F1.run _ X.stack _ _ ⟨Value.ref (hp.objs.size + 1) :: us, []⟩ (Value.ref (hp.objs.size + 1) :: us) _ _ E0 (hr.make C us []) (I2.env0.make C us []) bt r2 hq) fun r s' hq' => ?_))
  cases r with
  | error er => exact False.elim hq'
  | ok fl =>
    cases fl with
    | ret u =>
      obtain ⟨v, H2, J, rv, ev, q2⟩ := I2.after hq'
      subst ev
      have J0 : Inv X pins σ H2 s' := J
      exact ⟨rv, .ref _, H2, J0, rfl, q2⟩
    | next => exact False.elim hq'
    | brk => exact False.elim hq'
    | cont => exact False.elim hq'
/-- the reading of x.n, x an error with a dict -/
def tOat (K : PySem.W.Frag) (n : Str) (te : TE) : TE := fun σ H Q => te σ H fun x H1 => ∃ (a C d : Addr) (fs : List (Str × V)) (v : V), x = .ref a ∧ XfC K C ∧ PySem.W.findIn K (.ref C) n = some none ∧ H1 a = some (exo a C (some d)) ∧ H1 d = some (exd d fs) ∧ fs.lookup n = some v ∧ Q v H1
theorem pe_oat (he : PE X e te) (hb : attributeBase e n X.env (eval e X.env) = eval e X.env := by rfl) : PE X (.Attribute e n pos) (tOat X.K n te) := by
  refine ⟨fun pins s σ H Q I h => ?_⟩
  refine attr_of hb (thn (he.run pins s σ H _ I h) fun u s1 hh => ?_)
  obtain ⟨x, H1, I1, rx, a, C, d, fs, v, ex, T, hno, ha, hd, l, q⟩ := hh
  subst ex
  obtain rfl : u = Value.ref a := rx
  obtain ⟨t1, ho⟩ := exo_at I1.hok ha
  obtain ⟨mA, hns, hr⟩ := exd_at I1.hok hd
  obtain ⟨od, hod, hl⟩ := lookIn_ns hns
  obtain ⟨u, hu, ru⟩ := RelO.some_of (v := v) (o := mA n) (by rw [← l]; exact hr n)
  have J : PySem.W.InstAt s1.heap a _ C (some od) := ⟨ho, rfl, rfl, hod⟩
  exact HandSPX.exc_get I1.kIn J T.ga T.gg T.exC (PySem.W.findObj_own T.hdC hno rfl (by rw [hl, hu])) (handed_of ru) ⟨v, H1, I1.tok _, ru, q⟩
/-- C(k = v, ..) as a value -/
def tMkEK (C : Addr) (sp : Sp) (gV : List V → List V → List V) (tk : TA) : TE := fun σ H Q => tk σ H fun zs H1 => zs.length ≤ 1000 ∧ ∀ a, H1 a = none → sp (.ref a :: gV [] zs) (upd H1 a (exo a C none)) (fun v H2 => v = .non ∧ Q (.ref a) H2) E0
end
/-! ### isinstance(e, C), e an error that was made -/
/-- an error: without a dict, or with one -/
def ErrAt (H : Hp) (a C : Addr) : Prop := H a = some (ExO (.ref C) a) ∨ ∃ d fs, H a = some (exo a C (some d)) ∧ H d = some (exd d fs)
theorem ErrAt.up {H H' : Hp} {a C : Addr} (h : ErrAt H a C) (s : Stp [] H H') : ErrAt H' a C := h.imp (s.kp _ _ fun m => nomatch m) fun ⟨d, fs, h1, h2⟩ => ⟨d, fs, s.kp _ _ (fun m => nomatch m) h1, s.kp _ _ (fun m => nomatch m) h2⟩
def rIsE (K : PySem.W.Frag) : List V → Hp → VK → Prop := fun xs H Q => ∃ (a D : Addr) (c : V) (cv : Value) (b : Bool), xs = [.ref a, c] ∧ ExcC K D ∧ ErrAt H a D ∧ (∀ u, RelV c u → u = cv) ∧ PySem.W.kitOne K (.ref D) cv = some b ∧ Q (.bl b) H
theorem call_isE {X : Cx} : CallR X (.builtin "isinstance") (rIsE X.K) := by
  intro pins s σ H xs us Q I r h
  obtain ⟨a, D, c, cv, b, rfl, C, ha, hcv, e, q⟩ := h
  obtain ⟨u1, u2, rfl, r1, r2⟩ := vals2 r
  cases r1
  have ec := hcv _ r2
  subst ec
  have hcl : (PySem.W.clsIn X.K D).isSome = true := by
    have := C.hd
    unfold PySem.W.hasDictIn at this
    cases z : PySem.W.clsIn X.K D with
    | none => rw [z] at this; cases this
    | some _ => rfl
  rcases ha with ha | ⟨d, fs, ha, hd⟩
  · obtain ⟨⟨oe, vs, e1, ⟨e2, e3⟩, e4, _⟩, _⟩ := I.hok _ _ ha
    have J : PySem.W.InstAt s.heap a oe D none := by
      obtain ⟨oc, od, oda, osl⟩ := oe
      dsimp only at e2 e3 e4
      subst e2 e3 e4
      exact ⟨e1, rfl, rfl, trivial⟩
    exact PySem.W.kia_one (PySem.W.kitx_exc hcl C.hg C.hk C.hs C.ha C.hn C.ht C.hm) I.kIn J e (fun z => nomatch z) fun tk => ⟨.bl b, H, I.kept (t' := tk) fun _ _ z => z, rfl, q⟩
  · obtain ⟨t1, ho⟩ := exo_at I.hok ha
    obtain ⟨mA, hns, hr⟩ := exd_at I.hok hd
    obtain ⟨od, hod, hl⟩ := lookIn_ns hns
    have J : PySem.W.InstAt s.heap a _ D (some od) := ⟨ho, rfl, rfl, hod⟩
    exact PySem.W.kia_one (PySem.W.kitx_exc hcl C.hg C.hk C.hs C.ha C.hn C.ht C.hm) I.kIn J e (fun z => nomatch z) fun tk => ⟨.bl b, H, I.kept (t' := tk) fun _ _ z => z, rfl, q⟩
end Pg
namespace PySem.OEXK
open PySem.W PySem.Calls PyProof.Rows PySem.HandSPX
section
variable {M : Model} {A : Around} {E : Value → Shared → Prop} {h : Heap} {g : Array GenState} {d : Drawn} {t : Nat} {os : OsState}
variable {nm q : Str} {C N : Addr} {bs bm bmB : List Value} {hdct : Bool} {sn : List Str} {sub : List Value} {ab : Bool} {col : Option Bool} {dd : Option Addr} {k0 k1 k2 k3 k5 : Option Value} {B newId initId : String}
theorem check_new_ownK (F : ExcBaseFacts B newId initId bmB) (hT : ∀ X : String, bm.contains (.type X) = bmB.contains (.type X)) {kw : List (Str × Value)} {Q : Unit → Shared → Prop}
    (hC : h.get? C = some (excClassObj nm q C N bs bm hdct sn sub ab col dd k0 k1 k2 k3 k5 newId)) (hq : Q () ⟨h, g, d, t, os⟩) : wpAny M A (checkBuiltinCall newId ⟨[.ref C], kw⟩) Q E ⟨h, g, d, t, os⟩ := by
  have hcont : (Value.ref C :: bm).contains (.type B) = true := by rw [List.contains_cons, hT, F.hasB, Bool.or_true]
  have hstar := F.noStar
  simp only [checkBuiltinCall, F.newKind, F.newSplit, F.newRow]
  repeat (first | refine wpAny_loadPart_at hC ?_ | (refine wpAny_isSubtype_exc hC ?_; rw [hcont]) | refine wpAny_staticBase_exc hC ?_ | refine wpAny_madeBy_exc hC ?_ | simp only [bne_self_eq_false, Bool.false_eq_true, if_false] | wp_step)
  exact hq
end
section
variable {prog : Program} {w : World} {A : Around} {E : Value → Shared → Prop} {R : Result → Shared → Prop} {h : Heap} {g : Array GenState} {d : Drawn} {t : Nat} {os : OsState}
variable {nm q : Str} {C N : Addr} {bs bm bmB : List Value} {hdct : Bool} {sn : List Str} {sub : List Value} {ab : Bool} {col : Option Bool} {dd : Option Addr} {k0 k1 k2 k3 k5 : Option Value} {B newId initId : String}
theorem new_ownK (F : ExcBaseFacts B newId initId bmB) (hT : ∀ X : String, bm.contains (.type X) = bmB.contains (.type X)) {kw : List (Str × Value)}
    (hC : h.get? C = some (excClassObj nm q C N bs bm hdct sn sub ab col dd k0 k1 k2 k3 k5 newId))
    (hq : R (.ok (.ret (.ref (h.objs.size + 1)))) ⟨(h.push { cls := .type "tuple", data := .seq #[] }).push
      { cls := .ref C, data := .fields #[.ref h.objs.size, .none, .none, .none, .bool false, .none] }, g, d, t, os⟩) :
    codeAny (model prog w) A (.builtin newId ⟨[.ref C], kw⟩) R ⟨h, g, d, t, os⟩ := by
  have hends := F.ends
  have hcB : (Value.ref C :: bm).contains (.type B) = true := by rw [List.contains_cons, hT, F.hasB, Bool.or_true]
  have hcA : (Value.ref C :: bm).contains (.type "AttributeError") = false := by rw [List.contains_cons, hT, F.noAttr]; rfl
  have hcN : (Value.ref C :: bm).contains (.type "NameError") = false := by rw [List.contains_cons, hT, F.noName]; rfl
  refine codeAny_builtinAt F.entry ?_
  unfold Builtin.«BaseException.__new__»
  refine wpAt_bind ?_
  show wpAt _ _ _ (stack >>= _) _ _ _
  refine wpAt_bind (wpAt_stack fun p below => wpAt_of_wpAny ?_)
  wp_walk
  refine wpAt_of_wpAny ?_
  rw [F.owner]
  repeat (first | with_reducible refine wpAny_madeHere_exc F.canon hC ?_ | with_reducible refine wpAny_loadPart_at hC ?_ | (with_reducible refine wpAny_isSubtype_exc hC ?_; first | rw [hcB] | rw [hcA] | rw [hcN]) | wp_step)
  show R _ _
  rw [Heap.size_push]
  exact hq
theorem type_call_ownK (F : ExcBaseFacts B newId initId bmB) (hT : ∀ X : String, bm.contains (.type X) = bmB.contains (.type X)) {kw : List (Str × Value)} {fI : Addr} {Q : Fin → Shared → Prop}
    (hC : h.get? C = some (excClassObj nm q C N bs bm hdct sn sub ab col dd k0 k1 k2 k3 k5 newId))
    (hi : W.Looks (model prog w) h (typeLookup (.ref C) "__init__") (some (.ref fI))) (hb : ∀ self, W.Looks (model prog w) h (bindSpecial (.ref fI) self) (.ref fI, [self]))
    (hq : codeAny (model prog w) A (.call (.ref fI) ⟨[.ref (h.objs.size + 1)], kw⟩)
      (fun r s' => match r with | .ok (.ret v) => v = .none ∧ Q (.done (.ret (.ref (h.objs.size + 1)))) s' | .ok _ => False | .error e => E e s')
      ⟨(h.push (W.kdv_tup [])).push (excO C h.objs.size), g, d, t, os⟩) :
    wpAny (model prog w) A (Builtin.«type.__call__» ⟨[.ref C], kw⟩) Q E ⟨h, g, d, t, os⟩ := by
  repeat (first | with_reducible refine wpAny_loadPart_at hC ?_ | with_reducible refine wpAny_madeBy_exc hC ?_ | wp_step)
  refine codeAny_call_builtin_code (Code.quiet_builtin _ F.quiet) (check_new_ownK F hT hC ?_)
  refine new_ownK F hT hC ?_
  show wpAny _ _ _ _ _ _
  have k : ∀ b o, h.get? b = some o → ((h.push (W.kdv_tup [])).push (excO C h.objs.size)).get? b = some o := fun b o e => Heap.get?_push_of_some _ (Heap.get?_push_of_some _ e)
  have hC₁ := k _ _ hC
  have hget : ((h.push (W.kdv_tup [])).push (excO C h.objs.size)).get? (h.objs.size + 1) = some (excO C h.objs.size) := by heap_get
  have hcC : (Value.ref C :: bm).contains (.ref C) = true := by simp
  have i1 := hi.keeps k
  have b1 := (hb (.ref (h.objs.size + 1))).keeps k
  unfold isInstance
  repeat (first | with_reducible refine wpAny_loadPart_at hget ?_ | (with_reducible refine wpAny_isSubtype_exc hC₁ ?_; rw [hcC]) | wp_step)
  show wpAny _ _ (typeLookup (.ref C) _) _ _ _
  refine i1.at ?_
  refine wpAny_holding (wpAny_bind (b1.at ?_))
  refine wpAny_bind (wpAny_call (codeAny_mono hq fun r s' z => ?_))
  rcases r with e | (v | _ | _ | _) <;> first | exact z | exact z.elim | skip
  obtain ⟨rfl, z⟩ := z
  first
    | exact wpAny_pure (wpAny_pure z)
    | (wp_walk; exact z)
theorem call_ownK (F : ExcBaseFacts B newId initId bmB) (hT : ∀ X : String, bm.contains (.type X) = bmB.contains (.type X)) {kw : List (Str × Value)} {fI : Addr}
    (hC : h.get? C = some (excClassObj nm q C N bs bm hdct sn sub ab col dd k0 k1 k2 k3 k5 newId))
    (hi : W.Looks (model prog w) h (typeLookup (.ref C) "__init__") (some (.ref fI))) (hb : ∀ self, W.Looks (model prog w) h (bindSpecial (.ref fI) self) (.ref fI, [self]))
    (hq : codeAny (model prog w) (A.under (.builtin "type.__call__" ⟨[.ref C], kw⟩)) (.call (.ref fI) ⟨[.ref (h.objs.size + 1)], kw⟩) (W.InitBack (h.objs.size + 1) R)
      ⟨(h.push (W.kdv_tup [])).push (excO C h.objs.size), g, d, t, os⟩) :
    codeAny (model prog w) A (.call (.ref C) ⟨[], kw⟩) R ⟨h, g, d, t, os⟩ := by
  have f1 := tc_lookup
  have f2 := tc_bind (.ref C)
  have hTy : (⟨h, g, d, t, os⟩ : Shared).TypeIs (.ref C) "type" := ⟨_, hC, rfl⟩
  refine codeAny_of_tree ?_
  show wpAny _ _ (callAny (.ref C) _) _ _ _
  repeat (any_goals (first | assumption | with_reducible refine wpAny_loadPart_at hC ?_ | wp_step))
  refine ⟨rfl, ?_⟩
  refine codeAny_call_builtin_at (Code.quiet_builtin _ (by decide +kernel)) entry_typeCall (wpAny_check_type_call_sub hC (type_call_ownK F hT hC hi hb ?_))
  refine codeAny_mono hq fun r s' z => ?_
  rcases r with e | (v | _ | _ | _) <;> exact z
end
end PySem.OEXK
namespace Pg
open PySem PySem.Spec PyProof.Rows L2
section
variable {X : Cx} {x n : Str} {C : Addr} {p p1 p2 pos : Pos}
/-- C(k = v, ..) as a value -/
theorem pe_oexEK {fI : Addr} {k : Nat} {fd : FuncData} {ps ks : List Str} {sp : Sp} {kws : List Keyword} {tk : TA} (T : OexI X.K C fI)
    (F1 : FnOk X.prog X.w X.K X.mg X.base CX0 k fI fd ps sp) (hr : Room (k + 1) X.A) (hb : ∀ (s : Shared) (self : Value) (us : List Value), (self :: us).length = ps.length → BindsTo s fd ⟨[self], ks.zip us⟩ (ps.zip (self :: us)))
    (hg : Gl X x) (hm : X.mg x = some (.ref C)) (hkw : PK X kws tk) (hall : (backToKw pos (keywordEach kws X.env)).all (·.1.isSome) = true := by rfl) (hks : (backToKw pos (keywordEach kws X.env)).filterMap (·.1) = ks := by rfl)
    (hdb : (x == ("__debug__" : Str)) = false := by decide) (hpl : ((backTo pos (starEach [] X.env)).any (·.1) || (backToKw pos (keywordEach kws X.env)).any (·.1.isNone)) = false := by rfl) :
    PE X (.Call (.Name x p) [] kws pos) (tMkE C sp tk) := by
  refine ⟨fun pins s σ H Q I h => ?_⟩
  obtain ⟨nm, q, N, bs, bm, sn, sub, ab, col, dd, k0, k1, k2, k3, k5, hC, hbm⟩ := T.t.cls
  refine wpAny_Call_Name_kw (ld_glob I hg hm ?_ hdb)
  refine PySem.W.callWith_KW0 (h₀ := X.base) I.ok.mod.kin T.t.kC hall ?_ hpl
  refine thn (hkw.run pos pins s σ H _ I h) fun us s1 ⟨vs, H1, I1, r1, hz, q1⟩ => ⟨I1.kIn, ?_⟩
  rw [hks]
  show wpAny _ _ (call (.ref C) [] (ks.zip us)) _ _ _
  obtain ⟨hp, g, dr, tk, os⟩ := s1
  have hsz : hp.objs.size ≤ hp.objs.size + 1 := Nat.le_succ _
  have hn : H1 (hp.objs.size + 1) = none := I1.hok.fresh hsz
  have hq := q1 (hp.objs.size + 1) hn
  have kk : ∀ b o, hp.get? b = some o → ((hp.push (PySem.W.kdv_tup [])).push (PySem.HandSPX.excO C hp.objs.size)).get? b = some o := fun b o e => Heap.get?_push_of_some _ (Heap.get?_push_of_some _ e)
  have hget : ((hp.push (PySem.W.kdv_tup [])).push (PySem.HandSPX.excO C hp.objs.size)).get? (hp.objs.size + 1) = some (PySem.HandSPX.excO C hp.objs.size) := by heap_get
  have I2 : Inv X pins σ (upd H1 (hp.objs.size + 1) (exo (hp.objs.size + 1) C none)) ⟨(hp.push (PySem.W.kdv_tup [])).push (PySem.HandSPX.excO C hp.objs.size), g, dr, tk, os⟩ :=
    I1.laid (t' := tk) (a := hp.objs.size + 1) (o := exo (hp.objs.size + 1) C none) (h' := (hp.push (PySem.W.kdv_tup [])).push (PySem.HandSPX.excO C hp.objs.size)) kk hsz (exo_ok hget)
  have r2 : Vals (V.ref (hp.objs.size + 1) :: vs) (Value.ref (hp.objs.size + 1) :: us) := .cons rfl r1
  have hl : (Value.ref (hp.objs.size + 1) :: us).length = ps.length := by
    have e := r2.length
    rw [F1.len _ _ _ _ hq] at e
    exact e.symm
  have bt := hb ⟨(hp.push (PySem.W.kdv_tup [])).push (PySem.HandSPX.excO C hp.objs.size), g, dr, tk, os⟩ (Value.ref (hp.objs.size + 1)) us hl
  refine wpAny_call (PySem.OEXK.call_ownK F.excBase_ValueError (fun Y => PySem.HandSPX.refsVE_contains Y bm hbm) (I1.kIn _ _ hC) (PySem.W.looks_findIn I1.kIn T.i) (fun self => PySem.W.bind_fn I1.kIn self T.f)
    (codeAny_mono (F1.run _ X.stack _ _ ⟨[Value.ref (hp.objs.size + 1)], ks.zip us⟩ (Value.ref (hp.objs.size + 1) :: us) _ _ E0 (hr.make C [] (ks.zip us)) (I2.env0.make C [] (ks.zip us)) bt r2 hq) fun r s' hq' => ?_))
  cases r with
  | error er => exact False.elim hq'
  | ok fl =>
    cases fl with
    | ret u =>
      obtain ⟨v, H2, J, rv, ev, q2⟩ := I2.after hq'
      subst ev
      have J0 : Inv X pins σ H2 s' := J
      exact ⟨rv, .ref _, H2, J0, rfl, q2⟩
    | next => exact False.elim hq'
    | brk => exact False.elim hq'
    | cont => exact False.elim hq'
end
end Pg
namespace Pg
open PySem PySem.Spec PyProof.Rows L2
/-- len(set(xs)), xs texts -/
def tLenST (K : PySem.W.Frag) (te : TE) : TE := fun σ H Q => te σ H fun v H1 => ∃ (a : Addr) (ls : List Str), v = .ref a ∧ SqL K H1 a (ls.map V.str) ∧ ls.length < 4000 ∧ Q (.int ((onceL [] ls).length : Int)) H1
theorem pe_lenSetT {X : Cx} {e : Expr} {te : TE} {p p2 pos pos2 : Pos} (hh : X.A.handled = none) (g1 : Gl X "len") (m1 : X.mg "len" = none) (g2 : Gl X "set") (m2 : X.mg "set" = none) (he : PE X e te)
    (hs : starEach [e] X.env = (false, eval e X.env) :: starEach [] X.env := by rfl)
    (hs2 : starEach [Expr.Call (.Name "set" p2) [e] [] pos2] X.env = (false, eval (Expr.Call (.Name "set" p2) [e] [] pos2) X.env) :: starEach [] X.env := by rfl) :
    PE X (.Call (.Name "len" p) [.Call (.Name "set" p2) [e] [] pos2] [] pos) (tLenST X.K te) := by
  refine ⟨fun pins s σ H Q I h => ?_⟩
  refine wpAny_Call_Name_kw (ld_blt I g1 m1 (by rfl) ?_ (by decide) (by decide))
  refine PyProof.Rows.callWith_builtin1 ?_ hs2 (by rfl)
  rw [hs2]
  show wpAny _ _ (spliced ((false, eval (Expr.Call (.Name "set" p2) [e] [] pos2) X.env) :: backTo pos (starEach [] X.env))) _ _ s
  refine Calls.spliced_cons ?_
  refine wpAny_Call_Name_kw (ld_blt I g2 m2 (by rfl) ?_ (by decide) (by decide))
  refine PyProof.Rows.callWith_type1 ?_ hs (by rfl)
  rw [hs]
  show wpAny _ _ (spliced ((false, eval e X.env) :: backTo pos2 (starEach [] X.env))) _ _ s
  refine Calls.spliced_cons (thn (he.run pins s σ H _ I h) fun u s1 ⟨v, H1, I1, r1, q1⟩ => Calls.spliced_nil ?_)
  obtain ⟨a, ls, rfl, hl, few, q⟩ := q1
  obtain rfl : u = .ref a := r1
  obtain ⟨its, rv, pl, _⟩ := I1.list hl
  have st : StrsAre its.toArray.toList ls := rv.strs
  refine call_set_txt hh pl.isList st (Nat.lt_of_lt_of_le (Nat.succ_lt_succ few) (by decide)) fun h' tk S k => ?_
  refine Calls.spliced_nil ?_
  have few2 : (onceL [] ls).length < 4000 := by
    have := once_len ls []
    simp at this
    omega
  obtain ⟨D, at_, ok⟩ := S
  have I2 : Inv X pins σ H1 { s1 with heap := h', toks := tk } := I1.kept fun b o e => k b o e
  have ok := ok.1
  have hz := ok.sz
  refine call_len_set at_ ⟨rfl, rfl, rfl⟩ rfl (by have := ok.fit; exact this) (by rw [hz]; omega) ⟨.int _, H1, I2.tok _, ⟨_, by rw [hz]⟩, q⟩
/-- an own error whose __init__ is a def: what it keeps -/
structure Ini (P : Program) (w : World) (K : PySem.W.Frag) (mg : Str → Option Value) (base : Heap) (k : Nat) (x : Str) (C : Addr) (ps : List Str) (sp : Sp) : Prop where
  g : mg x = some (.ref C)
  ex : ∃ f fd, OexI K C f ∧ FnOk P w K mg base CX0 k f fd ps sp ∧ Binds K fd ps [] ∧ ∀ (s : Shared) (self : Value) (us : List Value), (self :: us).length = ps.length → BindsTo s fd ⟨[self], (ps.drop 1).zip us⟩ (ps.zip (self :: us))
section
variable {X : Cx} {x : Str} {C : Addr} {p pos pos2 : Pos} {e : Expr} {es : List Expr} {ta : TA} {j k : Nat} {ps ks : List Str} {sp : Sp} {W : WX}
theorem pe_ini (c : Ini X.prog X.w X.K X.mg X.base k x C ps sp) (hr : Room j X.A) (hk : k + 1 ≤ j) (ha : PA X (e :: es) ta) (hg : Gl X x := by rfl)
    (hdb : (x == ("__debug__" : Str)) = false := by decide) (he : starEach (e :: es) X.env = (false, eval e X.env) :: starEach es X.env := by rfl) (hpl : (backTo pos (starEach es X.env)).any (·.1) = false := by rfl) :
    PE X (.Call (.Name x p) (e :: es) [] pos) (tMkE C sp ta) := by
  obtain ⟨f, fd, T, F, b, _⟩ := c.ex
  exact pe_oexE T F (hr.mono hk) b hg c.g ha hdb he hpl
theorem pe_iniK {kws : List Keyword} (c : Ini X.prog X.w X.K X.mg X.base k x C ps sp) (hr : Room j X.A) (hk : k + 1 ≤ j) (hkw : PK X kws ta) (hps : ps.drop 1 = ks := by rfl) (hg : Gl X x := by rfl) (hall : (backToKw pos (keywordEach kws X.env)).all (·.1.isSome) = true := by rfl)
    (hks : (backToKw pos (keywordEach kws X.env)).filterMap (·.1) = ks := by rfl) (hdb : (x == ("__debug__" : Str)) = false := by decide) (hpl : ((backTo pos (starEach [] X.env)).any (·.1) || (backToKw pos (keywordEach kws X.env)).any (·.1.isNone)) = false := by rfl) :
    PE X (.Call (.Name x p) [] kws pos) (tMkE C sp ta) := by
  obtain ⟨f, fd, T, F, _, b⟩ := c.ex
  subst hps
  exact pe_oexEK T F (hr.mono hk) b hg c.g hkw hall hks hdb hpl
/-- raise C(e, ..) -/
theorem ps_raiseI (hc : X.calm = true) (tk : Takes X W) (c : Ini X.prog X.w X.K X.mg X.base k x C ps sp) (hr : Room j X.A) (hk : k + 1 ≤ j) (ha : PA X (e :: es) ta) (hg : Gl X x := by rfl)
    (hdb : (x == ("__debug__" : Str)) = false := by decide) (he : starEach (e :: es) X.env = (false, eval e X.env) :: starEach es X.env := by rfl) (hpl : (backTo pos (starEach es X.env)).any (·.1) = false := by rfl) :
    PS X (.Raise (some (.Call (.Name x p) (e :: es) [] pos)) none pos2) (fun _ σ H => tMkO C sp [] ta σ H fun cls d H' => W cls d σ H') := by
  obtain ⟨f, fd, T, F, b, _⟩ := c.ex
  exact ps_raise hc tk (pmk_oex (CX := CX0) T.t T.i T.f F (hr.mono hk) b .nil pass0 hg c.g ha hdb he hpl)
end
end Pg
namespace Kq
open PySem PySem.Spec PyProof.Rows L2 Pg Pv
def topS (i : Nat) : Stmt := PySem.Challenge.pw_pageskips_k08_errors_of_spans.main.body.getD i (.Pass ⟨0, 0, 0, 0⟩)
structure Nm (mg : Str → Option Value) : Prop where
  n_int : mg "int" = none
  n_len : mg "len" = none
  n_max : mg "max" = none
  n_min : mg "min" = none
  n_range : mg "range" = none
  n_type : mg "type" = none
  n_tuple : mg "tuple" = none
  n_list : mg "list" = none
  n_str : mg "str" = none
  n_bool : mg "bool" = none
  n_all : mg "all" = none
  n_any : mg "any" = none
  n_zip : mg "zip" = none
  n_sorted : mg "sorted" = none
  n_set : mg "set" = none
  n_isinstance : mg "isinstance" = none
  n_ValueError : mg "ValueError" = none
  n_repr : mg "repr" = none
/-- a class of errors: raised, made, looked at -/
structure Cls (K : PySem.W.Frag) (mg : Str → Option Value) (x : Str) (C : Addr) : Prop where
  e : Err K mg x C
  ok : OkC K C
/-- the classes of errors -/
structure Er (K : PySem.W.Frag) (mg : Str → Option Value) where
  C_InvalidText : Addr
  g_InvalidText : mg "InvalidText" = some (.ref C_InvalidText)
  C_InvalidValue : Addr
  g_InvalidValue : mg "InvalidValue" = some (.ref C_InvalidValue)
  C_InvalidSpan : Addr
  g_InvalidSpan : mg "InvalidSpan" = some (.ref C_InvalidSpan)
  C_InvalidFilter : Addr
  g_InvalidFilter : mg "InvalidFilter" = some (.ref C_InvalidFilter)
  C_InvalidRule : Addr
  g_InvalidRule : mg "InvalidRule" = some (.ref C_InvalidRule)
  C_InvalidPage : Addr
  g_InvalidPage : mg "InvalidPage" = some (.ref C_InvalidPage)
  C_InvalidNote : Addr
  g_InvalidNote : mg "InvalidNote" = some (.ref C_InvalidNote)
  C_InvalidColumn : Addr
  g_InvalidColumn : mg "InvalidColumn" = some (.ref C_InvalidColumn)
  C_InvalidIndex : Addr
  g_InvalidIndex : mg "InvalidIndex" = some (.ref C_InvalidIndex)
  C_InvalidNumber : Addr
  g_InvalidNumber : mg "InvalidNumber" = some (.ref C_InvalidNumber)
  C_InvalidCode : Addr
  g_InvalidCode : mg "InvalidCode" = some (.ref C_InvalidCode)
  C_NoBlock : Addr
  g_NoBlock : mg "NoBlock" = some (.ref C_NoBlock)
  C_NothingToUndo : Addr
  g_NothingToUndo : mg "NothingToUndo" = some (.ref C_NothingToUndo)
  C_Full : Addr
  g_Full : mg "Full" = some (.ref C_Full)
  C_InvalidCommand : Addr
  g_InvalidCommand : mg "InvalidCommand" = some (.ref C_InvalidCommand)
  C_InvalidWords : Addr
  g_InvalidWords : mg "InvalidWords" = some (.ref C_InvalidWords)
  C_SkipError : Addr
  g_SkipError : mg "SkipError" = some (.ref C_SkipError)
  cl_InvalidText : Cls K mg "InvalidText" C_InvalidText
  cl_InvalidValue : Cls K mg "InvalidValue" C_InvalidValue
  cl_InvalidSpan : Cls K mg "InvalidSpan" C_InvalidSpan
  cl_InvalidFilter : Cls K mg "InvalidFilter" C_InvalidFilter
  cl_InvalidRule : Cls K mg "InvalidRule" C_InvalidRule
  cl_InvalidPage : Cls K mg "InvalidPage" C_InvalidPage
  cl_InvalidNote : Cls K mg "InvalidNote" C_InvalidNote
  cl_InvalidColumn : Cls K mg "InvalidColumn" C_InvalidColumn
  cl_InvalidIndex : Cls K mg "InvalidIndex" C_InvalidIndex
  cl_InvalidNumber : Cls K mg "InvalidNumber" C_InvalidNumber
  cl_InvalidCode : Cls K mg "InvalidCode" C_InvalidCode
  cl_NoBlock : Cls K mg "NoBlock" C_NoBlock
  cl_NothingToUndo : Cls K mg "NothingToUndo" C_NothingToUndo
  cl_Full : Cls K mg "Full" C_Full
  cl_InvalidCommand : Cls K mg "InvalidCommand" C_InvalidCommand
  m_InvalidText : PySem.W.exmOne K (.ref C_InvalidText) (.ref C_SkipError) = some true
  m_InvalidSpan : PySem.W.exmOne K (.ref C_InvalidSpan) (.ref C_SkipError) = some true
  m_InvalidNumber : PySem.W.exmOne K (.ref C_InvalidNumber) (.ref C_SkipError) = some true
theorem Er.x_InvalidText {K : PySem.W.Frag} {mg : Str → Option Value} (TX : Er K mg) : PySem.W.excIn K TX.C_InvalidText [.type "ValueError", .type "Exception", .type "BaseException", .type "object"] "ValueError.__new__" = true := TX.cl_InvalidText.e.x
theorem Er.k_InvalidText {K : PySem.W.Frag} {mg : Str → Option Value} (TX : Er K mg) : PySem.W.keepIn K (.ref TX.C_InvalidText) = true := TX.cl_InvalidText.e.k
theorem Er.e_InvalidText {K : PySem.W.Frag} {mg : Str → Option Value} (TX : Er K mg) : Err K mg "InvalidText" TX.C_InvalidText := TX.cl_InvalidText.e
theorem Er.x_InvalidValue {K : PySem.W.Frag} {mg : Str → Option Value} (TX : Er K mg) : PySem.W.excIn K TX.C_InvalidValue [.type "ValueError", .type "Exception", .type "BaseException", .type "object"] "ValueError.__new__" = true := TX.cl_InvalidValue.e.x
theorem Er.k_InvalidValue {K : PySem.W.Frag} {mg : Str → Option Value} (TX : Er K mg) : PySem.W.keepIn K (.ref TX.C_InvalidValue) = true := TX.cl_InvalidValue.e.k
theorem Er.e_InvalidValue {K : PySem.W.Frag} {mg : Str → Option Value} (TX : Er K mg) : Err K mg "InvalidValue" TX.C_InvalidValue := TX.cl_InvalidValue.e
theorem Er.x_InvalidSpan {K : PySem.W.Frag} {mg : Str → Option Value} (TX : Er K mg) : PySem.W.excIn K TX.C_InvalidSpan [.type "ValueError", .type "Exception", .type "BaseException", .type "object"] "ValueError.__new__" = true := TX.cl_InvalidSpan.e.x
theorem Er.k_InvalidSpan {K : PySem.W.Frag} {mg : Str → Option Value} (TX : Er K mg) : PySem.W.keepIn K (.ref TX.C_InvalidSpan) = true := TX.cl_InvalidSpan.e.k
theorem Er.e_InvalidSpan {K : PySem.W.Frag} {mg : Str → Option Value} (TX : Er K mg) : Err K mg "InvalidSpan" TX.C_InvalidSpan := TX.cl_InvalidSpan.e
theorem Er.x_InvalidFilter {K : PySem.W.Frag} {mg : Str → Option Value} (TX : Er K mg) : PySem.W.excIn K TX.C_InvalidFilter [.type "ValueError", .type "Exception", .type "BaseException", .type "object"] "ValueError.__new__" = true := TX.cl_InvalidFilter.e.x
theorem Er.k_InvalidFilter {K : PySem.W.Frag} {mg : Str → Option Value} (TX : Er K mg) : PySem.W.keepIn K (.ref TX.C_InvalidFilter) = true := TX.cl_InvalidFilter.e.k
theorem Er.e_InvalidFilter {K : PySem.W.Frag} {mg : Str → Option Value} (TX : Er K mg) : Err K mg "InvalidFilter" TX.C_InvalidFilter := TX.cl_InvalidFilter.e
theorem Er.x_InvalidRule {K : PySem.W.Frag} {mg : Str → Option Value} (TX : Er K mg) : PySem.W.excIn K TX.C_InvalidRule [.type "ValueError", .type "Exception", .type "BaseException", .type "object"] "ValueError.__new__" = true := TX.cl_InvalidRule.e.x
theorem Er.k_InvalidRule {K : PySem.W.Frag} {mg : Str → Option Value} (TX : Er K mg) : PySem.W.keepIn K (.ref TX.C_InvalidRule) = true := TX.cl_InvalidRule.e.k
theorem Er.e_InvalidRule {K : PySem.W.Frag} {mg : Str → Option Value} (TX : Er K mg) : Err K mg "InvalidRule" TX.C_InvalidRule := TX.cl_InvalidRule.e
theorem Er.x_InvalidPage {K : PySem.W.Frag} {mg : Str → Option Value} (TX : Er K mg) : PySem.W.excIn K TX.C_InvalidPage [.type "ValueError", .type "Exception", .type "BaseException", .type "object"] "ValueError.__new__" = true := TX.cl_InvalidPage.e.x
theorem Er.k_InvalidPage {K : PySem.W.Frag} {mg : Str → Option Value} (TX : Er K mg) : PySem.W.keepIn K (.ref TX.C_InvalidPage) = true := TX.cl_InvalidPage.e.k
theorem Er.e_InvalidPage {K : PySem.W.Frag} {mg : Str → Option Value} (TX : Er K mg) : Err K mg "InvalidPage" TX.C_InvalidPage := TX.cl_InvalidPage.e
theorem Er.x_InvalidNote {K : PySem.W.Frag} {mg : Str → Option Value} (TX : Er K mg) : PySem.W.excIn K TX.C_InvalidNote [.type "ValueError", .type "Exception", .type "BaseException", .type "object"] "ValueError.__new__" = true := TX.cl_InvalidNote.e.x
theorem Er.k_InvalidNote {K : PySem.W.Frag} {mg : Str → Option Value} (TX : Er K mg) : PySem.W.keepIn K (.ref TX.C_InvalidNote) = true := TX.cl_InvalidNote.e.k
theorem Er.e_InvalidNote {K : PySem.W.Frag} {mg : Str → Option Value} (TX : Er K mg) : Err K mg "InvalidNote" TX.C_InvalidNote := TX.cl_InvalidNote.e
theorem Er.x_InvalidColumn {K : PySem.W.Frag} {mg : Str → Option Value} (TX : Er K mg) : PySem.W.excIn K TX.C_InvalidColumn [.type "ValueError", .type "Exception", .type "BaseException", .type "object"] "ValueError.__new__" = true := TX.cl_InvalidColumn.e.x
theorem Er.k_InvalidColumn {K : PySem.W.Frag} {mg : Str → Option Value} (TX : Er K mg) : PySem.W.keepIn K (.ref TX.C_InvalidColumn) = true := TX.cl_InvalidColumn.e.k
theorem Er.e_InvalidColumn {K : PySem.W.Frag} {mg : Str → Option Value} (TX : Er K mg) : Err K mg "InvalidColumn" TX.C_InvalidColumn := TX.cl_InvalidColumn.e
theorem Er.x_InvalidIndex {K : PySem.W.Frag} {mg : Str → Option Value} (TX : Er K mg) : PySem.W.excIn K TX.C_InvalidIndex [.type "ValueError", .type "Exception", .type "BaseException", .type "object"] "ValueError.__new__" = true := TX.cl_InvalidIndex.e.x
theorem Er.k_InvalidIndex {K : PySem.W.Frag} {mg : Str → Option Value} (TX : Er K mg) : PySem.W.keepIn K (.ref TX.C_InvalidIndex) = true := TX.cl_InvalidIndex.e.k
theorem Er.e_InvalidIndex {K : PySem.W.Frag} {mg : Str → Option Value} (TX : Er K mg) : Err K mg "InvalidIndex" TX.C_InvalidIndex := TX.cl_InvalidIndex.e
theorem Er.x_InvalidNumber {K : PySem.W.Frag} {mg : Str → Option Value} (TX : Er K mg) : PySem.W.excIn K TX.C_InvalidNumber [.type "ValueError", .type "Exception", .type "BaseException", .type "object"] "ValueError.__new__" = true := TX.cl_InvalidNumber.e.x
theorem Er.k_InvalidNumber {K : PySem.W.Frag} {mg : Str → Option Value} (TX : Er K mg) : PySem.W.keepIn K (.ref TX.C_InvalidNumber) = true := TX.cl_InvalidNumber.e.k
theorem Er.e_InvalidNumber {K : PySem.W.Frag} {mg : Str → Option Value} (TX : Er K mg) : Err K mg "InvalidNumber" TX.C_InvalidNumber := TX.cl_InvalidNumber.e
theorem Er.x_InvalidCode {K : PySem.W.Frag} {mg : Str → Option Value} (TX : Er K mg) : PySem.W.excIn K TX.C_InvalidCode [.type "ValueError", .type "Exception", .type "BaseException", .type "object"] "ValueError.__new__" = true := TX.cl_InvalidCode.e.x
theorem Er.k_InvalidCode {K : PySem.W.Frag} {mg : Str → Option Value} (TX : Er K mg) : PySem.W.keepIn K (.ref TX.C_InvalidCode) = true := TX.cl_InvalidCode.e.k
theorem Er.e_InvalidCode {K : PySem.W.Frag} {mg : Str → Option Value} (TX : Er K mg) : Err K mg "InvalidCode" TX.C_InvalidCode := TX.cl_InvalidCode.e
theorem Er.x_NoBlock {K : PySem.W.Frag} {mg : Str → Option Value} (TX : Er K mg) : PySem.W.excIn K TX.C_NoBlock [.type "ValueError", .type "Exception", .type "BaseException", .type "object"] "ValueError.__new__" = true := TX.cl_NoBlock.e.x
theorem Er.k_NoBlock {K : PySem.W.Frag} {mg : Str → Option Value} (TX : Er K mg) : PySem.W.keepIn K (.ref TX.C_NoBlock) = true := TX.cl_NoBlock.e.k
theorem Er.e_NoBlock {K : PySem.W.Frag} {mg : Str → Option Value} (TX : Er K mg) : Err K mg "NoBlock" TX.C_NoBlock := TX.cl_NoBlock.e
theorem Er.x_NothingToUndo {K : PySem.W.Frag} {mg : Str → Option Value} (TX : Er K mg) : PySem.W.excIn K TX.C_NothingToUndo [.type "ValueError", .type "Exception", .type "BaseException", .type "object"] "ValueError.__new__" = true := TX.cl_NothingToUndo.e.x
theorem Er.k_NothingToUndo {K : PySem.W.Frag} {mg : Str → Option Value} (TX : Er K mg) : PySem.W.keepIn K (.ref TX.C_NothingToUndo) = true := TX.cl_NothingToUndo.e.k
theorem Er.e_NothingToUndo {K : PySem.W.Frag} {mg : Str → Option Value} (TX : Er K mg) : Err K mg "NothingToUndo" TX.C_NothingToUndo := TX.cl_NothingToUndo.e
theorem Er.x_Full {K : PySem.W.Frag} {mg : Str → Option Value} (TX : Er K mg) : PySem.W.excIn K TX.C_Full [.type "ValueError", .type "Exception", .type "BaseException", .type "object"] "ValueError.__new__" = true := TX.cl_Full.e.x
theorem Er.k_Full {K : PySem.W.Frag} {mg : Str → Option Value} (TX : Er K mg) : PySem.W.keepIn K (.ref TX.C_Full) = true := TX.cl_Full.e.k
theorem Er.e_Full {K : PySem.W.Frag} {mg : Str → Option Value} (TX : Er K mg) : Err K mg "Full" TX.C_Full := TX.cl_Full.e
theorem Er.x_InvalidCommand {K : PySem.W.Frag} {mg : Str → Option Value} (TX : Er K mg) : PySem.W.excIn K TX.C_InvalidCommand [.type "ValueError", .type "Exception", .type "BaseException", .type "object"] "ValueError.__new__" = true := TX.cl_InvalidCommand.e.x
theorem Er.k_InvalidCommand {K : PySem.W.Frag} {mg : Str → Option Value} (TX : Er K mg) : PySem.W.keepIn K (.ref TX.C_InvalidCommand) = true := TX.cl_InvalidCommand.e.k
theorem Er.e_InvalidCommand {K : PySem.W.Frag} {mg : Str → Option Value} (TX : Er K mg) : Err K mg "InvalidCommand" TX.C_InvalidCommand := TX.cl_InvalidCommand.e
section
variable {P : Program} {w : World} {K : PySem.W.Frag} {mg : Str → Option Value} {base : Heap}
abbrev s__law_bag : Stmt := topS 40
abbrev N__law_bag : List Str := ["cell"]
theorem sc__law_bag : FnScope ["cell"] ["cell"] (defScope s__law_bag) := ⟨rfl, rfl, rfl, by decide +kernel, rfl, by decide +kernel, by decide +kernel⟩

abbrev s__law_draw : Stmt := topS 41
abbrev N__law_draw : List Str := ["bag", "upto", "digit", "turn", "mixed"]
theorem sc__law_draw : FnScope ["bag", "upto", "digit", "turn", "mixed"] ["bag", "upto"] (defScope s__law_draw) := ⟨rfl, rfl, rfl, by decide +kernel, rfl, by decide +kernel, by decide +kernel⟩

/-! ### the bag, the draws -/
def spBag : Sp := fun vs H Q _ => ∃ c : Int, vs = [.int c] ∧ ∀ b H', H b = none → Stp [] H H' → Bag H' b 0 → Q (.ref b) H'
theorem cl__law_bag {f : Addr} {fd : FuncData} (D : Df K mg "_law_bag" s__law_bag ["cell"] f fd) (T : Nm mg) : Cl P w K mg base 1 "_law_bag" s__law_bag ["cell"] spBag := by
  refine D.cl sc__law_bag (fun vs H Q E h => ?_) (fun cdv A outer s H vs Q E hr h => ?_)
  · obtain ⟨c, rfl, _⟩ := h
    rfl
  · obtain ⟨c, rfl, k⟩ := h
    refine ⟨_, (pss_one (ps_ret (pe_lst (pa_cons (pe_callB (call_max2 rfl) (by rfl) T.n_max (by decide +kernel) (pa_cons pe_int (pa_cons (pe_op op_sub (pe_callTy call_int1 (by rfl) T.n_int (by decide +kernel) (pa_cons (pv 0) pa_nil)) (pe_op op_pow pe_int pe_int)) pa_nil))) (pa_cons (pe_op op_mod (pe_callTy call_int1 (by rfl) T.n_int (by decide +kernel) (pa_cons (pv 0) pa_nil)) pe_int) (pa_cons pe_int pa_nil)))))), ?_⟩
    refine ⟨_, rfl, .inl ⟨c, rfl, _, _, rfl, rfl, ⟨by decide, by decide, by decide⟩, _, _, rfl, rfl, _, _, rfl, ?_⟩⟩
    refine ⟨_, rfl, .inl ⟨c, rfl, _, _, rfl, rfl, (by show (0 : Int) < 999999999989; decide), (by show 3 ≤ sizeLine; decide), fun b nb => ?_⟩⟩
    refine k b _ nb (Stp.new nb _) ⟨_, _, _, upd_same, ?_⟩
    have m1 : 0 ≤ c % 999999999989 := Int.emod_nonneg _ (by decide)
    have m2 : c % 999999999989 < 999999999989 := Int.emod_lt_of_pos _ (by decide)
    refine ⟨?_, m1, by omega, by omega, by omega⟩
    split <;> omega
def spDraw : Sp := fun vs H Q _ => ∃ (b : Addr) (up : Int) (n : Nat), vs = [.ref b, .int up] ∧ Bag H b n ∧ n < 2 ^ 30 ∧ 0 < up ∧ up < 2 ^ 30 ∧
  ∀ d H', 0 ≤ d → d < up → Only b H H' → Bag H' b (n + 1) → Q (.int d) H'
theorem cl__law_draw {f : Addr} {fd : FuncData} (D : Df K mg "_law_draw" s__law_draw ["bag", "upto"] f fd) (T : Nm mg) : Cl P w K mg base 1 "_law_draw" s__law_draw ["bag", "upto"] spDraw := by
  refine D.cl sc__law_draw (fun vs H Q E h => ?_) (fun cdv A outer s H vs Q E hr h => ?_)
  · obtain ⟨b, up, n, rfl, _⟩ := h
    rfl
  · obtain ⟨b, up, n, rfl, ⟨x, y, z, hb, x0, y0, y1, z0, z1⟩, hn, u0, u1, k⟩ := h
    refine ⟨_, (pss_cons (ps_if (pt_cmpR op_gt (pe_ix ix_list (pv 0) pe_int (fun _ _ => rfl)) pe_int (by first | exact nomark _ | rfl)) (pss_cons (ps_set (i := 2) sc__law_draw.nd rfl (by first | exact Or.inl rfl | exact Or.inr rfl) (pe_op op_mod (pe_callTy call_int1 (by rfl) T.n_int (by decide +kernel) (pa_cons (pe_ix ix_list (pv 0) pe_int (fun _ _ => rfl)) pa_nil)) (pv 1)))
      (pss_cons (ps_asg (pe_op op_fdivW (pe_ix ix_list (pv 0) pe_int (fun _ _ => rfl)) (pv 1)) (pg_sub (pv 0) pe_int set_list))
      (pss_one (ps_ret (pv 2))))) pss_nil)
      (pss_cons (ps_set (i := 3) sc__law_draw.nd rfl (by first | exact Or.inl rfl | exact Or.inr rfl) (pe_op op_add (pe_ix ix_list (pv 0) pe_int (fun _ _ => rfl)) pe_int))
      (pss_cons (ps_asg (pv 3) (pg_sub (pv 0) pe_int set_list))
      (pss_cons (ps_set (i := 4) sc__law_draw.nd rfl (by first | exact Or.inl rfl | exact Or.inr rfl) (pe_op op_add (pe_op op_mulW (pe_op op_add (pe_ix ix_list (pv 0) pe_int (fun _ _ => rfl)) pe_int) (pe_op op_add (pe_op op_add (pe_op op_mulW (pv 3) (pv 3)) (pe_op op_mulW pe_int (pv 3))) pe_int)) (pe_op op_mulW pe_int (pv 3))))
      (pss_cons (ps_set (i := 4) sc__law_draw.nd rfl (by first | exact Or.inl rfl | exact Or.inr rfl) (pe_op op_fdivW (pe_op op_mod (pe_callTy call_int1 (by rfl) T.n_int (by decide +kernel) (pa_cons (pe_op op_add (pe_op op_add (pe_op op_mulW (pv 4) (pv 4)) (pe_op op_mulW pe_int (pv 4))) (pv 3)) pa_nil)) pe_int) pe_int))
      (pss_one (ps_ret (pe_op op_mod (pe_op op_fdivW (pe_op op_mod (pe_callTy call_int1 (by rfl) T.n_int (by decide +kernel) (pa_cons (pe_op op_add (pe_op op_add (pe_op op_mulW (pv 4) (pv 4)) (pe_op op_mulW pe_int (pv 4))) (pv 3)) pa_nil)) pe_int) pe_int) (pv 1))))))))), ?_⟩
    refine ⟨_, rfl, b, _, 0, .int x, rfl, rfl, SqL.of hb, rfl, _, _, rfl, rfl, _, rfl, ite2 (fun hx => ?_) (fun hx => ?_)⟩
    · refine ⟨_, rfl, b, _, 0, .int x, rfl, rfl, SqL.of hb, rfl, .inl ⟨x, rfl, _, rfl, _, _, rfl, rfl, u0, ?_⟩⟩
      refine ⟨_, rfl, b, _, 0, .int x, rfl, rfl, SqL.of hb, rfl, _, rfl, _, _, rfl, rfl, cdiv 30 u0 u1 (by decide) (by decide), ?_⟩
      refine ⟨_, rfl, b, _, 0, 0, rfl, rfl, hb, rfl, ?_⟩
      refine ⟨_, rfl, k _ _ (Int.emod_nonneg _ (by omega)) (Int.emod_lt_of_pos _ u0) ⟨_, rfl⟩ ⟨_, _, _, upd_same, ?_⟩⟩
      exact ⟨Int.ediv_nonneg x0 (by omega), y0, y1, z0, by omega⟩
    · refine ⟨_, rfl, b, _, 2, .int z, rfl, rfl, SqL.of hb, rfl, _, _, rfl, rfl, ?_⟩
      obtain ⟨t, et⟩ : ∃ t, t = z + 1 := ⟨_, rfl⟩
      dsimp only
      rw [← et]
      have t0 : 0 ≤ t := by omega
      have t1 : t < 2 ^ 31 := by omega
      refine ⟨_, rfl, _, rfl, b, _, 2, 2, rfl, rfl, hb, rfl, ?_⟩
      have a1 := mul_lt (a := 31) (b := 31) t0 t1 t0 t1
      have a2 := mul_lt (i := 1009) (a := 10) (b := 31) (by decide) (by decide) t0 t1
      have a3 := mul_lt (i := y + 5) (j := t * t + 1009 * t + 61) (a := 41) (b := 63) (by omega) (by omega) (by omega) (by omega)
      have a4 := mul_lt (i := 9176) (a := 14) (b := 31) (by decide) (by decide) t0 t1
      refine ⟨_, rfl, b, _, 1, .int y, rfl, rfl, SqL.of upd_same, rfl, _, _, rfl, rfl,
        _, rfl, _, rfl, _, _, rfl, rfl, cmul 31 31 t0 t1 t0 t1 (by decide) (by decide) (by decide),
        _, rfl, _, _, rfl, rfl, cmul 10 31 (by decide) (by decide) t0 t1 (by decide) (by decide) (by decide), _, _, rfl, rfl, _, _, rfl, rfl,
        _, _, rfl, rfl, cmul 41 63 (by omega) (by omega) (by omega) (by omega) (by decide) (by decide) (by decide),
        _, rfl, _, _, rfl, rfl, cmul 14 31 (by decide) (by decide) t0 t1 (by decide) (by decide) (by decide), _, _, rfl, rfl, ?_⟩
      obtain ⟨m, em⟩ : ∃ m, m = (y + 5) * (t * t + 1009 * t + 61) + 9176 * t := ⟨_, rfl⟩
      dsimp only
      rw [← em]
      have m0 : 0 ≤ m := by omega
      have m1 : m < 2 ^ 105 := by omega
      refine ⟨_, rfl, _, rfl, _, _, rfl, rfl, cmul 105 105 m0 m1 m0 m1 (by decide) (by decide) (by decide),
        _, rfl, _, _, rfl, rfl, cmul 20 105 (by decide) (by decide) m0 m1 (by decide) (by decide) (by decide), _, _, rfl, rfl,
        _, rfl, _, _, rfl, rfl, .inl ⟨_, rfl, _, _, rfl, rfl, (by show (0 : Int) < 1000000000039; decide), _, _, rfl, rfl, cdiv 8 (by decide) (by decide) (by decide) (by decide), ?_⟩⟩
      obtain ⟨v, ev⟩ : ∃ v, v = (m * m + 524287 * m + t) % 1000000000039 / 131 := ⟨_, rfl⟩
      dsimp only
      rw [← ev]
      have w0 : 0 ≤ (m * m + 524287 * m + t) % 1000000000039 := Int.emod_nonneg _ (by decide)
      have w1 : (m * m + 524287 * m + t) % 1000000000039 < 1000000000039 := Int.emod_lt_of_pos _ (by decide)
      have v0 : 0 ≤ v := by omega
      have v1 : v < 2 ^ 40 := by omega
      refine ⟨_, rfl, _, rfl, _, _, rfl, rfl, cmul 40 40 v0 v1 v0 v1 (by decide) (by decide) (by decide),
        _, rfl, _, _, rfl, rfl, cmul 13 40 (by decide) (by decide) v0 v1 (by decide) (by decide) (by decide), _, _, rfl, rfl,
        _, rfl, _, _, rfl, rfl, .inl ⟨_, rfl, _, _, rfl, rfl, (by show (0 : Int) < 2147483587; decide), _, _, rfl, rfl, cdiv 5 (by decide) (by decide) (by decide) (by decide), _, rfl, _, _, rfl, rfl, u0, ?_⟩⟩
      exact k _ _ (Int.emod_nonneg _ (by omega)) (Int.emod_lt_of_pos _ u0) ⟨_, rfl⟩ ⟨_, _, _, upd_same, x0, y0, y1, by omega, by omega⟩
abbrev s__law_text : Stmt := topS 42
abbrev N__law_text : List Str := ["bag", "size", "k"]
theorem sc__law_text : FnScope ["bag", "size", "k"] ["bag"] (defScope s__law_text) := ⟨rfl, rfl, rfl, by decide +kernel, rfl, by decide +kernel, by decide +kernel⟩

/-! ### drawn texts -/
def spText : Sp := fun vs H Q _ => ∃ (b : Addr) (n : Nat), vs = [.ref b] ∧ Bag H b n ∧ n + 20 < 2 ^ 30 ∧ ∀ l H', Abc l → l.length ≤ 12 → Stp [b] H H' → Bag H' b (n + 14) → Q (Tx l) H'
theorem cl__law_text {f : Addr} {fd : FuncData} (D : Df K mg "_law_text" s__law_text ["bag"] f fd) (T : Nm mg) (c__law_draw : Cl P w K mg base 1 "_law_draw" s__law_draw ["bag", "upto"] spDraw) : Cl P w K mg base 2 "_law_text" s__law_text ["bag"] spText := by
  refine D.cl sc__law_text (fun vs H Q E h => ?_) (fun cdv A outer s H vs Q E hr h => ?_)
  · obtain ⟨b, n, rfl, _⟩ := h
    rfl
  · obtain ⟨b, n, rfl, B, hn, k⟩ := h
    refine ⟨_, (pss_cons (ps_set (i := 1) sc__law_text.nd rfl (by first | exact Or.inl rfl | exact Or.inr rfl) (pe_cl c__law_draw hr (by omega) (pa_cons (pv 0) (pa_cons (pe_ix ix_list (pe_lst (pa_cons pe_int (pa_cons pe_int (pa_cons pe_int (pa_cons pe_int pa_nil))))) (pe_cl c__law_draw hr (by omega) (pa_cons (pv 0) (pa_cons pe_int pa_nil))) (fun _ _ => rfl)) pa_nil))))
      (pss_one (ps_ret (pe_join pe_str (pe_lc (own := [("k", 2)]) rfl sc__law_text.nd (pi_range1 (by rfl) T.n_range (pa_cons (pv 1) pa_nil)) (blkOk_by (own := [("k", 2)]) (N := N__law_text) (sc := defScope s__law_text) (by decide +kernel)) (fun _ _ _ _ _ => (pg_name (i := 2) sc__law_text.nd rfl (by first | exact Or.inl rfl | exact Or.inr rfl))) (fun _ _ _ _ _ => pts_nil) (fun _ _ _ _ _ => (pe_ix ix_str pe_str (pe_cl c__law_draw hr (by omega) (pa_cons (pv 0) (pa_cons pe_int pa_nil))) (fun _ _ => rfl)))))))), ?_⟩
    refine ⟨_, rfl, (by show 4 ≤ sizeLine; decide), fun l nl => ?_⟩
    have S1 : Stp [b] H (upd H l (.lst [.int 3, .int 4, .int 6, .int 13])) := Stp.new nl _
    refine ⟨_, rfl, b, 4, n, rfl, B.upd (B.ne nl), by omega, by decide, by decide, fun d H2 d0 d1 o1 B1 => ?_⟩
    have S2 : Stp [b] H H2 := S1.trans (o1.stp (List.mem_singleton.mpr rfl))
    have hl : H2 l = some (.lst [.int 3, .int 4, .int 6, .int 13]) := o1.at upd_same (B.ne nl).symm
    obtain ⟨u, mu, eu⟩ := pick_int (ns := [3, 4, 6, 13]) d0 d1
    have u0 : 0 < u ∧ u ≤ 13 := by
      simp at mu
      omega
    refine ⟨l, _, d, .int u, rfl, rfl, SqL.of hl, eu, b, u, n + 1, rfl, B1, by omega, u0.1, by omega, fun z H3 z0 z1 o2 B2 => ?_⟩
    have S3 : Stp [b] H H3 := S2.trans (o2.stp (List.mem_singleton.mpr rfl))
    refine ⟨⟨_, rfl⟩, _, rfl, z, rfl, by omega, by omega, fun L nL => ?_⟩
    refine lc_range (lo := 0) (n := z.toNat) (fun i H4 => ∃ cs : List Nat, Abc cs ∧ cs.length = i ∧ H4 L = some (.lst (cs.map fun c => Tx [c])) ∧ Stp [b] H3 H4 ∧ Bag H4 b (n + 2 + i))
      ⟨[], Abc.nil, rfl, upd_same, Stp.new nL _, B2.upd (B2.ne nL)⟩ ?_ ?_
    · rintro i H4 hi ⟨cs, ha, hcl, hL, S4, B4⟩
      refine ⟨rfl, _, rfl, b, 3, _, rfl, B4, by omega, by decide, by decide, fun d H5 d0 d1 o3 B5 => ?_⟩
      obtain ⟨c, mc, ec⟩ := pick (xs := [97, 98, 99]) d0 d1
      have nLb : L ≠ b := (B2.ne nL).symm
      have hL5 : H5 L = some (.lst (cs.map fun c => Tx [c])) := o3.at hL nLb
      have S5 : Stp [b] H4 H5 := o3.stp (List.mem_singleton.mpr rfl)
      have hc : c = 97 ∨ c = 98 ∨ c = 99 := by
        simp at mc
        exact mc
      refine ⟨("abc" : Str), d, c, rfl, rfl, (by rw [abc_lit]; exact szt (by decide)), (by rw [abc_lit]; exact ec), cs.map fun c => Tx [c], hL5, ?_, ?_⟩
      · rw [List.length_map, hcl]
        exact Nat.lt_of_lt_of_le (show i < 100000 by omega) (by decide)
      · refine ⟨cs ++ [c], ha.app (Abc.one hc), by simp [hcl], ?_, ?_, ?_⟩
        · rw [List.map_append]
          exact upd_same
        · exact (S4.trans S5).mut nL
        · exact B5.upd nLb.symm
    · rintro H4 ⟨cs, ha, hcl, hL, S4, B4⟩
      refine ⟨_, L, cs.map (fun c => tx [c]), rfl, rfl, .inl (SqL.of (by rw [List.map_map]; exact hL)), ?_, ?_⟩
      · rw [List.map_map, nil_lit]
        have e : ∀ l : List Nat, (l.map ((fun x : Str => x.length) ∘ fun c => tx [c])).sum = l.length := by
          intro l
          induction l with
          | nil => rfl
          | cons x l ih =>
            rw [List.map_cons, List.sum_cons, ih, List.length_cons]
            show (tx [x]).length + l.length = l.length + 1
            rw [tx_len]
            simp
            omega
        rw [e, List.length_map, tx_len]
        simp
        omega
      · rw [nil_lit, join_abc]
        exact k _ _ ha (by omega) (S3.trans S4) (B4.mono (by omega))
abbrev s__law_near : Stmt := topS 43
abbrev N__law_near : List Str := ["bag", "word", "way", "sign"]
theorem sc__law_near : FnScope ["bag", "word", "way", "sign"] ["bag", "word"] (defScope s__law_near) := ⟨rfl, rfl, rfl, by decide +kernel, rfl, by decide +kernel, by decide +kernel⟩

abbrev s__law_some : Stmt := topS 45
abbrev N__law_some : List Str := ["bag", "pool"]
theorem sc__law_some : FnScope ["bag", "pool"] ["bag", "pool"] (defScope s__law_some) := ⟨rfl, rfl, rfl, by decide +kernel, rfl, by decide +kernel, by decide +kernel⟩

theorem a_lit : ("a" : Str) = tx [97] := by decide +kernel
theorem atx {l m : List Nat} (h : Abc l) (e : l = m) : Abc m := e ▸ h
def spNear : Sp := fun vs H Q _ => ∃ (b : Addr) (n : Nat) (l : List Nat), vs = [.ref b, Tx l] ∧ Bag H b n ∧ n + 10 < 2 ^ 30 ∧ Abc l ∧ l.length ≤ 12 ∧ ∀ m H', Abc m → m.length ≤ 12 → Stp [b] H H' → Bag H' b (n + 3) → Q (Tx m) H'
theorem cl__law_near {f : Addr} {fd : FuncData} (D : Df K mg "_law_near" s__law_near ["bag", "word"] f fd) (T : Nm mg) (c__law_draw : Cl P w K mg base 1 "_law_draw" s__law_draw ["bag", "upto"] spDraw) : Cl P w K mg base 2 "_law_near" s__law_near ["bag", "word"] spNear := by
  refine D.cl sc__law_near (fun vs H Q E h => ?_) (fun cdv A outer s H vs Q E hr h => ?_)
  · obtain ⟨b, n, l, rfl, _⟩ := h
    rfl
  · obtain ⟨b, n, l, rfl, B, hn, ha, hl, k⟩ := h
    refine ⟨_, (pss_cons (ps_par (i := 2) (j := 3) rfl sc__law_near.nd rfl rfl (by decide) rfl rfl (pa_cons (pe_cl c__law_draw hr (by omega) (pa_cons (pv 0) (pa_cons pe_int pa_nil))) (pa_cons (pe_ix ix_str pe_str (pe_cl c__law_draw hr (by omega) (pa_cons (pv 0) (pa_cons pe_int pa_nil))) (fun _ _ => rfl)) pa_nil)) (by rfl))
      (pss_cons (ps_if (pt_cmpR op_lt (pv 2) pe_int (by first | exact nomark _ | rfl)) (pss_one (ps_ret (pv 1))) pss_nil)
      (pss_cons (ps_if (pt_cmpR op_lt (pv 2) pe_int (by first | exact nomark _ | rfl)) (pss_one (ps_ret (pe_slice sl_str (pe_op op_add_str (pe_op op_add_str (pv 1) (pe_op Pg.op_mul_str pe_str (pe_op op_sub (pv 2) pe_int))) (pv 3)) po_none (po_some pe_int)))) pss_nil)
      (pss_cons (ps_if (pt_cmpR op_eq (pv 2) pe_int (by first | exact nomark _ | rfl)) (pss_one (ps_ret (pe_slice sl_str (pe_op op_add_str (pv 1) (pe_op Pg.op_mul_str (pv 3) pe_int)) po_none (po_some pe_int)))) pss_nil)
      (pss_cons (ps_if (pt_cmpR op_eq (pv 2) pe_int (by first | exact nomark _ | rfl)) (pss_one (ps_ret (pe_op op_add_str (pe_slice sl_str (pv 1) po_none (po_some (pe_un un_neg pe_int))) (pv 3)))) pss_nil)
      (pss_cons (ps_if (pt_cmpR op_eq (pv 2) pe_int (by first | exact nomark _ | rfl)) (pss_one (ps_ret (pe_slice sl_str (pv 1) po_none (po_some (pe_un un_neg pe_int))))) pss_nil)
      (pss_one (ps_ret (pe_slice sl_str (pv 1) po_none (po_some (pe_cl c__law_draw hr (by omega) (pa_cons (pv 0) (pa_cons (pe_op op_add (pe_callB call_len_str (by rfl) T.n_len (by decide +kernel) (pa_cons (pv 1) pa_nil)) pe_int) pa_nil))))))))))))), ?_⟩
    refine ⟨_, rfl, b, 8, n, rfl, B, by omega, by decide, by decide, fun way H1 w0 w1 o1 B1 => ?_⟩
    refine ⟨_, rfl, b, 3, n + 1, rfl, B1, by omega, by decide, by decide, fun d H2 d0 d1 o2 B2 => ?_⟩
    have S2 : Stp [b] H H2 := (o1.stp (List.mem_singleton.mpr rfl)).trans (o2.stp (List.mem_singleton.mpr rfl))
    obtain ⟨c, mc, ec⟩ := pick (xs := [97, 98, 99]) d0 d1
    have hc : c = 97 ∨ c = 98 ∨ c = 99 := by
      simp at mc
      exact mc
    refine ⟨("abc" : Str), d, c, rfl, rfl, (by rw [abc_lit]; exact szt (by decide)), (by rw [abc_lit]; exact ec), _, _, rfl, ?_⟩
    refine ⟨_, rfl, _, _, rfl, rfl, _, rfl, ite2 (fun h1 => ?_) (fun h1 => ?_)⟩
    · exact ⟨_, rfl, k _ _ ha hl S2 (B2.mono (by omega))⟩
    have h1 : ¬ way < 2 := fun q => h1 (decide_eq_true q)
    refine ⟨_, rfl, _, _, rfl, rfl, _, rfl, ite2 (fun h2 => ?_) (fun h2 => ?_)⟩
    · have h2 : way < 4 := of_decide_eq_true h2
      refine ⟨_, rfl, _, rfl, _, _, rfl, rfl, tx [97], way - 2, congrArg V.str a_lit, rfl, mulOk 97 (by omega) (by omega), ?_⟩
      refine ⟨tx l, tx (List.replicate (way - 2).toNat 97), rfl, congrArg V.str (tx_mul _ _), (by rw [tx_len, tx_len, List.length_replicate]; exact sz (by omega)), ?_⟩
      refine ⟨_, rfl, tx (l ++ List.replicate (way - 2).toNat 97), tx [c], congrArg V.str (tx_app _ _), rfl, (by rw [tx_len, tx_len, List.length_append, List.length_replicate, List.length_singleton]; exact sz (by omega)), 12, rfl, ?_⟩
      refine ⟨tx (l ++ List.replicate (way - 2).toNat 97 ++ [c]), congrArg V.str (tx_app _ _), szt (by simp; omega), ?_⟩
      show Q _ _
      rw [show cutS _ none (some 12) = _ from tx_upto _ 12]
      exact k _ _ (((ha.app (Abc.rep _ (.inl rfl))).app (Abc.one hc)).take 12) (by rw [List.length_take]; omega) S2 (B2.mono (by omega))
    have h2 : ¬ way < 4 := fun q => h2 (decide_eq_true q)
    refine ⟨_, rfl, rfl, _, rfl, ite2 (fun h3 => ?_) (fun h3 => ?_)⟩
    · refine ⟨_, rfl, _, rfl, tx [c], 12, rfl, rfl, mulOk c (by decide) (by decide), ?_⟩
      refine ⟨tx l, tx (List.replicate (12 : Int).toNat c), rfl, congrArg V.str (tx_mul _ _), (by rw [tx_len, tx_len, List.length_replicate]; exact sz (by simp; omega)), 12, rfl, ?_⟩
      refine ⟨tx (l ++ List.replicate (12 : Int).toNat c), congrArg V.str (tx_app _ _), szt (by simp; omega), ?_⟩
      show Q _ _
      rw [show cutS _ none (some 12) = _ from tx_upto _ 12]
      exact k _ _ ((ha.app (Abc.rep _ hc)).take 12) (by rw [List.length_take]; omega) S2 (B2.mono (by omega))
    refine ⟨_, rfl, rfl, _, rfl, ite2 (fun h4 => ?_) (fun h4 => ?_)⟩
    · refine ⟨_, rfl, 1, rfl, -1, rfl, tx l, rfl, szt (by omega), _, rfl, tx l.dropLast, tx [c], congrArg V.str (tx_init l), rfl, (by rw [tx_len, tx_len, List.length_dropLast, List.length_singleton]; exact sz (by omega)), ?_⟩
      show Q _ _
      rw [tx_app]
      exact k _ _ (ha.init.app (Abc.one hc)) (by rw [List.length_append, List.length_dropLast, List.length_singleton]; omega) S2 (B2.mono (by omega))
    refine ⟨_, rfl, rfl, _, rfl, ite2 (fun h5 => ?_) (fun h5 => ?_)⟩
    · refine ⟨_, rfl, 1, rfl, -1, rfl, tx l, rfl, szt (by omega), ?_⟩
      show Q _ _
      rw [show cutS _ none (some (-1)) = _ from tx_init l]
      exact k _ _ ha.init (by rw [List.length_dropLast]; omega) S2 (B2.mono (by omega))
    · refine ⟨_, rfl, _, rfl, _, rfl, tx l, rfl, szt (by omega), _, _, rfl, rfl, b, _, n + 2, rfl, B2, by omega, ?_, ?_, fun d H3 d0 d1 o3 B3 => ?_⟩
      · have := tx_len l
        omega
      · have := tx_len l
        omega
      obtain ⟨e, rfl⟩ := Int.eq_ofNat_of_zero_le d0
      refine ⟨_, rfl, tx l, rfl, szt (by omega), ?_⟩
      show Q _ _
      rw [show cutS _ none (some (e : Int)) = _ from tx_upto l e]
      exact k _ _ (ha.take _) (by rw [List.length_take]; omega) (S2.trans (o3.stp (List.mem_singleton.mpr rfl))) B3
/-- a pool: some texts -/
def Pool (H : Hp) (p : Addr) (ls : List (List Nat)) : Prop := H p = some (.lst (ls.map Tx)) ∧ ∀ l ∈ ls, Abc l ∧ l.length ≤ 12
def spSome : Sp := fun vs H Q _ => ∃ (b p : Addr) (n : Nat) (ls : List (List Nat)), vs = [.ref b, .ref p] ∧ Bag H b n ∧ n + 40 < 2 ^ 30 ∧ Pool H p ls ∧ ls.length < 2 ^ 20 ∧ b ≠ p ∧ ∀ m H', Abc m → m.length ≤ 12 → Stp [b] H H' → Bag H' b (n + 20) → Q (Tx m) H'
theorem cl__law_some {f : Addr} {fd : FuncData} (D : Df K mg "_law_some" s__law_some ["bag", "pool"] f fd) (T : Nm mg) (c__law_draw : Cl P w K mg base 1 "_law_draw" s__law_draw ["bag", "upto"] spDraw)
    (c__law_near : Cl P w K mg base 2 "_law_near" s__law_near ["bag", "word"] spNear) (c__law_text : Cl P w K mg base 2 "_law_text" s__law_text ["bag"] spText) : Cl P w K mg base 3 "_law_some" s__law_some ["bag", "pool"] spSome := by
  refine D.cl sc__law_some (fun vs H Q E h => ?_) (fun cdv A outer s H vs Q E hr h => ?_)
  · obtain ⟨b, p, n, ls, rfl, _⟩ := h
    rfl
  · obtain ⟨b, p, n, ls, rfl, B, hn, ⟨hp, ha⟩, hls, ne, k⟩ := h
    refine ⟨_, (pss_cons (ps_if (PW.pt (pw_and (pt_cmpR (op_neD hr.units) (pv 1) (pe_lst pa_nil) (by first | exact nomark _ | rfl)) (pw_and1 (pt_cmpR op_gt (pe_cl c__law_draw hr (by omega) (pa_cons (pv 0) (pa_cons pe_int pa_nil))) pe_int (by first | exact nomark _ | rfl))))) (pss_one (ps_ret (pe_cl c__law_near hr (by omega) (pa_cons (pv 0) (pa_cons (pe_ix ix_list (pv 1) (pe_cl c__law_draw hr (by omega) (pa_cons (pv 0) (pa_cons (pe_callB call_len_seq (by rfl) T.n_len (by decide +kernel) (pa_cons (pv 1) pa_nil)) pa_nil))) (fun _ _ => rfl)) pa_nil))))) pss_nil)
      (pss_one (ps_ret (pe_cl c__law_text hr (by omega) (pa_cons (pv 0) pa_nil))))), ?_⟩
    have npb : p ∉ [b] := fun m => ne (List.mem_singleton.mp m).symm
    have fin : ∀ H1 m, Stp [b] H H1 → Bag H1 b m → m ≤ n + 2 → tRet (tCl spText (tCons (tVar 0) tNil)) { nx := fun _ H' => Q .non H', rt := Q } (start N__law_some [.ref b, .ref p]) H1 := fun H1 m S1 B1 hm => by
      refine ⟨_, rfl, b, m, rfl, B1, by omega, fun l H2 hl hll S2 B2 => ?_⟩
      exact k l H2 hl hll (S1.trans S2) (B2.mono (by omega))
    refine ⟨_, rfl, Nat.zero_le _, fun q hq => ?_⟩
    have S0 : Stp [b] H (upd H q (.lst [])) := Stp.new hq _
    have B0 := B.upd (o := .lst []) (B.ne hq)
    refine ne_nil_strs (SqL.of (S0.kp _ _ npb hp)) (fun l m => (ha l m).1) upd_same ?_
    cases ls with
    | nil => exact ⟨false, rfl, fin _ n S0 B0 (by omega)⟩
    | cons l0 ls =>
    refine ⟨true, rfl, ?_⟩
    refine ⟨_, rfl, b, 3, n, rfl, B0, by omega, by decide, by decide, fun d H1 d0 d1 o1 B1 => ?_⟩
    have S1 : Stp [b] H H1 := S0.trans (o1.stp (List.mem_singleton.mpr rfl))
    refine ⟨_, _, rfl, rfl, _, rfl, ite2 (fun h1 => ?_) (fun h1 => ?_)⟩
    · refine ⟨_, rfl, _, rfl, _, rfl, _, rfl, p, _, rfl, .inl (SqL.of (S1.kp _ _ npb hp)), b, _, n + 1, rfl, B1, by omega, ?_, ?_, fun e H2 e0 e1 o2 B2 => ?_⟩
      · rw [List.length_map, List.length_cons]
        omega
      · rw [List.length_map]
        omega
      have S2 : Stp [b] H H2 := S1.trans (o2.stp (List.mem_singleton.mpr rfl))
      obtain ⟨v, mv, ev⟩ := pick e0 e1
      obtain ⟨m, mm, rfl⟩ := List.mem_map.mp mv
      refine ⟨p, _, e, Tx m, rfl, rfl, SqL.of (S2.kp _ _ npb hp), ev, b, n + 2, m, rfl, B2, by omega, (ha m mm).1, (ha m mm).2, fun m' H3 a3 l3 S3 B3 => ?_⟩
      exact k m' H3 a3 l3 (S2.trans S3) (B3.mono (by omega))
    · exact fin H1 (n + 1) S1 B1 (by omega)
abbrev s_is_text : Stmt := topS 19
abbrev N_is_text : List Str := ["value"]
theorem sc_is_text : FnScope ["value"] ["value"] (defScope s_is_text) := ⟨rfl, rfl, rfl, by decide +kernel, rfl, by decide +kernel, by decide +kernel⟩

/-! ### is_text -/
def IsTx (d : Dt) : Prop := ∃ l, d = .str l ∧ Abc l
def spIsText (K : PySem.W.Frag) : Sp := fun vs H Q _ => ∃ v d, vs = [v] ∧ Rp K H v d ∧ ∀ b : Bool, (b = true ↔ IsTx d) → Q (.bl b) H
theorem cl_is_text {f : Addr} {fd : FuncData} (D : Df K mg "is_text" s_is_text ["value"] f fd) (T : Nm mg) : Cl P w K mg base 1 "is_text" s_is_text ["value"] (spIsText K) := by
  refine D.cl sc_is_text (fun vs H Q E h => ?_) (fun cdv A outer s H vs Q E hr h => ?_)
  · obtain ⟨v, d, rfl, _⟩ := h
    rfl
  · obtain ⟨v, d, rfl, r, k⟩ := h
    refine ⟨_, (pss_one (ps_ret (pe_and (pe_tyIs (T := "str") Mono.var (pv 0) T.n_type T.n_str (by decide +kernel)) (pe_one (pe_cmpR op_eq (pe_bm PySem.F.plainAttrs_str PySem.F.slot_str_strip PySem.F.type_str_strip mt_stripChars (pv 0) (pa_cons pe_str pa_nil)) pe_str (by first | exact nomark _ | rfl)))))), ?_⟩
    have no : (∀ l, d ≠ .str l) → Q (.bl false) H := fun n => k false ⟨fun e => (nomatch e), fun ⟨l, e, _⟩ => absurd e (n l)⟩
    refine ⟨_, rfl, d, r, _, rfl, ?_⟩
    cases r with
    | str l hl =>
      refine ⟨_, rfl, rfl, tx l, ("abc" : Str), rfl, rfl, szt hl, rfl, ?_⟩
      refine k _ ?_
      rw [abc_lit, nil_lit]
      constructor
      · intro h
        exact ⟨l, rfl, (strip_abc l).mp (V.str.inj (of_decide_eq_true h))⟩
      · rintro ⟨l', e, ha⟩
        cases e
        exact decide_eq_true (congrArg V.str ((strip_abc l).mpr ha))
    | _ => exact no (fun l e => nomatch e)
/-! ### spans: what they are -/
abbrev Txt := List Nat
abbrev Pr := Txt × Option Txt
theorem le_of_nlt {a b : Txt} (h : ¬ b < a) : a ≤ b := List.not_lt.mp h
theorem nlt_of_le {a b : Txt} (h : a ≤ b) : ¬ b < a := List.not_lt.mpr h
theorem lt_le {a b c : Txt} (h : a < b) (g : b ≤ c) : a < c := by
  by_cases q : a < c
  · exact q
  · exact absurd (List.lt_of_le_of_lt (le_of_nlt q) h) (nlt_of_le g)
theorem le_lt {a b c : Txt} (h : a ≤ b) (g : b < c) : a < c := List.lt_of_le_of_lt h g
theorem lt_le' {a b : Txt} (h : a < b) : a ≤ b := List.le_of_lt h
theorem nil_le (a : Txt) : ([] : Txt) ≤ a := le_of_nlt (by intro h; cases h)
def Short (l : Txt) : Prop := Abc l ∧ l.length ≤ 40
def PrOk (p : Pr) : Prop := Short p.1 ∧ ∀ e, p.2 = some e → Short e ∧ p.1 < e
def PrS (p : Pr) : Prop := Short p.1 ∧ ∀ e, p.2 = some e → Short e
theorem PrOk.s {p : Pr} (h : PrOk p) : PrS p := ⟨h.1, fun e q => (h.2 e q).1⟩
def Gap (p q : Pr) : Prop := ∃ e, p.2 = some e ∧ e < q.1
structure SpOk (ps : List Pr) : Prop where
  ok : ∀ p ∈ ps, PrOk p
  gap : ps.Pairwise Gap
theorem SpOk.nil : SpOk [] := ⟨fun _ m => (nomatch m), .nil⟩
theorem SpOk.tail {p : Pr} {ps : List Pr} (h : SpOk (p :: ps)) : SpOk ps := ⟨fun q m => h.ok q (List.mem_cons_of_mem _ m), (List.pairwise_cons.mp h.gap).2⟩
/-- a text stands in a range, in a span -/
def inP (w : Txt) (p : Pr) : Bool := decide (p.1 ≤ w) && (match p.2 with | none => true | some e => decide (w < e))
def inS (ps : List Pr) (w : Txt) : Bool := ps.any (inP w)
theorem inP_low {w : Txt} {p : Pr} (h : w < p.1) : inP w p = false := by
  unfold inP
  rw [decide_eq_false (fun q => nlt_of_le q h)]
  rfl
theorem inS_low {ps : List Pr} {w : Txt} (h : ∀ p ∈ ps, w < p.1) : inS ps w = false := by
  unfold inS
  rw [List.any_eq_false]
  intro p m
  rw [inP_low (h p m)]
  simp
theorem firsts {p : Pr} {ps : List Pr} {w : Txt} (h : SpOk (p :: ps)) (g : w ≤ p.1) : ∀ q ∈ ps, w < q.1 := fun q m => by
  obtain ⟨e, e1, e2⟩ := (List.pairwise_cons.mp h.gap).1 q m
  exact le_lt g (List.lt_trans ((h.ok p List.mem_cons_self).2 e e1).2 e2)
/-- what follows an end -/
def past (e : Option Txt) (g : Txt → List Pr) : List Pr := match e with | none => [] | some e => g e
/-- the gaps behind a start -/
def opps : Txt → List Pr → List Pr
  | a, [] => [(a, none)]
  | a, (f, e) :: ps => (if a < f then [(a, some f)] else []) ++ past e fun e => opps e ps
theorem opps_ok : ∀ (ps : List Pr) (a : Txt), SpOk ps → Short a → (∀ p ∈ ps, a ≤ p.1) → SpOk (opps a ps) ∧ ∀ p ∈ opps a ps, a ≤ p.1
  | [], a, _, sa, _ => ⟨⟨fun p m => by
      rw [List.mem_singleton.mp m]
      exact ⟨sa, fun e q => by cases q⟩, List.pairwise_singleton _ _⟩, fun p m => by
      rw [List.mem_singleton.mp m]
      exact le_of_nlt (List.lt_irrefl _)⟩
  | (f, e) :: ps, a, h, sa, g => by
    have gf : a ≤ f := g (f, e) List.mem_cons_self
    have pf := h.ok (f, e) List.mem_cons_self
    have rest : SpOk (past e fun e => opps e ps) ∧ ∀ p ∈ (past e fun e => opps e ps), f < p.1 := by
      cases e with
      | none => exact ⟨.nil, fun _ m => nomatch m⟩
      | some e =>
        obtain ⟨s1, s2⟩ := pf.2 e rfl
        obtain ⟨r1, r2⟩ := opps_ok ps e h.tail s1 fun q m => by
          obtain ⟨e', q1, q2⟩ := (List.pairwise_cons.mp h.gap).1 q m
          cases q1
          exact lt_le' q2
        exact ⟨r1, fun p m => lt_le s2 (r2 p m)⟩
    unfold opps
    obtain ⟨r1, r2⟩ := rest
    by_cases c : a < f
    · rw [if_pos c]
      refine ⟨⟨fun p m => ?_, List.pairwise_cons.mpr ⟨fun q m => ⟨f, rfl, r2 q m⟩, r1.gap⟩⟩, fun p m => ?_⟩
      · rcases List.mem_cons.mp m with rfl | m
        · exact ⟨sa, fun e q => by cases q; exact ⟨pf.1, c⟩⟩
        · exact r1.ok p m
      · rcases List.mem_cons.mp m with rfl | m
        · exact le_of_nlt (List.lt_irrefl _)
        · exact lt_le' (le_lt gf (r2 p m))
    · rw [if_neg c]
      exact ⟨r1, fun p m => lt_le' (le_lt gf (r2 p m))⟩
theorem opps_in : ∀ (ps : List Pr) (a w : Txt), SpOk ps → Short a → (∀ p ∈ ps, a ≤ p.1) → a ≤ w → inS (opps a ps) w = !inS ps w
  | [], a, w, _, _, _, h => by simp [opps, inS, inP, h]
  | (f, e) :: ps, a, w, h, sa, g, hw => by
    have pf := h.ok (f, e) List.mem_cons_self
    by_cases c : w < f
    · have af : a < f := le_lt hw c
      rw [inS_low (ps := (f, e) :: ps) fun p m => by
        rcases List.mem_cons.mp m with rfl | m
        · exact c
        · exact firsts h (lt_le' c) p m]
      unfold opps inS
      rw [if_pos af, List.any_append]
      simp [inP, hw, c]
    · have fw : f ≤ w := le_of_nlt c
      have e1 : inS (opps a ((f, e) :: ps)) w = inS (past e fun e => opps e ps) w := by
        rw [show opps a ((f, e) :: ps) = (if a < f then [(a, some f)] else []) ++ past e fun e => opps e ps from rfl]
        unfold inS
        rw [List.any_append]
        by_cases q : a < f
        · rw [if_pos q]
          simp [inP, c]
        · rw [if_neg q]
          simp
      rw [e1]
      cases e with
      | none =>
        show false = _
        simp [inS, inP, fw]
      | some e =>
        obtain ⟨s1, s2⟩ := pf.2 e rfl
        have ge : ∀ q ∈ ps, e ≤ q.1 := fun q m => by
          obtain ⟨e', q1, q2⟩ := (List.pairwise_cons.mp h.gap).1 q m
          cases q1
          exact lt_le' q2
        by_cases d : w < e
        · have lo : inS (opps e ps) w = false := inS_low fun p m => lt_le d ((opps_ok ps e h.tail s1 ge).2 p m)
          show inS (opps e ps) w = _
          rw [lo]
          simp [inS, inP, fw, d]
        · show inS (opps e ps) w = _
          rw [opps_in ps e w h.tail s1 ge (le_of_nlt d)]
          simp [inS, inP, fw, d]
theorem opps_len : ∀ (ps : List Pr) (a : Txt), (opps a ps).length ≤ ps.length + 1
  | [], _ => Nat.le_refl _
  | (f, e) :: ps, a => by
    unfold opps
    rw [List.length_append]
    have h1 : (if a < f then [(a, some f)] else [] : List Pr).length ≤ 1 := by split <;> simp
    cases e with
    | none =>
      show _ + 0 ≤ _
      rw [List.length_cons]
      omega
    | some e =>
      have := opps_len ps e
      show _ + (opps e ps).length ≤ _
      rw [List.length_cons]
      omega
theorem le_dec (a b : Txt) : decide (a ≤ b) = !decide (b < a) := by
  by_cases h : b < a
  · rw [decide_eq_true h, decide_eq_false (nlt_of_le · h)]
    rfl
  · rw [decide_eq_false h, decide_eq_true (le_of_nlt h)]
    rfl
/-! ### one normal span for each set of texts -/
theorem le_self (a : Txt) : a ≤ a := le_of_nlt (List.lt_irrefl _)
theorem inP_iff {w : Txt} {p : Pr} : inP w p = true ↔ p.1 ≤ w ∧ ∀ e, p.2 = some e → w < e := by
  obtain ⟨f, e⟩ := p
  unfold inP
  cases e with
  | none => simp
  | some e => simp
theorem inS_cons {p : Pr} {ps : List Pr} {w : Txt} : inS (p :: ps) w = (inP w p || inS ps w) := List.any_cons
theorem inS_app {ps qs : List Pr} {w : Txt} : inS (ps ++ qs) w = (inS ps w || inS qs w) := List.any_append
theorem inS_mem {ps : List Pr} {w : Txt} : inS ps w = true ↔ ∃ p ∈ ps, inP w p = true := by
  unfold inS
  rw [List.any_eq_true]
theorem end_out {p : Pr} {ps : List Pr} (h : SpOk (p :: ps)) {e : Txt} (he : p.2 = some e) : inS (p :: ps) e = false := by
  rw [inS_cons, inS_low (ps := ps) fun q m => by
    obtain ⟨e', e1, e2⟩ := (List.pairwise_cons.mp h.gap).1 q m
    rw [he] at e1
    cases e1
    exact e2]
  rw [Bool.or_false, Bool.eq_false_iff]
  intro c
  exact List.lt_irrefl _ ((inP_iff.mp c).2 e he)
theorem span_uniq : ∀ (as bs : List Pr), SpOk as → SpOk bs → (∀ w, inS as w = inS bs w) → as = bs
  | [], [], _, _, _ => rfl
  | [], q :: qs, _, hb, h => by
    have a := h q.1
    rw [inS_cons, inP_iff.mpr ⟨le_self _, fun e he => ((hb.ok q List.mem_cons_self).2 e he).2⟩] at a
    cases a
  | p :: ps, [], ha, _, h => by
    have a := h p.1
    rw [inS_cons, inP_iff.mpr ⟨le_self _, fun e he => ((ha.ok p List.mem_cons_self).2 e he).2⟩] at a
    cases a
  | p :: ps, q :: qs, ha, hb, h => by
    have pin : inS (p :: ps) p.1 = true := by rw [inS_cons, inP_iff.mpr ⟨le_self _, fun e he => ((ha.ok p List.mem_cons_self).2 e he).2⟩]; rfl
    have qin : inS (q :: qs) q.1 = true := by rw [inS_cons, inP_iff.mpr ⟨le_self _, fun e he => ((hb.ok q List.mem_cons_self).2 e he).2⟩]; rfl
    have low : ∀ {p : Pr} {ps : List Pr} {w : Txt}, SpOk (p :: ps) → w < p.1 → inS (p :: ps) w = false := fun {p ps w} hp l => inS_low fun r m => by
      rcases List.mem_cons.mp m with rfl | m
      · exact l
      · exact firsts hp (lt_le' l) r m
    have f1 : p.1 = q.1 := by
      refine List.le_antisymm (le_of_nlt fun l => ?_) (le_of_nlt fun l => ?_)
      · rw [h, ] at *
        have := low ha l
        rw [h, qin] at this
        cases this
      · have := low hb l
        rw [← h, pin] at this
        cases this
    have f2 : p.2 = q.2 := by
      cases hp : p.2 with
      | none =>
        cases hq : q.2 with
        | none => rfl
        | some d =>
          have a := end_out hb hq
          rw [← h, inS_cons, inP_iff.mpr ⟨by rw [f1]; exact lt_le' ((hb.ok q List.mem_cons_self).2 d hq).2, fun e he => by rw [hp] at he; cases he⟩] at a
          cases a
      | some e =>
        cases hq : q.2 with
        | none =>
          have a := end_out ha hp
          rw [h, inS_cons, inP_iff.mpr ⟨by rw [← f1]; exact lt_le' ((ha.ok p List.mem_cons_self).2 e hp).2, fun d hd => by rw [hq] at hd; cases hd⟩] at a
          cases a
        | some d =>
          congr 1
          refine List.le_antisymm (le_of_nlt fun l => ?_) (le_of_nlt fun l => ?_)
          · have a := end_out hb hq
            rw [← h, inS_cons, inP_iff.mpr ⟨by rw [f1]; exact lt_le' ((hb.ok q List.mem_cons_self).2 d hq).2, fun e' he => by rw [hp] at he; cases he; exact l⟩] at a
            cases a
          · have a := end_out ha hp
            rw [h, inS_cons, inP_iff.mpr ⟨by rw [← f1]; exact lt_le' ((ha.ok p List.mem_cons_self).2 e hp).2, fun d' hd => by rw [hq] at hd; cases hd; exact l⟩] at a
            cases a
    have pq : p = q := Prod.ext f1 f2
    subst pq
    congr 1
    refine span_uniq ps qs ha.tail hb.tail fun w => ?_
    cases hp : p.2 with
    | none =>
      have no : ∀ {ps : List Pr}, SpOk (p :: ps) → ps = [] := fun {ps} hh => by
        cases ps with
        | nil => rfl
        | cons r rs =>
          obtain ⟨e, e1, _⟩ := (List.pairwise_cons.mp hh.gap).1 r List.mem_cons_self
          rw [hp] at e1
          cases e1
      rw [no ha, no hb]
    | some e =>
      have lo : ∀ {ps : List Pr}, SpOk (p :: ps) → w ≤ e → inS ps w = false := fun {ps} hh l => inS_low fun r m => by
        obtain ⟨e', e1, e2⟩ := (List.pairwise_cons.mp hh.gap).1 r m
        rw [hp] at e1
        cases e1
        exact le_lt l e2
      by_cases c : e < w
      · have no : inP w p = false := Bool.eq_false_iff.mpr fun q => List.lt_irrefl _ (List.lt_trans c ((inP_iff.mp q).2 e hp))
        have a := h w
        rw [inS_cons, inS_cons, no] at a
        exact a
      · rw [lo ha (le_of_nlt c), lo hb (le_of_nlt c)]
/-- each range of the normal span begins where one of the ranges does -/
theorem first_of {ds ps : List Pr} (hd : SpOk ds) (h : ∀ w, inS ds w = inS ps w) {d : Pr} (m : d ∈ ds) : ∃ p ∈ ps, p.1 = d.1 := by
  have din : inP d.1 d = true := inP_iff.mpr ⟨le_self _, fun e he => ((hd.ok d m).2 e he).2⟩
  obtain ⟨p, mp, hp⟩ := inS_mem.mp ((h d.1).symm.trans (inS_mem.mpr ⟨d, m, din⟩))
  obtain ⟨p1, p2⟩ := inP_iff.mp hp
  refine ⟨p, mp, List.le_antisymm p1 (le_of_nlt fun lt => ?_)⟩
  have pin : inP p.1 p = true := inP_iff.mpr ⟨le_self _, fun e he => List.lt_trans lt (p2 e he)⟩
  obtain ⟨d', m', hd'⟩ := inS_mem.mp ((h p.1).trans (inS_mem.mpr ⟨p, mp, pin⟩))
  obtain ⟨q1, q2⟩ := inP_iff.mp hd'
  have lt' : d'.1 < d.1 := le_lt q1 lt
  obtain ⟨e, e1, e2⟩ : Gap d' d := by
    obtain ⟨i, hi, ei⟩ := List.mem_iff_getElem.mp m'
    obtain ⟨j, hj, ej⟩ := List.mem_iff_getElem.mp m
    rcases Nat.lt_trichotomy i j with c | c | c
    · have := List.pairwise_iff_getElem.mp hd.gap i j hi hj c
      rwa [ei, ej] at this
    · subst c
      rw [ei] at ej
      subst ej
      exact absurd lt' (List.lt_irrefl _)
    · have := List.pairwise_iff_getElem.mp hd.gap j i hj hi c
      rw [ei, ej] at this
      obtain ⟨e, e1, e2⟩ := this
      exact absurd (List.lt_trans (List.lt_trans ((hd.ok d m).2 e e1).2 e2) lt') (List.lt_irrefl _)
  have ein : inP e p = true := inP_iff.mpr ⟨lt_le' (q2 e e1), fun e' he => List.lt_trans e2 (p2 e' he)⟩
  obtain ⟨c, mc, hc⟩ := inS_mem.mp ((h e).trans (inS_mem.mpr ⟨p, mp, ein⟩))
  obtain ⟨c1, c2⟩ := inP_iff.mp hc
  obtain ⟨i, hi, ei⟩ := List.mem_iff_getElem.mp m'
  obtain ⟨j, hj, ej⟩ := List.mem_iff_getElem.mp mc
  rcases Nat.lt_trichotomy i j with q | q | q
  · have := List.pairwise_iff_getElem.mp hd.gap i j hi hj q
    rw [ei, ej] at this
    obtain ⟨e', f1, f2⟩ := this
    rw [e1] at f1
    cases f1
    exact nlt_of_le c1 f2
  · subst q
    rw [ei] at ej
    subst ej
    exact List.lt_irrefl _ (c2 e e1)
  · have := List.pairwise_iff_getElem.mp hd.gap j i hj hi q
    rw [ei, ej] at this
    obtain ⟨e', f1, f2⟩ := this
    exact List.lt_irrefl _ (List.lt_trans (c2 e' f1) (List.lt_trans f2 (lt_le ((hd.ok d' m').2 e e1).2 (le_self e))))
theorem asc_len : ∀ (xs L : List Txt), xs.Pairwise (· < ·) → (∀ x ∈ xs, x ∈ L) → xs.length ≤ L.length
  | [], _, _, _ => Nat.zero_le _
  | x :: xs, L, pw, h => by
    obtain ⟨p1, p2⟩ := List.pairwise_cons.mp pw
    have mx := h x List.mem_cons_self
    have ih := asc_len xs (L.erase x) p2 fun y m => (List.mem_erase_of_ne fun e => List.lt_irrefl _ (e ▸ p1 y m)).mpr (h y (List.mem_cons_of_mem _ m))
    rw [List.length_erase_of_mem mx] at ih
    have := List.length_pos_of_mem mx
    rw [List.length_cons]
    omega
theorem SpOk.asc {ps : List Pr} (h : SpOk ps) : (ps.map Prod.fst).Pairwise (· < ·) := by
  rw [List.pairwise_map]
  exact h.gap.imp_of_mem fun {p q} mp _ ⟨e, e1, e2⟩ => List.lt_trans ((h.ok p mp).2 e e1).2 e2
theorem norm_len {ds ps : List Pr} (hd : SpOk ds) (h : ∀ w, inS ds w = inS ps w) : ds.length ≤ ps.length := by
  have := asc_len (ds.map Prod.fst) (ps.map Prod.fst) hd.asc fun x m => by
    obtain ⟨d, md, rfl⟩ := List.mem_map.mp m
    obtain ⟨p, mp, e⟩ := first_of hd h md
    exact List.mem_map.mpr ⟨p, mp, e⟩
  rwa [List.length_map, List.length_map] at this
theorem short_nil0 : Short [] := ⟨Abc.nil, Nat.zero_le _⟩
theorem opps_opps {ps : List Pr} (h : SpOk ps) : opps [] (opps [] ps) = ps := by
  have o := opps_ok ps [] h short_nil0 fun p _ => nil_le _
  have oo := opps_ok (opps [] ps) [] o.1 short_nil0 fun p _ => nil_le _
  refine span_uniq _ _ oo.1 h fun w => ?_
  rw [opps_in _ _ _ o.1 short_nil0 (fun p _ => nil_le _) (nil_le _), opps_in _ _ _ h short_nil0 (fun p _ => nil_le _) (nil_le _), Bool.not_not]
/-! ### cells by points -/
def Cel (zs : List Txt) (z w : Txt) : Prop := z ∈ zs ∧ z ≤ w ∧ ∀ x ∈ zs, x ≤ w → x ≤ z
theorem cel_ex (w : Txt) : ∀ (zs : List Txt), (∃ x ∈ zs, x ≤ w) → ∃ z, Cel zs z w
  | [], ⟨x, m, _⟩ => nomatch m
  | y :: zs, h => by
    by_cases g : ∃ x ∈ zs, x ≤ w
    · obtain ⟨z, m, l, a⟩ := cel_ex w zs g
      by_cases c : y ≤ w ∧ z < y
      · refine ⟨y, List.mem_cons_self, c.1, fun x mx lx => ?_⟩
        rcases List.mem_cons.mp mx with rfl | mx
        · exact le_self _
        · exact lt_le' (le_lt (a x mx lx) c.2)
      · refine ⟨z, List.mem_cons_of_mem _ m, l, fun x mx lx => ?_⟩
        rcases List.mem_cons.mp mx with rfl | mx
        · exact le_of_nlt fun q => c ⟨lx, q⟩
        · exact a x mx lx
    · obtain ⟨x, m, l⟩ := h
      rcases List.mem_cons.mp m with rfl | m
      · refine ⟨x, List.mem_cons_self, l, fun u mu lu => ?_⟩
        rcases List.mem_cons.mp mu with rfl | mu
        · exact le_self _
        · exact absurd ⟨u, mu, lu⟩ g
      · exact absurd ⟨x, m, l⟩ g
theorem Cel.same {zs : List Txt} {z w x : Txt} (h : Cel zs z w) (h1 : z ≤ x) (h2 : x ≤ w) : Cel zs z x := ⟨h.1, h1, fun u m l => h.2.2 u m (List.le_trans l h2)⟩
theorem gap_lt {ds : List Pr} (ok : SpOk ds) {c d : Pr} (mc : c ∈ ds) (md : d ∈ ds) (lt : c.1 < d.1) : Gap c d := by
  obtain ⟨i, hi, ei⟩ := List.mem_iff_getElem.mp mc
  obtain ⟨j, hj, ej⟩ := List.mem_iff_getElem.mp md
  rcases Nat.lt_trichotomy i j with q | q | q
  · have := List.pairwise_iff_getElem.mp ok.gap i j hi hj q
    rwa [ei, ej] at this
  · subst q
    rw [ei] at ej
    subst ej
    exact absurd lt (List.lt_irrefl _)
  · have := List.pairwise_iff_getElem.mp ok.gap j i hj hi q
    rw [ei, ej] at this
    obtain ⟨e, e1, e2⟩ := this
    exact absurd (List.lt_trans (List.lt_trans ((ok.ok d md).2 e e1).2 e2) lt) (List.lt_irrefl _)
theorem same_first {ds : List Pr} (ok : SpOk ds) {c d : Pr} (mc : c ∈ ds) (md : d ∈ ds) (e1 : c.1 = d.1) : c = d := by
  obtain ⟨i, hi, ei⟩ := List.mem_iff_getElem.mp mc
  obtain ⟨j, hj, ej⟩ := List.mem_iff_getElem.mp md
  have no : ∀ {p q : Pr}, p ∈ ds → Gap p q → p.1 = q.1 → False := fun {p q} mp ⟨e, g1, g2⟩ h => by
    have := List.lt_trans ((ok.ok p mp).2 e g1).2 g2
    rw [h] at this
    exact List.lt_irrefl _ this
  rcases Nat.lt_trichotomy i j with q | q | q
  · have := List.pairwise_iff_getElem.mp ok.gap i j hi hj q
    rw [ei, ej] at this
    exact (no mc this e1).elim
  · subst q
    rw [ei] at ej
    exact ej
  · have := List.pairwise_iff_getElem.mp ok.gap j i hj hi q
    rw [ei, ej] at this
    exact (no md this e1.symm).elim
theorem end_no {ds : List Pr} (ok : SpOk ds) {d : Pr} (md : d ∈ ds) {e : Txt} (he : d.2 = some e) : inS ds e = false := by
  rw [Bool.eq_false_iff]
  intro h
  obtain ⟨c, mc, hc⟩ := inS_mem.mp h
  obtain ⟨c1, c2⟩ := inP_iff.mp hc
  by_cases l1 : c.1 < d.1
  · obtain ⟨e', f1, f2⟩ := gap_lt ok mc md l1
    exact List.lt_irrefl _ (List.lt_trans (c2 e' f1) (List.lt_trans f2 ((ok.ok d md).2 e he).2))
  · by_cases l2 : d.1 < c.1
    · obtain ⟨e', f1, f2⟩ := gap_lt ok md mc l2
      rw [he] at f1
      cases f1
      exact nlt_of_le c1 f2
    · have := same_first ok mc md (List.le_antisymm (le_of_nlt l2) (le_of_nlt l1))
      subst this
      exact List.lt_irrefl _ (c2 e he)
theorem first_in {ds : List Pr} (ok : SpOk ds) {d : Pr} (md : d ∈ ds) : inP d.1 d = true := inP_iff.mpr ⟨le_self _, fun e he => ((ok.ok d md).2 e he).2⟩
theorem corner_of {ds : List Pr} {zs : List Txt} (ok : SpOk ds) (hc : ∀ z w, Abc w → Cel zs z w → inS ds w = inS ds z) (h0 : [] ∈ zs) : ∀ d ∈ ds, d.1 ∈ zs ∧ ∀ e, d.2 = some e → e ∈ zs := fun d md => by
  have od := ok.ok d md
  have tr : inS ds d.1 = true := inS_mem.mpr ⟨d, md, first_in ok md⟩
  refine ⟨?_, fun e he => ?_⟩
  · obtain ⟨z, cz⟩ := cel_ex d.1 zs ⟨[], h0, nil_le _⟩
    have hz := hc z d.1 od.1.1 cz
    rw [tr] at hz
    by_cases lt : z < d.1
    · obtain ⟨d', md', hd'⟩ := inS_mem.mp hz.symm
      obtain ⟨q1, q2⟩ := inP_iff.mp hd'
      obtain ⟨e', f1, f2⟩ := gap_lt ok md' md (le_lt q1 lt)
      have ce := cz.same (lt_le' (q2 e' f1)) (lt_le' f2)
      have a := hc z e' ((ok.ok d' md').2 e' f1).1.1 ce
      rw [end_no ok md' f1, ← hz] at a
      cases a
    · rw [List.le_antisymm (le_of_nlt lt) cz.2.1]
      exact cz.1
  · obtain ⟨z, cz⟩ := cel_ex e zs ⟨[], h0, nil_le _⟩
    obtain ⟨oe, lte⟩ := od.2 e he
    have hz := hc z e oe.1 cz
    rw [end_no ok md he] at hz
    by_cases lt : z < e
    · by_cases l2 : z < d.1
      · have a := hc z d.1 od.1.1 (cz.same (lt_le' l2) (lt_le' lte))
        rw [tr, ← hz] at a
        cases a
      · have : inS ds z = true := inS_mem.mpr ⟨d, md, inP_iff.mpr ⟨le_of_nlt l2, fun e' he' => by rw [he] at he'; cases he'; exact lt⟩⟩
        rw [this] at hz
        cases hz
    · rw [List.le_antisymm (le_of_nlt lt) cz.2.1]
      exact cz.1
theorem cel_in {ps : List Pr} {zs : List Txt} {z w : Txt} (sub : ∀ p ∈ ps, p.1 ∈ zs ∧ ∀ e, p.2 = some e → e ∈ zs) (h : Cel zs z w) : inS ps w = inS ps z := by
  have one : ∀ p ∈ ps, inP w p = inP z p := fun p m => by
    rw [Bool.eq_iff_iff, inP_iff, inP_iff]
    constructor
    · exact fun g => ⟨h.2.2 _ (sub p m).1 g.1, fun e he => le_lt h.2.1 (g.2 e he)⟩
    · refine fun g => ⟨List.le_trans g.1 h.2.1, fun e he => ?_⟩
      by_cases c : w < e
      · exact c
      · exact absurd (lt_le (g.2 e he) (h.2.2 _ ((sub p m).2 e he) (le_of_nlt c))) (List.lt_irrefl _)
  unfold inS
  rw [Bool.eq_iff_iff, List.any_eq_true, List.any_eq_true]
  constructor
  · rintro ⟨p, m, g⟩
    exact ⟨p, m, by rw [← one p m]; exact g⟩
  · rintro ⟨p, m, g⟩
    exact ⟨p, m, by rw [one p m]; exact g⟩
/-- the corners of some ranges -/
def cns (ps : List Pr) : List Txt := [] :: (ps.map Prod.fst ++ ps.filterMap Prod.snd)
theorem cns_sub {ps : List Pr} : ∀ p ∈ ps, p.1 ∈ cns ps ∧ ∀ e, p.2 = some e → e ∈ cns ps := fun p m =>
  ⟨List.mem_cons_of_mem _ (List.mem_append_left _ (List.mem_map.mpr ⟨p, m, rfl⟩)), fun e he => List.mem_cons_of_mem _ (List.mem_append_right _ (List.mem_filterMap.mpr ⟨p, m, he⟩))⟩
theorem cns_all {ps : List Pr} {P : Txt → Prop} (h0 : P []) (h : ∀ p ∈ ps, P p.1 ∧ ∀ e, p.2 = some e → P e) : ∀ z ∈ cns ps, P z := fun z m => by
  rcases List.mem_cons.mp m with rfl | m
  · exact h0
  · rcases List.mem_append.mp m with m | m
    · obtain ⟨p, mp, rfl⟩ := List.mem_map.mp m
      exact (h p mp).1
    · obtain ⟨p, mp, e⟩ := List.mem_filterMap.mp m
      exact (h p mp).2 z e
def AbcP (ps : List Pr) : Prop := ∀ p ∈ ps, Abc p.1 ∧ ∀ e, p.2 = some e → Abc e
theorem SpOk.abc {ps : List Pr} (h : SpOk ps) : AbcP ps := fun p m => ⟨(h.ok p m).1.1, fun e q => ((h.ok p m).2 e q).1.1⟩
/-- what holds at texts of the letters holds at all -/
theorem all_w {as bs : List Pr} (ha : AbcP as) (hb : AbcP bs) (h : ∀ w, Abc w → inS as w = inS bs w) (w : Txt) : inS as w = inS bs w := by
  obtain ⟨z, cz⟩ := cel_ex w (cns (as ++ bs)) ⟨[], List.mem_cons_self, nil_le _⟩
  have az : Abc z := cns_all (P := Abc) Abc.nil (fun p m => (List.mem_append.mp m).elim (ha p) (hb p)) z cz.1
  rw [cel_in (ps := as) (fun p m => cns_sub p (List.mem_append_left _ m)) cz, cel_in (ps := bs) (fun p m => cns_sub p (List.mem_append_right _ m)) cz, h z az]
theorem span_uniqA {as bs : List Pr} (ha : SpOk as) (hb : SpOk bs) (h : ∀ w, Abc w → inS as w = inS bs w) : as = bs := span_uniq as bs ha hb (all_w ha.abc hb.abc h)
def Lim (m : Nat) (ps : List Pr) : Prop := ∀ p ∈ ps, p.1.length ≤ m ∧ ∀ e, p.2 = some e → e.length ≤ m
theorem lim_of {ds ps : List Pr} {m : Nat} (ok : SpOk ds) (eq : ∀ w, Abc w → inS ds w = inS ps w) (pa : AbcP ps) (l : Lim m ps) : Lim m ds := fun d md => by
  have za : ∀ z ∈ cns ps, Abc z := cns_all (P := Abc) Abc.nil pa
  have zl : ∀ z ∈ cns ps, z.length ≤ m := cns_all (P := fun z => z.length ≤ m) (Nat.zero_le _) l
  obtain ⟨a, b⟩ := corner_of ok (zs := cns ps) (fun z w aw cz => by rw [eq w aw, eq z (za z cz.1), cel_in cns_sub cz]) List.mem_cons_self d md
  exact ⟨zl _ a, fun e he => zl _ (b e he)⟩
theorem opps_lim {m : Nat} {ps : List Pr} (h : Lim m ps) : Lim m (opps [] ps) := by
  have go : ∀ (ps : List Pr) (a : Txt), a.length ≤ m → Lim m ps → Lim m (opps a ps) := fun ps => by
    induction ps with
    | nil =>
      intro a la _ p mp
      rw [List.mem_singleton.mp mp]
      exact ⟨la, fun e q => by cases q⟩
    | cons q ps ih =>
      intro a la hl p mp
      obtain ⟨f, e⟩ := q
      have h0 := hl (f, e) List.mem_cons_self
      rcases List.mem_append.mp (show p ∈ (if a < f then [(a, some f)] else []) ++ past e fun e => opps e ps from mp) with mp | mp
      · split at mp
        · rw [List.mem_singleton.mp mp]
          exact ⟨la, fun e q => by cases q; exact h0.1⟩
        · cases mp
      · cases e with
        | none => cases mp
        | some e => exact ih e (h0.2 e rfl) (fun p m => hl p (List.mem_cons_of_mem _ m)) p mp
  exact go ps [] (Nat.zero_le _) h
abbrev s_is_range : Stmt := topS 20
abbrev N_is_range : List Str := ["value"]
theorem sc_is_range : FnScope ["value"] ["value"] (defScope s_is_range) := ⟨rfl, rfl, rfl, by decide +kernel, rfl, by decide +kernel, by decide +kernel⟩

abbrev s_reaches : Stmt := topS 22
abbrev N_reaches : List Str := ["end", "first"]
theorem sc_reaches : FnScope ["end", "first"] ["end", "first"] (defScope s_reaches) := ⟨rfl, rfl, rfl, by decide +kernel, rfl, by decide +kernel, by decide +kernel⟩

/-! ### ranges as values -/
theorem pg_tupK {X : Cx} {K : PySem.W.Frag} {pos : Pos} {es : List Expr} {k : Nat} {t : TGs} {n : Nat} (hK : X.K = K) (hc : X.calm = true) (h : PGs X es t) (hn : (assignEach es X.env).length = n) (hst : (assignEach es X.env).findIdx? (·.1) = none) : PG X (.Tuple es k pos) (gTup K n t) := by
  subst hK
  exact pg_tup hc h hn hst
theorem ix_tupK {X : Cx} {K : PySem.W.Frag} (hK : X.K = K) : IxR X (rIxT K) := by
  subst hK
  exact ix_tup

def oD : Option Txt → Dt
  | none => .non
  | some l => .str l
def oV : Option Txt → V
  | none => .non
  | some l => Tx l
def prD (p : Pr) : Dt := .tup [.str p.1, oD p.2]
theorem rp_pr {K : PySem.W.Frag} {H : Hp} {v : V} {p : Pr} (r : Rp K H v (prD p)) : ∃ a, v = .ref a ∧ SqT K H a [Tx p.1, oV p.2] := by
  obtain ⟨f, e⟩ := p
  cases r with
  | tup h _ rl =>
    refine ⟨_, rfl, ?_⟩
    cases rl with
    | cons r1 rl =>
      cases rl with
      | cons r2 rl =>
        cases rl
        cases r1
        cases e with
        | none =>
          cases r2
          exact h
        | some e =>
          cases r2
          exact h
theorem pr_rp {K : PySem.W.Frag} {H : Hp} {a : Addr} {p : Pr} (h : SqT K H a [Tx p.1, oV p.2]) (hf : p.1.length ≤ 40) (he : ∀ e, p.2 = some e → e.length ≤ 40) : Rp K H (.ref a) (prD p) := by
  obtain ⟨f, e⟩ := p
  refine .tup h (by simp) (.cons (.str f (by have : f.length ≤ 40 := hf; omega)) (.cons ?_ .nil))
  cases e with
  | none => exact .non
  | some e => exact .str e (by have := he e rfl; omega)
def spIsRange (K : PySem.W.Frag) : Sp := fun vs H Q _ => ∃ (a : Addr) (p : Pr), vs = [.ref a] ∧ SqT K H a [Tx p.1, oV p.2] ∧ PrOk p ∧ Q (.bl true) H
theorem cl_is_range {f : Addr} {fd : FuncData} (D : Df K mg "is_range" s_is_range ["value"] f fd) (T : Nm mg) (c_is_text : Cl P w K mg base 1 "is_text" s_is_text ["value"] (spIsText K)) : Cl P w K mg base 2 "is_range" s_is_range ["value"] (spIsRange K) := by
  refine D.cl sc_is_range (fun vs H Q E h => ?_) (fun cdv A outer s H vs Q E hr h => ?_)
  · obtain ⟨a, p, rfl, _⟩ := h
    rfl
  · obtain ⟨a, ⟨g, e⟩, rfl, hs, ⟨⟨ag, lg⟩, he⟩, k⟩ := h
    refine ⟨_, (pss_cons (ps_if (PW.pt (pw_or (pt_tyNot (T := "tuple") Mono.var (pv 0) T.n_type T.n_tuple (by decide +kernel)) (pw_or (pt_cmpR op_ne (pe_callB call_len_seq (by rfl) T.n_len (by decide +kernel) (pa_cons (pv 0) pa_nil)) pe_int (by first | exact nomark _ | rfl)) (pw_or1 (pt_not (pt_val (pe_cl c_is_text hr (by omega) (pa_cons (pe_ix ix_tup (pv 0) pe_int (fun _ _ => rfl)) pa_nil)))))))) (pss_one (ps_ret pe_bl)) pss_nil)
      (pss_one (ps_ret (pe_or (pe_cmpR op_isN (pe_ix ix_tup (pv 0) pe_int (fun _ _ => rfl)) pe_non (by first | exact nomark _ | rfl)) (pe_one (pe_and (pe_cl c_is_text hr (by omega) (pa_cons (pe_ix ix_tup (pv 0) pe_int (fun _ _ => rfl)) pa_nil)) (pe_one (pe_cmpR op_lt_str (pe_ix ix_tup (pv 0) pe_int (fun _ _ => rfl)) (pe_ix ix_tup (pv 0) pe_int (fun _ _ => rfl)) (by first | exact nomark _ | rfl))))))))), ?_⟩
    have lg : g.length ≤ 40 := lg
    have isT : ∀ (l : Txt) (b : Bool), Abc l → (b = true ↔ IsTx (.str l)) → b = true := fun l b al hb => hb.mpr ⟨l, rfl, al⟩
    refine ⟨_, rfl, .tup [.str g, oD e], pr_rp (p := (g, e)) hs lg (fun e' q => (he e' q).1.2), ?_⟩
    refine ite2 (fun h => absurd h (by simp [Dt.ty])) (fun _ => ?_)
    refine ⟨_, rfl, a, _, rfl, .inr hs, rfl, _, rfl, ite2 (fun h => (by simp at h)) (fun _ => ?_)⟩
    refine ⟨_, rfl, a, _, 0, Tx g, rfl, rfl, hs, at0, Tx g, .str g, rfl, .str g (by omega), fun b hb => ?_⟩
    obtain rfl := isT g b ag hb
    refine ⟨_, rfl, ?_⟩
    refine ⟨_, rfl, a, _, 1, oV e, rfl, rfl, hs, at1, rfl, ?_⟩
    cases e with
    | none => exact ⟨_, rfl, k⟩
    | some e =>
      obtain ⟨⟨ae, le⟩, lt⟩ := he e rfl
      refine ⟨_, rfl, _, rfl, a, _, 1, Tx e, rfl, rfl, hs, at1, Tx e, .str e, rfl, .str e (by omega), fun b hb => ?_⟩
      obtain rfl := isT e b ae hb
      refine ⟨_, rfl, _, rfl, a, _, 0, Tx g, rfl, rfl, hs, at0, _, rfl, a, _, 1, Tx e, rfl, rfl, hs, at1, tx g, tx e, rfl, rfl, ?_⟩
      rw [decide_eq_true (show (tx g).cps.toList < (tx e).cps.toList from lt)]
      exact k
def spReaches : Sp := fun vs H Q _ => ∃ (e f : Txt), vs = [Tx e, Tx f] ∧ e.length ≤ 40 ∧ f.length ≤ 40 ∧ e < f ∧ Q (.bl false) H
theorem cl_reaches {f : Addr} {fd : FuncData} (D : Df K mg "reaches" s_reaches ["end", "first"] f fd) (T : Nm mg) : Cl P w K mg base 1 "reaches" s_reaches ["end", "first"] spReaches := by
  refine D.cl sc_reaches (fun vs H Q E h => ?_) (fun cdv A outer s H vs Q E hr h => ?_)
  · obtain ⟨e, f, rfl, _⟩ := h
    rfl
  · obtain ⟨e, f, rfl, le, lf, lt, k⟩ := h
    refine ⟨_, (pss_one (ps_ret (pe_or (pe_cmpR op_isN (pv 0) pe_non (by first | exact nomark _ | rfl)) (pe_one (pe_cmpR op_ge_str (pv 0) (pv 1) (by first | exact nomark _ | rfl)))))), ?_⟩
    refine ⟨_, rfl, rfl, ?_⟩
    refine ⟨_, rfl, _, rfl, _, rfl, tx e, tx f, rfl, rfl, ?_⟩
    rw [decide_eq_true (show (tx e).cps.toList < (tx f).cps.toList from lt)]
    exact k
/-! ### spans as values -/
structure Spn (K : PySem.W.Frag) (H : Hp) (a : Addr) (ps : List Pr) : Prop where
  ex : ∃ vs, SqT K H a vs ∧ RpL K H vs (ps.map prD)
  ok : SpOk ps
  few : ps.length ≤ 3000
theorem Spn.stp {K : PySem.W.Frag} {H H' : Hp} {S : List Addr} {a : Addr} {ps : List Pr} (h : Spn K H a ps) (s : Stp S H H') (l : Lsts H S) : Spn K H' a ps := by
  obtain ⟨vs, h1, h2⟩ := h.ex
  exact ⟨⟨vs, sqt_stp s l h1, h2.stp s l⟩, h.ok, h.few⟩
theorem prs_get {K : PySem.W.Frag} {H : Hp} {vs : List V} {ps : List Pr} {i : Nat} {v : V} (r : RpL K H vs (ps.map prD)) (h : vs[i]? = some v) : ∃ p, ps[i]? = some p ∧ ∃ a, v = .ref a ∧ SqT K H a [Tx p.1, oV p.2] := by
  obtain ⟨d, e, rd⟩ := r.get h
  rw [List.getElem?_map] at e
  cases q : ps[i]? with
  | none =>
    rw [q] at e
    cases e
  | some p =>
    rw [q] at e
    cases e
    exact ⟨p, rfl, rp_pr rd⟩
theorem short_nil : Short [] := ⟨Abc.nil, Nat.zero_le _⟩
theorem prs_one {K : PySem.W.Frag} {H : Hp} {vs : List V} {ds : List Pr} {v : V} {p : Pr} (r : RpL K H vs (ds.map prD)) (h : Rp K H v (prD p)) : RpL K H (vs ++ [v]) ((ds ++ [p]).map prD) := by
  rw [List.map_append]
  exact r.app (.cons h .nil)
abbrev s_is_span : Stmt := topS 21
abbrev N_is_span : List Str := ["value", "part", "ahead"]
theorem sc_is_span : FnScope ["value", "part", "ahead"] ["value"] (defScope s_is_span) := ⟨rfl, rfl, rfl, by decide +kernel, rfl, by decide +kernel, by decide +kernel⟩

abbrev s_check_span : Stmt := topS 24
abbrev N_check_span : List Str := ["span"]
theorem sc_check_span : FnScope ["span"] ["span"] (defScope s_check_span) := ⟨rfl, rfl, rfl, by decide +kernel, rfl, by decide +kernel, by decide +kernel⟩

theorem lc_zipT {K : PySem.W.Frag} {a b : Addr} {xs ys : List V} {g : TG} {tt : TT} {te : TE} {vs : List Nat} {σ : L2.St} {H1 : Hp} {D : Addr} {Qd : Hp → Prop} (Pv : Nat → Hp → Prop) (h0 : Pv 0 (upd H1 D (.lst []))) (hl : ∀ i H, Pv i H → SqT K H a xs ∧ SqT K H b ys) (le : ys.length ≤ xs.length)
    (hs : ∀ i x y T H, xs[i]? = some x → ys[i]? = some y → Pv i H → H T = none → g (.ref T) (wipe σ vs) (upd H T (.tup [x, y])) fun σ2 H2 => wipe σ2 vs = wipe σ vs ∧ tt σ2 H2 fun b H3 =>
      if b = true then te σ2 H3 fun y H4 => ∃ acc, H4 D = some (.lst acc) ∧ acc.length < sizeLine ∧ Pv (i + 1) (upd H4 D (.lst (acc ++ [y]))) else Pv (i + 1) H3) (hd : ∀ H, Pv ys.length H → Qd H) :
    ∃ W : Nat → Nat → Hp → Prop, (∃ m, W 0 m (upd H1 D (.lst []))) ∧ ∀ i m H, W i m H →
      ((RZ.ItzT K a b).stop i H ∧ Qd H) ∨ ((RZ.ItzT K a b).go i H ∧ ∃ Nx : Hp → Prop, (∀ H', Nx H' → ∃ m', m' < m ∧ W (i + 1) m' H') ∧ ∀ x H', (RZ.ItzT K a b).yld i H x H' → g x (wipe σ vs) H' fun σ2 H2 => wipe σ2 vs = wipe σ vs ∧ tt σ2 H2 fun b H3 =>
        if b = true then te σ2 H3 fun y H4 => ∃ acc, H4 D = some (.lst acc) ∧ acc.length < sizeLine ∧ Nx (upd H4 D (.lst (acc ++ [y]))) else Nx H3) := by
  refine ⟨fun i m H => m = ys.length - i ∧ i ≤ ys.length ∧ Pv i H, ⟨ys.length, by simp, Nat.zero_le _, h0⟩, ?_⟩
  rintro i m H ⟨rfl, hi, p⟩
  obtain ⟨qa, qb⟩ := hl i H p
  by_cases hlt : i < ys.length
  · refine .inr ⟨⟨xs, ys, xs[i], ys[i], qa, qb, by simp, by simp⟩, Pv (i + 1), fun H' p' => ⟨ys.length - (i + 1), by omega, rfl, hlt, p'⟩, fun v H' yy => ?_⟩
    obtain ⟨T, x, y, rfl, nT, rfl, hx, hy⟩ := yy
    exact hs i x y T H (hx xs qa) (hy ys qb) p nT
  · have e : i = ys.length := by omega
    subst e
    exact .inl ⟨⟨xs, ys, qa, qb, .inr (Nat.le_refl _)⟩, hd H p⟩
def spIsSpan (K : PySem.W.Frag) : Sp := fun vs H Q _ => ∃ (a : Addr) (ps : List Pr), vs = [.ref a] ∧ Spn K H a ps ∧ ∀ H', Stp [] H H' → Q (.bl true) H'
theorem all_true {bs : List Bool} (h : ∀ b ∈ bs, b = true) : bs.all id = true := by
  rw [List.all_eq_true]
  exact h
theorem cl_is_span {f : Addr} {fd : FuncData} (D : Df K mg "is_span" s_is_span ["value"] f fd) (T : Nm mg) (c_is_range : Cl P w K mg base 2 "is_range" s_is_range ["value"] (spIsRange K)) (c_reaches : Cl P w K mg base 1 "reaches" s_reaches ["end", "first"] spReaches) :
    Cl P w K mg base 3 "is_span" s_is_span ["value"] (spIsSpan K) := by
  refine D.cl sc_is_span (fun vs H Q E h => ?_) (fun cdv A outer s H vs Q E hr h => ?_)
  · obtain ⟨a, ps, rfl, _⟩ := h
    rfl
  · obtain ⟨a, ps, rfl, ⟨⟨xs, hs, rl⟩, ok, few⟩, k⟩ := h
    have lx : xs.length = ps.length := by rw [rl.len, List.length_map]
    refine ⟨_, (pss_cons (ps_if (PW.pt (pw_or (pt_tyNot (T := "tuple") Mono.var (pv 0) T.n_type T.n_tuple (by decide +kernel)) (pw_or1 (pt_not (pt_val (pe_callB (cr_all rfl) (by rfl) T.n_all (by decide +kernel) (pa_cons (pe_lc (own := [("part", 1)]) rfl sc_is_span.nd (pi_tup (pv 0)) (blkOk_by (own := [("part", 1)]) (N := N_is_span) (sc := defScope s_is_span) (by decide +kernel)) (fun _ _ _ _ _ => (pg_name (i := 1) sc_is_span.nd rfl (by first | exact Or.inl rfl | exact Or.inr rfl))) (fun _ _ _ _ _ => pts_nil) (fun _ _ _ _ _ => (pe_cl c_is_range hr (by omega) (pa_cons (pv 1) pa_nil)))) pa_nil))))))) (pss_one (ps_ret pe_bl)) pss_nil)
      (pss_one (ps_ret (pe_callB (cr_all rfl) (by rfl) T.n_all (by decide +kernel) (pa_cons (pe_lc (own := [("ahead", 2), ("part", 1)]) rfl sc_is_span.nd (RZ.pi_zipA (by rfl) T.n_zip (pa_cons (pv 0) (pa_cons (pe_slice sl_tupA (pv 0) (po_some pe_int) po_none) pa_nil))) (blkOk_by (own := [("ahead", 2), ("part", 1)]) (N := N_is_span) (sc := defScope s_is_span) (by decide +kernel)) (fun _ _ _ _ _ => (pg_tupK (n := 2) rfl rfl (pgs_cons (pg_name (i := 2) sc_is_span.nd rfl (by first | exact Or.inl rfl | exact Or.inr rfl)) (pgs_cons (pg_name (i := 1) sc_is_span.nd rfl (by first | exact Or.inl rfl | exact Or.inr rfl)) pgs_nil (by rfl)) (by rfl)) (by rfl) (by rfl))) (fun _ _ _ _ _ => pts_nil) (fun _ _ _ _ _ => (pe_not (pe_cl c_reaches hr (by omega) (pa_cons (pe_ix (ix_tupK rfl) (pv 2) pe_int (fun _ _ => rfl)) (pa_cons (pe_ix (ix_tupK rfl) (pv 1) pe_int (fun _ _ => rfl)) pa_nil)))))) pa_nil))))), ?_⟩
    refine ⟨_, rfl, .tup (ps.map prD), .tup hs (by omega) rl, ?_⟩
    refine ite2 (fun h => absurd h (by simp [Dt.ty])) (fun _ => ?_)
    refine ⟨_, rfl, a, rfl, ⟨_, hs⟩, fun L nL => ?_⟩
    refine lc_tup (a := a) (xs := xs) (fun i H2 => ∃ bs : List Bool, bs.length = i ∧ H2 L = some (.lst (bs.map V.bl)) ∧ Stp [] H H2 ∧ ∀ b ∈ bs, b = true)
      ⟨[], rfl, upd_same, Stp.new nL _, fun b m => nomatch m⟩ (fun i H2 _ ⟨bs, _, _, S, _⟩ => sqt_stp S Lsts.nil hs) ?_ ?_
    · rintro i x H2 hi ⟨bs, hl, hL, S, hb⟩
      obtain ⟨p, hp, t, rfl, ht⟩ := prs_get rl hi
      refine ⟨rfl, _, rfl, t, p, rfl, sqt_stp S Lsts.nil ht, ok.ok p (List.mem_of_getElem? hp), bs.map V.bl, hL, ?_, bs ++ [true], by simp [hl], ?_, S.mut nL, fun b m => ?_⟩
      · have h1 := (List.getElem?_eq_some_iff.mp hi).1
        rw [List.length_map, hl]
        exact Nat.lt_of_lt_of_le (show i < 100000 by omega) (by decide)
      · rw [List.map_append]
        exact upd_same
      · rcases List.mem_append.mp m with m | m
        · exact hb b m
        · exact List.mem_singleton.mp m
    · rintro H2 ⟨bs, hl, hL, S, hb⟩
      refine ⟨L, bs, rfl, SqL.of hL, ?_⟩
      rw [all_true hb]
      refine ⟨_, rfl, _, rfl, _, rfl, 1, rfl, ?_⟩
      dsimp only
      refine nopart (slA_use (sqt_stp S Lsts.nil hs) fun p H3 S3 hp => ?_)
      have SS := S.trans S3
      have e1 : cutV xs (some (1 : Int)) none = xs.drop 1 := cut_from 1
      rw [e1] at hp
      refine ⟨a, p, xs, _, rfl, .inr ⟨sqt_stp SS Lsts.nil hs, hp, fun L2 nL2 => ?_⟩⟩
      refine lc_zipT (a := a) (b := p) (xs := xs) (ys := xs.drop 1) (fun i H4 => ∃ bs : List Bool, bs.length = i ∧ H4 L2 = some (.lst (bs.map V.bl)) ∧ Stp [] H3 H4 ∧ ∀ b ∈ bs, b = true)
        ⟨[], rfl, upd_same, Stp.new nL2 _, fun b m => nomatch m⟩ (fun i H4 ⟨bs, _, _, S4, _⟩ => ⟨sqt_stp (SS.trans S4) Lsts.nil hs, sqt_stp S4 Lsts.nil hp⟩) (by rw [List.length_drop]; omega) ?_ ?_
      · rintro i x y t H4 hx hy ⟨bs, hl, hL, S4, hb⟩ nt
        rw [List.getElem?_drop, Nat.add_comm] at hy
        obtain ⟨q1, hq1, t1, rfl, ht1⟩ := prs_get rl hx
        obtain ⟨q2, hq2, t2, rfl, ht2⟩ := prs_get rl hy
        obtain ⟨e, ee, lt⟩ : Gap q1 q2 := by
          obtain ⟨i1, g1⟩ := List.getElem?_eq_some_iff.mp hq1
          obtain ⟨i2, g2⟩ := List.getElem?_eq_some_iff.mp hq2
          have := List.pairwise_iff_getElem.mp ok.gap i (i + 1) i1 i2 (by omega)
          rwa [g1, g2] at this
        have S5 : Stp [] H (upd H4 t (.tup [.ref t1, .ref t2])) := SS.trans (S4.new' nt)
        have o1 := ok.ok q1 (List.mem_of_getElem? hq1)
        have o2 := ok.ok q2 (List.mem_of_getElem? hq2)
        have oe : oV q1.2 = Tx e := by rw [ee]; rfl
        refine ⟨t, _, rfl, SqT.of upd_same, rfl, _, _, rfl, _, _, rfl, rfl, ?_⟩
        have h1 : SqT K (upd H4 t (.tup [.ref t1, .ref t2])) t1 [Tx q1.1, Tx e] := by
          rw [← oe]
          exact sqt_stp S5 Lsts.nil ht1
        have nL2t : L2 ≠ t := ne_of_none hL nt
        have hL5 : (upd H4 t (.tup [.ref t1, .ref t2])) L2 = some (.lst (bs.map V.bl)) := by
          rw [upd_ne nL2t]
          exact hL
        refine ⟨rfl, _, rfl, t1, _, 1, Tx e, rfl, rfl, h1, at1, _, rfl, t2, _, 0, Tx q2.1, rfl, rfl, sqt_stp S5 Lsts.nil ht2, at0, e, q2.1, rfl, (o1.2 e ee).1.2, o2.1.2, lt, _, rfl, bs.map V.bl, hL5, ?_, bs ++ [true], by simp [hl], ?_, (S4.new' nt).mut nL2, fun b m => ?_⟩
        · have h1 := (List.getElem?_eq_some_iff.mp hx).1
          rw [List.length_map, hl]
          exact Nat.lt_of_lt_of_le (show i < 100000 by omega) (by decide)
        · rw [List.map_append]
          exact upd_same
        · rcases List.mem_append.mp m with m | m
          · exact hb b m
          · exact List.mem_singleton.mp m
      · rintro H4 ⟨bs, hl, hL, S4, hb⟩
        refine ⟨L2, bs, rfl, SqL.of hL, ?_⟩
        rw [all_true hb]
        exact k _ (SS.trans S4)

def spCkSpan (K : PySem.W.Frag) : Sp := fun vs H Q _ => ∃ (a : Addr) (ps : List Pr), vs = [.ref a] ∧ Spn K H a ps ∧ ∀ H', Stp [] H H' → Q .non H'
theorem cl_check_span {f : Addr} {fd : FuncData} (D : Df K mg "check_span" s_check_span ["span"] f fd) (T : Nm mg) (c_is_span : Cl P w K mg base 3 "is_span" s_is_span ["value"] (spIsSpan K)) : Cl P w K mg base 4 "check_span" s_check_span ["span"] (spCkSpan K) := by
  refine D.cl sc_check_span (fun vs H Q E h => ?_) (fun cdv A outer s H vs Q E hr h => ?_)
  · obtain ⟨a, ps, rfl, _⟩ := h
    rfl
  · obtain ⟨a, ps, rfl, S, k⟩ := h
    refine ⟨_, (pss_one (ps_if (pt_not (pt_val (pe_cl c_is_span hr (by omega) (pa_cons (pv 0) pa_nil)))) (pss_one ps_never) pss_nil)), ?_⟩
    exact ⟨_, rfl, a, ps, rfl, S, fun H' S' => ⟨_, rfl, k H' S'⟩⟩
abbrev s_opposite : Stmt := topS 32
abbrev N_opposite : List Str := ["span", "gaps", "start", "first", "end"]
theorem sc_opposite : FnScope ["span", "gaps", "start", "first", "end"] ["span"] (defScope s_opposite) := ⟨rfl, rfl, rfl, by decide +kernel, rfl, by decide +kernel, by decide +kernel⟩

/-- the end of the range before -/
def endAt (ps : List Pr) : Nat → Option Txt
  | 0 => some []
  | i + 1 => (ps[i]?).bind Prod.snd
theorem end_at {ps : List Pr} (h : SpOk ps) {i : Nat} {p : Pr} (hp : ps[i]? = some p) : ∃ st, endAt ps i = some st ∧ Short st ∧ st ≤ p.1 := by
  cases i with
  | zero => exact ⟨[], rfl, short_nil, nil_le _⟩
  | succ i =>
    obtain ⟨i2, g2⟩ := List.getElem?_eq_some_iff.mp hp
    have i1 : i < ps.length := by omega
    have g := List.pairwise_iff_getElem.mp h.gap i (i + 1) i1 i2 (by omega)
    rw [g2] at g
    obtain ⟨e, e1, e2⟩ := g
    refine ⟨e, ?_, ((h.ok _ (List.getElem_mem i1)).2 e e1).1, lt_le' e2⟩
    show (ps[i]?).bind Prod.snd = _
    rw [List.getElem?_eq_getElem i1]
    exact e1
theorem end_fin {ps : List Pr} (h : SpOk ps) {st : Txt} (e : endAt ps ps.length = some st) : Short st := by
  cases hl : ps.length with
  | zero =>
    rw [hl] at e
    cases e
    exact short_nil
  | succ n =>
    rw [hl] at e
    have i1 : n < ps.length := by omega
    have e' : (ps[n]?).bind Prod.snd = some st := e
    rw [List.getElem?_eq_getElem i1] at e'
    exact ((h.ok _ (List.getElem_mem i1)).2 st e').1
def todo (ps : List Pr) (i : Nat) : List Pr := past (endAt ps i) fun st => opps st (ps.drop i)
theorem todo_step {ps : List Pr} {i : Nat} {p : Pr} {st : Txt} (hp : ps[i]? = some p) (e : endAt ps i = some st) : todo ps i = (if st < p.1 then [(st, some p.1)] else []) ++ todo ps (i + 1) := by
  obtain ⟨i2, g2⟩ := List.getElem?_eq_some_iff.mp hp
  unfold todo
  rw [e, List.drop_eq_getElem_cons i2, g2]
  have e2 : endAt ps (i + 1) = p.2 := by
    show (ps[i]?).bind Prod.snd = _
    rw [hp]
    rfl
  rw [e2]
  rfl
theorem todo_end {ps : List Pr} : todo ps ps.length = past (endAt ps ps.length) fun st => [(st, none)] := by
  unfold todo
  rw [List.drop_length]
  rfl
theorem todo_all {ps : List Pr} : todo ps 0 = opps [] ps := rfl
theorem at2 {α : Type} {xs : List α} {y : α} : (xs ++ [y]) = xs ++ [y] := rfl
def spOpp (K : PySem.W.Frag) : Sp := fun vs H Q _ => ∃ (a : Addr) (ps : List Pr), vs = [.ref a] ∧ Spn K H a ps ∧ ps.length ≤ 2900 ∧ ∀ b H', Stp [] H H' → Spn K H' b (opps [] ps) → Q (.ref b) H'
theorem cl_opposite {f : Addr} {fd : FuncData} (D : Df K mg "opposite" s_opposite ["span"] f fd) (T : Nm mg) (c_check_span : Cl P w K mg base 4 "check_span" s_check_span ["span"] (spCkSpan K)) :
    Cl P w K mg base 5 "opposite" s_opposite ["span"] (spOpp K) := by
  refine D.cl sc_opposite (fun vs H Q E h => ?_) (fun cdv A outer s H vs Q E hr h => ?_)
  · obtain ⟨a, ps, rfl, _⟩ := h
    rfl
  · obtain ⟨a, ps, rfl, sp, few9, k⟩ := h
    refine ⟨_, (pss_cons (ps_expr (pe_cl c_check_span hr (by omega) (pa_cons (pv 0) pa_nil)))
      (pss_cons (ps_set (i := 1) sc_opposite.nd rfl (by first | exact Or.inl rfl | exact Or.inr rfl) (pe_lst pa_nil))
      (pss_cons (ps_set (i := 2) sc_opposite.nd rfl (by first | exact Or.inl rfl | exact Or.inr rfl) pe_str)
      (pss_cons (ps_for PassesOwn.never rfl (pi_tup (pv 0)) (pg_tup rfl (pgs_cons (pg_name (i := 3) sc_opposite.nd rfl (by first | exact Or.inl rfl | exact Or.inr rfl)) (pgs_cons (pg_name (i := 4) sc_opposite.nd rfl (by first | exact Or.inl rfl | exact Or.inr rfl)) pgs_nil (by rfl)) (by rfl)) (by rfl) (by rfl)) (pss_cons (ps_if (pt_cmpR op_lt_str (pv 2) (pv 3) (by first | exact nomark _ | rfl)) (pss_one (ps_expr (pe_bm PySem.F.plainAttrs_list PySem.F.slot_list_append PySem.F.type_list_append mt_append (pv 1) (pa_cons (pe_tup (pa_cons (pv 2) (pa_cons (pv 3) pa_nil))) pa_nil)))) pss_nil)
      (pss_one (ps_set (i := 2) sc_opposite.nd rfl (by first | exact Or.inl rfl | exact Or.inr rfl) (pv 4)))))
      (pss_cons (ps_if (pt_cmpR op_notN (pv 2) pe_non (by first | exact nomark _ | rfl)) (pss_one (ps_expr (pe_bm PySem.F.plainAttrs_list PySem.F.slot_list_append PySem.F.type_list_append mt_append (pv 1) (pa_cons (pe_tup (pa_cons (pv 2) (pa_cons pe_non pa_nil))) pa_nil)))) pss_nil)
      (pss_one (ps_ret (pe_callTy call_tuple_of (by rfl) T.n_tuple (by decide +kernel) (pa_cons (pv 1) pa_nil))))))))), ?_⟩
    refine ⟨_, rfl, a, ps, rfl, sp, fun H1 S1 => ?_⟩
    refine ⟨Nat.zero_le _, fun G nG => ?_⟩
    obtain ⟨⟨xs, hs, rl⟩, ok, few⟩ := sp.stp S1 Lsts.nil
    have lx : xs.length = ps.length := by rw [rl.len, List.length_map]
    have S0 : Stp [] H1 (upd H1 G (.lst [])) := Stp.new nG _
    have ol := opps_len ps []
    refine ⟨_, rfl, a, rfl, ⟨_, sqt_stp S0 Lsts.nil hs⟩, for_tup (a := a) (xs := xs) (fun i σ H2 => ∃ (done : List Pr) (vs : List V) (x3 x4 : Option V), σ = [some (.ref a), some (.ref G), some (oV (endAt ps i)), x3, x4] ∧ H2 G = some (.lst vs) ∧ RpL K H2 vs (done.map prD) ∧ done ++ todo ps i = opps [] ps ∧ Stp [] H1 H2)
      ⟨[], [], _, _, rfl, upd_same, .nil, rfl, S0⟩ (fun i σ H2 _ ⟨_, _, _, _, _, _, _, _, S⟩ => sqt_stp S Lsts.nil hs) ?_ ?_⟩
    · rintro i x σ H2 hi ⟨done, vs, x3, x4, rfl, hG, rd, all, S⟩
      obtain ⟨p, hp, t, rfl, ht⟩ := prs_get rl hi
      obtain ⟨g, e⟩ := p
      obtain ⟨st, est, sst, le⟩ := end_at ok hp
      have o1 := ok.ok _ (List.mem_of_getElem? hp)
      rw [est]
      have lv : vs.length < sizeLine := by
        have := congrArg List.length all
        rw [List.length_append] at this
        rw [rd.len, List.length_map]
        exact Nat.lt_of_le_of_lt (show done.length ≤ 3000 by omega) (by decide)
      have en : endAt ps (i + 1) = e := by
        show (ps[i]?).bind Prod.snd = _
        rw [hp]
        rfl
      refine ⟨t, _, rfl, sqt_stp S Lsts.nil ht, rfl, _, _, rfl, _, _, rfl, rfl, ?_⟩
      refine ⟨_, rfl, _, rfl, tx st, tx g, rfl, rfl, ?_⟩
      dsimp only
      have len2 : (2 : Nat) ≤ sizeLine := by decide
      have pg : Lsts H2 [G] := .one hG
      refine ⟨_, rfl, ite2 (fun h => ?_) (fun h => ?_)⟩
      · have lt : st < g := of_decide_eq_true h
        refine ⟨_, rfl, .inl ⟨rfl, _, SqL.of hG⟩, _, rfl, _, rfl, len2, fun t2 nt2 => ?_⟩
        have nG2 : G ≠ t2 := ne_of_none hG nt2
        have hG3 : (upd H2 t2 (.tup [Tx st, Tx g])) G = some (.lst vs) := by
          rw [upd_ne nG2]
          exact hG
        refine ⟨G, _, _, rfl, rfl, hG3, lv, ?_⟩
        refine ⟨_, rfl, done ++ [(st, some g)], vs ++ [.ref t2], _, _, by rw [en]; rfl, upd_same, ?_, ?_, (S.new' nt2).mut nG⟩
        · have s3 : Stp [] H2 (upd H2 t2 (.tup [Tx st, Tx g])) := Stp.new nt2 _
          have s4 : Stp [G] (upd H2 t2 (.tup [Tx st, Tx g])) (upd (upd H2 t2 (.tup [Tx st, Tx g])) G (.lst (vs ++ [.ref t2]))) := Stp.put (by simp)
          refine prs_one ((rd.stp s3 Lsts.nil).stp s4 (.one hG3)) (pr_rp (p := (st, some g)) (SqT.of ?_) sst.2 fun e q => by cases q; exact o1.1.2)
          rw [upd_ne nG2.symm]
          exact upd_same
        · rw [← all, todo_step hp est, if_pos lt, List.append_assoc]
      · have nlt : ¬ st < g := fun q => h (decide_eq_true q)
        refine ⟨_, rfl, done, vs, _, _, by rw [en]; rfl, hG, rd, ?_, S⟩
        rw [← all, todo_step hp est, if_neg nlt]
        rfl
    · rintro σ H2 ⟨done, vs, x3, x4, rfl, hG, rd, all, S⟩
      rw [lx] at all ⊢
      rw [todo_end] at all
      have len2 : (2 : Nat) ≤ sizeLine := by decide
      have ord := opps_ok ps [] ok short_nil fun p _ => nil_le _
      refine ⟨_, rfl, rfl, _, rfl, ?_⟩
      have lv : vs.length ≤ 3000 := by
        have := congrArg List.length all
        rw [List.length_append] at this
        rw [rd.len, List.length_map]
        omega
      cases en : endAt ps ps.length with
      | none =>
        rw [en] at all
        have all' : done = opps [] ps := by simpa [past] using all
        refine ite2 (fun h => absurd h (by simp [oV])) (fun _ => ?_)
        refine ⟨_, rfl, G, _, rfl, .inl ⟨SqL.of hG, fun b nb => ?_⟩⟩
        refine k b _ (S1.trans (S.new' nb)) ⟨⟨vs, SqT.of upd_same, ?_⟩, ord.1, by omega⟩
        rw [← all']
        exact rd.stp (Stp.new nb _) Lsts.nil
      | some st =>
        rw [en] at all
        have all' : done ++ [(st, none)] = opps [] ps := all
        have sst := end_fin ok en
        refine ite2 (fun _ => ?_) (fun h => absurd (show _ = true from rfl) h)
        refine ⟨_, rfl, .inl ⟨rfl, _, SqL.of hG⟩, _, rfl, len2, fun t2 nt2 => ?_⟩
        have nG2 : G ≠ t2 := ne_of_none hG nt2
        have hG3 : (upd H2 t2 (.tup [Tx st, .non])) G = some (.lst vs) := by
          rw [upd_ne nG2]
          exact hG
        refine ⟨G, _, _, rfl, rfl, hG3, Nat.lt_of_le_of_lt lv (by decide), ?_⟩
        refine ⟨_, rfl, G, _, rfl, .inl ⟨SqL.of upd_same, fun b nb => ?_⟩⟩
        have s3 : Stp [] H2 (upd H2 t2 (.tup [Tx st, .non])) := Stp.new nt2 _
        have s4 : Stp [G] (upd H2 t2 (.tup [Tx st, .non])) (upd (upd H2 t2 (.tup [Tx st, .non])) G (.lst (vs ++ [.ref t2]))) := Stp.put (by simp)
        refine k b _ (S1.trans (((S.new' nt2).mut nG).new' nb)) ⟨⟨_, SqT.of upd_same, ?_⟩, ord.1, by omega⟩
        rw [← all']
        refine RpL.stp (Stp.new nb _) Lsts.nil (prs_one ((rd.stp s3 Lsts.nil).stp s4 (.one hG3)) (pr_rp (p := (st, none)) (SqT.of ?_) sst.2 fun e q => by cases q))
        rw [upd_ne nG2.symm]
        exact upd_same
abbrev s__law_in : Stmt := topS 47
abbrev N__law_in : List Str := ["pairs", "word", "pair"]
theorem sc__law_in : FnScope ["pairs", "word", "pair"] ["pairs", "word"] (defScope s__law_in) := ⟨rfl, rfl, rfl, by decide +kernel, rfl, by decide +kernel, by decide +kernel⟩

/-! ### _law_in -/
theorem pr_dp {K : PySem.W.Frag} {H : Hp} {v : V} {p : Pr} (r : Rp K H v (prD p)) : Dp K H v (.tuple [.str (tx p.1), match p.2 with | none => .none | some e => .str (tx e)]) := by
  obtain ⟨a, rfl, h⟩ := rp_pr r
  refine .tup h (.cons (.str _) (.cons ?_ .nil))
  cases p.2 with
  | none => exact .non
  | some e => exact .str _
def prP (p : Pr) : PyData := .tuple [.str (tx p.1), match p.2 with | none => .none | some e => .str (tx e)]
theorem prs_dp {K : PySem.W.Frag} {H : Hp} : ∀ {vs : List V} {ps : List Pr}, RpL K H vs (ps.map prD) → DpAll K H vs (ps.map prP)
  | _, [], .nil => .nil
  | _, p :: ps, .cons r q => .cons (pr_dp r) (prs_dp q)
theorem layP {p : Pr} (h : PrS p) : PyData.canLay0 (prP p) = true := by
  obtain ⟨f, e⟩ := p
  have a := strOk_abc h.1.1
  cases e with
  | none =>
    show (PyData.canLay0 (.str (tx f)) && (PyData.canLay0 .none && true)) = true
    rw [a]
    rfl
  | some e =>
    have b := strOk_abc (h.2 e rfl).1
    show (PyData.canLay0 (.str (tx f)) && (PyData.canLay0 (.str (tx e)) && true)) = true
    rw [a, b]
    rfl
theorem layPs : ∀ {ps : List Pr}, (∀ p ∈ ps, PrS p) → PyData.canLayAll0 (ps.map prP) = true
  | [], _ => rfl
  | p :: ps, h => by
    show (PyData.canLay0 (prP p) && PyData.canLayAll0 (ps.map prP)) = true
    rw [layP (h p List.mem_cons_self), layPs fun q m => h q (List.mem_cons_of_mem _ m)]
    rfl
theorem depP (p : Pr) : PyData.depth (prP p) = 1 := by
  obtain ⟨f, e⟩ := p
  cases e <;> rfl
theorem depPs : ∀ (ps : List Pr), PyData.depthAll (ps.map prP) ≤ 1
  | [] => Nat.zero_le _
  | p :: ps => by
    show max (PyData.depth (prP p)) (PyData.depthAll (ps.map prP)) ≤ 1
    rw [depP]
    exact Nat.max_le.mpr ⟨Nat.le_refl _, depPs ps⟩
theorem shapedPs {ps : List Pr} (h : ∀ p ∈ ps, PrS p) : SeqAt.shaped (.list (ps.map prP)) = true := by
  have d := depPs ps
  unfold SeqAt.shaped
  rw [show PyData.canLay0 (.list (ps.map prP)) = true from layPs h]
  have e : PyData.depth (.list (ps.map prP)) = PyData.depthAll (ps.map prP) + 1 := rfl
  simp [e]
  omega
/-- xs != [], xs ranges -/
theorem ne_nil_prs {K : PySem.W.Frag} {H : Hp} {p q : Addr} {vs : List V} {ps : List Pr} {Q : VK} (hp : SqL K H p vs) (r : RpL K H vs (ps.map prD)) (h : ∀ p ∈ ps, PrS p) (hq : H q = some (.lst [])) (k : Q (.bl (!ps.isEmpty)) H) : rNeD K (.ref p) (.ref q) H Q := by
  refine ⟨.list (ps.map prP), .list [], .lst hp (prs_dp r), .lst (SqL.of hq) .nil, shapedPs h, rfl, ?_⟩
  have e : PyData.eqv (.list (ps.map prP)) (.list []) = ps.isEmpty := by
    cases ps with
    | nil => rfl
    | cons l ls => rfl
  rw [e]
  exact k
theorem any_filter (ps : List Pr) (w : Txt) : (!(ps.filter (inP w)).isEmpty) = inS ps w := by
  induction ps with
  | nil => rfl
  | cons p ps ih =>
    unfold inS at ih ⊢
    rw [List.any_cons, List.filter_cons]
    by_cases c : inP w p = true
    · rw [if_pos c, c]
      rfl
    · rw [if_neg c, ih, Bool.eq_false_iff.mpr c]
      rfl
def spInL (K : PySem.W.Frag) : Sp := fun vs H Q _ => ∃ (a : Addr) (xs : List V) (ps : List Pr) (w : Txt), vs = [.ref a, Tx w] ∧ H a = some (.lst xs) ∧ RpL K H xs (ps.map prD) ∧ (∀ p ∈ ps, PrS p) ∧ ps.length ≤ 1000 ∧ ∀ H', Stp [] H H' → Q (.bl (inS ps w)) H'
theorem cl__law_inL {f : Addr} {fd : FuncData} (D : Df K mg "_law_in" s__law_in ["pairs", "word"] f fd) (T : Nm mg) : Cl P w K mg base 1 "_law_in" s__law_in ["pairs", "word"] (spInL K) := by
  refine D.cl sc__law_in (fun vs H Q E h => ?_) (fun cdv A outer s H vs Q E hr h => ?_)
  · obtain ⟨a, xs, ps, l, rfl, _⟩ := h
    rfl
  · obtain ⟨a, xs, ps, l, rfl, hs, rl, ok, few, k⟩ := h
    refine ⟨_, (pss_one (ps_ret (pe_cmpR (op_neD hr.units) (pe_lc (own := [("pair", 2)]) rfl sc__law_in.nd (pi_list (pv 0)) (blkOk_by (own := [("pair", 2)]) (N := N__law_in) (sc := defScope s__law_in) (by decide +kernel)) (fun _ _ _ _ _ => (pg_name (i := 2) sc__law_in.nd rfl (by first | exact Or.inl rfl | exact Or.inr rfl))) (fun _ _ _ _ _ => (pts_one (PW.pt (pw_and (pt_cmpR op_le_str (pe_ix (ix_tupK rfl) (pv 2) pe_int (fun _ _ => rfl)) (pv 1) (by first | exact nomark _ | rfl)) (pw_and1 (PW.pt (pw_or (pt_cmpR op_isN (pe_ix (ix_tupK rfl) (pv 2) pe_int (fun _ _ => rfl)) pe_non (by first | exact nomark _ | rfl)) (pw_or1 (pt_cmpR op_lt_str (pv 1) (pe_ix (ix_tupK rfl) (pv 2) pe_int (fun _ _ => rfl)) (by first | exact nomark _ | rfl)))))))))) (fun _ _ _ _ _ => (pv 2))) (pe_lst pa_nil) (by first | exact nomark _ | rfl)))), ?_⟩
    have lx : xs.length = ps.length := by rw [rl.len, List.length_map]
    refine ⟨_, rfl, a, rfl, ⟨_, SqL.of hs⟩, fun L nL => ?_⟩
    have aL : a ≠ L := ne_of_none hs nL
    refine lc_list (a := a) (xs := xs) (fun i H2 => ∃ vs, H2 L = some (.lst vs) ∧ RpL K H2 vs (((ps.take i).filter (inP l)).map prD) ∧ Stp [] H H2)
      ⟨[], upd_same, .nil, Stp.new nL _⟩ (fun i H2 _ ⟨_, _, _, S⟩ => SqL.of (S.kp _ _ (fun m => nomatch m) hs)) ?_ ?_
    · rintro i x H2 hi ⟨vs, hL, rv, S⟩
      obtain ⟨p, hp, t, rfl, ht⟩ := prs_get rl hi
      obtain ⟨g, e⟩ := p
      have o1 := ok _ (List.mem_of_getElem? hp)
      have ht2 : SqT K H2 t [Tx g, oV e] := sqt_stp S Lsts.nil ht
      have lv : vs.length < sizeLine := by
        have h1 := rv.len
        rw [List.length_map] at h1
        have h2 := List.length_filter_le (inP l) (ps.take i)
        rw [List.length_take] at h2
        exact Nat.lt_of_le_of_lt (show vs.length ≤ 1000 by omega) (by decide)
      have tk : (ps.take (i + 1)).filter (inP l) = (ps.take i).filter (inP l) ++ (if inP l (g, e) = true then [(g, e)] else []) := by
        rw [List.take_add_one, hp, List.filter_append]
        congr 1
        show List.filter (inP l) [(g, e)] = _
        rw [List.filter_cons]
        rfl
      have yes : inP l (g, e) = true → ∃ acc, H2 L = some (.lst acc) ∧ acc.length < sizeLine ∧ ∃ vs, (upd H2 L (.lst (acc ++ [.ref t]))) L = some (.lst vs) ∧ RpL K (upd H2 L (.lst (acc ++ [.ref t]))) vs (((ps.take (i + 1)).filter (inP l)).map prD) ∧ Stp [] H (upd H2 L (.lst (acc ++ [.ref t]))) := fun c => by
        refine ⟨vs, hL, lv, _, upd_same, ?_, S.mut nL⟩
        rw [tk, if_pos c]
        have s4 : Stp [L] H2 (upd H2 L (.lst (vs ++ [.ref t]))) := Stp.put (by simp)
        exact prs_one (rv.stp s4 (.one hL)) (pr_rp (sqt_stp s4 (.one hL) ht2) o1.1.2 fun e' q => (o1.2 e' q).2)
      have no : inP l (g, e) = false → ∃ vs, H2 L = some (.lst vs) ∧ RpL K H2 vs (((ps.take (i + 1)).filter (inP l)).map prD) ∧ Stp [] H H2 := fun c => by
        refine ⟨vs, hL, ?_, S⟩
        rw [tk, if_neg (by rw [c]; simp), List.append_nil]
        exact rv
      refine ⟨rfl, _, rfl, t, _, 0, Tx g, rfl, rfl, ht2, at0, _, rfl, tx g, tx l, rfl, rfl, _, rfl, ite2 (fun h => ?_) (fun h => ?_)⟩
      · have c : ¬ l < g := fun q => by
          rw [decide_eq_true (show (tx l).cps.toList < (tx g).cps.toList from q)] at h
          exact absurd h (by simp)
        have c1 : decide (g ≤ l) = true := by rw [le_dec, decide_eq_false c]; rfl
        refine ⟨_, rfl, t, _, 1, oV e, rfl, rfl, ht2, at1, rfl, _, rfl, ?_⟩
        cases e with
        | none => exact ⟨_, rfl, yes (by unfold inP; rw [c1]; rfl)⟩
        | some e =>
          refine ⟨_, rfl, _, rfl, t, _, 1, Tx e, rfl, rfl, ht2, at1, tx l, tx e, rfl, rfl, _, rfl, ite2 (fun h => ?_) (fun h => ?_)⟩
          · exact ⟨_, rfl, yes (by unfold inP; rw [c1]; exact h)⟩
          · exact no (by unfold inP; rw [c1]; exact Bool.eq_false_iff.mpr h)
      · have c : l < g := by
          by_cases q : l < g
          · exact q
          · refine absurd ?_ h
            rw [decide_eq_false (show ¬ (tx l).cps.toList < (tx g).cps.toList from q)]
            rfl
        exact no (by unfold inP; rw [le_dec, decide_eq_true c]; rfl)
    · rintro H2 ⟨vs, hL, rv, S⟩
      rw [lx, List.take_length] at rv
      refine ⟨Nat.zero_le _, fun q nq => ?_⟩
      have qL : L ≠ q := ne_of_none hL nq
      refine ne_nil_prs (SqL.of (Eq.trans (upd_ne qL) hL)) (rv.stp (Stp.new nq _) Lsts.nil) (fun p m => ok p (List.mem_filter.mp m).1) upd_same ?_
      rw [any_filter]
      exact k _ (S.new' nq)
def spInT (K : PySem.W.Frag) : Sp := fun vs H Q _ => ∃ (a : Addr) (xs : List V) (ps : List Pr) (w : Txt), vs = [.ref a, Tx w] ∧ SqT K H a xs ∧ RpL K H xs (ps.map prD) ∧ (∀ p ∈ ps, PrS p) ∧ ps.length ≤ 1000 ∧ ∀ H', Stp [] H H' → Q (.bl (inS ps w)) H'
theorem cl__law_inT {f : Addr} {fd : FuncData} (D : Df K mg "_law_in" s__law_in ["pairs", "word"] f fd) (T : Nm mg) : Cl P w K mg base 1 "_law_in" s__law_in ["pairs", "word"] (spInT K) := by
  refine D.cl sc__law_in (fun vs H Q E h => ?_) (fun cdv A outer s H vs Q E hr h => ?_)
  · obtain ⟨a, xs, ps, l, rfl, _⟩ := h
    rfl
  · obtain ⟨a, xs, ps, l, rfl, hs, rl, ok, few, k⟩ := h
    refine ⟨_, (pss_one (ps_ret (pe_cmpR (op_neD hr.units) (pe_lc (own := [("pair", 2)]) rfl sc__law_in.nd (pi_tup (pv 0)) (blkOk_by (own := [("pair", 2)]) (N := N__law_in) (sc := defScope s__law_in) (by decide +kernel)) (fun _ _ _ _ _ => (pg_name (i := 2) sc__law_in.nd rfl (by first | exact Or.inl rfl | exact Or.inr rfl))) (fun _ _ _ _ _ => (pts_one (PW.pt (pw_and (pt_cmpR op_le_str (pe_ix (ix_tupK rfl) (pv 2) pe_int (fun _ _ => rfl)) (pv 1) (by first | exact nomark _ | rfl)) (pw_and1 (PW.pt (pw_or (pt_cmpR op_isN (pe_ix (ix_tupK rfl) (pv 2) pe_int (fun _ _ => rfl)) pe_non (by first | exact nomark _ | rfl)) (pw_or1 (pt_cmpR op_lt_str (pv 1) (pe_ix (ix_tupK rfl) (pv 2) pe_int (fun _ _ => rfl)) (by first | exact nomark _ | rfl)))))))))) (fun _ _ _ _ _ => (pv 2))) (pe_lst pa_nil) (by first | exact nomark _ | rfl)))), ?_⟩
    have lx : xs.length = ps.length := by rw [rl.len, List.length_map]
    refine ⟨_, rfl, a, rfl, ⟨_, hs⟩, fun L nL => ?_⟩
    refine lc_tup (a := a) (xs := xs) (fun i H2 => ∃ vs, H2 L = some (.lst vs) ∧ RpL K H2 vs (((ps.take i).filter (inP l)).map prD) ∧ Stp [] H H2)
      ⟨[], upd_same, .nil, Stp.new nL _⟩ (fun i H2 _ ⟨_, _, _, S⟩ => sqt_stp S Lsts.nil hs) ?_ ?_
    · rintro i x H2 hi ⟨vs, hL, rv, S⟩
      obtain ⟨p, hp, t, rfl, ht⟩ := prs_get rl hi
      obtain ⟨g, e⟩ := p
      have o1 := ok _ (List.mem_of_getElem? hp)
      have ht2 : SqT K H2 t [Tx g, oV e] := sqt_stp S Lsts.nil ht
      have lv : vs.length < sizeLine := by
        have h1 := rv.len
        rw [List.length_map] at h1
        have h2 := List.length_filter_le (inP l) (ps.take i)
        rw [List.length_take] at h2
        exact Nat.lt_of_le_of_lt (show vs.length ≤ 1000 by omega) (by decide)
      have tk : (ps.take (i + 1)).filter (inP l) = (ps.take i).filter (inP l) ++ (if inP l (g, e) = true then [(g, e)] else []) := by
        rw [List.take_add_one, hp, List.filter_append]
        congr 1
        show List.filter (inP l) [(g, e)] = _
        rw [List.filter_cons]
        rfl
      have yes : inP l (g, e) = true → ∃ acc, H2 L = some (.lst acc) ∧ acc.length < sizeLine ∧ ∃ vs, (upd H2 L (.lst (acc ++ [.ref t]))) L = some (.lst vs) ∧ RpL K (upd H2 L (.lst (acc ++ [.ref t]))) vs (((ps.take (i + 1)).filter (inP l)).map prD) ∧ Stp [] H (upd H2 L (.lst (acc ++ [.ref t]))) := fun c => by
        refine ⟨vs, hL, lv, _, upd_same, ?_, S.mut nL⟩
        rw [tk, if_pos c]
        have s4 : Stp [L] H2 (upd H2 L (.lst (vs ++ [.ref t]))) := Stp.put (by simp)
        exact prs_one (rv.stp s4 (.one hL)) (pr_rp (sqt_stp s4 (.one hL) ht2) o1.1.2 fun e' q => (o1.2 e' q).2)
      have no : inP l (g, e) = false → ∃ vs, H2 L = some (.lst vs) ∧ RpL K H2 vs (((ps.take (i + 1)).filter (inP l)).map prD) ∧ Stp [] H H2 := fun c => by
        refine ⟨vs, hL, ?_, S⟩
        rw [tk, if_neg (by rw [c]; simp), List.append_nil]
        exact rv
      refine ⟨rfl, _, rfl, t, _, 0, Tx g, rfl, rfl, ht2, at0, _, rfl, tx g, tx l, rfl, rfl, _, rfl, ite2 (fun h => ?_) (fun h => ?_)⟩
      · have c : ¬ l < g := fun q => by
          rw [decide_eq_true (show (tx l).cps.toList < (tx g).cps.toList from q)] at h
          exact absurd h (by simp)
        have c1 : decide (g ≤ l) = true := by rw [le_dec, decide_eq_false c]; rfl
        refine ⟨_, rfl, t, _, 1, oV e, rfl, rfl, ht2, at1, rfl, _, rfl, ?_⟩
        cases e with
        | none => exact ⟨_, rfl, yes (by unfold inP; rw [c1]; rfl)⟩
        | some e =>
          refine ⟨_, rfl, _, rfl, t, _, 1, Tx e, rfl, rfl, ht2, at1, tx l, tx e, rfl, rfl, _, rfl, ite2 (fun h => ?_) (fun h => ?_)⟩
          · exact ⟨_, rfl, yes (by unfold inP; rw [c1]; exact h)⟩
          · exact no (by unfold inP; rw [c1]; exact Bool.eq_false_iff.mpr h)
      · have c : l < g := by
          by_cases q : l < g
          · exact q
          · refine absurd ?_ h
            rw [decide_eq_false (show ¬ (tx l).cps.toList < (tx g).cps.toList from q)]
            rfl
        exact no (by unfold inP; rw [le_dec, decide_eq_true c]; rfl)
    · rintro H2 ⟨vs, hL, rv, S⟩
      rw [lx, List.take_length] at rv
      refine ⟨Nat.zero_le _, fun q nq => ?_⟩
      have qL : L ≠ q := ne_of_none hL nq
      refine ne_nil_prs (SqL.of (Eq.trans (upd_ne qL) hL)) (rv.stp (Stp.new nq _) Lsts.nil) (fun p m => ok p (List.mem_filter.mp m).1) upd_same ?_
      rw [any_filter]
      exact k _ (S.new' nq)
abbrev s__law_pieces : Stmt := topS 49
abbrev N__law_pieces : List Str := ["points", "marks", "found", "k", "end"]
theorem sc__law_pieces : FnScope ["points", "marks", "found", "k", "end"] ["points", "marks"] (defScope s__law_pieces) := ⟨rfl, rfl, rfl, by decide +kernel, rfl, by decide +kernel, by decide +kernel⟩

/-! ### _law_pieces -/
structure LastOk (zs : List Txt) (i : Nat) (ds : List Pr) : Prop where
  no : ∀ d, ds.getLast? = some d → d.2 = none → i = zs.length
  yes : ∀ d, ds.getLast? = some d → ∀ e, d.2 = some e → ∃ j, j ≤ i ∧ zs[j]? = some e
theorem LastOk.skip {zs : List Txt} {i : Nat} {ds : List Pr} (h : LastOk zs i ds) (l : i < zs.length) : LastOk zs (i + 1) ds :=
  ⟨fun d e n => by have := h.no d e n; omega, fun d e x q => by obtain ⟨j, a, b⟩ := h.yes d e x q; exact ⟨j, by omega, b⟩⟩
theorem LastOk.next {zs : List Txt} {i : Nat} {ds : List Pr} {z : Txt} (hi : i < zs.length) : LastOk zs (i + 1) (ds ++ [(z, zs[i + 1]?)]) :=
  ⟨fun d e n => by
    rw [List.getLast?_append, List.getLast?_singleton] at e
    cases e
    have n' : zs[i + 1]? = none := n
    have := List.getElem?_eq_none_iff.mp n'
    omega, fun d e x q => by
    rw [List.getLast?_append, List.getLast?_singleton] at e
    cases e
    exact ⟨i + 1, Nat.le_refl _, q⟩⟩
theorem asc {zs : List Txt} (pw : zs.Pairwise (· < ·)) {i j : Nat} {a b : Txt} (h : i < j) (ha : zs[i]? = some a) (hb : zs[j]? = some b) : a < b := by
  obtain ⟨i1, g1⟩ := List.getElem?_eq_some_iff.mp ha
  obtain ⟨i2, g2⟩ := List.getElem?_eq_some_iff.mp hb
  have := List.pairwise_iff_getElem.mp pw i j i1 i2 h
  rwa [g1, g2] at this
theorem grow_new {zs : List Txt} {ds : List Pr} {i : Nat} {z : Txt} (pw : zs.Pairwise (· < ·)) (sh : ∀ z ∈ zs, Short z) (ok : SpOk ds) (la : LastOk zs i ds) (hz : zs[i]? = some z) (ne : ∀ d, ds.getLast? = some d → d.2 ≠ some z) : SpOk (ds ++ [(z, zs[i + 1]?)]) := by
  have hi := (List.getElem?_eq_some_iff.mp hz).1
  refine ⟨fun p m => ?_, List.pairwise_append.mpr ⟨ok.gap, List.pairwise_singleton _ _, fun p mp q mq => ?_⟩⟩
  · rcases List.mem_append.mp m with m | m
    · exact ok.ok p m
    · rw [List.mem_singleton.mp m]
      exact ⟨sh z (List.mem_of_getElem? hz), fun e q => ⟨sh e (List.mem_of_getElem? q), asc pw (Nat.lt_succ_self i) hz q⟩⟩
  · rw [List.mem_singleton.mp mq]
    rcases List.eq_nil_or_concat ds with rfl | ⟨d0, d, rfl⟩
    · cases mp
    rw [List.concat_eq_append] at *
    have gl : (d0 ++ [d]).getLast? = some d := by rw [List.getLast?_append, List.getLast?_singleton]; rfl
    obtain ⟨e, e1, e2⟩ : Gap d (z, zs[i + 1]?) := by
      cases q : d.2 with
      | none =>
        have := la.no d gl q
        omega
      | some e =>
        obtain ⟨j, j1, j2⟩ := la.yes d gl e q
        refine ⟨e, q, ?_⟩
        rcases Nat.lt_or_eq_of_le j1 with j1 | rfl
        · exact asc pw j1 j2 hz
        · rw [hz] at j2
          cases j2
          exact absurd q (ne d gl)
    rcases List.mem_append.mp mp with mp | mp
    · obtain ⟨e', f1, f2⟩ := (List.pairwise_append.mp ok.gap).2.2 p mp d List.mem_cons_self
      exact ⟨e', f1, List.lt_trans f2 (List.lt_trans ((ok.ok d (by simp)).2 e e1).2 e2)⟩
    · rw [List.mem_singleton.mp mp]
      exact ⟨e, e1, e2⟩
theorem grow_old {zs : List Txt} {d0 : List Pr} {d : Pr} {i : Nat} {z : Txt} (pw : zs.Pairwise (· < ·)) (sh : ∀ z ∈ zs, Short z) (ok : SpOk (d0 ++ [d])) (hz : zs[i]? = some z) (e : d.2 = some z) : SpOk (d0 ++ [(d.1, zs[i + 1]?)]) := by
  have od := ok.ok d (by simp)
  refine ⟨fun p m => ?_, List.pairwise_append.mpr ⟨(List.pairwise_append.mp ok.gap).1, List.pairwise_singleton _ _, fun p mp q mq => ?_⟩⟩
  · rcases List.mem_append.mp m with m | m
    · exact ok.ok p (List.mem_append_left _ m)
    · rw [List.mem_singleton.mp m]
      exact ⟨od.1, fun e' q => ⟨sh e' (List.mem_of_getElem? q), List.lt_trans (od.2 z e).2 (asc pw (Nat.lt_succ_self i) hz q)⟩⟩
  · rw [List.mem_singleton.mp mq]
    obtain ⟨e', f1, f2⟩ := (List.pairwise_append.mp ok.gap).2.2 p mp d List.mem_cons_self
    exact ⟨e', f1, f2⟩
/-- what the pieces have: behind each point just what is marked there -/
structure Mem (zs : List Txt) (bs : List Bool) (i : Nat) (ds : List Pr) : Prop where
  yes : ∀ j z b w, j < i → zs[j]? = some z → bs[j]? = some b → z ≤ w → (∀ z', zs[j + 1]? = some z' → w < z') → inS ds w = b
  out : ∀ z w, zs[i]? = some z → z ≤ w → inS ds w = false
theorem Mem.nil {zs : List Txt} {bs : List Bool} : Mem zs bs 0 [] := ⟨fun _ _ _ _ h => absurd h (Nat.not_lt_zero _), fun _ _ _ _ => rfl⟩
theorem Mem.skip {zs : List Txt} {bs : List Bool} {i : Nat} {ds : List Pr} (pw : zs.Pairwise (· < ·)) (m : Mem zs bs i ds) {z : Txt} (hz : zs[i]? = some z) (hb : bs[i]? = some false) : Mem zs bs (i + 1) ds := by
  refine ⟨fun j z' b w hj h1 h2 h3 h4 => ?_, fun z' w h1 h2 => ?_⟩
  · rcases Nat.lt_or_eq_of_le (Nat.lt_succ_iff.mp hj) with q | rfl
    · exact m.yes j z' b w q h1 h2 h3 h4
    · rw [hb] at h2
      cases h2
      exact m.out z' w h1 h3
  · exact m.out z w hz (lt_le' (lt_le (asc pw (Nat.lt_succ_self i) hz h1) h2))
theorem Mem.grow {zs : List Txt} {bs : List Bool} {i : Nat} {ds ds' : List Pr} (pw : zs.Pairwise (· < ·)) (m : Mem zs bs i ds) {z : Txt} (hz : zs[i]? = some z) (hb : bs[i]? = some true)
    (lo : ∀ w, w < z → inS ds' w = inS ds w) (hi : ∀ w, z ≤ w → (inS ds' w = true ↔ ∀ z', zs[i + 1]? = some z' → w < z')) : Mem zs bs (i + 1) ds' := by
  refine ⟨fun j z' b w hj h1 h2 h3 h4 => ?_, fun z' w h1 h2 => ?_⟩
  · rcases Nat.lt_or_eq_of_le (Nat.lt_succ_iff.mp hj) with q | rfl
    · have lt : w < z := by
        have hl : j + 1 < zs.length := by have := (List.getElem?_eq_some_iff.mp hz).1; omega
        have e := List.getElem?_eq_getElem hl
        have a := h4 _ e
        rcases Nat.lt_or_eq_of_le q with c | c
        · exact List.lt_trans a (asc pw c e hz)
        · have c : j + 1 = i := c
          subst c
          rw [hz] at e
          cases e
          exact a
      rw [lo w lt]
      exact m.yes j z' b w q h1 h2 h3 h4
    · rw [hb] at h2
      cases h2
      rw [hz] at h1
      cases h1
      exact (hi w h3).mpr h4
  · rw [Bool.eq_false_iff]
    intro c
    exact List.lt_irrefl _ (lt_le ((hi w (lt_le' (lt_le (asc pw (Nat.lt_succ_self i) hz h1) h2))).mp c z' h1) h2)
theorem Mem.new {zs : List Txt} {bs : List Bool} {i : Nat} {ds : List Pr} (pw : zs.Pairwise (· < ·)) (m : Mem zs bs i ds) {z : Txt} (hz : zs[i]? = some z) (hb : bs[i]? = some true) : Mem zs bs (i + 1) (ds ++ [(z, zs[i + 1]?)]) := by
  refine m.grow pw hz hb (fun w l => ?_) (fun w l => ?_)
  · rw [inS_app, inS_cons, inP_low l]
    show (inS ds w || (false || false)) = _
    simp
  · rw [inS_app, inS_cons, m.out z w hz l, Bool.false_or]
    show (inP w (z, zs[i + 1]?) || false) = true ↔ _
    rw [Bool.or_false, inP_iff]
    exact ⟨fun h => h.2, fun h => ⟨l, h⟩⟩
theorem Mem.old {zs : List Txt} {bs : List Bool} {i : Nat} {d0 : List Pr} {d : Pr} (pw : zs.Pairwise (· < ·)) (m : Mem zs bs i (d0 ++ [d])) {z : Txt} (hz : zs[i]? = some z) (hb : bs[i]? = some true) (e : d.2 = some z) (lt : d.1 < z) : Mem zs bs (i + 1) (d0 ++ [(d.1, zs[i + 1]?)]) := by
  refine m.grow pw hz hb (fun w l => ?_) (fun w l => ?_)
  · rw [inS_app, inS_app]
    congr 1
    rw [inS_cons, inS_cons]
    congr 1
    rw [Bool.eq_iff_iff, inP_iff, inP_iff]
    constructor
    · exact fun h => ⟨h.1, fun e' he => by rw [e] at he; cases he; exact l⟩
    · exact fun h => ⟨h.1, fun e' he => List.lt_trans l (asc pw (Nat.lt_succ_self i) hz he)⟩
  · have o := m.out z w hz l
    rw [inS_app, Bool.or_eq_false_iff] at o
    rw [inS_app, o.1, Bool.false_or, inS_cons]
    show (inP w (d.1, zs[i + 1]?) || false) = true ↔ _
    rw [Bool.or_false, inP_iff]
    exact ⟨fun h => h.2, fun h => ⟨lt_le' (lt_le lt l), h⟩⟩
theorem rpl_set {K : PySem.W.Frag} {H : Hp} : ∀ {vs : List V} {ds : List Dt} {j : Nat} {v : V} {d : Dt}, RpL K H vs ds → Rp K H v d → RpL K H (vs.set j v) (ds.set j d)
  | _, [], _, _, _, .nil, _ => .nil
  | _, _ :: _, 0, _, _, .cons _ r, h => .cons h r
  | _, _ :: _, j + 1, _, _, .cons a r, h => .cons a (rpl_set (j := j) r h)
def spPieces (K : PySem.W.Frag) : Sp := fun vs H Q _ => ∃ (p m : Addr) (zs : List Txt) (bs : List Bool), vs = [.ref p, .ref m] ∧ H p = some (.lst (zs.map Tx)) ∧ H m = some (.lst (bs.map V.bl)) ∧ bs.length = zs.length ∧ zs.Pairwise (· < ·) ∧ (∀ z ∈ zs, Short z) ∧ zs.length ≤ 401 ∧
  ∀ b ps H', Stp [] H H' → Spn K H' b ps → ps.length ≤ 401 → Mem zs bs zs.length ps → Q (.ref b) H'
theorem cl__law_pieces {f : Addr} {fd : FuncData} (D : Df K mg "_law_pieces" s__law_pieces ["points", "marks"] f fd) (T : Nm mg) : Cl P w K mg base 1 "_law_pieces" s__law_pieces ["points", "marks"] (spPieces K) := by
  refine D.cl sc__law_pieces (fun vs H Q E h => ?_) (fun cdv A outer s H vs Q E hr h => ?_)
  · obtain ⟨p, m, zs, bs, rfl, _⟩ := h
    rfl
  · obtain ⟨p, m, zs, bs, rfl, hp, hm, lb, pw, sh, few, k⟩ := h
    refine ⟨_, (pss_cons (ps_set (i := 2) sc__law_pieces.nd rfl (by first | exact Or.inl rfl | exact Or.inr rfl) (pe_lst pa_nil))
      (pss_cons (ps_for PassesOwn.never rfl (pi_range1 (by rfl) T.n_range (pa_cons (pe_callB call_len_seq (by rfl) T.n_len (by decide +kernel) (pa_cons (pv 0) pa_nil)) pa_nil)) (pg_name (i := 3) sc__law_pieces.nd rfl (by first | exact Or.inl rfl | exact Or.inr rfl)) (pss_one (ps_if (pt_val (pe_ix ix_list (pv 1) (pv 3) (fun _ _ => rfl))) (pss_cons (ps_set (i := 4) sc__law_pieces.nd rfl (by first | exact Or.inl rfl | exact Or.inr rfl) (pe_ifExp (pt_cmpR op_lt (pe_op op_add (pv 3) pe_int) (pe_callB call_len_seq (by rfl) T.n_len (by decide +kernel) (pa_cons (pv 0) pa_nil)) (by first | exact nomark _ | rfl)) (pe_ix ix_list (pv 0) (pe_op op_add (pv 3) pe_int) (fun _ _ => rfl)) pe_non))
      (pss_one (ps_if (PW.pt (pw_and (pt_cmpR (op_neD hr.units) (pv 2) (pe_lst pa_nil) (by first | exact nomark _ | rfl)) (pw_and1 (pt_cmpR op_eq (pe_ix ix_tup (pe_ix ix_list (pv 2) (pe_op op_sub (pe_callB call_len_seq (by rfl) T.n_len (by decide +kernel) (pa_cons (pv 2) pa_nil)) pe_int) (fun _ _ => rfl)) pe_int (fun _ _ => rfl)) (pe_ix ix_list (pv 0) (pv 3) (fun _ _ => rfl)) (by first | exact nomark _ | rfl))))) (pss_one (ps_asg (pe_tup (pa_cons (pe_ix ix_tup (pe_ix ix_list (pv 2) (pe_op op_sub (pe_callB call_len_seq (by rfl) T.n_len (by decide +kernel) (pa_cons (pv 2) pa_nil)) pe_int) (fun _ _ => rfl)) pe_int (fun _ _ => rfl)) (pa_cons (pv 4) pa_nil))) (pg_sub (pv 2) (pe_op op_sub (pe_callB call_len_seq (by rfl) T.n_len (by decide +kernel) (pa_cons (pv 2) pa_nil)) pe_int) set_list))) (pss_one (ps_expr (pe_bm PySem.F.plainAttrs_list PySem.F.slot_list_append PySem.F.type_list_append mt_append (pv 2) (pa_cons (pe_tup (pa_cons (pe_ix ix_list (pv 0) (pv 3) (fun _ _ => rfl)) (pa_cons (pv 4) pa_nil))) pa_nil))))))) pss_nil)))
      (pss_one (ps_ret (pe_callTy call_tuple_of (by rfl) T.n_tuple (by decide +kernel) (pa_cons (pv 2) pa_nil)))))), ?_⟩
    refine ⟨Nat.zero_le _, fun F nF => ?_⟩
    have S0 : Stp [] H (upd H F (.lst [])) := Stp.new nF _
    refine ⟨_, rfl, p, _, rfl, .inl (SqL.of (S0.kp _ _ (fun m => nomatch m) hp)), _, rfl, ?_⟩
    rw [List.length_map]
    refine ⟨by omega, by omega, for_range (lo := 0) (n := zs.length) (fun i σ H2 => ∃ (ds : List Pr) (vs : List V) (x3 x4 : Option V), σ = [some (.ref p), some (.ref m), some (.ref F), x3, x4] ∧ H2 F = some (.lst vs) ∧ RpL K H2 vs (ds.map prD) ∧ SpOk ds ∧ ds.length ≤ i ∧ LastOk zs i ds ∧ Mem zs bs i ds ∧ Stp [] H H2)
      ⟨[], [], _, _, rfl, upd_same, .nil, .nil, Nat.zero_le _, ⟨fun d e => (by cases e), fun d e => (by cases e)⟩, Mem.nil, S0⟩ ?_ ?_⟩
    · rintro i σ H2 hi ⟨ds, vs, x3, x4, rfl, hF, rd, ok, ld, la, me, S⟩
      have hp2 : H2 p = some (.lst (zs.map Tx)) := S.kp _ _ (fun m => nomatch m) hp
      have hm2 : H2 m = some (.lst (bs.map V.bl)) := S.kp _ _ (fun m => nomatch m) hm
      obtain ⟨b, hb⟩ : ∃ b, bs[i]? = some b := ⟨bs[i]'(by omega), List.getElem?_eq_getElem _⟩
      obtain ⟨z, hz⟩ : ∃ z, zs[i]? = some z := ⟨zs[i]'(by omega), List.getElem?_eq_getElem _⟩
      have z0 : (0 : Int) + (i : Int) = (i : Int) := Int.zero_add _
      have ab : atI (bs.map V.bl) (0 + (i : Int)) = some (.bl b) := by
        rw [z0]
        exact atI_nat (by rw [List.getElem?_map, hb]; rfl)
      have az : atI (zs.map Tx) (0 + (i : Int)) = some (Tx z) := by
        rw [z0]
        exact atI_nat (by rw [List.getElem?_map, hz]; rfl)
      refine ⟨_, rfl, _, rfl, m, _, _, .bl b, rfl, rfl, SqL.of hm2, ab, b, rfl, ite2 (fun h => ?_) (fun h => ?_)⟩
      · have hbt : bs[i]? = some true := by rw [hb, h]
        refine ⟨_, rfl, _, _, rfl, rfl, _, rfl, p, _, rfl, .inl (SqL.of hp2), _, _, rfl, rfl, _, rfl, ite2 (fun h1 => ?_) (fun h1 => ?_)⟩
        · have h1 : (0 + (i : Int)) + 1 < (zs.length : Int) := by
            have := of_decide_eq_true h1
            rwa [List.length_map] at this
          obtain ⟨en, hen⟩ : ∃ en, en = zs[i + 1]? := ⟨_, rfl⟩
          have ae : atI (zs.map Tx) (0 + (i : Int) + 1) = some (oV en) := by
            rw [z0]
            have hl : i + 1 < zs.length := by omega
            have e2 : zs[i + 1]? = some zs[i + 1] := List.getElem?_eq_getElem hl
            rw [hen, e2]
            exact atI_nat (j := i + 1) (by rw [List.getElem?_map, e2]; rfl)
          refine ⟨_, rfl, _, rfl, _, _, rfl, rfl, p, _, _, oV en, rfl, rfl, SqL.of hp2, ae, ?_⟩
          refine ⟨_, rfl, Nat.zero_le _, fun q nq => ?_⟩
          have qF : F ≠ q := ne_of_none hF nq
          have S3 : Stp [] H2 (upd H2 q (.lst [])) := Stp.new nq _
          refine ne_nil_prs (SqL.of (Eq.trans (upd_ne qF) hF)) (rd.stp S3 Lsts.nil) (fun p m => (ok.ok p m).s) upd_same ?_
          have hF3 : (upd H2 q (.lst [])) F = some (.lst vs) := Eq.trans (upd_ne qF) hF
          have hp3 : (upd H2 q (.lst [])) p = some (.lst (zs.map Tx)) := S3.kp _ _ (fun m => nomatch m) hp2
          have rd3 := rd.stp S3 Lsts.nil
          have SS := S.trans S3
          have len2 : (2 : Nat) ≤ sizeLine := by decide
          have lv : vs.length < sizeLine := by
            rw [rd.len, List.length_map]
            exact Nat.lt_of_le_of_lt (show ds.length ≤ 1000 by omega) (by decide)
          refine ⟨_, rfl, ?_⟩
          rcases List.eq_nil_or_concat ds with rfl | ⟨d0, d, rfl⟩
          · refine ite2 (fun h => absurd h (by simp)) (fun _ => ?_)
            refine ite2 (fun h => (nomatch h)) (fun _ => ?_)
            refine ⟨_, rfl, .inl ⟨rfl, _, SqL.of hF3⟩, _, rfl, _, rfl, p, _, _, Tx z, rfl, rfl, SqL.of hp3, az, _, rfl, len2, fun t2 nt2 => ?_⟩
            have nF2 : F ≠ t2 := ne_of_none hF3 nt2
            refine ⟨F, _, _, rfl, rfl, Eq.trans (upd_ne nF2) hF3, lv, ?_⟩
            refine ⟨[] ++ [(z, zs[i + 1]?)], vs ++ [.ref t2], _, _, rfl, upd_same, ?_, grow_new pw sh ok la hz (fun d e => by cases e), by first | (simp; done) | (simp at ld ⊢; omega), LastOk.next hi, Mem.new pw me hz hbt, (SS.new' nt2).mut nF⟩
            have s4 : Stp [F] (upd (upd H2 q (.lst [])) t2 (.tup [Tx z, oV en])) (upd (upd (upd H2 q (.lst [])) t2 (.tup [Tx z, oV en])) F (.lst (vs ++ [.ref t2]))) := Stp.put (by simp)
            refine prs_one ((rd3.stp (Stp.new nt2 _) Lsts.nil).stp s4 (.one (Eq.trans (upd_ne nF2) hF3))) (pr_rp (p := (z, zs[i + 1]?)) (SqT.of ?_) (sh z (List.mem_of_getElem? hz)).2 fun e q => (sh e (List.mem_of_getElem? q)).2)
            rw [upd_ne nF2.symm, upd_same, hen]
          · rw [List.concat_eq_append] at *
            have gl : (d0 ++ [d]).getLast? = some d := by rw [List.getLast?_append, List.getLast?_singleton]; rfl
            have lvs : vs.length = d0.length + 1 := by rw [rd.len, List.length_map, List.length_append]; rfl
            obtain ⟨v, hv0⟩ : ∃ v, vs[d0.length]? = some v := ⟨vs[d0.length]'(by omega), List.getElem?_eq_getElem _⟩
            obtain ⟨d', hd', t, rfl, ht⟩ := prs_get rd3 hv0
            obtain rfl : d = d' := by
              rw [List.getElem?_append_right (Nat.le_refl _), Nat.sub_self] at hd'
              exact Option.some.inj hd'
            have ix : ((vs.length : Nat) : Int) - 1 = ((d0.length : Nat) : Int) := by omega
            have al : atI vs (((vs.length : Nat) : Int) - 1) = some (.ref t) := by
              rw [ix]
              exact atI_nat hv0
            refine ite2 (fun _ => ?_) (fun h => absurd (by simp) h)
            refine ⟨_, rfl, _, rfl, F, _, rfl, .inl (SqL.of hF3), _, _, rfl, rfl, F, _, _, .ref t, rfl, rfl, SqL.of hF3, al, t, _, 1, oV d.2, rfl, rfl, ht, at1, _, rfl, _, rfl, p, _, _, Tx z, rfl, rfl, SqL.of hp3, az, ?_, _, rfl, ite2 (fun h => ?_) (fun h => ?_)⟩
            · cases d.2 <;> rfl
            · have h2 : d.2 = some z := by
                have := of_decide_eq_true h
                cases q : d.2 with
                | none =>
                  rw [q] at this
                  cases this
                | some e =>
                  rw [q] at this
                  exact congrArg some (tx_inj (V.str.inj this))
              refine ⟨_, rfl, _, rfl, F, _, rfl, .inl (SqL.of hF3), _, _, rfl, rfl, F, _, _, .ref t, rfl, rfl, SqL.of hF3, al, t, _, 0, Tx d.1, rfl, rfl, ht, at0, _, rfl, len2, fun t2 nt2 => ?_⟩
              have nF2 : F ≠ t2 := ne_of_none hF3 nt2
              have hF4 : (upd (upd H2 q (.lst [])) t2 (.tup [Tx d.1, oV en])) F = some (.lst vs) := Eq.trans (upd_ne nF2) hF3
              have ixn : ixN vs.length (((vs.length : Nat) : Int) - 1) = some d0.length := by
                rw [ix]
                unfold ixN
                rw [if_pos (by omega), lvs]
                simp
                omega
              refine ⟨_, rfl, _, rfl, F, _, rfl, .inl (SqL.of hF4), _, _, rfl, rfl, F, _, _, d0.length, rfl, rfl, hF4, ixn, ?_⟩
              refine ⟨d0 ++ [(d.1, zs[i + 1]?)], vs.set d0.length (.ref t2), _, _, rfl, upd_same, ?_, grow_old pw sh ok hz h2, by simp at ld ⊢; omega, LastOk.next hi, Mem.old pw me hz hbt h2 ((ok.ok d (by simp)).2 z h2).2, (SS.new' nt2).mut nF⟩
              have s4 : Stp [F] (upd (upd H2 q (.lst [])) t2 (.tup [Tx d.1, oV en])) (upd (upd (upd H2 q (.lst [])) t2 (.tup [Tx d.1, oV en])) F (.lst (vs.set d0.length (.ref t2)))) := Stp.put (by simp)
              have od := ok.ok d (by simp)
              have e5 : ((d0 ++ [(d.1, zs[i + 1]?)]).map prD) = (((d0 ++ [d]).map prD).set d0.length (prD (d.1, zs[i + 1]?))) := by
                rw [List.map_append, List.map_append, List.set_append_right _ _ (by simp)]
                simp
              rw [e5]
              refine rpl_set ((rd3.stp (Stp.new nt2 _) Lsts.nil).stp s4 (.one hF4)) (pr_rp (p := (d.1, zs[i + 1]?)) (SqT.of ?_) od.1.2 fun e q => (sh e (List.mem_of_getElem? q)).2)
              rw [upd_ne nF2.symm, upd_same, hen]
            · refine ⟨_, rfl, .inl ⟨rfl, _, SqL.of hF3⟩, _, rfl, _, rfl, p, _, _, Tx z, rfl, rfl, SqL.of hp3, az, _, rfl, len2, fun t2 nt2 => ?_⟩
              have nF2 : F ≠ t2 := ne_of_none hF3 nt2
              refine ⟨F, _, _, rfl, rfl, Eq.trans (upd_ne nF2) hF3, lv, ?_⟩
              refine ⟨(d0 ++ [d]) ++ [(z, zs[i + 1]?)], vs ++ [.ref t2], _, _, rfl, upd_same, ?_, grow_new pw sh ok la hz (fun d1 e q => by
                rw [gl] at e
                cases e
                exact h (decide_eq_true (by rw [q]; rfl))), by rw [List.length_append]; simp; simp at ld; omega, LastOk.next hi, Mem.new pw me hz hbt, (SS.new' nt2).mut nF⟩
              have s4 : Stp [F] (upd (upd H2 q (.lst [])) t2 (.tup [Tx z, oV en])) (upd (upd (upd H2 q (.lst [])) t2 (.tup [Tx z, oV en])) F (.lst (vs ++ [.ref t2]))) := Stp.put (by simp)
              refine prs_one ((rd3.stp (Stp.new nt2 _) Lsts.nil).stp s4 (.one (Eq.trans (upd_ne nF2) hF3))) (pr_rp (p := (z, zs[i + 1]?)) (SqT.of ?_) (sh z (List.mem_of_getElem? hz)).2 fun e q => (sh e (List.mem_of_getElem? q)).2)
              rw [upd_ne nF2.symm, upd_same, hen]
        · have h1 : ¬ (0 + (i : Int)) + 1 < (zs.length : Int) := fun q => h1 (decide_eq_true (by rw [List.length_map]; exact q))
          obtain ⟨en, hen⟩ : ∃ en, en = zs[i + 1]? := ⟨_, rfl⟩
          have hv : V.non = oV en := by
            rw [hen, List.getElem?_eq_none_iff.mpr (by omega)]
            rfl
          rw [hv]
          refine ⟨_, rfl, Nat.zero_le _, fun q nq => ?_⟩
          have qF : F ≠ q := ne_of_none hF nq
          have S3 : Stp [] H2 (upd H2 q (.lst [])) := Stp.new nq _
          refine ne_nil_prs (SqL.of (Eq.trans (upd_ne qF) hF)) (rd.stp S3 Lsts.nil) (fun p m => (ok.ok p m).s) upd_same ?_
          have hF3 : (upd H2 q (.lst [])) F = some (.lst vs) := Eq.trans (upd_ne qF) hF
          have hp3 : (upd H2 q (.lst [])) p = some (.lst (zs.map Tx)) := S3.kp _ _ (fun m => nomatch m) hp2
          have rd3 := rd.stp S3 Lsts.nil
          have SS := S.trans S3
          have len2 : (2 : Nat) ≤ sizeLine := by decide
          have lv : vs.length < sizeLine := by
            rw [rd.len, List.length_map]
            exact Nat.lt_of_le_of_lt (show ds.length ≤ 1000 by omega) (by decide)
          refine ⟨_, rfl, ?_⟩
          rcases List.eq_nil_or_concat ds with rfl | ⟨d0, d, rfl⟩
          · refine ite2 (fun h => absurd h (by simp)) (fun _ => ?_)
            refine ite2 (fun h => (nomatch h)) (fun _ => ?_)
            refine ⟨_, rfl, .inl ⟨rfl, _, SqL.of hF3⟩, _, rfl, _, rfl, p, _, _, Tx z, rfl, rfl, SqL.of hp3, az, _, rfl, len2, fun t2 nt2 => ?_⟩
            have nF2 : F ≠ t2 := ne_of_none hF3 nt2
            refine ⟨F, _, _, rfl, rfl, Eq.trans (upd_ne nF2) hF3, lv, ?_⟩
            refine ⟨[] ++ [(z, zs[i + 1]?)], vs ++ [.ref t2], _, _, rfl, upd_same, ?_, grow_new pw sh ok la hz (fun d e => by cases e), by first | (simp; done) | (simp at ld ⊢; omega), LastOk.next hi, Mem.new pw me hz hbt, (SS.new' nt2).mut nF⟩
            have s4 : Stp [F] (upd (upd H2 q (.lst [])) t2 (.tup [Tx z, oV en])) (upd (upd (upd H2 q (.lst [])) t2 (.tup [Tx z, oV en])) F (.lst (vs ++ [.ref t2]))) := Stp.put (by simp)
            refine prs_one ((rd3.stp (Stp.new nt2 _) Lsts.nil).stp s4 (.one (Eq.trans (upd_ne nF2) hF3))) (pr_rp (p := (z, zs[i + 1]?)) (SqT.of ?_) (sh z (List.mem_of_getElem? hz)).2 fun e q => (sh e (List.mem_of_getElem? q)).2)
            rw [upd_ne nF2.symm, upd_same, hen]
          · rw [List.concat_eq_append] at *
            have gl : (d0 ++ [d]).getLast? = some d := by rw [List.getLast?_append, List.getLast?_singleton]; rfl
            have lvs : vs.length = d0.length + 1 := by rw [rd.len, List.length_map, List.length_append]; rfl
            obtain ⟨v, hv0⟩ : ∃ v, vs[d0.length]? = some v := ⟨vs[d0.length]'(by omega), List.getElem?_eq_getElem _⟩
            obtain ⟨d', hd', t, rfl, ht⟩ := prs_get rd3 hv0
            obtain rfl : d = d' := by
              rw [List.getElem?_append_right (Nat.le_refl _), Nat.sub_self] at hd'
              exact Option.some.inj hd'
            have ix : ((vs.length : Nat) : Int) - 1 = ((d0.length : Nat) : Int) := by omega
            have al : atI vs (((vs.length : Nat) : Int) - 1) = some (.ref t) := by
              rw [ix]
              exact atI_nat hv0
            refine ite2 (fun _ => ?_) (fun h => absurd (by simp) h)
            refine ⟨_, rfl, _, rfl, F, _, rfl, .inl (SqL.of hF3), _, _, rfl, rfl, F, _, _, .ref t, rfl, rfl, SqL.of hF3, al, t, _, 1, oV d.2, rfl, rfl, ht, at1, _, rfl, _, rfl, p, _, _, Tx z, rfl, rfl, SqL.of hp3, az, ?_, _, rfl, ite2 (fun h => ?_) (fun h => ?_)⟩
            · cases d.2 <;> rfl
            · have h2 : d.2 = some z := by
                have := of_decide_eq_true h
                cases q : d.2 with
                | none =>
                  rw [q] at this
                  cases this
                | some e =>
                  rw [q] at this
                  exact congrArg some (tx_inj (V.str.inj this))
              refine ⟨_, rfl, _, rfl, F, _, rfl, .inl (SqL.of hF3), _, _, rfl, rfl, F, _, _, .ref t, rfl, rfl, SqL.of hF3, al, t, _, 0, Tx d.1, rfl, rfl, ht, at0, _, rfl, len2, fun t2 nt2 => ?_⟩
              have nF2 : F ≠ t2 := ne_of_none hF3 nt2
              have hF4 : (upd (upd H2 q (.lst [])) t2 (.tup [Tx d.1, oV en])) F = some (.lst vs) := Eq.trans (upd_ne nF2) hF3
              have ixn : ixN vs.length (((vs.length : Nat) : Int) - 1) = some d0.length := by
                rw [ix]
                unfold ixN
                rw [if_pos (by omega), lvs]
                simp
                omega
              refine ⟨_, rfl, _, rfl, F, _, rfl, .inl (SqL.of hF4), _, _, rfl, rfl, F, _, _, d0.length, rfl, rfl, hF4, ixn, ?_⟩
              refine ⟨d0 ++ [(d.1, zs[i + 1]?)], vs.set d0.length (.ref t2), _, _, rfl, upd_same, ?_, grow_old pw sh ok hz h2, by simp at ld ⊢; omega, LastOk.next hi, Mem.old pw me hz hbt h2 ((ok.ok d (by simp)).2 z h2).2, (SS.new' nt2).mut nF⟩
              have s4 : Stp [F] (upd (upd H2 q (.lst [])) t2 (.tup [Tx d.1, oV en])) (upd (upd (upd H2 q (.lst [])) t2 (.tup [Tx d.1, oV en])) F (.lst (vs.set d0.length (.ref t2)))) := Stp.put (by simp)
              have od := ok.ok d (by simp)
              have e5 : ((d0 ++ [(d.1, zs[i + 1]?)]).map prD) = (((d0 ++ [d]).map prD).set d0.length (prD (d.1, zs[i + 1]?))) := by
                rw [List.map_append, List.map_append, List.set_append_right _ _ (by simp)]
                simp
              rw [e5]
              refine rpl_set ((rd3.stp (Stp.new nt2 _) Lsts.nil).stp s4 (.one hF4)) (pr_rp (p := (d.1, zs[i + 1]?)) (SqT.of ?_) od.1.2 fun e q => (sh e (List.mem_of_getElem? q)).2)
              rw [upd_ne nF2.symm, upd_same, hen]
            · refine ⟨_, rfl, .inl ⟨rfl, _, SqL.of hF3⟩, _, rfl, _, rfl, p, _, _, Tx z, rfl, rfl, SqL.of hp3, az, _, rfl, len2, fun t2 nt2 => ?_⟩
              have nF2 : F ≠ t2 := ne_of_none hF3 nt2
              refine ⟨F, _, _, rfl, rfl, Eq.trans (upd_ne nF2) hF3, lv, ?_⟩
              refine ⟨(d0 ++ [d]) ++ [(z, zs[i + 1]?)], vs ++ [.ref t2], _, _, rfl, upd_same, ?_, grow_new pw sh ok la hz (fun d1 e q => by
                rw [gl] at e
                cases e
                exact h (decide_eq_true (by rw [q]; rfl))), by rw [List.length_append]; simp; simp at ld; omega, LastOk.next hi, Mem.new pw me hz hbt, (SS.new' nt2).mut nF⟩
              have s4 : Stp [F] (upd (upd H2 q (.lst [])) t2 (.tup [Tx z, oV en])) (upd (upd (upd H2 q (.lst [])) t2 (.tup [Tx z, oV en])) F (.lst (vs ++ [.ref t2]))) := Stp.put (by simp)
              refine prs_one ((rd3.stp (Stp.new nt2 _) Lsts.nil).stp s4 (.one (Eq.trans (upd_ne nF2) hF3))) (pr_rp (p := (z, zs[i + 1]?)) (SqT.of ?_) (sh z (List.mem_of_getElem? hz)).2 fun e q => (sh e (List.mem_of_getElem? q)).2)
              rw [upd_ne nF2.symm, upd_same, hen]
      · exact ⟨ds, vs, _, _, rfl, hF, rd, ok, by omega, la.skip hi, me.skip pw hz (by rw [hb, Bool.eq_false_iff.mpr h]), S⟩
    · rintro σ H2 ⟨ds, vs, x3, x4, rfl, hF, rd, ok, ld, la, me, S⟩
      refine ⟨_, rfl, F, _, rfl, .inl ⟨SqL.of hF, fun b nb => ?_⟩⟩
      exact k b ds _ (S.new' nb) ⟨⟨vs, SqT.of upd_same, rd.stp (Stp.new nb _) Lsts.nil⟩, ok, by omega⟩ (by omega) me
abbrev s_check_ranges : Stmt := topS 25
abbrev N_check_ranges : List Str := ["ranges", "part"]
theorem sc_check_ranges : FnScope ["ranges", "part"] ["ranges"] (defScope s_check_ranges) := ⟨rfl, rfl, rfl, by decide +kernel, rfl, by decide +kernel, by decide +kernel⟩

abbrev s_later_end : Stmt := topS 28
abbrev N_later_end : List Str := ["end", "other_end"]
theorem sc_later_end : FnScope ["end", "other_end"] ["end", "other_end"] (defScope s_later_end) := ⟨rfl, rfl, rfl, by decide +kernel, rfl, by decide +kernel, by decide +kernel⟩

abbrev s_ascending : Stmt := topS 29
abbrev N_ascending : List Str := ["texts", "text"]
theorem sc_ascending : FnScope ["texts", "text"] ["texts"] (defScope s_ascending) := ⟨rfl, rfl, rfl, by decide +kernel, rfl, by decide +kernel, by decide +kernel⟩

abbrev s_span_of : Stmt := topS 30
abbrev N_span_of : List Str := ["ranges", "ends", "first", "end", "parts"]
theorem sc_span_of : FnScope ["ranges", "ends", "first", "end", "parts"] ["ranges"] (defScope s_span_of) := ⟨rfl, rfl, rfl, by decide +kernel, rfl, by decide +kernel, by decide +kernel⟩

/-! ### the span of some ranges -/
def reachB : Option Txt → Txt → Bool
  | none, _ => true
  | some e, f => !decide (e < f)
def spReachesG : Sp := fun vs H Q _ => ∃ (e : Option Txt) (f : Txt), vs = [oV e, Tx f] ∧ ∀ b, b = reachB e f → Q (.bl b) H
theorem cl_reachesG {f : Addr} {fd : FuncData} (D : Df K mg "reaches" s_reaches ["end", "first"] f fd) (T : Nm mg) : Cl P w K mg base 1 "reaches" s_reaches ["end", "first"] spReachesG := by
  refine D.cl sc_reaches (fun vs H Q E h => ?_) (fun cdv A outer s H vs Q E hr h => ?_)
  · obtain ⟨e, f, rfl, _⟩ := h
    rfl
  · obtain ⟨e, f, rfl, k⟩ := h
    refine ⟨_, (pss_one (ps_ret (pe_or (pe_cmpR op_isN (pv 0) pe_non (by first | exact nomark _ | rfl)) (pe_one (pe_cmpR op_ge_str (pv 0) (pv 1) (by first | exact nomark _ | rfl)))))), ?_⟩
    cases e with
    | none => exact ⟨_, rfl, rfl, _, rfl, k _ rfl⟩
    | some e => exact ⟨_, rfl, rfl, _, rfl, _, rfl, _, rfl, tx e, tx f, rfl, rfl, k _ rfl⟩
def laterM : Option Txt → Option Txt → Option Txt
  | some a, some b => if b < a then some a else some b
  | _, _ => none
def spLater : Sp := fun vs H Q _ => ∃ (a b : Option Txt), vs = [oV a, oV b] ∧ Q (oV (laterM a b)) H
theorem cl_later_end {f : Addr} {fd : FuncData} (D : Df K mg "later_end" s_later_end ["end", "other_end"] f fd) (T : Nm mg) : Cl P w K mg base 1 "later_end" s_later_end ["end", "other_end"] spLater := by
  refine D.cl sc_later_end (fun vs H Q E h => ?_) (fun cdv A outer s H vs Q E hr h => ?_)
  · obtain ⟨e, f, rfl, _⟩ := h
    rfl
  · obtain ⟨a, b, rfl, k⟩ := h
    refine ⟨_, (pss_cons (ps_if (PW.pt (pw_or (pt_cmpR op_isN (pv 0) pe_non (by first | exact nomark _ | rfl)) (pw_or1 (pt_cmpR op_isN (pv 1) pe_non (by first | exact nomark _ | rfl))))) (pss_one (ps_ret pe_non)) pss_nil)
      (pss_one (ps_ret (pe_ifExp (pt_cmpR op_gt_str (pv 0) (pv 1) (by first | exact nomark _ | rfl)) (pv 0) (pv 1))))), ?_⟩
    refine ⟨_, rfl, rfl, _, rfl, ?_⟩
    cases a with
    | none => exact k
    | some a =>
      refine ⟨_, rfl, rfl, _, rfl, ?_⟩
      cases b with
      | none => exact k
      | some b =>
        refine ⟨_, rfl, _, rfl, tx a, tx b, rfl, rfl, _, rfl, ?_⟩
        have k' : Q (oV (if b < a then some a else some b)) H := k
        refine ite2 (fun h => ?_) (fun h => ?_)
        · rw [if_pos (show b < a from of_decide_eq_true h)] at k'
          exact ⟨_, rfl, k'⟩
        · rw [if_neg (show ¬ b < a from fun q => h (decide_eq_true q))] at k'
          exact ⟨_, rfl, k'⟩
def spAsc (K : PySem.W.Frag) : Sp := fun vs H Q _ => ∃ (a : Addr) (ls : List Txt), vs = [.ref a] ∧ SqL K H a (ls.map Tx) ∧ (∀ l ∈ ls, Short l) ∧ ls.length ≤ 3000 ∧
  ∀ (zs : List Txt) p H', H p = none → Stp [] H H' → zs.Perm ls → zs.Pairwise (· ≤ ·) → H' p = some (.lst (zs.map Tx)) → Q (.ref p) H'
theorem cl_ascending {f : Addr} {fd : FuncData} (D : Df K mg "ascending" s_ascending ["texts"] f fd) (T : Nm mg) : Cl P w K mg base 1 "ascending" s_ascending ["texts"] (spAsc K) := by
  refine D.cl sc_ascending (fun vs H Q E h => ?_) (fun cdv A outer s H vs Q E hr h => ?_)
  · obtain ⟨a, ls, rfl, _⟩ := h
    rfl
  · obtain ⟨a, ls, rfl, hs, sh, few, k⟩ := h
    refine ⟨_, (pss_one (ps_ret (pe_callB Pg.cr_sortedSA (by rfl) T.n_sorted (by decide +kernel) (pa_cons (pe_lc (own := [("text", 1)]) rfl sc_ascending.nd (pi_list (pv 0)) (blkOk_by (own := [("text", 1)]) (N := N_ascending) (sc := defScope s_ascending) (by decide +kernel)) (fun _ _ _ _ _ => (pg_name (i := 1) sc_ascending.nd rfl (by first | exact Or.inl rfl | exact Or.inr rfl))) (fun _ _ _ _ _ => pts_nil) (fun _ _ _ _ _ => (pe_callTy SkE.call_str_str (by rfl) T.n_str (by decide +kernel) (pa_cons (pv 1) pa_nil)))) pa_nil)))), ?_⟩
    refine ⟨_, rfl, a, rfl, ⟨_, hs⟩, fun L nL => ?_⟩
    refine lc_mapL (ds := ls.map Dt.str) nL hs (by simp) (by rw [List.length_map]; omega) (fun j x d H3 hx hd S3 Q2 q => ?_) fun ws H3 S3 h3 r3 => ?_
    · rw [List.getElem?_map] at hx hd
      cases e : ls[j]? with
      | none => rw [e] at hx; cases hx
      | some l =>
        rw [e] at hx hd
        cases hx
        cases hd
        exact ⟨rfl, _, rfl, tx l, rfl, q _ _ (Stp.refl _ _) (.str l (by have := (sh l (List.mem_of_getElem? e)).2; omega))⟩
    · have e3 := rpl_strs r3
      subst e3
      exact ⟨L, ls, rfl, SqL.of h3, fun zs p pm pw np => k zs p _ (S3.fresh (fun m => nomatch m) np) (S3.new' np) pm pw upd_same⟩
def spCkR (K : PySem.W.Frag) : Sp := fun vs H Q _ => ∃ (a : Addr) (xs : List V) (ps : List Pr), vs = [.ref a] ∧ H a = some (.lst xs) ∧ RpL K H xs (ps.map prD) ∧ (∀ p ∈ ps, PrOk p) ∧ ps.length ≤ 3000 ∧ ∀ H', Stp [] H H' → Q .non H'
theorem cl_check_ranges {f : Addr} {fd : FuncData} (D : Df K mg "check_ranges" s_check_ranges ["ranges"] f fd) (T : Nm mg) (c_is_range : Cl P w K mg base 2 "is_range" s_is_range ["value"] (spIsRange K)) : Cl P w K mg base 3 "check_ranges" s_check_ranges ["ranges"] (spCkR K) := by
  refine D.cl sc_check_ranges (fun vs H Q E h => ?_) (fun cdv A outer s H vs Q E hr h => ?_)
  · obtain ⟨a, xs, ps, rfl, _⟩ := h
    rfl
  · obtain ⟨a, xs, ps, rfl, hs, rl, ok, few, k⟩ := h
    refine ⟨_, (pss_one (ps_if (PW.pt (pw_or (pt_tyNot (T := "list") Mono.var (pv 0) T.n_type T.n_list (by decide +kernel)) (pw_or1 (pt_not (pt_val (pe_callB (cr_all rfl) (by rfl) T.n_all (by decide +kernel) (pa_cons (pe_lc (own := [("part", 1)]) rfl sc_check_ranges.nd (pi_list (pv 0)) (blkOk_by (own := [("part", 1)]) (N := N_check_ranges) (sc := defScope s_check_ranges) (by decide +kernel)) (fun _ _ _ _ _ => (pg_name (i := 1) sc_check_ranges.nd rfl (by first | exact Or.inl rfl | exact Or.inr rfl))) (fun _ _ _ _ _ => pts_nil) (fun _ _ _ _ _ => (pe_cl c_is_range hr (by omega) (pa_cons (pv 1) pa_nil)))) pa_nil))))))) (pss_one ps_never) pss_nil)), ?_⟩
    have lx : xs.length = ps.length := by rw [rl.len, List.length_map]
    refine ⟨_, rfl, .lst, .lst hs, ?_⟩
    refine ite2 (fun h => absurd h (by simp [Dt.ty])) (fun _ => ?_)
    refine ⟨_, rfl, a, rfl, ⟨_, SqL.of hs⟩, fun L nL => ?_⟩
    refine lc_mapL (ds := (ps.map fun _ => true).map Dt.bl) nL (SqL.of hs) (by simp [lx]) (by omega) (fun j x d H3 hx hd S3 Q2 q => ?_) fun ws H3 S3 h3 r3 => ?_
    · obtain ⟨p, hp, t, rfl, ht⟩ := prs_get rl hx
      rw [List.getElem?_map, List.getElem?_map, hp] at hd
      cases hd
      exact ⟨rfl, _, rfl, t, p, rfl, sqt_stp S3 Lsts.nil ht, ok p (List.mem_of_getElem? hp), q _ _ (Stp.refl _ _) (.bl _)⟩
    · have e3 := rpl_bls r3
      subst e3
      refine ⟨L, _, rfl, SqL.of h3, ?_⟩
      have e : ((ps.map fun _ => true).all id) = true := by
        rw [List.all_eq_true]
        intro x m
        obtain ⟨_, _, rfl⟩ := List.mem_map.mp m
        rfl
      rw [e]
      exact ⟨_, rfl, k _ S3⟩
theorem inP_later {w g : Txt} {a b : Option Txt} : inP w (g, laterM a b) = (inP w (g, a) || inP w (g, b)) := by
  rw [Bool.eq_iff_iff, Bool.or_eq_true, inP_iff, inP_iff, inP_iff]
  cases a with
  | none =>
    show (g ≤ w ∧ ∀ e, none = some e → w < e) ↔ _
    exact ⟨fun h => .inl h, fun h => h.elim id fun h => ⟨h.1, fun e he => by cases he⟩⟩
  | some a =>
    cases b with
    | none =>
      show (g ≤ w ∧ ∀ e, none = some e → w < e) ↔ _
      exact ⟨fun h => .inr h, fun h => h.elim (fun h => ⟨h.1, fun e he => by cases he⟩) id⟩
    | some b =>
      show (g ≤ w ∧ ∀ e, (if b < a then some a else some b) = some e → w < e) ↔ _
      by_cases c : b < a
      · rw [if_pos c]
        constructor
        · exact fun h => .inl ⟨h.1, fun e he => h.2 e he⟩
        · rintro (h | h)
          · exact h
          · exact ⟨h.1, fun e he => by cases he; exact List.lt_trans (h.2 b rfl) c⟩
      · rw [if_neg c]
        constructor
        · exact fun h => .inr ⟨h.1, fun e he => h.2 e he⟩
        · rintro (h | h)
          · exact ⟨h.1, fun e he => by cases he; exact lt_le (h.2 a rfl) (le_of_nlt c)⟩
          · exact h
theorem later_ok {g : Txt} {a b : Option Txt} (ha : PrOk (g, a)) (hb : PrOk (g, b)) : PrOk (g, laterM a b) := by
  refine ⟨ha.1, fun e he => ?_⟩
  cases a with
  | none => cases he
  | some a =>
    cases b with
    | none => cases he
    | some b =>
      have he : (if b < a then some a else some b) = some e := he
      by_cases c : b < a
      · rw [if_pos c] at he
        exact ha.2 e he
      · rw [if_neg c] at he
        exact hb.2 e he
/-! the ends by first texts -/
def kvE (E : List Pr) : List (Key × V) := E.map fun p => (Sum.inr (tx p.1), oV p.2)
def lk (E : List Pr) (g : Txt) : Option (Option Txt) := (E.find? fun p => decide (p.1 = g)).map Prod.snd
def putE (E : List Pr) (g : Txt) (e : Option Txt) : List Pr := if (E.any fun p => decide (p.1 = g)) = true then E.map (fun p => if p.1 = g then (p.1, e) else p) else E ++ [(g, e)]
theorem key_eq {a b : Txt} : ((Sum.inr (tx a) : Key) = Sum.inr (tx b)) ↔ a = b := ⟨fun h => tx_inj (Sum.inr.inj h), fun h => by rw [h]⟩
theorem valV_kvE : ∀ (E : List Pr) (g : Txt), valV (kvE E) (Sum.inr (tx g) : Key) = (lk E g).map oV
  | [], _ => rfl
  | p :: E, g => by
    show valV ((Sum.inr (tx p.1), oV p.2) :: kvE E) _ = _
    by_cases c : p.1 = g
    · rw [valV_pos (show (Sum.inr (tx p.1) : Key) = _ from key_eq.mpr c)]
      unfold lk
      rw [List.find?_cons_of_pos (by simp [c])]
      rfl
    · rw [valV_neg (fun q => c (key_eq.mp q)), valV_kvE E g]
      unfold lk
      rw [List.find?_cons_of_neg (by simp [c])]
theorem putK_kvE (E : List Pr) (g : Txt) (e : Option Txt) : putK (kvE E) (Sum.inr (tx g) : Key) (oV e) = kvE (putE E g e) := by
  have a : ((kvE E).any fun kv => decide (kv.1 = (Sum.inr (tx g) : Key))) = E.any fun p => decide (p.1 = g) := by
    unfold kvE
    rw [List.any_map]
    congr 1
    funext p
    show decide ((Sum.inr (tx p.1) : Key) = _) = _
    exact decide_eq_decide.mpr key_eq
  unfold putK putE
  rw [a]
  split
  · unfold kvE
    rw [List.map_map, List.map_map]
    refine List.map_congr_left fun p _ => ?_
    show (if (Sum.inr (tx p.1) : Key) = Sum.inr (tx g) then ((Sum.inr (tx p.1) : Key), oV e) else (Sum.inr (tx p.1), oV p.2)) = (fun p : Pr => ((Sum.inr (tx p.1) : Key), oV p.2)) (if p.1 = g then (p.1, e) else p)
    by_cases c : p.1 = g
    · rw [if_pos (key_eq.mpr c), if_pos c]
    · rw [if_neg (fun q => c (key_eq.mp q)), if_neg c]
  · unfold kvE
    rw [List.map_append]
    rfl
theorem putE_keys (E : List Pr) (g : Txt) (e : Option Txt) : (putE E g e).map Prod.fst = if (E.any fun p => decide (p.1 = g)) = true then E.map Prod.fst else E.map Prod.fst ++ [g] := by
  unfold putE
  split
  · rw [List.map_map]
    refine List.map_congr_left fun p _ => ?_
    show (if p.1 = g then (p.1, e) else p).1 = p.1
    split <;> rfl
  · rw [List.map_append]
    rfl
theorem any_key {E : List Pr} {g : Txt} : (E.any fun p => decide (p.1 = g)) = true ↔ g ∈ E.map Prod.fst := by
  rw [List.any_eq_true, List.mem_map]
  constructor
  · rintro ⟨p, m, h⟩
    exact ⟨p, m, of_decide_eq_true h⟩
  · rintro ⟨p, m, h⟩
    exact ⟨p, m, decide_eq_true h⟩
theorem putE_nd {E : List Pr} {g : Txt} {e : Option Txt} (nd : (E.map Prod.fst).Nodup) : ((putE E g e).map Prod.fst).Nodup := by
  rw [putE_keys]
  split
  · exact nd
  · rename_i c
    rw [any_key] at c
    rw [List.nodup_append]
    exact ⟨nd, List.nodup_cons.mpr ⟨List.not_mem_nil, List.nodup_nil⟩, fun a ma b mb => by rw [List.mem_singleton.mp mb]; exact fun q => c (q ▸ ma)⟩
theorem putE_len {E : List Pr} {g : Txt} {e : Option Txt} : (putE E g e).length ≤ E.length + 1 := by
  unfold putE
  split <;> simp
theorem lk_some {E : List Pr} (nd : (E.map Prod.fst).Nodup) {p : Pr} (m : p ∈ E) : lk E p.1 = some p.2 := by
  unfold lk
  induction E with
  | nil => cases m
  | cons q E ih =>
    rw [List.map_cons, List.nodup_cons] at nd
    rcases List.mem_cons.mp m with rfl | m
    · rw [List.find?_cons_of_pos (by simp)]
      rfl
    · rw [List.find?_cons_of_neg, ih nd.2 m]
      simp only [decide_eq_true_eq]
      exact fun h => nd.1 (h ▸ List.mem_map.mpr ⟨p, m, rfl⟩)
theorem lk_mem {E : List Pr} {g : Txt} {e : Option Txt} (h : lk E g = some e) : (g, e) ∈ E := by
  unfold lk at h
  cases q : E.find? fun p => decide (p.1 = g) with
  | none => rw [q] at h; cases h
  | some p =>
    rw [q] at h
    cases h
    have a := List.find?_some q
    have b := of_decide_eq_true a
    rw [← b]
    exact List.mem_of_find?_eq_some q
theorem lk_none {E : List Pr} {g : Txt} (h : lk E g = none) : ¬ (E.any fun p => decide (p.1 = g)) = true := by
  unfold lk at h
  have a : E.find? (fun p => decide (p.1 = g)) = none := by simpa using h
  rw [List.find?_eq_none] at a
  rw [List.any_eq_true]
  rintro ⟨p, m, q⟩
  exact a p m q
theorem put_new {E : List Pr} {g : Txt} {e : Option Txt} (h : lk E g = none) (w : Txt) : inS (putE E g e) w = (inS E w || inP w (g, e)) := by
  unfold putE
  rw [if_neg (lk_none h), inS_app, inS_cons]
  show (inS E w || (inP w (g, e) || false)) = _
  rw [Bool.or_false]
theorem put_old {E : List Pr} (nd : (E.map Prod.fst).Nodup) {g : Txt} {e e0 : Option Txt} (h : lk E g = some e0) (w : Txt) : inS (putE E g (laterM e e0)) w = (inS E w || inP w (g, e)) := by
  have m := lk_mem h
  have an : (E.any fun p => decide (p.1 = g)) = true := any_key.mpr (List.mem_map.mpr ⟨_, m, rfl⟩)
  unfold putE
  rw [if_pos an, Bool.eq_iff_iff, Bool.or_eq_true]
  constructor
  · intro hh
    obtain ⟨q, mq, hq⟩ := inS_mem.mp hh
    obtain ⟨p, mp, rfl⟩ := List.mem_map.mp mq
    by_cases c : p.1 = g
    · rw [if_pos c, c, inP_later, Bool.or_eq_true] at hq
      rcases hq with hq | hq
      · exact .inr hq
      · exact .inl (inS_mem.mpr ⟨_, m, hq⟩)
    · rw [if_neg c] at hq
      exact .inl (inS_mem.mpr ⟨p, mp, hq⟩)
  · rintro (hh | hh)
    · obtain ⟨p, mp, hp⟩ := inS_mem.mp hh
      refine inS_mem.mpr ⟨_, List.mem_map.mpr ⟨p, mp, rfl⟩, ?_⟩
      by_cases c : p.1 = g
      · rw [if_pos c, c, inP_later, Bool.or_eq_true]
        have e2 := lk_some nd mp
        rw [c, h] at e2
        have pe : p = (g, e0) := Prod.ext c (Option.some.inj e2).symm
        rw [pe] at hp
        exact .inr hp
      · rw [if_neg c]
        exact hp
    · refine inS_mem.mpr ⟨_, List.mem_map.mpr ⟨_, m, rfl⟩, ?_⟩
      rw [if_pos rfl, inP_later, Bool.or_eq_true]
      exact .inl hh
theorem putE_ok {E : List Pr} {g : Txt} {e : Option Txt} (ok : ∀ p ∈ E, PrOk p) (h : PrOk (g, e)) : ∀ p ∈ putE E g e, PrOk p := fun p m => by
  unfold putE at m
  split at m
  · obtain ⟨q, mq, rfl⟩ := List.mem_map.mp m
    by_cases c : q.1 = g
    · rw [if_pos c, c]
      exact h
    · rw [if_neg c]
      exact ok q mq
  · rcases List.mem_append.mp m with m | m
    · exact ok p m
    · rw [List.mem_singleton.mp m]
      exact h
theorem take_in {ps : List Pr} {i : Nat} {p : Pr} (h : ps[i]? = some p) (w : Txt) : inS (ps.take (i + 1)) w = (inS (ps.take i) w || inP w p) := by
  rw [List.take_add_one, h, inS_app]
  show (inS (ps.take i) w || inS [p] w) = _
  rw [inS_cons]
  show (inS (ps.take i) w || (inP w p || false)) = _
  rw [Bool.or_false]
/-- the entry of a first text -/
def ent (E : List Pr) (z : Txt) : Pr := (z, (lk E z).getD none)
theorem ent_in {E : List Pr} (nd : (E.map Prod.fst).Nodup) {zs : List Txt} (pm : zs.Perm (E.map Prod.fst)) (w : Txt) : inS (zs.map (ent E)) w = inS E w := by
  rw [Bool.eq_iff_iff]
  constructor
  · intro h
    obtain ⟨q, mq, hq⟩ := inS_mem.mp h
    obtain ⟨z, mz, rfl⟩ := List.mem_map.mp mq
    obtain ⟨p, mp, rfl⟩ := List.mem_map.mp (pm.mem_iff.mp mz)
    have : ent E p.1 = p := by unfold ent; rw [lk_some nd mp]; rfl
    rw [this] at hq
    exact inS_mem.mpr ⟨p, mp, hq⟩
  · intro h
    obtain ⟨p, mp, hp⟩ := inS_mem.mp h
    have : ent E p.1 = p := by unfold ent; rw [lk_some nd mp]; rfl
    exact inS_mem.mpr ⟨p, List.mem_map.mpr ⟨p.1, pm.mem_iff.mpr (List.mem_map.mpr ⟨p, mp, rfl⟩), this⟩, hp⟩
/-- the last part takes the next range in -/
theorem ext_in {d0 : List Pr} {d : Pr} {z : Txt} {e : Option Txt} (le : d.1 ≤ z) (r : reachB d.2 z = true) (w : Txt) : inS (d0 ++ [(d.1, laterM d.2 e)]) w = (inS (d0 ++ [d]) w || inP w (z, e)) := by
  have key : (inP w d || inP w (d.1, e)) = (inP w d || inP w (z, e)) := by
    rw [Bool.eq_iff_iff, Bool.or_eq_true, Bool.or_eq_true]
    constructor
    · rintro (h | h)
      · exact .inl h
      · obtain ⟨h1, h2⟩ := inP_iff.mp h
        by_cases c : z ≤ w
        · exact .inr (inP_iff.mpr ⟨c, h2⟩)
        · refine .inl (inP_iff.mpr ⟨h1, fun e' he => ?_⟩)
          rw [he] at r
          have r' : ¬ e' < z := by simpa [reachB] using r
          have wz : w < z := by
            by_cases q : w < z
            · exact q
            · exact absurd (le_of_nlt q) c
          exact lt_le wz (le_of_nlt r')
    · rintro (h | h)
      · exact .inl h
      · obtain ⟨h1, h2⟩ := inP_iff.mp h
        exact .inr (inP_iff.mpr ⟨List.le_trans le h1, h2⟩)
  have k2 : (inP w (d.1, d.2) || inP w (d.1, e)) = (inP w d || inP w (z, e)) := key
  rw [inS_app, inS_app, inS_cons, inS_cons, inP_later, k2]
  show (inS d0 w || ((inP w d || inP w (z, e)) || false)) = ((inS d0 w || (inP w d || false)) || inP w (z, e))
  cases inS d0 w <;> cases inP w d <;> cases inP w (z, e) <;> rfl
theorem ext_ok {d0 : List Pr} {d : Pr} {z : Txt} {e : Option Txt} (ok : SpOk (d0 ++ [d])) (h : PrOk (z, e)) (lt : d.1 ≤ z) : SpOk (d0 ++ [(d.1, laterM d.2 e)]) := by
  have od := ok.ok d (by simp)
  refine ⟨fun p m => ?_, List.pairwise_append.mpr ⟨(List.pairwise_append.mp ok.gap).1, List.pairwise_singleton _ _, fun p mp q mq => ?_⟩⟩
  · rcases List.mem_append.mp m with m | m
    · exact ok.ok p (List.mem_append_left _ m)
    · rw [List.mem_singleton.mp m]
      exact later_ok (g := d.1) od ⟨od.1, fun e' he => ⟨(h.2 e' he).1, le_lt lt (h.2 e' he).2⟩⟩
  · rw [List.mem_singleton.mp mq]
    obtain ⟨e', f1, f2⟩ := (List.pairwise_append.mp ok.gap).2.2 p mp d List.mem_cons_self
    exact ⟨e', f1, f2⟩
theorem new_ok {ds : List Pr} {z : Txt} {e : Option Txt} (ok : SpOk ds) (h : PrOk (z, e)) (g : ∀ d, ds.getLast? = some d → reachB d.2 z = false) : SpOk (ds ++ [(z, e)]) := by
  refine ⟨fun p m => ?_, List.pairwise_append.mpr ⟨ok.gap, List.pairwise_singleton _ _, fun p mp q mq => ?_⟩⟩
  · rcases List.mem_append.mp m with m | m
    · exact ok.ok p m
    · rw [List.mem_singleton.mp m]
      exact h
  · rw [List.mem_singleton.mp mq]
    rcases List.eq_nil_or_concat ds with rfl | ⟨d0, d, rfl⟩
    · cases mp
    rw [List.concat_eq_append] at *
    have r := g d (by rw [List.getLast?_append, List.getLast?_singleton]; rfl)
    obtain ⟨e1, f1, f2⟩ : Gap d (z, e) := by
      cases q : d.2 with
      | none => rw [q] at r; cases r
      | some e1 =>
        rw [q] at r
        have r' : e1 < z := by simpa [reachB] using r
        exact ⟨e1, q, r'⟩
    rcases List.mem_append.mp mp with mp | mp
    · obtain ⟨e', g1, g2⟩ := (List.pairwise_append.mp ok.gap).2.2 p mp d List.mem_cons_self
      exact ⟨e', g1, List.lt_trans g2 (List.lt_trans ((ok.ok d (by simp)).2 e1 f1).2 f2)⟩
    · rw [List.mem_singleton.mp mp]
      exact ⟨e1, f1, f2⟩
def spSpanOf (K : PySem.W.Frag) : Sp := fun vs H Q _ => ∃ (a : Addr) (xs : List V) (ps : List Pr), vs = [.ref a] ∧ H a = some (.lst xs) ∧ RpL K H xs (ps.map prD) ∧ (∀ p ∈ ps, PrOk p) ∧ ps.length ≤ 3000 ∧
  ∀ b ds H', Stp [] H H' → Spn K H' b ds → (∀ w, inS ds w = inS ps w) → Q (.ref b) H'
theorem atL {α : Type} {xs : List α} {v : α} (h : xs ≠ []) (e : xs[xs.length - 1]? = some v) : atI xs (-1) = some v := by
  obtain ⟨ys, y, hy⟩ : ∃ ys y, xs = ys ++ [y] := ⟨_, _, (List.dropLast_concat_getLast h).symm⟩
  subst hy
  rw [List.length_append, List.length_singleton, Nat.add_sub_cancel, List.getElem?_append_right (Nat.le_refl _), Nat.sub_self] at e
  cases e
  exact atI_last ys _
theorem cl_span_of {f : Addr} {fd : FuncData} (D : Df K mg "span_of" s_span_of ["ranges"] f fd) (T : Nm mg) (c_check_ranges : Cl P w K mg base 3 "check_ranges" s_check_ranges ["ranges"] (spCkR K)) (c_later_end : Cl P w K mg base 1 "later_end" s_later_end ["end", "other_end"] spLater)
    (c_ascending : Cl P w K mg base 1 "ascending" s_ascending ["texts"] (spAsc K)) (c_reaches : Cl P w K mg base 1 "reaches" s_reaches ["end", "first"] spReachesG) : Cl P w K mg base 4 "span_of" s_span_of ["ranges"] (spSpanOf K) := by
  refine D.cl sc_span_of (fun vs H Q E h => ?_) (fun cdv A outer s H vs Q E hr h => ?_)
  · obtain ⟨a, xs, ps, rfl, _⟩ := h
    rfl
  · obtain ⟨a, xs, ps, rfl, hs, rl, ok, few, k⟩ := h
    refine ⟨_, (pss_cons (ps_expr (pe_cl c_check_ranges hr (by omega) (pa_cons (pv 0) pa_nil)))
      (pss_cons (ps_set (i := 1) sc_span_of.nd rfl (by first | exact Or.inl rfl | exact Or.inr rfl) pe_dnewK)
      (pss_cons (ps_for PassesOwn.never rfl (pi_list (pv 0)) (pg_tup rfl (pgs_cons (pg_name (i := 2) sc_span_of.nd rfl (by first | exact Or.inl rfl | exact Or.inr rfl)) (pgs_cons (pg_name (i := 3) sc_span_of.nd rfl (by first | exact Or.inl rfl | exact Or.inr rfl)) pgs_nil (by rfl)) (by rfl)) (by rfl) (by rfl)) (pss_one (ps_dput (hu_of hr) (pv 1) (pv 2) (pe_ifExp (pt_cmp (pc_din (hu_of hr) (pv 2) (pv 1))) (pe_cl c_later_end hr (by omega) (pa_cons (pv 3) (pa_cons (pe_dget (hu_of hr) (pv 1) (pv 2) (fun _ _ => rfl)) pa_nil))) (pv 3)) rfl)))
      (pss_cons (ps_set (i := 4) sc_span_of.nd rfl (by first | exact Or.inl rfl | exact Or.inr rfl) (pe_lst pa_nil))
      (pss_cons (ps_for PassesOwn.never rfl (pi_list (pe_cl c_ascending hr (by omega) (pa_cons (pe_callTy (call_list_dK rfl) (by rfl) T.n_list (by decide +kernel) (pa_cons (pv 1) pa_nil)) pa_nil))) (pg_name (i := 2) sc_span_of.nd rfl (by first | exact Or.inl rfl | exact Or.inr rfl)) (pss_one (ps_if (PW.pt (pw_and (pt_truth (pv 4) (by intro _; rfl)) (pw_and1 (pt_val (pe_cl c_reaches hr (by omega) (pa_cons (pe_ix ix_tup (pe_ix ix_list (pv 4) (pe_un un_neg pe_int) (fun _ _ => rfl)) pe_int (fun _ _ => rfl)) (pa_cons (pv 2) pa_nil))))))) (pss_one (ps_asg (pe_tup (pa_cons (pe_ix ix_tup (pe_ix ix_list (pv 4) (pe_un un_neg pe_int) (fun _ _ => rfl)) pe_int (fun _ _ => rfl)) (pa_cons (pe_cl c_later_end hr (by omega) (pa_cons (pe_ix ix_tup (pe_ix ix_list (pv 4) (pe_un un_neg pe_int) (fun _ _ => rfl)) pe_int (fun _ _ => rfl)) (pa_cons (pe_dget (hu_of hr) (pv 1) (pv 2) (fun _ _ => rfl)) pa_nil))) pa_nil))) (pg_sub (pv 4) (pe_un un_neg pe_int) set_list))) (pss_one (ps_expr (pe_bm PySem.F.plainAttrs_list PySem.F.slot_list_append PySem.F.type_list_append mt_append (pv 4) (pa_cons (pe_tup (pa_cons (pv 2) (pa_cons (pe_dget (hu_of hr) (pv 1) (pv 2) (fun _ _ => rfl)) pa_nil))) pa_nil)))))))
      (pss_one (ps_ret (pe_callTy call_tuple_of (by rfl) T.n_tuple (by decide +kernel) (pa_cons (pv 4) pa_nil))))))))), ?_⟩
    have lx : xs.length = ps.length := by rw [rl.len, List.length_map]
    refine ⟨_, rfl, a, xs, ps, rfl, hs, rl, ok, few, fun H1 S1 => ?_⟩
    have hs1 := S1.kp _ _ (fun m => nomatch m) hs
    have rl1 := rl.stp S1 Lsts.nil
    refine fun d nd => ?_
    have S0 : Stp [] H1 (upd H1 d (.dK [])) := Stp.new nd _
    refine ⟨_, rfl, a, rfl, ⟨_, SqL.of (S0.kp _ _ (fun m => nomatch m) hs1)⟩, for_list (a := a) (xs := xs) (fun i σ H2 => ∃ (E : List Pr) (x2 x3 x4 : Option V), σ = [some (.ref a), some (.ref d), x2, x3, x4] ∧ H2 d = some (.dK (kvE E)) ∧ (E.map Prod.fst).Nodup ∧ (∀ p ∈ E, PrOk p) ∧ E.length ≤ i ∧ (∀ w, inS E w = inS (ps.take i) w) ∧ Stp [] H1 H2)
      ⟨[], _, _, _, rfl, upd_same, List.nodup_nil, fun _ m => (nomatch m), Nat.le_refl _, fun _ => rfl, S0⟩ (fun i σ H2 _ ⟨_, _, _, _, _, _, _, _, _, _, S⟩ => SqL.of (S.kp _ _ (fun m => nomatch m) hs1)) ?_ ?_⟩
    · rintro i x σ H2 hi ⟨E, x2, x3, x4, rfl, hd, nD, okE, lE, eq, S⟩
      obtain ⟨⟨g, e⟩, hp, t, rfl, ht⟩ := prs_get rl1 hi
      have op := ok _ (List.mem_of_getElem? hp)
      have il : i < ps.length := (List.getElem?_eq_some_iff.mp hp).1
      have big : (kvE E).length < sizeLine := by
        unfold kvE
        rw [List.length_map]
        exact Nat.lt_of_le_of_lt (show E.length ≤ 3000 by omega) (by decide)
      refine ⟨t, _, rfl, sqt_stp S Lsts.nil ht, rfl, _, _, rfl, _, _, rfl, rfl, ?_⟩
      have fin : ∀ e' : Option Txt, PrOk (g, e') → (∀ w, inS (putE E g e') w = (inS E w || inP w (g, e))) → ∃ (E' : List Pr) (x2 x3 x4' : Option V), [some (V.ref a), some (V.ref d), some (Tx g), some (oV e), x4] = [some (.ref a), some (.ref d), x2, x3, x4'] ∧ (upd H2 d (.dK (putK (kvE E) (Sum.inr (tx g) : Key) (oV e')))) d = some (.dK (kvE E')) ∧ (E'.map Prod.fst).Nodup ∧ (∀ p ∈ E', PrOk p) ∧ E'.length ≤ i + 1 ∧ (∀ w, inS E' w = inS (ps.take (i + 1)) w) ∧ Stp [] H1 (upd H2 d (.dK (putK (kvE E) (Sum.inr (tx g) : Key) (oV e')))) := fun e' oe he => by
        refine ⟨putE E g e', _, _, _, rfl, by rw [upd_same, putK_kvE], putE_nd nD, putE_ok okE oe, Nat.le_trans putE_len (by omega), fun w => ?_, S.mutO nd⟩
        rw [he, eq, take_in hp]
      refine ⟨_, rfl, _, rfl, d, _, rfl, DGet.k (k := (Sum.inr (tx g) : Key)) hd, ?_⟩
      rw [valV_kvE]
      cases q : lk E g with
      | none =>
        refine ⟨_, rfl, ite2 (fun h => absurd h (by simp)) (fun _ => ?_)⟩
        exact ⟨_, rfl, _, rfl, _, rfl, d, _, rfl, DPut.k (k := (Sum.inr (tx g) : Key)) hd big, fin e op (put_new q)⟩
      | some e0 =>
        refine ⟨_, rfl, ite2 (fun _ => ?_) (fun h => absurd (show true = true from rfl) h)⟩
        refine ⟨_, rfl, _, rfl, _, rfl, d, oV e0, rfl, by have := DGet.k (k := (Sum.inr (tx g) : Key)) hd; rwa [valV_kvE, q] at this, e, e0, rfl, ?_⟩
        exact ⟨_, rfl, _, rfl, d, _, rfl, DPut.k (k := (Sum.inr (tx g) : Key)) hd big, fin _ (later_ok op (okE _ (lk_mem q))) (put_old nD q)⟩
    · rintro σ H2 ⟨E, x2, x3, x4, rfl, hd, nD, okE, lE, eq, S⟩
      rw [lx, List.take_length] at eq
      refine ⟨Nat.zero_le _, fun G nG => ?_⟩
      have S2 : Stp [] H2 (upd H2 G (.lst [])) := Stp.new nG _
      have hd2 := S2.kp _ _ (fun m => nomatch m) hd
      refine ⟨_, rfl, d, _, rfl, hd2, fun q nq => ?_⟩
      have ek : (kvE E).map (fun kv => kV kv.1) = (E.map Prod.fst).map Tx := by
        unfold kvE
        rw [List.map_map, List.map_map]
        rfl
      rw [ek]
      have S3 : Stp [] (upd H2 G (.lst [])) (upd (upd H2 G (.lst [])) q (.lst ((E.map Prod.fst).map Tx))) := Stp.new nq _
      refine ⟨q, E.map Prod.fst, rfl, SqL.of upd_same, fun l m => ?_, by rw [List.length_map]; omega, fun zs z H4 nz0 S4 pm pw hz => ?_⟩
      · obtain ⟨p, mp, rfl⟩ := List.mem_map.mp m
        exact (okE p mp).1
      have hG : H4 G = some (.lst []) := S4.kp _ _ (fun m => nomatch m) (S3.kp _ _ (fun m => nomatch m) upd_same)
      have hd4 : H4 d = some (.dK (kvE E)) := S4.kp _ _ (fun m => nomatch m) (S3.kp _ _ (fun m => nomatch m) hd2)
      have S14 := ((S.trans S2).trans S3).trans S4
      have nz : zs.Nodup := pm.nodup_iff.mpr nD
      have lz : zs.length ≤ 3000 := by rw [pm.length_eq, List.length_map]; omega
      have asc' : zs.Pairwise (· < ·) := pw.imp₂ (fun a b h1 h2 => by
        by_cases c : a < b
        · exact c
        · exact absurd (List.le_antisymm h1 (le_of_nlt c)) h2) nz
      have zG : z ∉ [G] := fun m => by
        rw [List.mem_singleton.mp m] at nz0
        rw [S3.kp G _ (fun m => nomatch m) upd_same] at nz0
        cases nz0
      have dG : d ∉ [G] := fun m => by
        rw [List.mem_singleton.mp m] at hd4
        rw [hG] at hd4
        cases hd4
      refine ⟨z, rfl, ⟨_, SqL.of hz⟩, for_list (a := z) (xs := zs.map Tx) (fun i σ H5 => ∃ (ds : List Pr) (vs : List V) (x2 x3 : Option V), σ = [some (.ref a), some (.ref d), x2, x3, some (.ref G)] ∧ H5 G = some (.lst vs) ∧ RpL K H5 vs (ds.map prD) ∧ SpOk ds ∧ ds.length ≤ i ∧ (∀ p ∈ ds, p.1 ∈ zs.take i) ∧ (∀ w, inS ds w = inS ((zs.take i).map (ent E)) w) ∧ Stp [G] H4 H5)
        ⟨[], [], _, _, rfl, hG, .nil, .nil, Nat.le_refl _, fun _ m => (nomatch m), fun _ => rfl, Stp.refl _ _⟩ (fun i σ H5 _ ⟨_, _, _, _, _, _, _, _, _, _, _, S5⟩ => SqL.of (S5.kp _ _ zG hz)) ?_ ?_⟩
      · rintro i x σ H5 hi ⟨ds, vs, x2, x3, rfl, hG5, rd, okd, ld, fs, eqd, S5⟩
        rw [List.getElem?_map] at hi
        cases ez : zs[i]? with
        | none => rw [ez] at hi; cases hi
        | some y =>
        rw [ez] at hi
        cases hi
        have il : i < zs.length := (List.getElem?_eq_some_iff.mp ez).1
        have hd5 := S5.kp _ _ dG hd4
        obtain ⟨p, mp, py⟩ := List.mem_map.mp (pm.mem_iff.mp (List.mem_of_getElem? ez))
        have lky : lk E y = some p.2 := by rw [← py]; exact lk_some nD mp
        have oky : PrOk (y, p.2) := by rw [← py]; exact okE p mp
        have entY : ent E y = (y, p.2) := by unfold ent; rw [lky]; rfl
        have dg : ∀ {H6 : Hp}, H6 d = some (.dK (kvE E)) → DGet H6 d (Tx y) (some (oV p.2)) := fun h6 => by
          have := DGet.k (k := (Sum.inr (tx y) : Key)) h6
          rwa [valV_kvE, lky] at this
        have tk : ∀ w, inS ((zs.take (i + 1)).map (ent E)) w = (inS ds w || inP w (y, p.2)) := fun w => by
          rw [List.take_add_one, ez, List.map_append, inS_app, eqd, ← entY]
          show (_ || inS [ent E y] w) = _
          rw [inS_cons]
          show (_ || (inP w (ent E y) || false)) = _
          rw [Bool.or_false]
        have lv : vs.length < sizeLine := by
          rw [rd.len, List.length_map]
          exact Nat.lt_of_le_of_lt (show ds.length ≤ 3000 by omega) (by decide)
        have len2 : (2 : Nat) ≤ sizeLine := by decide
        have fs' : ∀ q ∈ ds, q.1 ∈ zs.take (i + 1) := fun q m => by
          rw [List.take_add_one, ez]
          exact List.mem_append_left _ (fs q m)
        have yin : y ∈ zs.take (i + 1) := by
          rw [List.take_add_one, ez]
          exact List.mem_append_right _ (by simp)
        have app : (∀ q, ds.getLast? = some q → reachB q.2 y = false) → ∀ (D : Ends), D.nx = (fun σ' H6 => ∃ (ds : List Pr) (vs : List V) (x2 x3 : Option V), σ' = [some (.ref a), some (.ref d), x2, x3, some (.ref G)] ∧ H6 G = some (.lst vs) ∧ RpL K H6 vs (ds.map prD) ∧ SpOk ds ∧ ds.length ≤ i + 1 ∧ (∀ p ∈ ds, p.1 ∈ zs.take (i + 1)) ∧ (∀ w, inS ds w = inS ((zs.take (i + 1)).map (ent E)) w) ∧ Stp [G] H4 H6) →
            ∀ t2, H5 t2 = none → D.nx [some (.ref a), some (.ref d), some (Tx y), x3, some (.ref G)] (upd (upd H5 t2 (.tup [Tx y, oV p.2])) G (.lst (vs ++ [.ref t2]))) := fun last D eD t2 nt2 => by
          rw [eD]
          have nG2 : G ≠ t2 := ne_of_none hG5 nt2
          have hG6 : (upd H5 t2 (.tup [Tx y, oV p.2])) G = some (.lst vs) := by rw [upd_ne nG2]; exact hG5
          have s3 : Stp [] H5 (upd H5 t2 (.tup [Tx y, oV p.2])) := Stp.new nt2 _
          have s4 : Stp [G] (upd H5 t2 (.tup [Tx y, oV p.2])) (upd (upd H5 t2 (.tup [Tx y, oV p.2])) G (.lst (vs ++ [.ref t2]))) := Stp.put (by simp)
          refine ⟨ds ++ [(y, p.2)], vs ++ [.ref t2], _, _, rfl, upd_same, ?_, new_ok okd oky last, by simp; omega, fun q m => ?_, fun w => ?_, (S5.trans s3.nil).trans s4⟩
          · refine prs_one ((rd.stp s3 Lsts.nil).stp s4 (.one hG6)) (pr_rp (p := (y, p.2)) (SqT.of ?_) oky.1.2 fun e q => (oky.2 e q).1.2)
            rw [upd_ne nG2.symm]
            exact upd_same
          · rcases List.mem_append.mp m with m | m
            · exact fs' q m
            · rw [List.mem_singleton.mp m]
              exact yin
          · rw [tk, inS_app]
            congr 1
            rw [inS_cons]
            show (inP w (y, p.2) || false) = _
            rw [Bool.or_false]
        refine ⟨_, rfl, _, .inl ⟨vs, SqL.of hG5, rfl⟩, ?_⟩
        rcases List.eq_nil_or_concat ds with rfl | ⟨d0, q, rfl⟩
        · have ev : vs = [] := List.length_eq_zero_iff.mp (by rw [rd.len]; rfl)
          subst ev
          refine ite2 (fun h => absurd h (by simp)) (fun _ => ?_)
          refine ⟨_, rfl, .inl ⟨rfl, _, SqL.of hG5⟩, _, rfl, _, rfl, _, rfl, d, _, rfl, dg hd5, len2, fun t2 nt2 => ?_⟩
          exact ⟨G, _, _, rfl, rfl, by rw [upd_ne (ne_of_none hG5 nt2)]; exact hG5, lv, app (fun q h => by cases h) _ rfl t2 nt2⟩
        · rw [List.concat_eq_append] at *
          have gl : (d0 ++ [q]).getLast? = some q := by rw [List.getLast?_append, List.getLast?_singleton]; rfl
          have lvs : vs.length = d0.length + 1 := by rw [rd.len, List.length_map, List.length_append]; rfl
          have vne : vs ≠ [] := by intro e; rw [e] at lvs; simp at lvs
          obtain ⟨v, hv0⟩ : ∃ v, vs[d0.length]? = some v := ⟨vs[d0.length]'(by omega), List.getElem?_eq_getElem _⟩
          obtain ⟨q', hq', t, rfl, ht⟩ := prs_get rd hv0
          obtain rfl : q = q' := by
            rw [List.getElem?_append_right (Nat.le_refl _), Nat.sub_self] at hq'
            exact Option.some.inj hq'
          have al : atI vs (-1) = some (.ref t) := atL vne (by rw [lvs, Nat.add_sub_cancel]; exact hv0)
          have qlt : q.1 ≤ y := by
            have m := fs q (by simp)
            obtain ⟨j, hj, ej⟩ := List.mem_iff_getElem.mp m
            rw [List.length_take] at hj
            rw [List.getElem_take] at ej
            have := List.pairwise_iff_getElem.mp asc' j i (by omega) il (by omega)
            rw [ej, (List.getElem?_eq_some_iff.mp ez).2] at this
            exact lt_le' this
          refine ite2 (fun _ => ?_) (fun h => absurd (by cases vs with | nil => exact absurd rfl vne | cons _ _ => rfl) h)
          refine ⟨_, rfl, 1, rfl, G, _, _, .ref t, rfl, rfl, SqL.of hG5, al, t, _, 1, oV q.2, rfl, rfl, ht, at1, _, rfl, q.2, y, rfl, fun b eb => ⟨_, rfl, ite2 (fun h => ?_) (fun h => ?_)⟩⟩
          · have rt : reachB q.2 y = true := by rw [← eb]; exact h
            refine ⟨_, rfl, 1, rfl, G, _, _, .ref t, rfl, rfl, SqL.of hG5, al, t, _, 0, Tx q.1, rfl, rfl, ht, at0, ?_⟩
            refine ⟨_, rfl, 1, rfl, G, _, _, .ref t, rfl, rfl, SqL.of hG5, al, t, _, 1, oV q.2, rfl, rfl, ht, at1, _, rfl, _, rfl, d, _, rfl, dg hd5, q.2, p.2, rfl, len2, fun t2 nt2 => ?_⟩
            have nG2 : G ≠ t2 := ne_of_none hG5 nt2
            have hG6 : (upd H5 t2 (.tup [Tx q.1, oV (laterM q.2 p.2)])) G = some (.lst vs) := by rw [upd_ne nG2]; exact hG5
            have s3 : Stp [] H5 (upd H5 t2 (.tup [Tx q.1, oV (laterM q.2 p.2)])) := Stp.new nt2 _
            have s4 : Stp [G] (upd H5 t2 (.tup [Tx q.1, oV (laterM q.2 p.2)])) (upd (upd H5 t2 (.tup [Tx q.1, oV (laterM q.2 p.2)])) G (.lst (vs.set d0.length (.ref t2)))) := Stp.put (by simp)
            have ixn : ixN vs.length (-1) = some d0.length := by
              unfold ixN
              rw [if_neg (by decide), if_pos (by omega), lvs]
              simp
              omega
            have ok2 := ext_ok okd oky qlt
            have o2 := ok2.ok (q.1, laterM q.2 p.2) (by simp)
            refine ⟨_, rfl, 1, rfl, G, _, _, d0.length, rfl, rfl, hG6, ixn, ?_⟩
            refine ⟨d0 ++ [(q.1, laterM q.2 p.2)], vs.set d0.length (.ref t2), _, _, rfl, upd_same, ?_, ok2, by simp at ld ⊢; omega, fun r m => ?_, fun w => ?_, (S5.trans s3.nil).trans s4⟩
            · have e5 : ((d0 ++ [(q.1, laterM q.2 p.2)]).map prD) = (((d0 ++ [q]).map prD).set d0.length (prD (q.1, laterM q.2 p.2))) := by
                rw [List.map_append, List.map_append, List.set_append_right _ _ (by simp)]
                simp
              rw [e5]
              refine rpl_set ((rd.stp s3 Lsts.nil).stp s4 (.one hG6)) (pr_rp (p := (q.1, laterM q.2 p.2)) (SqT.of ?_) o2.1.2 fun e h => (o2.2 e h).1.2)
              rw [upd_ne nG2.symm]
              exact upd_same
            · rcases List.mem_append.mp m with m | m
              · exact fs' r (List.mem_append_left _ m)
              · rw [List.mem_singleton.mp m]
                exact fs' q (by simp)
            · rw [ext_in qlt rt, tk]
          · refine ⟨_, rfl, .inl ⟨rfl, _, SqL.of hG5⟩, _, rfl, _, rfl, _, rfl, d, _, rfl, dg hd5, len2, fun t2 nt2 => ?_⟩
            exact ⟨G, _, _, rfl, rfl, by rw [upd_ne (ne_of_none hG5 nt2)]; exact hG5, lv, app (fun r hr' => by rw [gl] at hr'; cases hr'; rw [← eb]; exact Bool.eq_false_iff.mpr h) _ rfl t2 nt2⟩
      · rintro σ H5 ⟨ds, vs, x2, x3, rfl, hG5, rd, okd, ld, fs, eqd, S5⟩
        rw [List.length_map] at ld eqd
        rw [List.take_length] at eqd
        refine ⟨_, rfl, G, _, rfl, .inl ⟨SqL.of hG5, fun b nb => ?_⟩⟩
        have SS : Stp [] H (upd H5 b (.tup vs)) := (S1.trans ((S.trans (Stp.loc nG ((S2.trans S3).trans S4 |>.nil.trans S5)))|>.new' nb))
        exact k b ds _ SS ⟨⟨vs, SqT.of upd_same, rd.stp (Stp.new nb _) Lsts.nil⟩, okd, by omega⟩ fun w => by rw [eqd, ent_in nD pm, eq]
theorem Spn.up {H H' : Hp} {a : Addr} {ps : List Pr} (h : Spn K H a ps) (s : Stp [] H H') : Spn K H' a ps := h.stp s Lsts.nil
theorem opps_w {ps : List Pr} (ok : SpOk ps) (w : Txt) : inS (opps [] ps) w = !inS ps w := opps_in ps [] w ok short_nil (fun _ _ => nil_le _) (nil_le _)
abbrev s_joined : Stmt := topS 33
abbrev N_joined : List Str := ["span", "other_span"]
theorem sc_joined : FnScope ["span", "other_span"] ["span", "other_span"] (defScope s_joined) := ⟨rfl, rfl, rfl, by decide +kernel, rfl, by decide +kernel, by decide +kernel⟩

abbrev s_shared : Stmt := topS 34
abbrev N_shared : List Str := ["span", "other_span"]
theorem sc_shared : FnScope ["span", "other_span"] ["span", "other_span"] (defScope s_shared) := ⟨rfl, rfl, rfl, by decide +kernel, rfl, by decide +kernel, by decide +kernel⟩

/-! ### joined, shared -/
def spJoined (K : PySem.W.Frag) : Sp := fun vs H Q _ => ∃ (a b : Addr) (ps qs : List Pr), vs = [.ref a, .ref b] ∧ Spn K H a ps ∧ Spn K H b qs ∧ ps.length + qs.length ≤ 3000 ∧ ∀ c ds H', Stp [] H H' → Spn K H' c ds → (∀ w, inS ds w = (inS ps w || inS qs w)) → Q (.ref c) H'
theorem cl_joined {f : Addr} {fd : FuncData} (D : Df K mg "joined" s_joined ["span", "other_span"] f fd) (T : Nm mg) (c_check_span : Cl P w K mg base 4 "check_span" s_check_span ["span"] (spCkSpan K)) (c_span_of : Cl P w K mg base 4 "span_of" s_span_of ["ranges"] (spSpanOf K)) :
    Cl P w K mg base 5 "joined" s_joined ["span", "other_span"] (spJoined K) := by
  refine D.cl sc_joined (fun vs H Q E h => ?_) (fun cdv A outer s H vs Q E hr h => ?_)
  · obtain ⟨a, b, ps, qs, rfl, _⟩ := h
    rfl
  · obtain ⟨a, b, ps, qs, rfl, sa, sb, few, k⟩ := h
    refine ⟨_, (pss_cons (ps_expr (pe_cl c_check_span hr (by omega) (pa_cons (pv 0) pa_nil)))
      (pss_cons (ps_expr (pe_cl c_check_span hr (by omega) (pa_cons (pv 1) pa_nil)))
      (pss_one (ps_ret (pe_cl c_span_of hr (by omega) (pa_cons (pe_lst (StX.pa_star (pv 0) (StX.pa_star (pv 1) pa_nil))) pa_nil)))))), ?_⟩
    refine ⟨_, rfl, a, ps, rfl, sa, fun H1 S1 => ?_⟩
    refine ⟨_, rfl, b, qs, rfl, sb.up S1, fun H2 S2 => ?_⟩
    have sa2 := (sa.up S1).up S2
    have sb2 := (sb.up S1).up S2
    obtain ⟨⟨xs, hx, rx⟩, okx, _⟩ := id sa2
    obtain ⟨⟨ys, hy, ry⟩, oky, _⟩ := id sb2
    refine ⟨_, rfl, a, xs, rfl, .inl hx, _, rfl, b, ys, rfl, .inl hy, ?_, fun l nl => ?_⟩
    · rw [List.append_nil, List.length_append, rx.len, ry.len, List.length_map, List.length_map]
      exact sz (by omega)
    rw [List.append_nil]
    have S3 : Stp [] H2 (upd H2 l (.lst (xs ++ ys))) := Stp.new nl _
    have r3 : RpL K (upd H2 l (.lst (xs ++ ys))) (xs ++ ys) ((ps ++ qs).map prD) := by
      rw [List.map_append]
      exact (rx.stp S3 Lsts.nil).app (ry.stp S3 Lsts.nil)
    refine ⟨l, _, ps ++ qs, rfl, upd_same, r3, fun p m => (List.mem_append.mp m).elim (okx.ok p) (oky.ok p), by rw [List.length_append]; omega, fun c ds H4 S4 sp eq => ?_⟩
    exact k c ds H4 (((S1.trans S2).trans S3).trans S4) sp fun w => by rw [eq, inS_app]
def spShared (K : PySem.W.Frag) : Sp := fun vs H Q _ => ∃ (a b : Addr) (ps qs : List Pr), vs = [.ref a, .ref b] ∧ Spn K H a ps ∧ Spn K H b qs ∧ ps.length + qs.length ≤ 2800 ∧ ∀ c ds H', Stp [] H H' → Spn K H' c ds → (∀ w, inS ds w = (inS ps w && inS qs w)) → ds.length ≤ ps.length + qs.length + 3 → Q (.ref c) H'
theorem cl_shared {f : Addr} {fd : FuncData} (D : Df K mg "shared" s_shared ["span", "other_span"] f fd) (T : Nm mg) (c_opposite : Cl P w K mg base 5 "opposite" s_opposite ["span"] (spOpp K)) (c_joined : Cl P w K mg base 5 "joined" s_joined ["span", "other_span"] (spJoined K)) :
    Cl P w K mg base 6 "shared" s_shared ["span", "other_span"] (spShared K) := by
  refine D.cl sc_shared (fun vs H Q E h => ?_) (fun cdv A outer s H vs Q E hr h => ?_)
  · obtain ⟨a, b, ps, qs, rfl, _⟩ := h
    rfl
  · obtain ⟨a, b, ps, qs, rfl, sa, sb, few, k⟩ := h
    refine ⟨_, (pss_one (ps_ret (pe_cl c_opposite hr (by omega) (pa_cons (pe_cl c_joined hr (by omega) (pa_cons (pe_cl c_opposite hr (by omega) (pa_cons (pv 0) pa_nil)) (pa_cons (pe_cl c_opposite hr (by omega) (pa_cons (pv 1) pa_nil)) pa_nil))) pa_nil)))), ?_⟩
    have l1 := opps_len ps []
    have l2 := opps_len qs []
    refine ⟨_, rfl, a, ps, rfl, sa, by omega, fun c1 H1 S1 sp1 => ?_⟩
    refine ⟨_, rfl, b, qs, rfl, sb.up S1, by omega, fun c2 H2 S2 sp2 => ?_⟩
    refine ⟨c1, c2, _, _, rfl, sp1.up S2, sp2, by omega, fun c3 ds H3 S3 sp3 eq3 => ?_⟩
    have l3 := norm_len (ps := opps [] ps ++ opps [] qs) sp3.ok fun w => by rw [eq3, inS_app]
    rw [List.length_append] at l3
    refine ⟨c3, ds, rfl, sp3, by omega, fun c4 H4 S4 sp4 => ?_⟩
    refine k c4 _ H4 (((S1.trans S2).trans S3).trans S4) sp4 (fun w => ?_) (by have := opps_len ds []; omega)
    rw [opps_w sp3.ok, eq3, opps_w sa.ok, opps_w sb.ok]
    cases inS ps w <;> cases inS qs w <;> rfl
abbrev s_check_text : Stmt := topS 23
abbrev N_check_text : List Str := ["text"]
theorem sc_check_text : FnScope ["text"] ["text"] (defScope s_check_text) := ⟨rfl, rfl, rfl, by decide +kernel, rfl, by decide +kernel, by decide +kernel⟩

abbrev s_behind : Stmt := topS 27
abbrev N_behind : List Str := ["text"]
theorem sc_behind : FnScope ["text"] ["text"] (defScope s_behind) := ⟨rfl, rfl, rfl, by decide +kernel, rfl, by decide +kernel, by decide +kernel⟩

/-! ### the program's own -/
def Lng (l : Txt) : Prop := Abc l ∧ l.length ≤ 1000
theorem Short.lng {l : Txt} (h : Short l) : Lng l := ⟨h.1, by have := h.2; omega⟩
def spCkTextL : Sp := fun vs H Q _ => ∃ l : Txt, vs = [Tx l] ∧ Lng l ∧ Q .non H
theorem cl_check_text {f : Addr} {fd : FuncData} (D : Df K mg "check_text" s_check_text ["text"] f fd) (T : Nm mg) (c_is_text : Cl P w K mg base 1 "is_text" s_is_text ["value"] (spIsText K)) : Cl P w K mg base 2 "check_text" s_check_text ["text"] spCkTextL := by
  refine D.cl sc_check_text (fun vs H Q E h => ?_) (fun cdv A outer s H vs Q E hr h => ?_)
  · obtain ⟨l, rfl, _⟩ := h
    rfl
  · obtain ⟨l, rfl, ⟨al, ll⟩, k⟩ := h
    refine ⟨_, (pss_one (ps_if (pt_not (pt_val (pe_cl c_is_text hr (by omega) (pa_cons (pv 0) pa_nil)))) (pss_one ps_never) pss_nil)), ?_⟩
    refine ⟨_, rfl, Tx l, .str l, rfl, .str l (by omega), fun b hb => ?_⟩
    obtain rfl : b = true := hb.mpr ⟨l, rfl, al⟩
    exact ⟨_, rfl, k⟩
def spBehind : Sp := fun vs H Q _ => ∃ l : Txt, vs = [Tx l] ∧ Lng l ∧ Q (Tx (l ++ [97])) H
theorem cl_behind {f : Addr} {fd : FuncData} (D : Df K mg "behind" s_behind ["text"] f fd) (T : Nm mg) (c_check_text : Cl P w K mg base 2 "check_text" s_check_text ["text"] spCkTextL) : Cl P w K mg base 3 "behind" s_behind ["text"] spBehind := by
  refine D.cl sc_behind (fun vs H Q E h => ?_) (fun cdv A outer s H vs Q E hr h => ?_)
  · obtain ⟨l, rfl, _⟩ := h
    rfl
  · obtain ⟨l, rfl, sl, k⟩ := h
    refine ⟨_, (pss_cons (ps_expr (pe_cl c_check_text hr (by omega) (pa_cons (pv 0) pa_nil)))
      (pss_one (ps_ret (pe_op op_add_str (pv 0) pe_str)))), ?_⟩
    refine ⟨_, rfl, l, rfl, sl, _, rfl, tx l, tx [97], rfl, congrArg V.str a_lit, (by rw [tx_len, tx_len]; exact sz (by have := sl.2; simp; omega)), ?_⟩
    rw [tx_app]
    exact k
abbrev s_least_text : Stmt := topS 35
abbrev N_least_text : List Str := ["span"]
theorem sc_least_text : FnScope ["span"] ["span"] (defScope s_least_text) := ⟨rfl, rfl, rfl, by decide +kernel, rfl, by decide +kernel, by decide +kernel⟩

def lvV : List Pr → V
  | [] => .non
  | p :: _ => Tx p.1
def spLeast (K : PySem.W.Frag) : Sp := fun vs H Q _ => ∃ (a : Addr) (ps : List Pr), vs = [.ref a] ∧ Spn K H a ps ∧ ∀ H', Stp [] H H' → Q (lvV ps) H'
theorem cl_least_text {f : Addr} {fd : FuncData} (D : Df K mg "least_text" s_least_text ["span"] f fd) (T : Nm mg) (c_check_span : Cl P w K mg base 4 "check_span" s_check_span ["span"] (spCkSpan K)) : Cl P w K mg base 5 "least_text" s_least_text ["span"] (spLeast K) := by
  refine D.cl sc_least_text (fun vs H Q E h => ?_) (fun cdv A outer s H vs Q E hr h => ?_)
  · obtain ⟨a, ps, rfl, _⟩ := h
    rfl
  · obtain ⟨a, ps, rfl, sp, k⟩ := h
    refine ⟨_, (pss_cons (ps_expr (pe_cl c_check_span hr (by omega) (pa_cons (pv 0) pa_nil)))
      (pss_one (ps_ret (pe_ifExp (pt_truth (pv 0) (by intro _; rfl)) (pe_ix ix_tup (pe_ix ix_tup (pv 0) pe_int (fun _ _ => rfl)) pe_int (fun _ _ => rfl)) pe_non)))), ?_⟩
    refine ⟨_, rfl, a, ps, rfl, sp, fun H1 S1 => ?_⟩
    obtain ⟨⟨xs, hs, rl⟩, ok, few⟩ := sp.stp S1 Lsts.nil
    have k1 := k H1 S1
    refine ⟨_, rfl, _, .inr (.inl ⟨xs, hs, rfl⟩), ?_⟩
    cases ps with
    | nil =>
      cases rl
      exact ite2 (fun h => nomatch (h : false = true)) (fun _ => k1)
    | cons p ps =>
      cases rl with
      | cons r1 rl =>
        obtain ⟨t, rfl, ht⟩ := rp_pr r1
        refine ite2 (fun _ => ?_) (fun h => absurd rfl h)
        exact ⟨_, rfl, a, _, 0, .ref t, rfl, rfl, hs, at0, t, _, 0, Tx p.1, rfl, rfl, ht, at0, k1⟩
abbrev s_check_most : Stmt := topS 26
abbrev N_check_most : List Str := ["most"]
theorem sc_check_most : FnScope ["most"] ["most"] (defScope s_check_most) := ⟨rfl, rfl, rfl, by decide +kernel, rfl, by decide +kernel, by decide +kernel⟩

abbrev s_texts_in : Stmt := topS 36
abbrev N_texts_in : List Str := ["span", "most", "texts", "first", "end", "text"]
theorem sc_texts_in : FnScope ["span", "most", "texts", "first", "end", "text"] ["span", "most"] (defScope s_texts_in) := ⟨rfl, rfl, rfl, by decide +kernel, rfl, by decide +kernel, by decide +kernel⟩

theorem lt_snoc : ∀ (a : Txt) (c : Nat), a < a ++ [c]
  | [], c => List.nil_lt_cons _ _
  | a :: as, c => List.cons_lt_cons_iff.mpr (.inr ⟨rfl, lt_snoc as c⟩)
/-! ### the first texts of a span -/
def af (f : Txt) (k : Nat) : Txt := f ++ List.replicate k 97
theorem af0 (f : Txt) : af f 0 = f := List.append_nil f
theorem af_snoc (f : Txt) (k : Nat) : af f k ++ [97] = af f (k + 1) := by
  unfold af
  rw [List.append_assoc, List.replicate_succ']
theorem af_len (f : Txt) (k : Nat) : (af f k).length = f.length + k := by
  unfold af
  rw [List.length_append, List.length_replicate]
theorem af_abc {f : Txt} (h : Abc f) (k : Nat) : Abc (af f k) := h.app (Abc.rep k (.inl rfl))
theorem af_lt (f : Txt) (k : Nat) : af f k < af f (k + 1) := by
  rw [← af_snoc]
  exact lt_snoc _ _
theorem af_le (f : Txt) {j k : Nat} (h : j ≤ k) : af f j ≤ af f k := by
  induction h with
  | refl => exact le_self _
  | step _ ih => exact lt_le' (le_lt ih (af_lt f _))
def inE (e : Option Txt) (x : Txt) : Bool := match e with | none => true | some e => decide (x < e)
theorem inE_mono {e : Option Txt} {f : Txt} {j k : Nat} (h : j ≤ k) (g : inE e (af f k) = true) : inE e (af f j) = true := by
  cases e with
  | none => rfl
  | some e => exact decide_eq_true (le_lt (af_le f h) (of_decide_eq_true g))
/-- of one range, n texts at most -/
def tk (f : Txt) (e : Option Txt) : Nat → List Txt
  | 0 => []
  | n + 1 => if inE e (af f n) = true then tk f e n ++ [af f n] else tk f e n
theorem tk_all {f : Txt} {e : Option Txt} : ∀ {n : Nat}, (∀ j, j < n → inE e (af f j) = true) → tk f e n = (List.range n).map (af f)
  | 0, _ => rfl
  | n + 1, h => by
    show (if inE e (af f n) = true then _ else _) = _
    rw [if_pos (h n (Nat.lt_succ_self n)), tk_all fun j hj => h j (Nat.lt_succ_of_lt hj), List.range_succ, List.map_append]
    rfl
theorem tk_stop {f : Txt} {e : Option Txt} {k : Nat} (h : inE e (af f k) = false) : ∀ {n : Nat}, k ≤ n → tk f e n = tk f e k
  | 0, l => by rw [Nat.le_zero.mp l]
  | n + 1, l => by
    rcases Nat.lt_or_ge n k with q | q
    · rw [show k = n + 1 by omega]
    · show (if inE e (af f n) = true then _ else _) = _
      have : ¬ inE e (af f n) = true := fun z => by
        rw [inE_mono q z] at h
        cases h
      rw [if_neg this]
      exact tk_stop h q
theorem tk_len (f : Txt) (e : Option Txt) : ∀ n, (tk f e n).length ≤ n
  | 0 => Nat.le_refl 0
  | n + 1 => by
    have := tk_len f e n
    show (if inE e (af f n) = true then tk f e n ++ [af f n] else tk f e n).length ≤ _
    split
    · rw [List.length_append, List.length_singleton]; omega
    · omega
theorem tk_mem {f : Txt} {e : Option Txt} {x : Txt} : ∀ {n : Nat}, x ∈ tk f e n → ∃ j, j < n ∧ x = af f j ∧ inE e x = true
  | n + 1, m => by
    have m : x ∈ (if inE e (af f n) = true then tk f e n ++ [af f n] else tk f e n) := m
    by_cases c : inE e (af f n) = true
    · rw [if_pos c] at m
      rcases List.mem_append.mp m with m | m
      · obtain ⟨j, a, b⟩ := tk_mem m
        exact ⟨j, by omega, b⟩
      · obtain rfl := List.mem_singleton.mp m
        exact ⟨n, by omega, rfl, c⟩
    · rw [if_neg c] at m
      obtain ⟨j, a, b⟩ := tk_mem m
      exact ⟨j, by omega, b⟩
/-- of some ranges, n texts at most, behind those that are there -/
def tks : List Pr → Nat → List Txt → List Txt
  | [], _, acc => acc
  | (f, e) :: ps, n, acc => tks ps n (acc ++ tk f e (n - acc.length))
theorem tks_app : ∀ (ps qs : List Pr) (n : Nat) (acc : List Txt), tks (ps ++ qs) n acc = tks qs n (tks ps n acc)
  | [], _, _, _ => rfl
  | (f, e) :: ps, qs, n, acc => tks_app ps qs n _
theorem tks_len : ∀ (ps : List Pr) (n : Nat) (acc : List Txt), acc.length ≤ n → (tks ps n acc).length ≤ n
  | [], _, _, h => h
  | (f, e) :: ps, n, acc, h => tks_len ps n _ (by
    have := tk_len f e (n - acc.length)
    rw [List.length_append]
    omega)
theorem tks_mem {x : Txt} : ∀ {ps : List Pr} {n : Nat} {acc : List Txt}, x ∈ tks ps n acc → x ∈ acc ∨ ∃ p ∈ ps, ∃ j, j < n ∧ x = af p.1 j ∧ inE p.2 x = true
  | [], _, _, m => .inl m
  | (f, e) :: ps, n, acc, m => by
    rcases tks_mem (ps := ps) m with m | ⟨p, mp, j, a⟩
    · rcases List.mem_append.mp m with m | m
      · exact .inl m
      · obtain ⟨j, a, b⟩ := tk_mem m
        exact .inr ⟨(f, e), List.mem_cons_self, j, by omega, b⟩
    · exact .inr ⟨p, List.mem_cons_of_mem _ mp, j, a⟩
/-- what is known of told texts -/
def Tt (ps : List Pr) (n : Nat) (x : Txt) : Prop := Abc x ∧ x.length ≤ 40 + n ∧ inS ps x = true
theorem tks_tt {ps : List Pr} {n : Nat} (ok : ∀ p ∈ ps, PrOk p) {x : Txt} (m : x ∈ tks ps n []) : Tt ps n x := by
  rcases tks_mem m with m | ⟨p, mp, j, hj, rfl, hi⟩
  · exact nomatch m
  · obtain ⟨⟨a, b⟩, c⟩ := ok p mp
    refine ⟨af_abc a j, by rw [af_len]; omega, inS_mem.mpr ⟨p, mp, inP_iff.mpr ⟨?_, fun e he => ?_⟩⟩⟩
    · have := af_le p.1 (Nat.zero_le j)
      rwa [af0] at this
    · rw [he] at hi
      exact of_decide_eq_true hi
def spCkMost : Sp := fun vs H Q _ => ∃ i : Int, vs = [.int i] ∧ 1 ≤ i ∧ i ≤ 1000 ∧ Q .non H
theorem cl_check_most {f : Addr} {fd : FuncData} (D : Df K mg "check_most" s_check_most ["most"] f fd) (T : Nm mg) : Cl P w K mg base 1 "check_most" s_check_most ["most"] spCkMost := by
  refine D.cl sc_check_most (fun vs H Q E h => ?_) (fun cdv A outer s H vs Q E hr h => ?_)
  · obtain ⟨i, rfl, _⟩ := h
    rfl
  · obtain ⟨i, rfl, i1, i2, k⟩ := h
    refine ⟨_, (pss_one (ps_if (PW.pt (pw_or (pt_tyNot (T := "int") Mono.var (pv 0) T.n_type T.n_int (by decide +kernel)) (pw_or (pt_cmpR op_lt (pv 0) pe_int (by first | exact nomark _ | rfl)) (pw_or1 (pt_cmpR op_gt (pv 0) pe_int (by first | exact nomark _ | rfl)))))) (pss_one ps_never) pss_nil)), ?_⟩
    refine ⟨_, rfl, .int i, .int i, ite2 (fun h => absurd h (by simp [Dt.ty])) (fun _ => ?_)⟩
    refine ⟨_, rfl, _, _, rfl, rfl, _, rfl, ite2 (fun h => absurd (of_decide_eq_true h) (by omega)) (fun _ => ?_)⟩
    exact ⟨_, rfl, _, _, rfl, rfl, _, rfl, ite2 (fun h => absurd (of_decide_eq_true h) (by omega)) (fun _ => k)⟩
theorem MonoC.len {K : PySem.W.Frag} : MonoC (fun xs H Q => ∃ p ys, xs = [V.ref p] ∧ (SqL K H p ys ∨ SqT K H p ys) ∧ Q (.int (ys.length : Int)) H) := fun _ _ _ _ h ⟨p, ys, e1, e2, q⟩ => ⟨p, ys, e1, e2, h _ _ q⟩
theorem MonoR.isN : MonoR (fun x y H Q => y = .non ∧ Q (.bl (decide (x = .non))) H) := fun _ _ _ _ _ h ⟨e, q⟩ => ⟨e, h _ _ q⟩
def spTexts (K : PySem.W.Frag) : Sp := fun vs H Q _ => ∃ (a : Addr) (ps : List Pr) (n : Nat), vs = [.ref a, .int (n : Int)] ∧ Spn K H a ps ∧ 1 ≤ n ∧ n ≤ 900 ∧ ∀ p H', H p = none → Stp [] H H' → H' p = some (.lst ((tks ps n []).map Tx)) → Q (.ref p) H'
theorem cl_texts_in {f : Addr} {fd : FuncData} (D : Df K mg "texts_in" s_texts_in ["span", "most"] f fd) (T : Nm mg) (c_check_span : Cl P w K mg base 4 "check_span" s_check_span ["span"] (spCkSpan K)) (c_check_most : Cl P w K mg base 1 "check_most" s_check_most ["most"] spCkMost)
    (c_behind : Cl P w K mg base 3 "behind" s_behind ["text"] spBehind) : Cl P w K mg base 5 "texts_in" s_texts_in ["span", "most"] (spTexts K) := by
  refine D.cl sc_texts_in (fun vs H Q E h => ?_) (fun cdv A outer s H vs Q E hr h => ?_)
  · obtain ⟨a, ps, n, rfl, _⟩ := h
    rfl
  · obtain ⟨a, ps, n, rfl, sp, n1, n2, k⟩ := h
    refine ⟨_, (pss_cons (ps_expr (pe_cl c_check_span hr (by omega) (pa_cons (pv 0) pa_nil)))
      (pss_cons (ps_expr (pe_cl c_check_most hr (by omega) (pa_cons (pv 1) pa_nil)))
      (pss_cons (ps_set (i := 2) sc_texts_in.nd rfl (by first | exact Or.inl rfl | exact Or.inr rfl) (pe_lst pa_nil))
      (pss_cons (ps_for PassesOwn.never rfl (pi_tup (pv 0)) (pg_tup rfl (pgs_cons (pg_name (i := 3) sc_texts_in.nd rfl (by first | exact Or.inl rfl | exact Or.inr rfl)) (pgs_cons (pg_name (i := 4) sc_texts_in.nd rfl (by first | exact Or.inl rfl | exact Or.inr rfl)) pgs_nil (by rfl)) (by rfl)) (by rfl) (by rfl)) (pss_cons (ps_set (i := 5) sc_texts_in.nd rfl (by first | exact Or.inl rfl | exact Or.inr rfl) (pv 3))
      (pss_one (ps_while PassesOwn.never (PW.pt (pw_and (pt_cmpR op_lt (pe_callB call_len_seq (by rfl) T.n_len (by decide +kernel) (pa_cons (pv 2) pa_nil)) (pv 1) (by first | exact nomark _ | rfl)) (pw_and1 (PW.pt (pw_or (pt_cmpR op_isN (pv 4) pe_non (by first | exact nomark _ | rfl)) (pw_or1 (pt_cmpR op_lt_str (pv 5) (pv 4) (by first | exact nomark _ | rfl)))))))) (pss_cons (ps_expr (pe_bm PySem.F.plainAttrs_list PySem.F.slot_list_append PySem.F.type_list_append mt_append (pv 2) (pa_cons (pv 5) pa_nil)))
      (pss_one (ps_set (i := 5) sc_texts_in.nd rfl (by first | exact Or.inl rfl | exact Or.inr rfl) (pe_cl c_behind hr (by omega) (pa_cons (pv 5) pa_nil)))))))))
      (pss_one (ps_ret (pv 2))))))), ?_⟩
    have nn : ∀ {x : Addr}, x ∉ ([] : List Addr) := fun m => nomatch m
    refine ⟨_, rfl, a, ps, rfl, sp, fun H1 S1 => ?_⟩
    refine ⟨_, rfl, (n : Int), rfl, by omega, by omega, ?_⟩
    refine ⟨Nat.zero_le _, fun q nq => ?_⟩
    have nqH : H q = none := S1.fresh nn nq
    obtain ⟨⟨xs, hs, rl⟩, ok, few⟩ := sp.stp S1 Lsts.nil
    have lx : xs.length = ps.length := by rw [rl.len, List.length_map]
    have S2 : Stp [] H1 (upd H1 q (.lst [])) := Stp.new nq _
    have hs2 := sqt_stp S2 Lsts.nil hs
    have rl2 := rl.stp S2 Lsts.nil
    have hq2 : (upd H1 q (.lst [])) q = some (.lst []) := upd_same
    generalize upd H1 q (.lst []) = H2 at *
    have lq : ∀ {H' : Hp} {ys : List V}, H' q = some (.lst ys) → Lsts H' [q] := fun h => .one h
    refine ⟨_, rfl, a, rfl, ⟨_, hs2⟩, for_tup (a := a) (xs := xs) (fun i σ H3 => ∃ x3 x4 x5 : Option V, σ = [some (.ref a), some (.int (n : Int)), some (.ref q), x3, x4, x5] ∧ H3 q = some (.lst ((tks (ps.take i) n []).map Tx)) ∧ Stp [q] H2 H3)
      ⟨_, _, _, rfl, hq2, Stp.refl _ _⟩ (fun i σ H3 _ ⟨_, _, _, _, _, S3⟩ => sqt_stp S3 (lq hq2) hs2) ?_ ?_⟩
    · rintro i x σ H3 hi ⟨x3, x4, x5, rfl, hq3, S3⟩
      obtain ⟨⟨fi, e⟩, hp, t, rfl, ht⟩ := prs_get rl2 hi
      have okp := ok.ok _ (List.mem_of_getElem? hp)
      obtain ⟨sf, se⟩ := okp
      have ht3 := sqt_stp S3 (lq hq2) ht
      have tke : tks (ps.take (i + 1)) n [] = tks (ps.take i) n [] ++ tk fi e (n - (tks (ps.take i) n []).length) := by
        rw [List.take_add_one, hp, tks_app]
        rfl
      have alen := tks_len (ps.take i) n [] (Nat.zero_le _)
      rw [tke]
      generalize tks (ps.take i) n [] = acc at *
      refine ⟨t, _, rfl, ht3, rfl, _, _, rfl, _, _, rfl, rfl, ?_⟩
      refine ⟨_, rfl, ?_⟩
      refine while_by (fun σ H4 => ∃ j : Nat, σ = [some (.ref a), some (.int (n : Int)), some (.ref q), some (Tx fi), some (oV e), some (Tx (af fi j))] ∧ acc.length + j ≤ n ∧ (∀ i, i < j → inE e (af fi i) = true) ∧ H4 q = some (.lst ((acc ++ (List.range j).map (af fi)).map Tx)) ∧ Stp [q] H2 H4)
        (fun σ _ => match σ with | [_, _, _, _, _, some (.str x)] => 1000 + n - x.length | _ => 0) ⟨0, by rw [af0]; rfl, alen, (fun i h => absurd h (Nat.not_lt_zero i)), by rw [hq3, List.range_zero, List.map_nil, List.append_nil], S3⟩ ?_ ?_
      · rintro σ H4 ⟨j, rfl, lj, all, hq4, S4⟩
        have ll : ((acc ++ (List.range j).map (af fi)).map Tx).length = acc.length + j := by rw [List.length_map, List.length_append, List.length_map, List.length_range]
        have lsf : fi.length ≤ 40 := sf.2
        have done : (acc.length + j = n ∨ inE e (af fi j) = false) → ∃ x3 x4 x5 : Option V, [some (V.ref a), some (.int (n : Int)), some (.ref q), some (Tx fi), some (oV e), some (Tx (af fi j))] = [some (.ref a), some (.int (n : Int)), some (.ref q), x3, x4, x5] ∧ H4 q = some (.lst ((acc ++ tk fi e (n - acc.length)).map Tx)) ∧ Stp [q] H2 H4 := fun hd => by
          refine ⟨_, _, _, rfl, ?_, S4⟩
          have et : tk fi e (n - acc.length) = (List.range j).map (af fi) := by
            rcases hd with hd | hd
            · rw [show n - acc.length = j by omega]
              exact tk_all all
            · rw [tk_stop hd (show j ≤ n - acc.length by omega)]
              exact tk_all all
          rw [et]
          exact hq4
        refine MonoT.cut (t := tAnd _ _) (MonoT.and (MonoT.test (Mono.op' MonoR.i0 (Mono.cb MonoC.len (MonoA.cons Mono.var MonoA.nil)) Mono.var)) (MonoT.or (MonoT.test (Mono.op' MonoR.isN Mono.var Mono.c)) (MonoT.test (Mono.op' MonoR.str0 Mono.var Mono.var))))
          (fun t H9 => H9 = H4 ∧ (t = true → acc.length + j < n ∧ inE e (af fi j) = true) ∧ (t = false → acc.length + j = n ∨ inE e (af fi j) = false)) ?_ ?_
        · refine ⟨_, rfl, q, _, rfl, .inl (SqL.of hq4), _, rfl, _, _, rfl, rfl, _, rfl, ite2 (fun h => ?_) (fun h => ?_)⟩
          · have h1 : acc.length + j < n := by
              have := of_decide_eq_true h
              rw [ll] at this
              omega
            cases e with
            | none => exact ⟨_, rfl, rfl, _, rfl, rfl, fun _ => ⟨h1, rfl⟩, fun e => (nomatch (e : true = false))⟩
            | some e =>
              refine ⟨_, rfl, rfl, _, rfl, ite2 (fun h => absurd h (by simp [oV])) (fun _ => ?_)⟩
              refine ⟨_, rfl, _, rfl, tx (af fi j), tx e, rfl, rfl, _, rfl, rfl, fun e => ⟨h1, e⟩, fun e => .inr e⟩
          · have : ¬ ((((acc ++ (List.range j).map (af fi)).map Tx).length : Nat) : Int) < (n : Int) := fun q => h (decide_eq_true q)
            rw [ll] at this
            exact ⟨rfl, fun e => (nomatch e), fun _ => .inl (by omega)⟩
        rintro t H9 ⟨rfl, ht1, ht2⟩
        refine ite2 (fun h => ?_) (fun h => ?_)
        · obtain ⟨h1, h2⟩ := ht1 h
          refine ⟨_, rfl, .inl ⟨rfl, _, SqL.of hq4⟩, _, rfl, q, _, _, rfl, rfl, hq4, Nat.lt_of_le_of_lt (show _ ≤ 1000 by rw [ll]; omega) (by decide), ?_⟩
          refine ⟨_, rfl, af fi j, rfl, ⟨af_abc sf.1 j, by rw [af_len]; omega⟩, ?_⟩
          rw [af_snoc]
          refine ⟨⟨j + 1, rfl, by omega, fun i hi => ?_, ?_, S4.put' (by simp)⟩, ?_⟩
          · rcases Nat.lt_or_ge i j with q | q
            · exact all i q
            · rw [show i = j by omega]; exact h2
          · rw [upd_same, List.range_succ]
            simp [List.map_append, List.append_assoc]
          · show 1000 + n - (tx (af fi (j + 1))).length < 1000 + n - (tx (af fi j)).length
            rw [tx_len, tx_len, af_len, af_len]
            omega
        · exact done (ht2 (Bool.eq_false_iff.mpr h))
      · exact MonoT.and (MonoT.test (Mono.op' MonoR.i0 (Mono.cb MonoC.len (MonoA.cons Mono.var MonoA.nil)) Mono.var)) (MonoT.or (MonoT.test (Mono.op' MonoR.isN Mono.var Mono.c)) (MonoT.test (Mono.op' MonoR.str0 Mono.var Mono.var)))
    · rintro σ H3 ⟨x3, x4, x5, rfl, hq3, S3⟩
      rw [lx, List.take_length] at hq3
      exact ⟨_, rfl, k q H3 nqH (Stp.loc nqH ((S1.trans S2).sub (by simp) |>.trans S3)) hq3⟩
abbrev s_has : Stmt := topS 31
abbrev N_has : List Str := ["span", "text", "first", "end"]
theorem sc_has : FnScope ["span", "text", "first", "end"] ["span", "text"] (defScope s_has) := ⟨rfl, rfl, rfl, by decide +kernel, rfl, by decide +kernel, by decide +kernel⟩

theorem bl_and {a b : Bool} : (if a = true then b else false) = (a && b) := by cases a <;> rfl
def spHas (K : PySem.W.Frag) : Sp := fun vs H Q _ => ∃ (a : Addr) (ps : List Pr) (w : Txt), vs = [.ref a, Tx w] ∧ Spn K H a ps ∧ Short w ∧ ∀ H', Stp [] H H' → Q (.bl (inS ps w)) H'
theorem cl_has {f : Addr} {fd : FuncData} (D : Df K mg "has" s_has ["span", "text"] f fd) (T : Nm mg) (c_check_span : Cl P w K mg base 4 "check_span" s_check_span ["span"] (spCkSpan K)) (c_check_text : Cl P w K mg base 2 "check_text" s_check_text ["text"] spCkTextL) :
    Cl P w K mg base 5 "has" s_has ["span", "text"] (spHas K) := by
  refine D.cl sc_has (fun vs H Q E h => ?_) (fun cdv A outer s H vs Q E hr h => ?_)
  · obtain ⟨a, ps, l, rfl, _⟩ := h
    rfl
  · obtain ⟨a, ps, l, rfl, sp, sl, k⟩ := h
    refine ⟨_, (pss_cons (ps_expr (pe_cl c_check_span hr (by omega) (pa_cons (pv 0) pa_nil)))
      (pss_cons (ps_expr (pe_cl c_check_text hr (by omega) (pa_cons (pv 1) pa_nil)))
      (pss_one (ps_ret (pe_callB (cr_any rfl) (by rfl) T.n_any (by decide +kernel) (pa_cons (pe_lc (own := [("first", 2), ("end", 3)]) rfl sc_has.nd (pi_tup (pv 0)) (blkOk_by (own := [("first", 2), ("end", 3)]) (N := N_has) (sc := defScope s_has) (by decide +kernel)) (fun _ _ _ _ _ => (pg_tupK (n := 2) rfl rfl (pgs_cons (pg_name (i := 2) sc_has.nd rfl (by first | exact Or.inl rfl | exact Or.inr rfl)) (pgs_cons (pg_name (i := 3) sc_has.nd rfl (by first | exact Or.inl rfl | exact Or.inr rfl)) pgs_nil (by rfl)) (by rfl)) (by rfl) (by rfl))) (fun _ _ _ _ _ => pts_nil) (fun _ _ _ _ _ => (pe_and (pe_cmpR op_le_str (pv 2) (pv 1) (by first | exact nomark _ | rfl)) (pe_one (pe_or (pe_cmpR op_isN (pv 3) pe_non (by first | exact nomark _ | rfl)) (pe_one (pe_cmpR op_lt_str (pv 1) (pv 3) (by first | exact nomark _ | rfl)))))))) pa_nil)))))), ?_⟩
    refine ⟨_, rfl, a, ps, rfl, sp, fun H1 S1 => ?_⟩
    refine ⟨_, rfl, l, rfl, sl.lng, ?_⟩
    obtain ⟨⟨xs, hs, rl⟩, ok, few⟩ := sp.stp S1 Lsts.nil
    have lx : xs.length = ps.length := by rw [rl.len, List.length_map]
    refine ⟨_, rfl, a, rfl, ⟨_, hs⟩, fun L nL => ?_⟩
    refine lc_tup (a := a) (xs := xs) (fun i H2 => H2 L = some (.lst ((ps.take i).map fun p => V.bl (inP l p))) ∧ Stp [] H1 H2)
      ⟨upd_same, Stp.new nL _⟩ (fun i H2 _ ⟨_, S⟩ => sqt_stp S Lsts.nil hs) ?_ ?_
    · rintro i x H2 hi ⟨hL, S⟩
      obtain ⟨p, hp, t, rfl, ht⟩ := prs_get rl hi
      obtain ⟨g, e⟩ := p
      have len : ((ps.take i).map fun p => V.bl (inP l p)).length < sizeLine := by
        rw [List.length_map, List.length_take]
        exact Nat.lt_of_le_of_lt (Nat.min_le_right _ _) (Nat.lt_of_le_of_lt few (by decide))
      have fin : ∀ b : Bool, b = inP l (g, e) → ∃ acc, H2 L = some (.lst acc) ∧ acc.length < sizeLine ∧ (upd H2 L (.lst (acc ++ [.bl b]))) L = some (.lst ((ps.take (i + 1)).map fun p => V.bl (inP l p))) ∧ Stp [] H1 (upd H2 L (.lst (acc ++ [.bl b]))) := fun b hb => by
        refine ⟨_, hL, len, ?_, S.mut nL⟩
        rw [upd_same, List.take_add_one, hp, List.map_append, hb]
        rfl
      refine ⟨t, _, rfl, sqt_stp S Lsts.nil ht, rfl, _, _, rfl, _, _, rfl, rfl, ?_⟩
      refine ⟨rfl, _, rfl, _, rfl, tx g, tx l, rfl, rfl, ?_⟩
      refine ⟨_, rfl, ?_⟩
      refine ite2 (fun h => ?_) (fun h => ?_)
      · have c : ¬ l < g := fun q => by
          rw [decide_eq_true (show (tx l).cps.toList < (tx g).cps.toList from q)] at h
          exact absurd h (by simp)
        have c1 : decide (g ≤ l) = true := by rw [le_dec, decide_eq_false c]; rfl
        cases e with
        | none => exact ⟨_, rfl, rfl, _, rfl, fin true (by unfold inP; rw [c1]; rfl)⟩
        | some e => exact ⟨_, rfl, rfl, _, rfl, _, rfl, _, rfl, tx l, tx e, rfl, rfl, fin _ (by unfold inP; rw [c1]; rfl)⟩
      · have c : l < g := by
          by_cases q : l < g
          · exact q
          · refine absurd ?_ h
            rw [decide_eq_false (show ¬ (tx l).cps.toList < (tx g).cps.toList from q)]
            rfl
        exact fin false (by unfold inP; rw [le_dec, decide_eq_true c]; rfl)
    · rintro H2 ⟨hL, S⟩
      rw [lx, List.take_length] at hL
      have e1 : ps.map (fun p => V.bl (inP l p)) = (ps.map (inP l)).map V.bl := by rw [List.map_map]; rfl
      rw [e1] at hL
      refine ⟨L, _, rfl, SqL.of hL, ?_⟩
      have e2 : (ps.map (inP l)).any id = inS ps l := by
        unfold inS
        rw [List.any_map]
        rfl
      rw [e2]
      exact k _ (S1.trans S)
abbrev s_ends_soon : Stmt := topS 38
abbrev N_ends_soon : List Str := ["first", "end"]
theorem sc_ends_soon : FnScope ["first", "end"] ["first", "end"] (defScope s_ends_soon) := ⟨rfl, rfl, rfl, by decide +kernel, rfl, by decide +kernel, by decide +kernel⟩

abbrev s_is_finite : Stmt := topS 37
abbrev N_is_finite : List Str := ["span", "first", "end"]
theorem sc_is_finite : FnScope ["span", "first", "end"] ["span"] (defScope s_is_finite) := ⟨rfl, rfl, rfl, by decide +kernel, rfl, by decide +kernel, by decide +kernel⟩

def finP (p : Pr) : Bool := match p.2 with | none => false | some e => decide (e = af p.1 (e.length - p.1.length))
/-! ### finitely many, by the program -/
theorem tx_from (l : List Nat) (k : Nat) : cutS (tx l) (some (k : Int)) none = tx (l.drop k) := by
  rw [tx_cut, HT.sIx_none, HT.sIx_nat]
  rcases Nat.le_total k l.length with h | h
  · rw [Nat.min_eq_left h, List.take_of_length_le (by rw [List.length_drop]; exact Nat.le_refl _)]
  · rw [Nat.min_eq_right h, List.drop_length, List.drop_of_length_le h, List.take_nil]
theorem sw_tx (e f : Txt) : Txt.startswith (tx e) (tx f) = decide (e.take f.length = f) := by
  unfold Txt.startswith Builtin.Str.subAt
  rw [tx_len, tx_len, Bool.eq_iff_iff]
  simp only [Bool.and_eq_true, decide_eq_true_eq, beq_iff_eq]
  constructor
  · rintro ⟨h1, h2⟩
    have : ((tx e).cps.extract 0 (0 + f.length)).toList = (tx f).cps.toList := by rw [h2]
    simpa [tx] using this
  · intro h
    refine ⟨?_, ?_⟩
    · have := congrArg List.length h
      rw [List.length_take] at this
      omega
    · apply Array.ext'
      simpa [tx] using h
theorem goes_a (c : Nat) : (tx [97]).cps.contains c = true ↔ c = 97 := by simp [tx]
theorem strip_a (l : List Nat) : (Txt.stripChars (tx l) (tx [97]) = tx []) ↔ ∀ c ∈ l, c = 97 := by
  unfold Txt.stripChars
  rw [PyProof.Rows.stripBy_eq]
  obtain ⟨a1, a2, a3⟩ := lo_facts (tx [97]).cps.contains (tx l)
  obtain ⟨b1, b2, b3, b4⟩ := hi_facts (tx [97]).cps.contains (tx l) _ a1
  generalize stripLo (tx [97]).cps.contains true (tx l) = lo at *
  generalize stripHi (tx [97]).cps.contains true (tx l) lo = hi at *
  have gd : ∀ k, (tx l).cps.getD k 0 = l.getD k 0 := fun k => by rw [← getD_list]
  have hlen : (tx l).length = l.length := tx_len l
  rw [hlen] at a1 a3 b2 b3
  have size : (Builtin.Str.strSub (tx l) lo hi).length = hi - lo := by
    unfold Builtin.Str.strSub Str.length
    simp
    omega
  constructor
  · intro h
    have e : hi - lo = 0 := by rw [← size, h]; rfl
    have e2 : hi = lo := by omega
    subst e2
    have all : ∀ k, k < l.length → (tx [97]).cps.contains (l.getD k 0) = true := fun k hk => by
      rw [← gd]
      by_cases q : k < hi
      · exact a2 k q
      · exact b3 k (by omega) hk
    intro c m
    obtain ⟨k, hk, rfl⟩ := List.mem_iff_getElem.mp m
    have := all k hk
    rw [List.getD_eq_getElem?_getD, List.getElem?_eq_getElem hk] at this
    exact (goes_a _).mp this
  · intro h
    have e : lo = l.length := by
      rcases a3 with e | e
      · exact e
      · by_cases q : lo < l.length
        · rw [gd, List.getD_eq_getElem?_getD, List.getElem?_eq_getElem q] at e
          have := (goes_a _).mpr (h _ (List.getElem_mem q))
          rw [Option.getD_some] at e
          rw [e] at this
          cases this
        · omega
    have z : (Builtin.Str.strSub (tx l) lo hi).length = 0 := by omega
    have : (Builtin.Str.strSub (tx l) lo hi).cps = #[] := Array.eq_empty_of_size_eq_zero z
    cases hh : Builtin.Str.strSub (tx l) lo hi with
    | mk c =>
      rw [hh] at this
      show (⟨c⟩ : Str) = ⟨#[]⟩
      rw [show c = #[] from this]
theorem all_a : ∀ (l : List Nat), (∀ c ∈ l, c = 97) ↔ l = List.replicate l.length 97
  | [] => ⟨fun _ => rfl, fun _ _ m => nomatch m⟩
  | x :: l => by
    rw [List.length_cons, List.replicate_succ]
    constructor
    · intro h
      rw [h x List.mem_cons_self, ← (all_a l).mp fun c m => h c (List.mem_cons_of_mem _ m)]
    · intro h
      obtain ⟨h1, h2⟩ := List.cons.inj h
      intro c m
      rcases List.mem_cons.mp m with rfl | m
      · exact h1
      · exact (all_a l).mpr h2 c m
theorem fin_iff {f e : Txt} : (e.take f.length = f ∧ ∀ c ∈ e.drop f.length, c = 97) ↔ e = af f (e.length - f.length) := by
  rw [all_a, List.length_drop]
  unfold af
  constructor
  · rintro ⟨h1, h2⟩
    conv => lhs; rw [← List.take_append_drop f.length e, h1, h2]
  · intro h
    have hl : f.length ≤ e.length := by
      have := congrArg List.length h
      rw [List.length_append, List.length_replicate] at this
      omega
    generalize e.length - f.length = j at h
    subst h
    exact ⟨List.take_left' rfl, by rw [List.drop_left' rfl]⟩
def spSoon : Sp := fun vs H Q _ => ∃ p : Pr, vs = [Tx p.1, oV p.2] ∧ PrOk p ∧ Q (.bl (finP p)) H
theorem cl_ends_soon {f : Addr} {fd : FuncData} (D : Df K mg "ends_soon" s_ends_soon ["first", "end"] f fd) (T : Nm mg) : Cl P w K mg base 1 "ends_soon" s_ends_soon ["first", "end"] spSoon := by
  refine D.cl sc_ends_soon (fun vs H Q E h => ?_) (fun cdv A outer s H vs Q E hr h => ?_)
  · obtain ⟨p, rfl, _⟩ := h
    rfl
  · obtain ⟨⟨fi, e⟩, rfl, ⟨sf, se⟩, k⟩ := h
    refine ⟨_, (pss_one (ps_ret (pe_and (pe_cmpR op_notN (pv 1) pe_non (by first | exact nomark _ | rfl)) (pe_and (pe_bm PySem.F.plainAttrs_str PySem.F.slot_str_startswith PySem.F.type_str_startswith mt_startswith (pv 1) (pa_cons (pv 0) pa_nil)) (pe_one (pe_cmpR op_eq (pe_bm PySem.F.plainAttrs_str PySem.F.slot_str_strip PySem.F.type_str_strip mt_stripChars (pe_slice sl_str (pv 1) (po_some (pe_callB call_len_str (by rfl) T.n_len (by decide +kernel) (pa_cons (pv 0) pa_nil))) po_none) (pa_cons pe_str pa_nil)) pe_str (by first | exact nomark _ | rfl))))))), ?_⟩
    cases e with
    | none => exact ⟨_, rfl, rfl, _, rfl, ite2 (fun h => absurd h (by simp [oV])) (fun _ => k)⟩
    | some e =>
      have le : e.length ≤ 40 := (se e rfl).1.2
      have lf : fi.length ≤ 40 := sf.2
      refine ⟨_, rfl, rfl, _, rfl, ite2 (fun _ => ?_) (fun h => absurd (by simp [oV]) h)⟩
      refine ⟨_, rfl, rfl, _, rfl, tx e, tx fi, rfl, rfl, _, rfl, ?_⟩
      rw [sw_tx]
      have k' : Q (.bl (decide (e = af fi (e.length - fi.length)))) H := k
      refine ite2 (fun h => ?_) (fun h => ?_)
      · have h1 : e.take fi.length = fi := of_decide_eq_true h
        refine ⟨_, rfl, _, rfl, tx fi, rfl, szt (by omega), ((tx fi).length : Int), rfl, tx e, rfl, szt (by omega), ?_⟩
        rw [tx_len, show cutS (tx e) (some (fi.length : Int)) none = tx (e.drop fi.length) from tx_from e fi.length]
        refine ⟨rfl, tx (e.drop fi.length), ("a" : Str), rfl, rfl, szt (by rw [List.length_drop]; omega), rfl, ?_⟩
        have e2 : decide (V.str (Txt.stripChars (tx (e.drop fi.length)) "a") = V.str "") = decide (e = af fi (e.length - fi.length)) := by
          rw [a_lit, nil_lit]
          refine decide_eq_decide.mpr ⟨fun q => fin_iff.mp ⟨h1, (strip_a _).mp (V.str.inj q)⟩, fun q => congrArg V.str ((strip_a _).mpr (fin_iff.mpr q).2)⟩
        rw [e2]
        exact k'
      · have : decide (e = af fi (e.length - fi.length)) = false := decide_eq_false fun q => h (decide_eq_true (fin_iff.mpr q).1)
        rw [this] at k'
        exact k'
def finS (ps : List Pr) : Bool := ps.all finP
def spFinite (K : PySem.W.Frag) : Sp := fun vs H Q _ => ∃ (a : Addr) (ps : List Pr), vs = [.ref a] ∧ Spn K H a ps ∧ ∀ H', Stp [] H H' → Q (.bl (finS ps)) H'
theorem cl_is_finite {f : Addr} {fd : FuncData} (D : Df K mg "is_finite" s_is_finite ["span"] f fd) (T : Nm mg) (c_check_span : Cl P w K mg base 4 "check_span" s_check_span ["span"] (spCkSpan K)) (c_ends_soon : Cl P w K mg base 1 "ends_soon" s_ends_soon ["first", "end"] spSoon) :
    Cl P w K mg base 5 "is_finite" s_is_finite ["span"] (spFinite K) := by
  refine D.cl sc_is_finite (fun vs H Q E h => ?_) (fun cdv A outer s H vs Q E hr h => ?_)
  · obtain ⟨a, ps, rfl, _⟩ := h
    rfl
  · obtain ⟨a, ps, rfl, sp, k⟩ := h
    refine ⟨_, (pss_cons (ps_expr (pe_cl c_check_span hr (by omega) (pa_cons (pv 0) pa_nil)))
      (pss_one (ps_ret (pe_callB (cr_all rfl) (by rfl) T.n_all (by decide +kernel) (pa_cons (pe_lc (own := [("first", 1), ("end", 2)]) rfl sc_is_finite.nd (pi_tup (pv 0)) (blkOk_by (own := [("first", 1), ("end", 2)]) (N := N_is_finite) (sc := defScope s_is_finite) (by decide +kernel)) (fun _ _ _ _ _ => (pg_tupK (n := 2) rfl rfl (pgs_cons (pg_name (i := 1) sc_is_finite.nd rfl (by first | exact Or.inl rfl | exact Or.inr rfl)) (pgs_cons (pg_name (i := 2) sc_is_finite.nd rfl (by first | exact Or.inl rfl | exact Or.inr rfl)) pgs_nil (by rfl)) (by rfl)) (by rfl) (by rfl))) (fun _ _ _ _ _ => pts_nil) (fun _ _ _ _ _ => (pe_cl c_ends_soon hr (by omega) (pa_cons (pv 1) (pa_cons (pv 2) pa_nil))))) pa_nil))))), ?_⟩
    refine ⟨_, rfl, a, ps, rfl, sp, fun H1 S1 => ?_⟩
    obtain ⟨⟨xs, hs, rl⟩, ok, few⟩ := sp.stp S1 Lsts.nil
    have lx : xs.length = ps.length := by rw [rl.len, List.length_map]
    refine ⟨_, rfl, a, rfl, ⟨_, hs⟩, fun L nL => ?_⟩
    refine lc_mapT (ds := (ps.map finP).map Dt.bl) nL hs (by simp [lx]) (by omega) (fun j x d H3 hx hd S3 Q2 q => ?_) fun ws H3 S3 h3 r3 => ?_
    · obtain ⟨p, hp, t, rfl, ht⟩ := prs_get rl hx
      rw [List.getElem?_map, List.getElem?_map, hp] at hd
      cases hd
      refine ⟨t, _, rfl, sqt_stp S3 Lsts.nil ht, rfl, _, _, rfl, _, _, rfl, rfl, ?_⟩
      exact ⟨rfl, _, rfl, _, rfl, p, rfl, ok.ok p (List.mem_of_getElem? hp), q _ _ (Stp.refl _ _) (.bl _)⟩
    · have e3 := rpl_bls r3
      subst e3
      refine ⟨L, _, rfl, SqL.of h3, ?_⟩
      rw [show (ps.map finP).all id = finS ps by unfold finS; rw [List.all_map]; rfl]
      exact k _ (S1.trans S3)
theorem seq_end {t u : TS} {D : Ends} {σ : L2.St} {H : Hp} (I : L2.St → Hp → Prop) (fin : ∀ σ' H', I σ' H' → u D σ' H') (h : (∀ σ' H', I σ' H' → u D σ' H') → t { D with nx := u D } σ H) : tSeq t u D σ H := h fin
abbrev s__law_points : Stmt := topS 48
abbrev N__law_points : List Str := ["pairs", "pair"]
theorem sc__law_points : FnScope ["pairs", "pair"] ["pairs"] (defScope s__law_points) := ⟨rfl, rfl, rfl, by decide +kernel, rfl, by decide +kernel, by decide +kernel⟩

abbrev s__law_past : Stmt := topS 44
abbrev N__law_past : List Str := ["word"]
theorem sc__law_past : FnScope ["word"] ["word"] (defScope s__law_past) := ⟨rfl, rfl, rfl, by decide +kernel, rfl, by decide +kernel, by decide +kernel⟩

/-! ### _law_points, _law_past -/
/-- the points of some ranges -/
def PtsOf (ps : List Pr) (zs : List Txt) : Prop := ∀ z, z ∈ zs ↔ z = [] ∨ (∃ p ∈ ps, p.1 = z) ∨ ∃ p ∈ ps, p.2 = some z
def spPoints (K : PySem.W.Frag) : Sp := fun vs H Q _ => ∃ (a : Addr) (xs : List V) (ps : List Pr), vs = [.ref a] ∧ H a = some (.lst xs) ∧ RpL K H xs (ps.map prD) ∧ (∀ p ∈ ps, PrS p) ∧ ps.length ≤ 200 ∧
  ∀ (zs : List Txt) b H', Stp [] H H' → H' b = some (.lst (zs.map Tx)) → zs.Pairwise (· < ·) → (∀ z ∈ zs, Short z) → zs.length ≤ 401 → PtsOf ps zs → Q (.ref b) H'
theorem cl__law_points {f : Addr} {fd : FuncData} (D : Df K mg "_law_points" s__law_points ["pairs"] f fd) (T : Nm mg) : Cl P w K mg base 1 "_law_points" s__law_points ["pairs"] (spPoints K) := by
  refine D.cl sc__law_points (fun vs H Q E h => ?_) (fun cdv A outer s H vs Q E hr h => ?_)
  · obtain ⟨a, xs, ps, rfl, _⟩ := h
    rfl
  · obtain ⟨a, xs, ps, rfl, hs, rl, ok, few, k⟩ := h
    refine ⟨_, (pss_one (ps_ret (pe_sortset hr.hd (by rfl) T.n_sorted (by rfl) T.n_set (pe_op op_cat (pe_op op_cat (pe_lst (pa_cons pe_str pa_nil)) (pe_lc (own := [("pair", 1)]) rfl sc__law_points.nd (pi_list (pv 0)) (blkOk_by (own := [("pair", 1)]) (N := N__law_points) (sc := defScope s__law_points) (by decide +kernel)) (fun _ _ _ _ _ => (pg_name (i := 1) sc__law_points.nd rfl (by first | exact Or.inl rfl | exact Or.inr rfl))) (fun _ _ _ _ _ => pts_nil) (fun _ _ _ _ _ => (pe_ix (ix_tupK rfl) (pv 1) pe_int (fun _ _ => rfl))))) (pe_lc (own := [("pair", 1)]) rfl sc__law_points.nd (pi_list (pv 0)) (blkOk_by (own := [("pair", 1)]) (N := N__law_points) (sc := defScope s__law_points) (by decide +kernel)) (fun _ _ _ _ _ => (pg_name (i := 1) sc__law_points.nd rfl (by first | exact Or.inl rfl | exact Or.inr rfl))) (fun _ _ _ _ _ => (pts_one (pt_cmpR op_notN (pe_ix (ix_tupK rfl) (pv 1) pe_int (fun _ _ => rfl)) pe_non (by first | exact nomark _ | rfl)))) (fun _ _ _ _ _ => (pe_ix (ix_tupK rfl) (pv 1) pe_int (fun _ _ => rfl)))))))), ?_⟩
    have lx : xs.length = ps.length := by rw [rl.len, List.length_map]
    refine ⟨(by show 1 ≤ sizeLine; decide), fun L1 n1 => ?_⟩
    have S1 : Stp [] H (upd H L1 (.lst [.str ""])) := Stp.new n1 _
    have h1 := S1.kp _ _ (fun m => nomatch m) hs
    refine ⟨_, rfl, a, rfl, ⟨_, SqL.of h1⟩, fun L2 n2 => ?_⟩
    have n12 : L1 ≠ L2 := ne_of_none upd_same n2
    obtain ⟨H1, e1⟩ : ∃ H1, H1 = upd H L1 (.lst [.str ""]) := ⟨_, rfl⟩
    rw [← e1] at n2 h1 S1 ⊢
    have hL1 : H1 L1 = some (.lst [.str ""]) := by rw [e1]; exact upd_same
    refine lc_list (a := a) (xs := xs) (fun i H2 => H2 L2 = some (.lst (((ps.take i).map Prod.fst).map Tx)) ∧ Stp [] H1 H2)
      ⟨upd_same, Stp.new n2 _⟩ (fun i H2 _ ⟨_, S⟩ => SqL.of (S.kp _ _ (fun m => nomatch m) h1)) ?_ ?_
    · rintro i x H2 hi ⟨hL, S⟩
      obtain ⟨p, hp, t, rfl, ht⟩ := prs_get rl hi
      refine ⟨rfl, _, rfl, t, _, 0, Tx p.1, rfl, rfl, sqt_stp (S1.trans S) Lsts.nil ht, at0, _, hL, ?_, ?_, S.mut n2⟩
      · rw [List.length_map, List.length_map, List.length_take]
        exact Nat.lt_of_le_of_lt (show min i ps.length ≤ 1000 by omega) (by decide)
      · rw [upd_same, List.take_add_one, hp, List.map_append, List.map_append]
        rfl
    · rintro H2 ⟨hL, S⟩
      rw [lx, List.take_length] at hL
      have hL12 : H2 L1 = some (.lst [.str ""]) := S.kp _ _ (fun m => nomatch m) hL1
      have lf : ((ps.map Prod.fst).map Tx).length = ps.length := by rw [List.length_map, List.length_map]
      refine ⟨L1, L2, _, _, rfl, rfl, hL12, hL, ?_, fun L3 n3 => ?_⟩
      · rw [lf]
        exact Nat.le_trans (show [V.str ""].length + ps.length ≤ 1000 by simp; omega) (by decide)
      obtain ⟨H3, e3⟩ : ∃ H3, H3 = upd H2 L3 (.lst ([.str ""] ++ (ps.map Prod.fst).map Tx)) := ⟨_, rfl⟩
      rw [← e3]
      have hL3 : H3 L3 = some (.lst ([.str ""] ++ (ps.map Prod.fst).map Tx)) := by rw [e3]; exact upd_same
      have S3 : Stp [] H H3 := by
        rw [e3]
        exact (S1.trans S).new' n3
      have h3 := S3.kp _ _ (fun m => nomatch m) hs
      refine ⟨_, rfl, a, rfl, ⟨_, SqL.of h3⟩, fun L4 n4 => ?_⟩
      refine lc_list (a := a) (xs := xs) (fun i H4 => H4 L4 = some (.lst (((ps.take i).filterMap Prod.snd).map Tx)) ∧ Stp [] H3 H4)
        ⟨upd_same, Stp.new n4 _⟩ (fun i H4 _ ⟨_, S4⟩ => SqL.of (S4.kp _ _ (fun m => nomatch m) h3)) ?_ ?_
      · rintro i x H4 hi ⟨hL4, S4⟩
        obtain ⟨⟨g, e⟩, hp, t, rfl, ht⟩ := prs_get rl hi
        have ht2 : SqT K H4 t [Tx g, oV e] := sqt_stp (S3.trans S4) Lsts.nil ht
        refine ⟨rfl, _, rfl, t, _, 1, oV e, rfl, rfl, ht2, at1, rfl, _, rfl, ?_⟩
        have tk : (ps.take (i + 1)).filterMap Prod.snd = (ps.take i).filterMap Prod.snd ++ e.toList := by
          rw [List.take_add_one, hp, List.filterMap_append]
          cases e <;> rfl
        cases e with
        | none =>
          refine ite2 (fun h => absurd h (by simp [oV])) (fun _ => ⟨?_, S4⟩)
          rw [tk, Option.toList_none, List.append_nil]
          exact hL4
        | some e =>
          refine ite2 (fun _ => ?_) (fun h => absurd (show _ = true from rfl) h)
          refine ⟨_, rfl, t, _, 1, Tx e, rfl, rfl, ht2, at1, _, hL4, ?_, ?_, S4.mut n4⟩
          · rw [List.length_map]
            have := List.length_filterMap_le Prod.snd (ps.take i)
            rw [List.length_take] at this
            exact Nat.lt_of_le_of_lt (show _ ≤ 1000 by omega) (by decide)
          · rw [upd_same, tk, List.map_append]
            rfl
      · rintro H4 ⟨hL4, S4⟩
        rw [lx, List.take_length] at hL4
        have le := List.length_filterMap_le Prod.snd ps
        have hL34 : H4 L3 = _ := S4.kp _ _ (fun m => nomatch m) hL3
        refine ⟨L3, L4, _, _, rfl, rfl, hL34, hL4, ?_, fun L5 n5 => ?_⟩
        · rw [List.length_append, lf, List.length_map]
          exact Nat.le_trans (show [V.str ""].length + ps.length + _ ≤ 1000 by simp; omega) (by decide)
        have el : ([.str ""] ++ (ps.map Prod.fst).map Tx) ++ (ps.filterMap Prod.snd).map Tx = (([] : Txt) :: (ps.map Prod.fst ++ ps.filterMap Prod.snd)).map Tx := by
          rw [List.map_cons, List.map_append, nil_lit]
          rfl
        rw [el]
        have lenl : (([] : Txt) :: (ps.map Prod.fst ++ ps.filterMap Prod.snd)).length ≤ 401 := by
          rw [List.length_cons, List.length_append, List.length_map]
          omega
        refine ⟨L5, _, rfl, SqL.of upd_same, by omega, fun zs b pw mem len nb => ?_⟩
        have po : PtsOf ps zs := fun z => by
          rw [mem z, List.mem_cons, List.mem_append, List.mem_map, List.mem_filterMap]
        refine k zs b _ ((S3.trans S4).new' n5 |>.new' nb) upd_same pw (fun z m => ?_) (by omega) po
        rcases (po z).mp m with rfl | ⟨p, mp, rfl⟩ | ⟨p, mp, e⟩
        · exact short_nil
        · exact (ok p mp).1
        · exact (ok p mp).2 z e
abbrev s__law_due : Stmt := topS 50
abbrev N__law_due : List Str := ["pairs", "points", "word"]
theorem sc__law_due : FnScope ["pairs", "points", "word"] ["pairs"] (defScope s__law_due) := ⟨rfl, rfl, rfl, by decide +kernel, rfl, by decide +kernel, by decide +kernel⟩


/-! ### _law_due, _law_past -/

theorem cell_at : ∀ (zs : List Txt) (w : Txt), (∃ z, zs.head? = some z ∧ z ≤ w) → ∃ j z, zs[j]? = some z ∧ z ≤ w ∧ ∀ z', zs[j + 1]? = some z' → w < z'
  | [], _, ⟨z, e, _⟩ => by cases e
  | [z], w, ⟨z0, e, l⟩ => by
    cases e
    exact ⟨0, z, rfl, l, fun z' q => by cases q⟩
  | z :: z2 :: zs, w, ⟨z0, e, l⟩ => by
    cases e
    by_cases c : w < z2
    · exact ⟨0, z, rfl, l, fun z' q => by cases q; exact c⟩
    · obtain ⟨j, x, h1, h2, h3⟩ := cell_at (z2 :: zs) w ⟨z2, rfl, le_of_nlt c⟩
      exact ⟨j + 1, x, h1, h2, h3⟩
theorem pts_cell {ps : List Pr} {zs : List Txt} (pw : zs.Pairwise (· < ·)) (po : PtsOf ps zs) (w : Txt) : ∃ j z, zs[j]? = some z ∧ z ≤ w ∧ ∀ z', zs[j + 1]? = some z' → w < z' := by
  refine cell_at zs w ?_
  have m : ([] : Txt) ∈ zs := (po []).mpr (.inl rfl)
  cases zs with
  | nil => cases m
  | cons z zs =>
    refine ⟨z, rfl, ?_⟩
    rcases List.mem_cons.mp m with rfl | m
    · exact nil_le _
    · exact absurd ((List.pairwise_cons.mp pw).1 [] m) (by intro h; cases h)
theorem pts_gap {zs : List Txt} (pw : zs.Pairwise (· < ·)) {j : Nat} {z w x : Txt} (hz : zs[j]? = some z) (nx : ∀ z', zs[j + 1]? = some z' → w < z') (m : x ∈ zs) (l : x ≤ w) : x ≤ z := by
  obtain ⟨i, hi, e⟩ := List.mem_iff_getElem.mp m
  have e' : zs[i]? = some x := by rw [List.getElem?_eq_getElem hi, e]
  rcases Nat.lt_trichotomy i j with c | c | c
  · exact lt_le' (asc pw c e' hz)
  · subst c
    rw [hz] at e'
    cases e'
    exact le_self _
  · have hl : j + 1 < zs.length := by omega
    have a := nx _ (List.getElem?_eq_getElem hl)
    rcases Nat.lt_or_eq_of_le (Nat.succ_le_of_lt c) with q | q
    · exact absurd (lt_le (List.lt_trans a (asc pw q (List.getElem?_eq_getElem hl) e')) l) (List.lt_irrefl _)
    · have q : j + 1 = i := q
      subst q
      rw [List.getElem?_eq_getElem hl] at e'
      cases e'
      exact absurd (lt_le a l) (List.lt_irrefl _)
theorem in_cell {ps : List Pr} {zs : List Txt} (pw : zs.Pairwise (· < ·)) (sub : ∀ z, (∃ p ∈ ps, p.1 = z) ∨ (∃ p ∈ ps, p.2 = some z) → z ∈ zs) {j : Nat} {z w : Txt} (hz : zs[j]? = some z) (l : z ≤ w) (nx : ∀ z', zs[j + 1]? = some z' → w < z') : inS ps w = inS ps z := by
  have one : ∀ p ∈ ps, inP w p = inP z p := fun p m => by
    rw [Bool.eq_iff_iff, inP_iff, inP_iff]
    constructor
    · exact fun h => ⟨pts_gap pw hz nx (sub _ (.inl ⟨p, m, rfl⟩)) h.1, fun e he => le_lt l (h.2 e he)⟩
    · refine fun h => ⟨List.le_trans h.1 l, fun e he => ?_⟩
      by_cases c : w < e
      · exact c
      · exact absurd (lt_le (h.2 e he) (pts_gap pw hz nx (sub _ (.inr ⟨p, m, he⟩)) (le_of_nlt c))) (List.lt_irrefl _)
  unfold inS
  rw [Bool.eq_iff_iff, List.any_eq_true, List.any_eq_true]
  constructor
  · rintro ⟨p, m, h⟩
    exact ⟨p, m, by rw [← one p m]; exact h⟩
  · rintro ⟨p, m, h⟩
    exact ⟨p, m, by rw [one p m]; exact h⟩
theorem due_mem {ps ds : List Pr} {zs : List Txt} {bs : List Bool} {f : Bool → Bool} (pw : zs.Pairwise (· < ·)) (po : PtsOf ps zs) (hb : ∀ (j : Nat) z, zs[j]? = some z → bs[j]? = some (f (inS ps z))) (me : Mem zs bs zs.length ds) (w : Txt) : inS ds w = f (inS ps w) := by
  obtain ⟨j, z, h1, h2, h3⟩ := pts_cell pw po w
  rw [me.yes j z _ w (List.getElem?_eq_some_iff.mp h1).1 h1 (hb j z h1) h2 h3, in_cell pw (fun x h => (po x).mpr (.inr h)) h1 h2 h3]
def spDue (K : PySem.W.Frag) : Sp := fun vs H Q _ => ∃ (a : Addr) (xs : List V) (ps : List Pr), vs = [.ref a] ∧ H a = some (.lst xs) ∧ RpL K H xs (ps.map prD) ∧ (∀ p ∈ ps, PrS p) ∧ ps.length ≤ 200 ∧
  ∀ b ps' H', Stp [] H H' → Spn K H' b ps' → (∀ w, inS ps' w = inS ps w) → Q (.ref b) H'
theorem cl__law_due {f : Addr} {fd : FuncData} (D : Df K mg "_law_due" s__law_due ["pairs"] f fd) (T : Nm mg) (c__law_points : Cl P w K mg base 1 "_law_points" s__law_points ["pairs"] (spPoints K))
    (c__law_in : Cl P w K mg base 1 "_law_in" s__law_in ["pairs", "word"] (spInL K)) (c__law_pieces : Cl P w K mg base 1 "_law_pieces" s__law_pieces ["points", "marks"] (spPieces K)) : Cl P w K mg base 2 "_law_due" s__law_due ["pairs"] (spDue K) := by
  refine D.cl sc__law_due (fun vs H Q E h => ?_) (fun cdv A outer s H vs Q E hr h => ?_)
  · obtain ⟨a, xs, ps, rfl, _⟩ := h
    rfl
  · obtain ⟨a, xs, ps, rfl, hs, rl, ok, few, k⟩ := h
    refine ⟨_, (pss_cons (ps_set (i := 1) sc__law_due.nd rfl (by first | exact Or.inl rfl | exact Or.inr rfl) (pe_cl c__law_points hr (by omega) (pa_cons (pv 0) pa_nil)))
      (pss_one (ps_ret (pe_cl c__law_pieces hr (by omega) (pa_cons (pv 1) (pa_cons (pe_lc (own := [("word", 2)]) rfl sc__law_due.nd (pi_list (pv 1)) (blkOk_by (own := [("word", 2)]) (N := N__law_due) (sc := defScope s__law_due) (by decide +kernel)) (fun _ _ _ _ _ => (pg_name (i := 2) sc__law_due.nd rfl (by first | exact Or.inl rfl | exact Or.inr rfl))) (fun _ _ _ _ _ => pts_nil) (fun _ _ _ _ _ => (pe_cl c__law_in hr (by omega) (pa_cons (pv 0) (pa_cons (pv 2) pa_nil))))) pa_nil)))))), ?_⟩
    refine ⟨_, rfl, a, xs, ps, rfl, hs, rl, ok, few, fun zs b H1 S1 hb pw sh l41 po => ?_⟩
    have hs1 := S1.kp _ _ (fun m => nomatch m) hs
    have rl1 := rl.stp S1 Lsts.nil
    refine ⟨_, rfl, _, rfl, b, rfl, ⟨_, SqL.of hb⟩, fun L nL => ?_⟩
    refine lc_list (a := b) (xs := zs.map Tx) (fun i H2 => ∃ bs : List Bool, bs.length = i ∧ (∀ j z, j < i → zs[j]? = some z → bs[j]? = some (inS ps z)) ∧ H2 L = some (.lst (bs.map V.bl)) ∧ Stp [] H1 H2)
      ⟨[], rfl, fun _ _ h => absurd h (Nat.not_lt_zero _), upd_same, Stp.new nL _⟩ (fun i H2 _ ⟨bs, _, _, _, S⟩ => SqL.of (S.kp _ _ (fun m => nomatch m) hb)) ?_ ?_
    · rintro i x H2 hi ⟨bs, hl, hb', hL, S⟩
      obtain ⟨z, rfl⟩ : ∃ z, x = Tx z := by
        rw [List.getElem?_map] at hi
        cases e : zs[i]? with
        | none =>
          rw [e] at hi
          cases hi
        | some u =>
          rw [e] at hi
          exact ⟨u, (Option.some.inj hi).symm⟩
      refine ⟨rfl, _, rfl, _, rfl, a, xs, ps, z, rfl, S.kp _ _ (fun m => nomatch m) hs1, rl1.stp S Lsts.nil, ok, by omega, fun H3 S3 => ?_⟩
      refine ⟨bs.map V.bl, S3.kp _ _ (fun m => nomatch m) hL, ?_, bs ++ [inS ps z], by simp [hl], fun j z' hj hz' => ?_, ?_, (S.trans S3).mut nL⟩
      · have h1 := (List.getElem?_eq_some_iff.mp hi).1
        rw [List.length_map] at h1 ⊢
        rw [hl]
        exact Nat.lt_of_lt_of_le (show i < 100000 by omega) (by decide)
      · rcases Nat.lt_or_eq_of_le (Nat.lt_succ_iff.mp hj) with q | rfl
        · rw [List.getElem?_append_left (by omega)]
          exact hb' j z' q hz'
        · rw [List.getElem?_append_right (by omega), hl, Nat.sub_self]
          rw [List.getElem?_map, hz'] at hi
          cases hi
          rfl
      · rw [List.map_append]
        exact upd_same
    · rintro H2 ⟨bs, hl, hb', hL, S⟩
      rw [List.length_map] at hl
      refine ⟨b, L, zs, bs, rfl, S.kp _ _ (fun m => nomatch m) hb, hL, hl, pw, sh, l41, fun c ps' H3 S3 sp l me => k c ps' H3 ((S1.trans S).trans S3) sp fun w => ?_⟩
      exact due_mem (f := fun b => b) pw po (fun j z hz => hb' j z (by rw [List.length_map]; exact (List.getElem?_eq_some_iff.mp hz).1) hz) me w
def Sh12 (l : Txt) : Prop := Abc l ∧ l.length ≤ 12
theorem Sh12.up {l : Txt} (h : Sh12 l) : Short l := ⟨h.1, by have := h.2; omega⟩
def Pr12 (p : Pr) : Prop := Sh12 p.1 ∧ ∀ e, p.2 = some e → Sh12 e ∧ p.1 < e
theorem Pr12.ok {p : Pr} (h : Pr12 p) : PrOk p := ⟨h.1.up, fun e q => ⟨(h.2 e q).1.up, (h.2 e q).2⟩⟩
/-- without its last c's -/
def spPast : Sp := fun vs H Q _ => ∃ l : Txt, vs = [Tx l] ∧ Sh12 l ∧ ∀ o : Option Txt, (∀ e, o = some e → Sh12 e ∧ l < e) → Q (oV o) H
theorem Sh12.init {l : Txt} (h : Sh12 l) : Sh12 l.dropLast := ⟨h.1.init, by rw [List.length_dropLast]; have := h.2; omega⟩
theorem lt_pre : ∀ (m t x : Txt) (a b : Nat), a < b → m ++ a :: t < m ++ b :: x
  | [], _, _, _, _, h => List.cons_lt_cons_iff.mpr (.inl h)
  | c :: m, t, x, a, b, h => List.cons_lt_cons_iff.mpr (.inr ⟨rfl, lt_pre m t x a b h⟩)
theorem lt_apps : ∀ (a : Txt) (t : Txt), t ≠ [] → a < a ++ t
  | [], [], h => absurd rfl h
  | [], c :: t, _ => List.nil_lt_cons _ _
  | a :: as, t, h => List.cons_lt_cons_iff.mpr (.inr ⟨rfl, lt_apps as t h⟩)
theorem cl__law_past {f : Addr} {fd : FuncData} (D : Df K mg "_law_past" s__law_past ["word"] f fd) (T : Nm mg) : Cl P w K mg base 1 "_law_past" s__law_past ["word"] spPast := by
  refine D.cl sc__law_past (fun vs H Q E h => ?_) (fun cdv A outer s H vs Q E hr h => ?_)
  · obtain ⟨l, rfl, _⟩ := h
    rfl
  · obtain ⟨l, rfl, sl, k⟩ := h
    refine ⟨_, (pss_cons (ps_while PassesOwn.never (pt_cmpR op_eq (pe_slice sl_str (pv 0) (po_some (pe_un un_neg pe_int)) po_none) pe_str (by first | exact nomark _ | rfl)) (pss_one (ps_set (i := 0) sc__law_past.nd rfl (by first | exact Or.inl rfl | exact Or.inr rfl) (pe_slice sl_str (pv 0) po_none (po_some (pe_un un_neg pe_int))))))
      (pss_cons (ps_if (pt_cmpR op_eq (pv 0) pe_str (by first | exact nomark _ | rfl)) (pss_one (ps_ret pe_non)) pss_nil)
      (pss_one (ps_ret (pe_op op_add_str (pe_slice sl_str (pv 0) po_none (po_some (pe_un un_neg pe_int))) (pe_ifExp (pt_cmpR op_eq (pe_slice sl_str (pv 0) (po_some (pe_un un_neg pe_int)) po_none) pe_str (by first | exact nomark _ | rfl)) pe_str pe_str)))))), ?_⟩
    refine while_by (fun σ H1 => ∃ m t : Txt, σ = [some (Tx m)] ∧ Sh12 m ∧ l = m ++ t ∧ H1 = H) (fun σ _ => match σ with | [some (.str x)] => x.length | _ => 0) ⟨l, [], rfl, sl, (List.append_nil l).symm, rfl⟩ ?_ ?_
    · rintro σ H1 ⟨m, t, rfl, sm, lmt, rfl⟩
      refine ⟨_, rfl, 1, rfl, -1, rfl, tx m, rfl, szt (by have := sm.2; omega), ?_⟩
      rw [show cutS (tx m) (some (-1)) none = _ from tx_last m]
      refine ⟨rfl, _, rfl, ite2 (fun h => ?_) (fun h => ?_)⟩
      · have hd : tx (m.drop (m.length - 1)) = "c" := V.str.inj (of_decide_eq_true h)
        have pos : 0 < m.length := by
          rcases Nat.eq_zero_or_pos m.length with q | q
          · rw [List.length_eq_zero_iff.mp q] at hd
            exact absurd hd (by decide +kernel)
          · exact q
        refine ⟨_, rfl, 1, rfl, -1, rfl, tx m, rfl, szt (by have := sm.2; omega), ?_⟩
        rw [show cutS (tx m) none (some (-1)) = _ from tx_init m]
        obtain ⟨c, dl⟩ : ∃ c, m = m.dropLast ++ [c] := ⟨_, (List.dropLast_concat_getLast (List.ne_nil_of_length_pos pos)).symm⟩
        have lmt2 : l = m.dropLast ++ c :: t := by
          rw [lmt]
          conv => lhs; rw [dl]
          simp
        refine ⟨⟨m.dropLast, c :: t, rfl, sm.init, lmt2, rfl⟩, ?_⟩
        show (tx m.dropLast).length < (tx m).length
        rw [tx_len, tx_len, List.length_dropLast]
        omega
      · refine ⟨_, rfl, rfl, _, rfl, ite2 (fun h1 => ?_) (fun h1 => ?_)⟩
        · exact k none fun e q => (by cases q)
        · have ne : m ≠ [] := fun e => h1 (by rw [e]; exact decide_eq_true (congrArg V.str nil_lit.symm))
          have dl : m = m.dropLast ++ [m.getLast ne] := (List.dropLast_concat_getLast _).symm
          have lastd : m.drop (m.length - 1) = [m.getLast ne] := by
            have pos := List.length_pos_iff.mpr ne
            conv => lhs; rw [dl]
            rw [List.length_append, List.length_singleton, Nat.add_sub_cancel, List.drop_left]
          have fin : ∀ c : Nat, c = 98 ∨ c = 99 → m.getLast ne < c → (tx m.dropLast).length + (tx [c]).length ≤ sizeLine ∧ Q (.str (tx m.dropLast ++ tx [c])) H1 := fun c hc lt => by
            have hc' : c = 97 ∨ c = 98 ∨ c = 99 := .inr hc
            refine ⟨?_, ?_⟩
            · rw [tx_len, tx_len, List.length_dropLast]
              have := sm.2
              exact sz (by simp; omega)
            · rw [tx_app]
              refine k (some (m.dropLast ++ [c])) fun e q => ?_
              cases q
              have pos := List.length_pos_iff.mpr ne
              have := sm.2
              refine ⟨⟨sm.1.init.app (Abc.one hc'), by rw [List.length_append, List.length_dropLast, List.length_singleton]; omega⟩, ?_⟩
              have lmt2 : l = m.dropLast ++ m.getLast ne :: t := by
                rw [lmt]
                conv => lhs; rw [dl]
                simp
              rw [lmt2]
              exact lt_pre _ _ _ _ _ lt
          have gl : m.getLast ne = 97 ∨ m.getLast ne = 98 ∨ m.getLast ne = 99 := sm.1 _ (List.getLast_mem ne)
          refine ⟨_, rfl, 1, rfl, -1, rfl, tx m, rfl, szt (by have := sm.2; omega), ?_⟩
          rw [show cutS (tx m) none (some (-1)) = _ from tx_init m]
          refine ⟨_, rfl, 1, rfl, -1, rfl, tx m, rfl, szt (by have := sm.2; omega), ?_⟩
          rw [show cutS (tx m) (some (-1)) none = _ from tx_last m]
          refine ⟨rfl, _, rfl, ite2 (fun h2 => ?_) (fun h2 => ?_)⟩
          · have h2 : tx (m.drop (m.length - 1)) = "a" := V.str.inj (of_decide_eq_true h2)
            rw [lastd, show ("a" : Str) = tx [97] by decide +kernel] at h2
            have := List.cons.inj (tx_inj h2)
            obtain ⟨f1, f2⟩ := fin 98 (.inl rfl) (by omega)
            exact ⟨tx m.dropLast, tx [98], rfl, congrArg V.str (by decide +kernel), f1, f2⟩
          · have nc : m.getLast ne ≠ 99 := fun e => h (by rw [lastd, e]; exact decide_eq_true (congrArg V.str (by decide +kernel)))
            obtain ⟨f1, f2⟩ := fin 99 (.inr rfl) (by omega)
            exact ⟨tx m.dropLast, tx [99], rfl, congrArg V.str (by decide +kernel), f1, f2⟩
    · rintro σ H Q Q' h ⟨v, e1, i, e2, j, e3, x, e4, z, s1, b, e5, q⟩
      exact ⟨v, e1, i, e2, j, e3, x, e4, z, s1, b, e5, h _ _ q⟩
abbrev s__law_pair : Stmt := topS 46
abbrev N__law_pair : List Str := ["bag", "pool", "first", "way", "end"]
theorem sc__law_pair : FnScope ["bag", "pool", "first", "way", "end"] ["bag", "pool"] (defScope s__law_pair) := ⟨rfl, rfl, rfl, by decide +kernel, rfl, by decide +kernel, by decide +kernel⟩

/-! ### _law_pair -/
theorem lt_of_le_ne {a b : Txt} (h : a ≤ b) (n : a ≠ b) : a < b := by
  by_cases c : a < b
  · exact c
  · exact absurd (List.le_antisymm h (le_of_nlt c)) n
def Mid (b p : Addr) (way : Int) (n : Nat) (H0 : Hp) (σ : L2.St) (H : Hp) : Prop := ∃ (g : Txt) (e : Option Txt), σ = [some (.ref b), some (.ref p), some (Tx g), some (.int way), some (oV e)] ∧ Sh12 g ∧ (∀ e', e = some e' → Sh12 e' ∧ g < e') ∧ Stp [b] H0 H ∧ Bag H b n
def spPair (K : PySem.W.Frag) : Sp := fun vs H Q _ => ∃ (b p : Addr) (n : Nat) (ls : List (List Nat)), vs = [.ref b, .ref p] ∧ Bag H b n ∧ n + 200 < 2 ^ 30 ∧ Pool H p ls ∧ ls.length < 2 ^ 19 ∧ b ≠ p ∧
  ∀ t pr ls' H', Rp K H' (.ref t) (prD pr) → Pr12 pr → Stp [b, p] H H' → Bag H' b (n + 60) → Pool H' p ls' → ls'.length ≤ ls.length + 2 → Q (.ref t) H'
theorem cl__law_pair {f : Addr} {fd : FuncData} (D : Df K mg "_law_pair" s__law_pair ["bag", "pool"] f fd) (T : Nm mg) (c__law_draw : Cl P w K mg base 1 "_law_draw" s__law_draw ["bag", "upto"] spDraw)
    (c__law_some : Cl P w K mg base 3 "_law_some" s__law_some ["bag", "pool"] spSome) (c__law_past : Cl P w K mg base 1 "_law_past" s__law_past ["word"] spPast) : Cl P w K mg base 4 "_law_pair" s__law_pair ["bag", "pool"] (spPair K) := by
  refine D.cl sc__law_pair (fun vs H Q E h => ?_) (fun cdv A outer s H vs Q E hr h => ?_)
  · obtain ⟨b, p, n, ls, rfl, _⟩ := h
    rfl
  · obtain ⟨b, p, n, ls, rfl, B, hn, pl, hls, ne, k⟩ := h
    refine ⟨_, (pss_cons (ps_set (i := 2) sc__law_pair.nd rfl (by first | exact Or.inl rfl | exact Or.inr rfl) (pe_cl c__law_some hr (by omega) (pa_cons (pv 0) (pa_cons (pv 1) pa_nil))))
      (pss_cons (ps_par (i := 3) (j := 4) rfl sc__law_pair.nd rfl rfl (by decide) rfl rfl (pa_cons (pe_cl c__law_draw hr (by omega) (pa_cons (pv 0) (pa_cons pe_int pa_nil))) (pa_cons pe_non pa_nil)) (by rfl))
      (pss_cons (ps_if (pt_cmpR op_eq (pv 3) pe_int (by first | exact nomark _ | rfl)) (pss_cons (ps_set (i := 2) sc__law_pair.nd rfl (by first | exact Or.inl rfl | exact Or.inr rfl) (pe_slice sl_str (pv 2) po_none (po_some pe_int)))
      (pss_one (ps_set (i := 4) sc__law_pair.nd rfl (by first | exact Or.inl rfl | exact Or.inr rfl) (pe_op op_add_str (pv 2) (pe_op Pg.op_mul_str pe_str (pe_op op_add pe_int (pe_cl c__law_draw hr (by omega) (pa_cons (pv 0) (pa_cons (pe_op op_sub pe_int (pe_callB call_len_str (by rfl) T.n_len (by decide +kernel) (pa_cons (pv 2) pa_nil))) pa_nil))))))))) pss_nil)
      (pss_cons (ps_if (pt_cmpR op_eq (pv 3) pe_int (by first | exact nomark _ | rfl)) (pss_one (ps_set (i := 4) sc__law_pair.nd rfl (by first | exact Or.inl rfl | exact Or.inr rfl) (pe_cl c__law_past hr (by omega) (pa_cons (pv 2) pa_nil)))) pss_nil)
      (pss_cons (ps_if (pt_cmpR op_gt (pv 3) pe_int (by first | exact nomark _ | rfl)) (pss_cons (ps_set (i := 4) sc__law_pair.nd rfl (by first | exact Or.inl rfl | exact Or.inr rfl) (pe_cl c__law_some hr (by omega) (pa_cons (pv 0) (pa_cons (pv 1) pa_nil))))
      (pss_cons (ps_if (pt_cmpR op_lt_str (pv 4) (pv 2) (by first | exact nomark _ | rfl)) (pss_one (ps_par (i := 2) (j := 4) rfl sc__law_pair.nd rfl rfl (by decide) rfl rfl (pa_cons (pv 4) (pa_cons (pv 2) pa_nil)) (by rfl))) pss_nil)
      (pss_one (ps_if (pt_cmpR op_eq (pv 4) (pv 2) (by first | exact nomark _ | rfl)) (pss_cons (ps_set (i := 2) sc__law_pair.nd rfl (by first | exact Or.inl rfl | exact Or.inr rfl) (pe_slice sl_str (pv 2) po_none (po_some pe_int)))
      (pss_one (ps_set (i := 4) sc__law_pair.nd rfl (by first | exact Or.inl rfl | exact Or.inr rfl) (pe_op op_add_str (pv 2) pe_str)))) pss_nil)))) pss_nil)
      (pss_cons (ps_expr (pe_bm PySem.F.plainAttrs_list PySem.F.slot_list_append PySem.F.type_list_append mt_append (pv 1) (pa_cons (pv 2) pa_nil)))
      (pss_cons (ps_if (pt_cmpR op_notN (pv 4) pe_non (by first | exact nomark _ | rfl)) (pss_one (ps_expr (pe_bm PySem.F.plainAttrs_list PySem.F.slot_list_append PySem.F.type_list_append mt_append (pv 1) (pa_cons (pv 4) pa_nil)))) pss_nil)
      (pss_one (ps_ret (pe_tup (pa_cons (pv 2) (pa_cons (pv 4) pa_nil)))))))))))), ?_⟩
    have one : b ∈ [b] := List.mem_singleton.mpr rfl
    have npb : p ∉ [b] := fun m => ne (List.mem_singleton.mp m).symm
    have plS : ∀ {H1}, Stp [b] H H1 → Pool H1 p ls := fun S => ⟨S.kp _ _ npb pl.1, pl.2⟩
    refine ⟨_, rfl, _, rfl, b, p, n, ls, rfl, B, by omega, pl, by omega, ne, fun g H1 ag lg S1 B1 => ?_⟩
    refine ⟨_, rfl, b, 6, n + 20, rfl, B1, by omega, by decide, by decide, fun way H2 w0 w1 o2 B2 => ?_⟩
    have S2 : Stp [b] H H2 := S1.trans (o2.stp one)
    refine ⟨_, _, rfl, ?_⟩
    dsimp only
    refine seq_end (Mid b p way (n + 22) H) ?_ (fun fin => ?_)
    rotate_left
    · refine ⟨_, rfl, rfl, _, rfl, ite2 (fun h => ?_) (fun h => ?_)⟩
      · refine ⟨_, rfl, 11, rfl, tx g, rfl, szt (by omega), ?_⟩
        rw [show cutS (tx g) none (some 11) = _ from tx_upto g 11]
        have lt : (g.take 11).length ≤ 11 := by rw [List.length_take]; omega
        obtain ⟨g', eg⟩ : ∃ g', g' = g.take 11 := ⟨_, rfl⟩
        rw [← eg] at lt ⊢
        have ag' : Abc g' := by rw [eg]; exact ag.take _
        refine ⟨_, rfl, _, rfl, _, rfl, tx g', rfl, szt (by omega), _, _, rfl, rfl, b, _, n + 21, rfl, B2, by omega, ?_, ?_, fun d H3 d0 d1 o3 B3 => ?_⟩
        · rw [tx_len]
          omega
        · rw [tx_len]
          omega
        rw [tx_len] at d1
        refine ⟨_, _, rfl, rfl, tx [97], 1 + d, congrArg V.str a_lit, rfl, mulOk 97 (by omega) (by omega), ?_⟩
        refine ⟨tx g', tx (List.replicate (1 + d).toNat 97), rfl, congrArg V.str (tx_mul _ _), (by rw [tx_len, tx_len, List.length_replicate]; exact sz (by omega)), ?_⟩
        rw [tx_app]
        refine fin _ _ ⟨g', some (g' ++ List.replicate (1 + d).toNat 97), rfl, ⟨ag', by omega⟩, fun e q => ?_, S2.trans (o3.stp one), B3⟩
        cases q
        exact ⟨⟨ag'.app (Abc.rep _ (.inl rfl)), by rw [List.length_append, List.length_replicate]; omega⟩, lt_apps _ _ (by intro q; have := congrArg List.length q; rw [List.length_replicate] at this; simp at this; omega)⟩
      · exact fin _ _ ⟨g, none, rfl, ⟨ag, lg⟩, fun e q => (by cases q), S2, B2.mono (by omega)⟩
    rintro σ H3 ⟨g3, e3, rfl, s3, se3, S3, B3⟩
    refine seq_end (Mid b p way (n + 22) H) ?_ (fun fin => ?_)
    rotate_left
    · refine ⟨_, rfl, rfl, _, rfl, ite2 (fun h => ?_) (fun h => ?_)⟩
      · exact ⟨_, rfl, g3, rfl, s3, fun o ho => fin _ _ ⟨g3, o, rfl, s3, ho, S3, B3⟩⟩
      · exact fin _ _ ⟨g3, e3, rfl, s3, se3, S3, B3⟩
    rintro σ H4 ⟨g4, e4, rfl, s4, se4, S4, B4⟩
    refine seq_end (Mid b p way (n + 50) H) ?_ (fun fin => ?_)
    rotate_left
    · refine ⟨_, rfl, _, _, rfl, rfl, _, rfl, ite2 (fun h => ?_) (fun h => ?_)⟩
      · refine ⟨_, rfl, _, rfl, b, p, n + 22, ls, rfl, B4, by omega, plS S4, by omega, ne, fun g5 H5 a5 l5 S5 B5 => ?_⟩
        have S45 := S4.trans S5
        dsimp only [gName]
        refine seq_end (fun σ H' => ∃ x y : Txt, σ = [some (.ref b), some (.ref p), some (Tx x), some (.int way), some (Tx y)] ∧ Sh12 x ∧ Sh12 y ∧ x ≤ y ∧ H' = H5) ?_ (fun fin2 => ?_)
        rotate_left
        · refine ⟨_, rfl, _, rfl, tx g5, tx g4, rfl, rfl, _, rfl, ite2 (fun h => ?_) (fun h => ?_)⟩
          · exact ⟨_, rfl, _, rfl, _, _, rfl, fin2 _ _ ⟨g5, g4, rfl, ⟨a5, l5⟩, s4, lt_le' (of_decide_eq_true h), rfl⟩⟩
          · exact fin2 _ _ ⟨g4, g5, rfl, s4, ⟨a5, l5⟩, le_of_nlt fun q => h (decide_eq_true q), rfl⟩
        rintro σ H' ⟨x, y, rfl, sx, sy, xy, rfl⟩
        refine ⟨_, rfl, _, rfl, rfl, _, rfl, ite2 (fun h => ?_) (fun h => ?_)⟩
        · refine ⟨_, rfl, 11, rfl, tx x, rfl, szt (by have := sx.2; omega), ?_⟩
          rw [show cutS (tx x) none (some 11) = _ from tx_upto x 11]
          have lt : (x.take 11).length ≤ 11 := by rw [List.length_take]; omega
          obtain ⟨g', eg⟩ : ∃ g', g' = x.take 11 := ⟨_, rfl⟩
          rw [← eg] at lt ⊢
          have ag' : Abc g' := by rw [eg]; exact sx.1.take _
          refine ⟨_, rfl, tx g', tx [97], rfl, congrArg V.str a_lit, (by rw [tx_len, tx_len]; exact sz (by simp; omega)), ?_⟩
          rw [tx_app]
          refine fin _ _ ⟨g', some (g' ++ [97]), rfl, ⟨ag', by omega⟩, fun e q => ?_, S45, B5.mono (by omega)⟩
          cases q
          exact ⟨⟨ag'.app (Abc.one (.inl rfl)), by rw [List.length_append, List.length_singleton]; omega⟩, lt_snoc _ _⟩
        · exact fin _ _ ⟨x, some y, rfl, sx, fun e q => by cases q; exact ⟨sy, lt_of_le_ne xy fun e => h (by rw [e]; exact decide_eq_true rfl)⟩, S45, B5.mono (by omega)⟩
      · exact fin _ _ ⟨g4, e4, rfl, s4, se4, S4, B4.mono (by omega)⟩
    rintro σ H5 ⟨g5, e5, rfl, s5, se5, S5, B5⟩
    have pl5 := plS S5
    have mp : p ∈ [b, p] := by simp
    have sub : ∀ x ∈ ([b] : List Addr), x ∈ [b, p] := fun x m => by rw [List.mem_singleton.mp m]; simp
    have big : ls.length + 1 < sizeLine := Nat.lt_of_le_of_lt (show ls.length + 1 ≤ 2 ^ 19 by omega) (by decide)
    refine ⟨_, rfl, .inl ⟨rfl, _, SqL.of pl5.1⟩, _, rfl, p, _, _, rfl, rfl, pl5.1, by rw [List.length_map]; omega, ?_⟩
    have e1 : ls.map Tx ++ [Tx g5] = (ls ++ [g5]).map Tx := by rw [List.map_append]; rfl
    rw [e1]
    have P1 : Pool (upd H5 p (.lst ((ls ++ [g5]).map Tx))) p (ls ++ [g5]) := ⟨upd_same, fun l m => by
      rcases List.mem_append.mp m with m | m
      · exact pl.2 l m
      · rw [List.mem_singleton.mp m]
        exact s5⟩
    have B6 := B5.upd (o := .lst ((ls ++ [g5]).map Tx)) ne
    have S6 : Stp [b, p] H (upd H5 p (.lst ((ls ++ [g5]).map Tx))) := (S5.sub sub).put' mp
    have len2 : (2 : Nat) ≤ sizeLine := by decide
    refine ⟨_, rfl, rfl, _, rfl, ?_⟩
    cases e5 with
    | none =>
      refine ite2 (fun h => absurd h (by simp [oV])) (fun _ => ?_)
      refine ⟨_, rfl, _, rfl, len2, fun t nt => ?_⟩
      have pt : p ≠ t := ne_of_none P1.1 nt
      exact k t (g5, none) (ls ++ [g5]) _ (pr_rp (p := (g5, none)) (SqT.of upd_same) s5.up.2 fun e q => by cases q) ⟨s5, fun e q => by cases q⟩ (S6.new' nt) ((B6.upd (B6.ne nt)).mono (by omega)) ⟨by rw [upd_ne pt]; exact P1.1, P1.2⟩ (by simp)
    | some e =>
      refine ite2 (fun _ => ?_) (fun h => absurd (show _ = true from rfl) h)
      obtain ⟨se, slt⟩ := se5 e rfl
      refine ⟨_, rfl, .inl ⟨rfl, _, SqL.of P1.1⟩, _, rfl, p, _, _, rfl, rfl, P1.1, by rw [List.length_map, List.length_append]; exact big, ?_⟩
      have e2 : (ls ++ [g5]).map Tx ++ [Tx e] = (ls ++ [g5, e]).map Tx := by simp
      have e2' : (ls ++ [g5]).map Tx ++ [oV (some e)] = (ls ++ [g5, e]).map Tx := e2
      rw [e2']
      refine ⟨_, rfl, _, rfl, len2, fun t nt => ?_⟩
      have P2 : Pool (upd (upd H5 p (.lst ((ls ++ [g5]).map Tx))) p (.lst ((ls ++ [g5, e]).map Tx))) p (ls ++ [g5, e]) := ⟨upd_same, fun l m => by
        rcases List.mem_append.mp m with m | m
        · exact pl.2 l m
        · simp at m
          rcases m with rfl | rfl
          · exact s5
          · exact se⟩
      have pt : p ≠ t := ne_of_none P2.1 nt
      have B7 := B6.upd (o := .lst ((ls ++ [g5, e]).map Tx)) ne
      exact k t (g5, some e) (ls ++ [g5, e]) _ (pr_rp (p := (g5, some e)) (SqT.of upd_same) s5.up.2 fun e' q => by cases q; exact se.up.2) ⟨s5, fun e' q => by cases q; exact ⟨se, slt⟩⟩ ((S6.put' mp).new' nt) ((B7.upd (B7.ne nt)).mono (by omega)) ⟨by rw [upd_ne pt]; exact P2.1, P2.2⟩ (by simp)
abbrev s__law_span : Stmt := topS 51
abbrev N__law_span : List Str := ["bag", "pool", "upto", "k"]
theorem sc__law_span : FnScope ["bag", "pool", "upto", "k"] ["bag", "pool", "upto"] (defScope s__law_span) := ⟨rfl, rfl, rfl, by decide +kernel, rfl, by decide +kernel, by decide +kernel⟩

/-! ### _law_span -/
def spSpan (K : PySem.W.Frag) : Sp := fun vs H Q _ => ∃ (b p : Addr) (n : Nat) (up : Int) (ls0 : List (List Nat)), vs = [.ref b, .ref p, .int up] ∧ 0 ≤ up ∧ up ≤ 20 ∧ Bag H b n ∧ n + 2000 < 2 ^ 30 ∧ Pool H p ls0 ∧ ls0.length ≤ 1000 ∧ b ≠ p ∧
  ∀ c ps ls' H', Spn K H' c ps → Lim 12 ps → ps.length ≤ 20 → Stp [b, p] H H' → Bag H' b (n + 1300) → Pool H' p ls' → ls'.length ≤ ls0.length + 40 → Q (.ref c) H'
theorem cl__law_span {f : Addr} {fd : FuncData} (D : Df K mg "_law_span" s__law_span ["bag", "pool", "upto"] f fd) (T : Nm mg) (c__law_draw : Cl P w K mg base 1 "_law_draw" s__law_draw ["bag", "upto"] spDraw)
    (c__law_pair : Cl P w K mg base 4 "_law_pair" s__law_pair ["bag", "pool"] (spPair K)) (c__law_due : Cl P w K mg base 2 "_law_due" s__law_due ["pairs"] (spDue K)) : Cl P w K mg base 5 "_law_span" s__law_span ["bag", "pool", "upto"] (spSpan K) := by
  refine D.cl sc__law_span (fun vs H Q E h => ?_) (fun cdv A outer s H vs Q E hr h => ?_)
  · obtain ⟨b, p, n, up, ls0, rfl, _⟩ := h
    rfl
  · obtain ⟨b, p, n, up, ls0, rfl, u0, u1, B, hn, pl, l0, ne, k⟩ := h
    refine ⟨_, (pss_one (ps_ret (pe_cl c__law_due hr (by omega) (pa_cons (pe_lc (own := [("k", 3)]) rfl sc__law_span.nd (pi_range1 (by rfl) T.n_range (pa_cons (pe_cl c__law_draw hr (by omega) (pa_cons (pv 0) (pa_cons (pe_op op_add (pv 2) pe_int) pa_nil))) pa_nil)) (blkOk_by (own := [("k", 3)]) (N := N__law_span) (sc := defScope s__law_span) (by decide +kernel)) (fun _ _ _ _ _ => (pg_name (i := 3) sc__law_span.nd rfl (by first | exact Or.inl rfl | exact Or.inr rfl))) (fun _ _ _ _ _ => pts_nil) (fun _ _ _ _ _ => (pe_cl c__law_pair hr (by omega) (pa_cons (pv 0) (pa_cons (pv 1) pa_nil))))) pa_nil)))), ?_⟩
    have sub : ∀ x ∈ ([b] : List Addr), x ∈ [b, p] := fun x m => by rw [List.mem_singleton.mp m]; simp
    have npb : p ∉ [b] := fun m => ne (List.mem_singleton.mp m).symm
    refine ⟨_, rfl, _, rfl, _, _, rfl, rfl, b, _, n, rfl, B, by omega, by omega, by omega, fun z H1 z0 z1 o1 B1 => ?_⟩
    have S1 : Stp [b] H H1 := o1.stp (List.mem_singleton.mpr rfl)
    have p1 : H1 p = some (.lst (ls0.map Tx)) := S1.kp _ _ npb pl.1
    refine ⟨z, rfl, by omega, by omega, fun L nL => ?_⟩
    have nLb : L ≠ b := (B1.ne nL).symm
    have nLp : L ≠ p := (ne_of_none p1 nL).symm
    have nLm : L ∉ [b, p] := fun m => by
      simp at m
      rcases m with m | m
      · exact nLb m
      · exact nLp m
    refine lc_range (lo := 0) (n := z.toNat) (fun i H4 => ∃ (ps : List Pr) (vs : List V) (ls : List (List Nat)), ps.length = i ∧ H4 L = some (.lst vs) ∧ RpL K H4 vs (ps.map prD) ∧ (∀ q ∈ ps, Pr12 q) ∧ Stp [b, p] H1 H4 ∧ Bag H4 b (n + 1 + 60 * i) ∧ Pool H4 p ls ∧ ls.length ≤ ls0.length + 2 * i)
      ⟨[], [], ls0, rfl, upd_same, .nil, fun q m => (nomatch m), Stp.new nL _, B1.upd nLb.symm, ⟨by rw [upd_ne nLp.symm]; exact p1, pl.2⟩, by simp⟩ ?_ ?_
    · rintro i H4 hi ⟨ps, vs, ls, hl, hL, rl, ok, S4, B4, P4, l4⟩
      refine ⟨rfl, _, rfl, _, rfl, b, p, _, ls, rfl, B4, by omega, P4, by omega, ne, fun t pr ls' H5 rt pk S5 B5 P5 l5 => ?_⟩
      have hL5 : H5 L = some (.lst vs) := S5.kp _ _ nLm hL
      have L4 : Lsts H4 [b, p] := by
        obtain ⟨x, y, z, hb, _⟩ := B4
        exact .cons hb (.one P4.1)
      have s6 : Stp [L] H5 (upd H5 L (.lst (vs ++ [.ref t]))) := Stp.put (by simp)
      refine ⟨vs, hL5, ?_, ps ++ [pr], vs ++ [.ref t], ls', by simp [hl], upd_same, prs_one ((rl.stp S5 L4).stp s6 (.one hL5)) (rt.stp s6 (.one hL5)), fun q m => ?_, (S4.trans S5).mut nL, (B5.upd nLb.symm).mono (by omega), ⟨by rw [upd_ne nLp.symm]; exact P5.1, P5.2⟩, by omega⟩
      · rw [rl.len, List.length_map, hl]
        exact Nat.lt_of_le_of_lt (show i ≤ 1000 by omega) (by decide)
      · rcases List.mem_append.mp m with m | m
        · exact ok q m
        · rw [List.mem_singleton.mp m]
          exact pk
    · rintro H4 ⟨ps, vs, ls, hl, hL, rl, ok, S4, B4, P4, l4⟩
      refine ⟨L, vs, ps, rfl, hL, rl, fun q m => (ok q m).ok.s, by omega, fun c ps' H5 S5 sp eq => ?_⟩
      refine k c ps' ls H5 sp (lim_of sp.ok (fun w _ => eq w) (fun q m => ⟨(ok q m).1.1, fun e h => ((ok q m).2 e h).1.1⟩) fun q m => ⟨(ok q m).1.2, fun e h => ((ok q m).2 e h).1.2⟩) (Nat.le_trans (norm_len sp.ok eq) (by omega)) ((S1.sub sub).trans (S4.trans (S5.sub fun x m => nomatch m))) ((B4.kp S5 (fun m => nomatch m)).mono (by omega)) ⟨S5.kp _ _ (fun m => nomatch m) P4.1, P4.2⟩ (by omega)
abbrev s__law_odd_pair : Stmt := topS 53
abbrev N__law_odd_pair : List Str := ["bag", "word", "odd"]
theorem sc__law_odd_pair : FnScope ["bag", "word", "odd"] ["bag", "word"] (defScope s__law_odd_pair) := ⟨rfl, rfl, rfl, by decide +kernel, rfl, by decide +kernel, by decide +kernel⟩

abbrev s__law_bent_span : Stmt := topS 54
abbrev N__law_bent_span : List Str := ["bag", "whole", "way", "ended", "at", "first", "k"]
theorem sc__law_bent_span : FnScope ["bag", "whole", "way", "ended", "at", "first", "k"] ["bag", "whole"] (defScope s__law_bent_span) := ⟨rfl, rfl, rfl, by decide +kernel, rfl, by decide +kernel, by decide +kernel⟩

abbrev s__law_odd_span : Stmt := topS 55
abbrev N__law_odd_span : List Str := ["bag", "whole", "word", "way", "at", "odd"]
theorem sc__law_odd_span : FnScope ["bag", "whole", "word", "way", "at", "odd"] ["bag", "whole", "word"] (defScope s__law_odd_span) := ⟨rfl, rfl, rfl, by decide +kernel, rfl, by decide +kernel, by decide +kernel⟩

namespace Sx
/-! ### what is a page -/
def abcB (l : List Nat) : Bool := l.all fun c => decide (c = 97 ∨ c = 98 ∨ c = 99)
theorem abcB_iff {l : List Nat} : abcB l = true ↔ Abc l := by
  unfold abcB
  rw [List.all_eq_true]
  exact ⟨fun h c m => of_decide_eq_true (h c m), fun h c m => decide_eq_true (h c m)⟩
def isTxt : D → Bool
  | .str l => abcB l
  | _ => false
def isVal : D → Bool
  | .non => true
  | d => isTxt d
def isPage : D → Bool
  | .lst ds => !ds.isEmpty && ds.all isVal
  | _ => false
def spTell (K : PySem.W.Frag) (t : D → Bool) : Sp := fun vs H Q _ => ∃ (S : List Addr) (v : V) (d : D), vs = [v] ∧ Rv K S H v d ∧ ∀ H' b, Stp [] H H' → b = t d → Q (.bl b) H'
theorem spTell.len {K : PySem.W.Frag} {t : D → Bool} {vs : List V} {H : Hp} {Q : VK} {E : XK} (h : spTell K t vs H Q E) : vs.length = 1 := by
  obtain ⟨S, v, d, rfl, _⟩ := h
  rfl
theorem cl_is_text {f : Addr} {fd : FuncData} (D : Df K mg "is_text" s_is_text ["value"] f fd) (T : Nm mg) : Cl P w K mg base 1 "is_text" s_is_text ["value"] (spTell K isTxt) := by
  refine D.cl sc_is_text (fun vs H Q E h => h.len) (fun cdv A outer s H vs Q E hr h => ?_)
  obtain ⟨S, v, d, rfl, r, k⟩ := h
  refine ⟨_, (pss_one (ps_ret (pe_and (pe_tyIs (T := "str") Mono.var (pv 0) T.n_type T.n_str (by decide +kernel)) (pe_one (pe_cmpR op_eq (pe_bm PySem.F.plainAttrs_str PySem.F.slot_str_strip PySem.F.type_str_strip mt_stripChars (pv 0) (pa_cons pe_str pa_nil)) pe_str (by first | exact nomark _ | rfl)))))), ?_⟩
  refine ⟨_, rfl, d.old, r.old, _, rfl, ?_⟩
  cases r with
  | str l hl =>
    refine ⟨_, rfl, rfl, tx l, ("abc" : Str), rfl, rfl, szt hl, rfl, ?_⟩
    refine k H _ (Stp.refl _ _) ?_
    rw [abc_lit, nil_lit, Bool.eq_iff_iff]
    show _ ↔ abcB l = true
    rw [abcB_iff]
    exact ⟨fun h => (strip_abc l).mp (V.str.inj (of_decide_eq_true h)), fun h => decide_eq_true (congrArg V.str ((strip_abc l).mpr h))⟩
  | _ => exact k H _ (Stp.refl _ _) rfl
theorem two {α : Type} {l : List α} (h : l.length = 2) : ∃ a b, l = [a, b] := by
  match l, h with
  | [a, b], _ => exact ⟨a, b, rfl⟩
theorem three {α : Type} {l : List α} (h : l.length = 3) : ∃ a b c, l = [a, b, c] := by
  match l, h with
  | [a, b, c], _ => exact ⟨a, b, c, rfl⟩
theorem RvL.two {K : PySem.W.Frag} {S : List Addr} {H : Hp} {vs : List V} {a b : D} (r : RvL K S H vs [a, b]) : ∃ u v, vs = [u, v] ∧ Rv K S H u a ∧ Rv K S H v b := by
  cases r with
  | cons h1 r => cases r with
    | cons h2 r => cases r; exact ⟨_, _, rfl, h1, h2⟩
theorem RvL.three {K : PySem.W.Frag} {S : List Addr} {H : Hp} {vs : List V} {a b c : D} (r : RvL K S H vs [a, b, c]) : ∃ u v w, vs = [u, v, w] ∧ Rv K S H u a ∧ Rv K S H v b ∧ Rv K S H w c := by
  cases r with
  | cons h1 r => cases r with
    | cons h2 r => cases r with
      | cons h3 r => cases r; exact ⟨_, _, _, rfl, h1, h2, h3⟩
theorem at2 {α : Type} {a b c : α} {l : List α} : atI (a :: b :: c :: l) 2 = some c := atI_nat (j := 2) rfl
/-! ### ranges and spans as values -/
def endD : Option Txt → D
  | none => .non
  | some e => .str e
def prV (p : Pr) : D := .tup [.str p.1, endD p.2]
def spanD (ps : List Pr) : D := .tup (ps.map prV)
theorem rp_rv {K : PySem.W.Frag} {S : List Addr} {H : Hp} {v : V} {p : Pr} (r : Rp K H v (prD p)) (h : p.1.length ≤ 40) (g : ∀ e, p.2 = some e → e.length ≤ 40) : Rv K S H v (prV p) := by
  obtain ⟨a, rfl, ha⟩ := rp_pr r
  refine .tup ha (by simp) (.cons (.str _ (by omega)) (.cons ?_ .nil))
  obtain ⟨f, e⟩ := p
  cases e with
  | none => exact .non
  | some e => exact .str _ (by have := g e rfl; omega)
theorem rps_rv {K : PySem.W.Frag} {S : List Addr} {H : Hp} : ∀ {ps : List Pr} {vs : List V}, RpL K H vs (ps.map prD) → (∀ p ∈ ps, PrS p) → RvL K S H vs (ps.map prV)
  | [], _, .nil, _ => .nil
  | p :: ps, _, .cons h r, ok => .cons (rp_rv h (ok p List.mem_cons_self).1.2 fun e q => ((ok p List.mem_cons_self).2 e q).2) (rps_rv r fun q m => ok q (List.mem_cons_of_mem _ m))
theorem Spn.rv {K : PySem.W.Frag} {S : List Addr} {H : Hp} {a : Addr} {ps : List Pr} (h : Spn K H a ps) : Rv K S H (.ref a) (spanD ps) := by
  obtain ⟨⟨vs, hs, rl⟩, ok, few⟩ := h
  exact .tup hs (by rw [rl.len, List.length_map]; omega) (rps_rv rl fun p m => (ok.ok p m).s)
/-! ### what is a range, a span -/
def strD : D → List Nat
  | .str l => l
  | _ => []
def endOk (f : List Nat) : D → Bool
  | .non => true
  | .str e => abcB e && decide (f < e)
  | _ => false
def isRng : D → Bool
  | .tup [a, b] => isTxt a && endOk (strD a) b
  | _ => false
def gapD : D → D → Bool
  | .tup [_, .str e], .tup (.str f :: _) => decide (e < f)
  | _, _ => false
def adj : List D → Bool
  | a :: b :: r => gapD a b && adj (b :: r)
  | _ => true
def isSpn : D → Bool
  | .tup ds => ds.all isRng && adj ds
  | _ => false
theorem isTxt_str {d : D} (h : isTxt d = true) : ∃ l, d = .str l ∧ Abc l := by
  cases d with
  | str l => exact ⟨l, rfl, abcB_iff.mp h⟩
  | _ => cases h
/-- a range of any texts -/
def PrL (p : Pr) : Prop := Abc p.1 ∧ ∀ e, p.2 = some e → Abc e ∧ p.1 < e
theorem isRng_pr {d : D} (h : isRng d = true) : ∃ p : Pr, d = prV p ∧ PrL p := by
  cases d with
  | tup ds => match ds, h with
    | [a, b], h =>
      obtain ⟨h1, h2⟩ := Bool.and_eq_true_iff.mp (h : (isTxt a && endOk (strD a) b) = true)
      obtain ⟨f, rfl, af⟩ := isTxt_str h1
      cases b with
      | non => exact ⟨(f, none), rfl, af, fun e q => nomatch q⟩
      | str e =>
        obtain ⟨h3, h4⟩ := Bool.and_eq_true_iff.mp (h2 : (abcB e && decide (f < e)) = true)
        exact ⟨(f, some e), rfl, af, fun e' q => by cases q; exact ⟨abcB_iff.mp h3, of_decide_eq_true h4⟩⟩
      | _ => cases h2
  | _ => cases h
theorem pr_isRng {p : Pr} (h : PrL p) : isRng (prV p) = true := by
  obtain ⟨f, e⟩ := p
  obtain ⟨h1, h2⟩ := h
  show (abcB f && endOk f (endD e)) = true
  rw [abcB_iff.mpr h1]
  cases e with
  | none => rfl
  | some e =>
    obtain ⟨h3, h4⟩ := h2 e rfl
    show (abcB e && decide (f < e)) = true
    rw [abcB_iff.mpr h3, decide_eq_true (show f < e from h4)]
    rfl
theorem isRng_no {d : D} (h : ∀ a b, d ≠ .tup [a, b]) : isRng d = false := by
  cases d with
  | tup ds => match ds, h with
    | [], _ => rfl
    | [_], _ => rfl
    | [a, b], h => exact absurd rfl (h a b)
    | _ :: _ :: _ :: _, _ => rfl
  | _ => rfl
theorem cl_is_range {f : Addr} {fd : FuncData} (D : Df K mg "is_range" s_is_range ["value"] f fd) (T : Nm mg) (c_is_text : Cl P w K mg base 1 "is_text" s_is_text ["value"] (spTell K isTxt)) : Cl P w K mg base 2 "is_range" s_is_range ["value"] (spTell K isRng) := by
  refine D.cl sc_is_range (fun vs H Q E h => h.len) (fun cdv A outer s H vs Q E hr h => ?_)
  obtain ⟨S, v, d, rfl, r, k⟩ := h
  refine ⟨_, (pss_cons (ps_if (PW.pt (pw_or (pt_tyNot (T := "tuple") Mono.var (pv 0) T.n_type T.n_tuple (by decide +kernel)) (pw_or (pt_cmpR op_ne (pe_callB call_len_seq (by rfl) T.n_len (by decide +kernel) (pa_cons (pv 0) pa_nil)) pe_int (by first | exact nomark _ | rfl)) (pw_or1 (pt_not (pt_val (pe_cl c_is_text hr (by omega) (pa_cons (pe_ix ix_tup (pv 0) pe_int (fun _ _ => rfl)) pa_nil)))))))) (pss_one (ps_ret pe_bl)) pss_nil)
      (pss_one (ps_ret (pe_or (pe_cmpR op_isN (pe_ix ix_tup (pv 0) pe_int (fun _ _ => rfl)) pe_non (by first | exact nomark _ | rfl)) (pe_one (pe_and (pe_cl c_is_text hr (by omega) (pa_cons (pe_ix ix_tup (pv 0) pe_int (fun _ _ => rfl)) pa_nil)) (pe_one (pe_cmpR op_lt_str (pe_ix ix_tup (pv 0) pe_int (fun _ _ => rfl)) (pe_ix ix_tup (pv 0) pe_int (fun _ _ => rfl)) (by first | exact nomark _ | rfl))))))))), ?_⟩
  refine ⟨_, rfl, d.old, r.old, ite2 (fun h => ?_) (fun h => ?_)⟩
  · exact k H _ (Stp.refl _ _) (isRng_no fun a b e => by rw [e] at h; exact absurd h (by simp [Pv.D.old, Dt.ty])).symm
  · obtain ⟨ds, rfl⟩ : ∃ ds, d = .tup ds := Pv.D.tup_of (by
      have h2 := Bool.eq_false_iff.mpr h
      simpa [Pv.D.ty] using h2)
    cases r with
    | tup hs hl rl =>
      rename_i a vs
      refine ⟨_, rfl, a, _, rfl, .inr hs, rfl, _, rfl, ite2 (fun h3 => ?_) (fun h3 => ?_)⟩
      · exact k H _ (Stp.refl _ _) (isRng_no fun x y e => by
          cases e
          rw [rl.len] at h3
          exact absurd h3 (by simp)).symm
      · obtain ⟨x, y, rfl⟩ := two (l := ds) (by
          rw [rl.len] at h3
          have h2 := Bool.eq_false_iff.mpr h3
          simp at h2
          omega)
        obtain ⟨u1, u2, rfl, r1, r2⟩ := RvL.two rl
        have e0 : isRng (.tup [x, y]) = (isTxt x && endOk (strD x) y) := rfl
        refine ⟨_, rfl, a, _, 0, u1, rfl, rfl, hs, at0, S, u1, x, rfl, r1, fun H1 b1 S1 e1 => ?_⟩
        have hs1 := sqt_stp S1 Lsts.nil hs
        refine ⟨_, rfl, ite2 (fun h4 => ?_) (fun h4 => ?_)⟩
        · refine k H1 _ S1 ?_
          rw [e0, ← e1, show b1 = false by simpa using h4]
          rfl
        · have hb : isTxt x = true := by rw [← e1]; simpa using h4
          obtain ⟨g, rfl, ag⟩ := isTxt_str hb
          obtain rfl : u1 = Tx g := by cases r1; rfl
          refine ⟨_, rfl, a, _, 1, u2, rfl, rfl, hs1, at1, rfl, _, rfl, ?_⟩
          have e3 : isRng (.tup [.str g, y]) = endOk g y := by rw [e0, hb]; rfl
          refine ite2 (fun h5 => ?_) (fun h5 => ?_)
          · have e : u2 = .non := of_decide_eq_true h5
            subst e
            cases r2
            exact k H1 _ S1 (by rw [e3]; rfl)
          · have ny : y ≠ .non := fun e => by
              subst e
              cases r2
              exact h5 rfl
            refine ⟨_, rfl, a, _, 1, u2, rfl, rfl, hs1, at1, S, u2, y, rfl, r2.up S1, fun H2 b2 S2 e2 => ?_⟩
            have S12 := S1.trans S2
            refine ⟨_, rfl, ite2 (fun h6 => ?_) (fun h6 => ?_)⟩
            · have hy : isTxt y = true := by rw [← e2]; exact h6
              obtain ⟨e, rfl, ae⟩ := isTxt_str hy
              obtain rfl : u2 = Tx e := by cases r2; rfl
              have hs2 := sqt_stp S2 Lsts.nil hs1
              refine ⟨_, rfl, a, _, 0, Tx g, rfl, rfl, hs2, at0, _, rfl, a, _, 1, Tx e, rfl, rfl, hs2, at1, tx g, tx e, rfl, rfl, k H2 _ S12 ?_⟩
              rw [e3]
              show _ = (abcB e && decide (g < e))
              rw [show abcB e = true from hy, Bool.true_and]
            · refine k H2 _ S12 ?_
              rw [e3]
              have hy : isTxt y = false := by rw [← e2]; exact Bool.eq_false_iff.mpr h6
              cases y with
              | non => exact absurd rfl ny
              | str e =>
                show false = (abcB e && _)
                rw [show abcB e = false from hy]
                rfl
              | _ => rfl
def reachB : Option Txt → Txt → Bool
  | none, _ => true
  | some e, f => !decide (e < f)
def spReachesG : Sp := fun vs H Q _ => ∃ (e : Option Txt) (f : Txt), vs = [oV e, Tx f] ∧ ∀ b, b = reachB e f → Q (.bl b) H
theorem cl_reachesG {f : Addr} {fd : FuncData} (D : Df K mg "reaches" s_reaches ["end", "first"] f fd) (T : Nm mg) : Cl P w K mg base 1 "reaches" s_reaches ["end", "first"] spReachesG := by
  refine D.cl sc_reaches (fun vs H Q E h => ?_) (fun cdv A outer s H vs Q E hr h => ?_)
  · obtain ⟨e, f, rfl, _⟩ := h
    rfl
  · obtain ⟨e, f, rfl, k⟩ := h
    refine ⟨_, (pss_one (ps_ret (pe_or (pe_cmpR op_isN (pv 0) pe_non (by first | exact nomark _ | rfl)) (pe_one (pe_cmpR op_ge_str (pv 0) (pv 1) (by first | exact nomark _ | rfl)))))), ?_⟩
    cases e with
    | none => exact ⟨_, rfl, rfl, _, rfl, k _ rfl⟩
    | some e => exact ⟨_, rfl, rfl, _, rfl, _, rfl, _, rfl, tx e, tx f, rfl, rfl, k _ rfl⟩
theorem gapD_pr (p q : Pr) : gapD (prV p) (prV q) = !reachB p.2 q.1 := by
  obtain ⟨f, e⟩ := p
  obtain ⟨g, e2⟩ := q
  cases e with
  | none => rfl
  | some e =>
    show decide (e < g) = !(!decide (e < g))
    rw [Bool.not_not]
theorem all_rng : ∀ {ds : List D}, ds.all isRng = true → ∃ ps : List Pr, ds = ps.map prV ∧ ∀ p ∈ ps, PrL p
  | [], _ => ⟨[], rfl, fun _ m => nomatch m⟩
  | d :: ds, h => by
    rw [List.all_cons, Bool.and_eq_true] at h
    obtain ⟨p, rfl, hp⟩ := isRng_pr h.1
    obtain ⟨ps, rfl, hps⟩ := all_rng h.2
    exact ⟨p :: ps, rfl, fun q m => by
      rcases List.mem_cons.mp m with rfl | m
      · exact hp
      · exact hps q m⟩
/-- neighbours, each with the next -/
def gaps (ps : List Pr) : List Bool := (ps.zip (ps.drop 1)).map fun x => !reachB x.1.2 x.2.1
theorem adj_gaps : ∀ (ps : List Pr), adj (ps.map prV) = (gaps ps).all id
  | [] => rfl
  | [_] => rfl
  | p :: q :: ps => by
    show (gapD (prV p) (prV q) && adj ((q :: ps).map prV)) = _
    rw [adj_gaps (q :: ps), gapD_pr]
    rfl
theorem gaps_len (ps : List Pr) : (gaps ps).length = ps.length - 1 := by
  unfold gaps
  rw [List.length_map, List.length_zip, List.length_drop]
  omega
theorem gaps_at {ps : List Pr} {i : Nat} {p q : Pr} (hp : ps[i]? = some p) (hq : ps[i + 1]? = some q) : (gaps ps)[i]? = some (!reachB p.2 q.1) := by
  unfold gaps
  have e : (ps.zip (ps.drop 1))[i]? = some (p, q) := List.getElem?_zip_eq_some.mpr ⟨hp, by rw [List.getElem?_drop, Nat.add_comm]; exact hq⟩
  rw [List.getElem?_map, e]
  rfl
def SmallT : D → Prop
  | .tup ds => ds.length ≤ 5000
  | _ => True
def spTellS (K : PySem.W.Frag) : Sp := fun vs H Q _ => ∃ (S : List Addr) (v : V) (d : D), vs = [v] ∧ Rv K S H v d ∧ SmallT d ∧ ∀ H' b, Stp [] H H' → b = isSpn d → Q (.bl b) H'
theorem spTellS.len {K : PySem.W.Frag} {vs : List V} {H : Hp} {Q : VK} {E : XK} (h : spTellS K vs H Q E) : vs.length = 1 := by
  obtain ⟨S, v, d, rfl, _⟩ := h
  rfl
theorem prV_parts {K : PySem.W.Frag} {S : List Addr} {H : Hp} {v : V} {p : Pr} (r : Rv K S H v (prV p)) : ∃ t, v = .ref t ∧ SqT K H t [Tx p.1, oV p.2] := by
  obtain ⟨t, vs, rfl, ht, _, rl⟩ := Pv.Rv.tupE (r : Rv K S H v (.tup [.str p.1, endD p.2]))
  obtain ⟨u1, u2, rfl, r1, r2⟩ := RvL.two rl
  cases r1
  obtain ⟨f, e⟩ := p
  cases e with
  | none =>
    have r2' : Rv K S H u2 .non := r2
    cases r2'
    exact ⟨t, rfl, ht⟩
  | some e =>
    have r2' : Rv K S H u2 (.str e) := r2
    cases r2'
    exact ⟨t, rfl, ht⟩
theorem lc_zipT {K : PySem.W.Frag} {a b : Addr} {xs ys : List V} {g : TG} {tt : TT} {te : TE} {vs : List Nat} {σ : L2.St} {H1 : Hp} {D : Addr} {Qd : Hp → Prop} (Pv : Nat → Hp → Prop) (h0 : Pv 0 (upd H1 D (.lst []))) (hl : ∀ i H, Pv i H → SqT K H a xs ∧ SqT K H b ys) (le : ys.length ≤ xs.length)
    (hs : ∀ i x y T H, xs[i]? = some x → ys[i]? = some y → Pv i H → H T = none → g (.ref T) (wipe σ vs) (upd H T (.tup [x, y])) fun σ2 H2 => wipe σ2 vs = wipe σ vs ∧ tt σ2 H2 fun b H3 =>
      if b = true then te σ2 H3 fun y H4 => ∃ acc, H4 D = some (.lst acc) ∧ acc.length < sizeLine ∧ Pv (i + 1) (upd H4 D (.lst (acc ++ [y]))) else Pv (i + 1) H3) (hd : ∀ H, Pv ys.length H → Qd H) :
    ∃ W : Nat → Nat → Hp → Prop, (∃ m, W 0 m (upd H1 D (.lst []))) ∧ ∀ i m H, W i m H →
      ((RZ.ItzT K a b).stop i H ∧ Qd H) ∨ ((RZ.ItzT K a b).go i H ∧ ∃ Nx : Hp → Prop, (∀ H', Nx H' → ∃ m', m' < m ∧ W (i + 1) m' H') ∧ ∀ x H', (RZ.ItzT K a b).yld i H x H' → g x (wipe σ vs) H' fun σ2 H2 => wipe σ2 vs = wipe σ vs ∧ tt σ2 H2 fun b H3 =>
        if b = true then te σ2 H3 fun y H4 => ∃ acc, H4 D = some (.lst acc) ∧ acc.length < sizeLine ∧ Nx (upd H4 D (.lst (acc ++ [y]))) else Nx H3) := by
  refine ⟨fun i m H => m = ys.length - i ∧ i ≤ ys.length ∧ Pv i H, ⟨ys.length, by simp, Nat.zero_le _, h0⟩, ?_⟩
  rintro i m H ⟨rfl, hi, p⟩
  obtain ⟨qa, qb⟩ := hl i H p
  by_cases hlt : i < ys.length
  · refine .inr ⟨⟨xs, ys, xs[i], ys[i], qa, qb, by simp, by simp⟩, Pv (i + 1), fun H' p' => ⟨ys.length - (i + 1), by omega, rfl, hlt, p'⟩, fun v H' yy => ?_⟩
    obtain ⟨T, x, y, rfl, nT, rfl, hx, hy⟩ := yy
    exact hs i x y T H (hx xs qa) (hy ys qb) p nT
  · have e : i = ys.length := by omega
    subst e
    exact .inl ⟨⟨xs, ys, qa, qb, .inr (Nat.le_refl _)⟩, hd H p⟩
theorem cl_is_span {f : Addr} {fd : FuncData} (D : Df K mg "is_span" s_is_span ["value"] f fd) (T : Nm mg) (c_is_range : Cl P w K mg base 2 "is_range" s_is_range ["value"] (spTell K isRng)) (c_reaches : Cl P w K mg base 1 "reaches" s_reaches ["end", "first"] spReachesG) :
    Cl P w K mg base 3 "is_span" s_is_span ["value"] (spTellS K) := by
  refine D.cl sc_is_span (fun vs H Q E h => h.len) (fun cdv A outer s H vs Q E hr h => ?_)
  obtain ⟨S, v, d, rfl, r, sm, k⟩ := h
  refine ⟨_, (pss_cons (ps_if (PW.pt (pw_or (pt_tyNot (T := "tuple") Mono.var (pv 0) T.n_type T.n_tuple (by decide +kernel)) (pw_or1 (pt_not (pt_val (pe_callB (cr_all rfl) (by rfl) T.n_all (by decide +kernel) (pa_cons (pe_lc (own := [("part", 1)]) rfl sc_is_span.nd (pi_tup (pv 0)) (blkOk_by (own := [("part", 1)]) (N := N_is_span) (sc := defScope s_is_span) (by decide +kernel)) (fun _ _ _ _ _ => (pg_name (i := 1) sc_is_span.nd rfl (by first | exact Or.inl rfl | exact Or.inr rfl))) (fun _ _ _ _ _ => pts_nil) (fun _ _ _ _ _ => (pe_cl c_is_range hr (by omega) (pa_cons (pv 1) pa_nil)))) pa_nil))))))) (pss_one (ps_ret pe_bl)) pss_nil)
      (pss_one (ps_ret (pe_callB (cr_all rfl) (by rfl) T.n_all (by decide +kernel) (pa_cons (pe_lc (own := [("ahead", 2), ("part", 1)]) rfl sc_is_span.nd (RZ.pi_zipA (by rfl) T.n_zip (pa_cons (pv 0) (pa_cons (pe_slice sl_tupA (pv 0) (po_some pe_int) po_none) pa_nil))) (blkOk_by (own := [("ahead", 2), ("part", 1)]) (N := N_is_span) (sc := defScope s_is_span) (by decide +kernel)) (fun _ _ _ _ _ => (pg_tupK (n := 2) rfl rfl (pgs_cons (pg_name (i := 2) sc_is_span.nd rfl (by first | exact Or.inl rfl | exact Or.inr rfl)) (pgs_cons (pg_name (i := 1) sc_is_span.nd rfl (by first | exact Or.inl rfl | exact Or.inr rfl)) pgs_nil (by rfl)) (by rfl)) (by rfl) (by rfl))) (fun _ _ _ _ _ => pts_nil) (fun _ _ _ _ _ => (pe_not (pe_cl c_reaches hr (by omega) (pa_cons (pe_ix (ix_tupK rfl) (pv 2) pe_int (fun _ _ => rfl)) (pa_cons (pe_ix (ix_tupK rfl) (pv 1) pe_int (fun _ _ => rfl)) pa_nil)))))) pa_nil))))), ?_⟩
  have nn : ∀ {x : Addr}, x ∉ ([] : List Addr) := fun m => nomatch m
  refine ⟨_, rfl, d.old, r.old, ite2 (fun h => ?_) (fun h => ?_)⟩
  · refine k H _ (Stp.refl _ _) ?_
    cases d with
    | tup ds => exact absurd h (by simp [Pv.D.old, Dt.ty])
    | _ => rfl
  · obtain ⟨ds, rfl⟩ : ∃ ds, d = .tup ds := Pv.D.tup_of (by
      have h2 := Bool.eq_false_iff.mpr h
      simpa [Pv.D.ty] using h2)
    cases r with
    | tup hs hl rl =>
      rename_i a xs
      have sm : ds.length ≤ 5000 := sm
      refine ⟨_, rfl, a, rfl, ⟨_, hs⟩, fun L nL => ?_⟩
      refine lc_mapT (ds := (ds.map isRng).map Dt.bl) nL hs (by simp [rl.len]) (by rw [rl.len]; omega) (fun j x dd H3 hx hd S3 Q2 q => ?_) fun ws H3 S3 h3 r3 => ?_
      · obtain ⟨e', he, re⟩ := rl.get hx
        rw [List.getElem?_map, List.getElem?_map, he] at hd
        cases hd
        exact ⟨rfl, _, rfl, S, x, e', rfl, re.up S3, fun H4 b S4 eb => q _ _ S4 (by rw [eb]; exact .bl _)⟩
      obtain rfl := rpl_bls r3
      refine ⟨L, _, rfl, SqL.of h3, ?_⟩
      have e1 : (ds.map isRng).all id = ds.all isRng := by rw [List.all_map]; rfl
      rw [e1]
      have e0 : isSpn (.tup ds) = (ds.all isRng && adj ds) := rfl
      refine ⟨_, rfl, ite2 (fun h4 => ?_) (fun h4 => ?_)⟩
      · refine k H3 _ S3 ?_
        rw [e0, show ds.all isRng = false by simpa using h4]
        rfl
      · have hall : ds.all isRng = true := by simpa using h4
        obtain ⟨ps, rfl, okp⟩ := all_rng hall
        rw [List.length_map] at sm
        have lx : xs.length = ps.length := by rw [rl.len, List.length_map]
        have hs3 := sqt_stp S3 Lsts.nil hs
        refine ⟨_, rfl, _, rfl, 1, rfl, ?_⟩
        dsimp only
        refine nopart (slA_use hs3 fun p H5 S5 hp => ?_)
        have e2 : cutV xs (some (1 : Int)) none = xs.drop 1 := cut_from 1
        rw [e2] at hp
        have hs5 := sqt_stp S5 Lsts.nil hs3
        refine ⟨a, p, xs, _, rfl, .inr ⟨hs5, hp, fun L2 nL2 => ?_⟩⟩
        have S35 := S3.trans S5
        refine lc_zipT (a := a) (b := p) (xs := xs) (ys := xs.drop 1) (fun i H4 => H4 L2 = some (.lst (((gaps ps).take i).map V.bl)) ∧ Stp [] H5 H4)
          ⟨upd_same, Stp.new nL2 _⟩ (fun i H4 ⟨_, S4⟩ => ⟨sqt_stp S4 Lsts.nil hs5, sqt_stp S4 Lsts.nil hp⟩) (by rw [List.length_drop]; omega) ?_ ?_
        · rintro i x y t H4 hx hy ⟨hL, S4⟩ nt
          rw [List.getElem?_drop, Nat.add_comm] at hy
          obtain ⟨d1, hd1, rd1⟩ := rl.get hx
          obtain ⟨d2, hd2, rd2⟩ := rl.get hy
          rw [List.getElem?_map] at hd1 hd2
          obtain ⟨q1, hq1, rfl⟩ := Option.map_eq_some_iff.mp hd1
          obtain ⟨q2, hq2, rfl⟩ := Option.map_eq_some_iff.mp hd2
          have S6 : Stp [] H (upd H4 t (.tup [x, y])) := (S35.trans S4).new' nt
          obtain ⟨t1, rfl, ht1⟩ := prV_parts (rd1.up S6)
          obtain ⟨t2, rfl, ht2⟩ := prV_parts (rd2.up S6)
          have nL2t : L2 ≠ t := ne_of_none hL nt
          have hL6 : (upd H4 t (.tup [.ref t1, .ref t2])) L2 = some (.lst (((gaps ps).take i).map V.bl)) := by
            rw [upd_ne nL2t]
            exact hL
          refine ⟨t, _, rfl, SqT.of upd_same, rfl, _, _, rfl, _, _, rfl, rfl, ?_⟩
          refine ⟨rfl, _, rfl, t1, _, 1, oV q1.2, rfl, rfl, ht1, at1, _, rfl, t2, _, 0, Tx q2.1, rfl, rfl, ht2, at0, q1.2, q2.1, rfl, fun bb hb => ?_⟩
          refine ⟨_, rfl, _, hL6, ?_, ?_, (S4.new' nt).mut nL2⟩
          · rw [List.length_map, List.length_take]
            have := gaps_len ps
            exact Nat.lt_of_le_of_lt (show min i (gaps ps).length ≤ 5000 by omega) (by decide)
          · rw [upd_same, List.take_add_one, gaps_at hq1 hq2, List.map_append, hb]
            rfl
        · rintro H4 ⟨hL, S4⟩
          rw [List.length_drop, lx, ← gaps_len ps, List.take_length] at hL
          refine ⟨L2, _, rfl, SqL.of hL, k _ _ (S35.trans S4) ?_⟩
          rw [e0, hall, adj_gaps, Bool.true_and]
def oddp0 (C : Addr) (w : List Nat) (ps : List Pr) : List D := [.tup [.str w, .str w], .tup [.str (w ++ ("a" : Str).cps.toList), .str w], .lst [.str w, .non], .tup [.str w], .tup [.str w, .non, .non], .non, .str w, .int 0, .bl true, .tup []]
theorem oddp0_len {C : Addr} {w : List Nat} {ps : List Pr} : (oddp0 C w ps).length = 10 := rfl
def oddp1 (C : Addr) (w : List Nat) (ps : List Pr) : List D := [.tup [.non, .str w], .tup [.non, .non], .tup [.str w, .int 0], .tup [.str w, .bl true], .tup [.int 0, .str w], .tup [.str w, .str (w ++ ("d" : Str).cps.toList)], .tup [wd "d", .non]]
theorem oddp1_len {C : Addr} {w : List Nat} {ps : List Pr} : (oddp1 C w ps).length = 7 := rfl
def oddp2 (C : Addr) (w : List Nat) (ps : List Pr) : List D := [.tup [.str (("A" : Str).cps.toList ++ w), .non], .tup [.str w, .tup []], .tup [.tup [.str w, .non]], .tup [.str w, .lst [.str (w ++ ("a" : Str).cps.toList)]], .tup [.str w, .bl false], .tup [.int (-1), .non]]
theorem oddp2_len {C : Addr} {w : List Nat} {ps : List Pr} : (oddp2 C w ps).length = 6 := rfl
def oddp3 (C : Addr) (w : List Nat) (ps : List Pr) : List D := [.tup [.tup [.str w], .non], .tup [.str (w ++ (" " : Str).cps.toList), .non], .tup [wd "", wd ""], .tup [.str w, .str (w ++ ("a\n" : Str).cps.toList)], .obj C]
theorem oddp3_len {C : Addr} {w : List Nat} {ps : List Pr} : (oddp3 C w ps).length = 5 := rfl
def oddp4 (C : Addr) (w : List Nat) (ps : List Pr) : List D := [.tup [.str (("b" : Str).cps.toList ++ w), .str (("a" : Str).cps.toList ++ w)], .tup [.str (w ++ ("c" : Str).cps.toList), .str (w ++ ("b" : Str).cps.toList)], .tup [.str (w ++ ("ab" : Str).cps.toList), .str (w ++ ("aab" : Str).cps.toList)]]
theorem oddp4_len {C : Addr} {w : List Nat} {ps : List Pr} : (oddp4 C w ps).length = 3 := rfl
def oddp (C : Addr) (w : List Nat) (ps : List Pr) : List D := oddp0 C w ps ++ oddp1 C w ps ++ oddp2 C w ps ++ oddp3 C w ps ++ oddp4 C w ps
def spOddP (K : PySem.W.Frag) (C : Addr) : Sp := fun vs H Q _ => ∃ (b : Addr) (n : Nat) (w : List Nat), vs = [.ref b, Tx w] ∧ w.length ≤ 12 ∧ Bag H b n ∧ n + 10 < 2 ^ 30 ∧ ∀ v d H', d ∈ oddp C w [] → Stp [b] H H' → Bag H' b (n + 1) → Rv K [b] H' v d → Q v H'
theorem cl__law_odd_pair {f : Addr} {fd : FuncData} (D : Df K mg "_law_odd_pair" s__law_odd_pair ["bag", "word"] f fd) (T : Nm mg) (TX : Er K mg) (c__law_draw : Cl P w K mg base 1 "_law_draw" s__law_draw ["bag", "upto"] spDraw) : Cl P w K mg base 2 "_law_odd_pair" s__law_odd_pair ["bag", "word"] (spOddP K TX.C_InvalidSpan) := by
  refine D.cl sc__law_odd_pair (fun vs H Q E h => ?_) (fun cdv A outer s H vs Q E hr h => ?_)
  · obtain ⟨b, n, w, rfl, _⟩ := h
    rfl
  · obtain ⟨b, n, w, rfl, hw, B, hn, k⟩ := h
    refine ⟨_, (pss_cons (ps_set (i := 2) sc__law_odd_pair.nd rfl (by first | exact Or.inl rfl | exact Or.inr rfl) (pe_lst (pa_cons (pe_tup (pa_cons (pv 1) (pa_cons (pv 1) pa_nil))) (pa_cons (pe_tup (pa_cons (pe_op op_add_str (pv 1) pe_str) (pa_cons (pv 1) pa_nil))) (pa_cons (pe_lst (pa_cons (pv 1) (pa_cons pe_non pa_nil))) (pa_cons (pe_tup (pa_cons (pv 1) pa_nil)) (pa_cons (pe_tup (pa_cons (pv 1) (pa_cons pe_non (pa_cons pe_non pa_nil)))) (pa_cons pe_non (pa_cons (pv 1) (pa_cons pe_int (pa_cons pe_bl (pa_cons (pe_tup pa_nil) pa_nil))))))))))))
      (pss_cons (ps_set (i := 2) sc__law_odd_pair.nd rfl (by first | exact Or.inl rfl | exact Or.inr rfl) (pe_op op_cat (pv 2) (pe_lst (pa_cons (pe_tup (pa_cons pe_non (pa_cons (pv 1) pa_nil))) (pa_cons (pe_tup (pa_cons pe_non (pa_cons pe_non pa_nil))) (pa_cons (pe_tup (pa_cons (pv 1) (pa_cons pe_int pa_nil))) (pa_cons (pe_tup (pa_cons (pv 1) (pa_cons pe_bl pa_nil))) (pa_cons (pe_tup (pa_cons pe_int (pa_cons (pv 1) pa_nil))) (pa_cons (pe_tup (pa_cons (pv 1) (pa_cons (pe_op op_add_str (pv 1) pe_str) pa_nil))) (pa_cons (pe_tup (pa_cons pe_str (pa_cons pe_non pa_nil))) pa_nil))))))))))
      (pss_cons (ps_set (i := 2) sc__law_odd_pair.nd rfl (by first | exact Or.inl rfl | exact Or.inr rfl) (pe_op op_cat (pv 2) (pe_lst (pa_cons (pe_tup (pa_cons (pe_op op_add_str pe_str (pv 1)) (pa_cons pe_non pa_nil))) (pa_cons (pe_tup (pa_cons (pv 1) (pa_cons (pe_tup pa_nil) pa_nil))) (pa_cons (pe_tup (pa_cons (pe_tup (pa_cons (pv 1) (pa_cons pe_non pa_nil))) pa_nil)) (pa_cons (pe_tup (pa_cons (pv 1) (pa_cons (pe_lst (pa_cons (pe_op op_add_str (pv 1) pe_str) pa_nil)) pa_nil))) (pa_cons (pe_tup (pa_cons (pv 1) (pa_cons pe_bl pa_nil))) (pa_cons (pe_tup (pa_cons (pe_un un_neg pe_int) (pa_cons pe_non pa_nil))) pa_nil)))))))))
      (pss_cons (ps_set (i := 2) sc__law_odd_pair.nd rfl (by first | exact Or.inl rfl | exact Or.inr rfl) (pe_op op_cat (pv 2) (pe_lst (pa_cons (pe_tup (pa_cons (pe_tup (pa_cons (pv 1) pa_nil)) (pa_cons pe_non pa_nil))) (pa_cons (pe_tup (pa_cons (pe_op op_add_str (pv 1) pe_str) (pa_cons pe_non pa_nil))) (pa_cons (pe_tup (pa_cons pe_str (pa_cons pe_str pa_nil))) (pa_cons (pe_tup (pa_cons (pv 1) (pa_cons (pe_op op_add_str (pv 1) pe_str) pa_nil))) (pa_cons (pe_exc1 PySem.F.excBase_ValueError TX.x_InvalidSpan TX.g_InvalidSpan TX.k_InvalidSpan rfl (pv 1)) pa_nil))))))))
      (pss_cons (ps_set (i := 2) sc__law_odd_pair.nd rfl (by first | exact Or.inl rfl | exact Or.inr rfl) (pe_op op_cat (pv 2) (pe_lst (pa_cons (pe_tup (pa_cons (pe_op op_add_str pe_str (pv 1)) (pa_cons (pe_op op_add_str pe_str (pv 1)) pa_nil))) (pa_cons (pe_tup (pa_cons (pe_op op_add_str (pv 1) pe_str) (pa_cons (pe_op op_add_str (pv 1) pe_str) pa_nil))) (pa_cons (pe_tup (pa_cons (pe_op op_add_str (pv 1) pe_str) (pa_cons (pe_op op_add_str (pv 1) pe_str) pa_nil))) pa_nil))))))
      (pss_one (ps_ret (pe_ix ix_list (pv 2) (pe_cl c__law_draw hr (by omega) (pa_cons (pv 0) (pa_cons (pe_callB call_len_seq (by rfl) T.n_len (by decide +kernel) (pa_cons (pv 2) pa_nil)) pa_nil))) (fun _ _ => rfl))))))))), ?_⟩
    have rw : Rv K [b] H (Tx w) (.str w) := .str w (by omega)
    have rz := rw
    obtain ⟨ps, eps⟩ : ∃ ps : List Pr, ps = [] := ⟨_, rfl⟩
    rw [← eps] at k
    have ls0 := Pv.bag_ls B
    have rw_0 := rw
    have rz_0 := rz
    refine asg_name ?_
    refine' Pv.EvDA.newl (K := K) (S := [b]) (ds := oddp0 TX.C_InvalidSpan w ps) ?e0 ?l0 ?k0
    case e0 => unfold oddp0; (repeat' first | exact Pv.EvDA.nil | apply Pv.EvDA.cons | exact Pv.EvD.bl | exact Pv.EvD.int | exact Pv.EvD.non | exact Pv.EvD.str | exact Pv.EvD.var (rw_0) | exact Pv.EvD.var (rz_0) | (refine Pv.EvD.cat ?_ ?_ (by first | exact Pv.catle hw (by decide +kernel) | exact Pv.catle' (by decide +kernel) hw)) | apply Pv.EvD.tup | apply Pv.EvD.lst ls0 | apply Pv.EvD.exc TX.cl_InvalidSpan.ok | exact Pv.EvD.pow ⟨by decide, by decide, by decide⟩ | apply Pv.EvD.neg | (simp; done))
    case l0 => rw [oddp0_len]; decide
    case k0 =>
    intro L0 vs0 H0 E0 n0 h0 r0
    have ls1 := Pg.Lsts.stp ls0 E0
    have rw_1 := rw.up E0
    have rz_1 := rz.up E0
    refine asg_name ?_
    refine op_var rfl ?_
    refine' Pv.EvDA.newl (K := K) (S := [b]) (ds := oddp1 TX.C_InvalidSpan w ps) ?e1 ?l1 ?k1
    case e1 => unfold oddp1; (repeat' first | exact Pv.EvDA.nil | apply Pv.EvDA.cons | exact Pv.EvD.bl | exact Pv.EvD.int | exact Pv.EvD.non | exact Pv.EvD.str | exact Pv.EvD.var (rw_1) | exact Pv.EvD.var (rz_1) | (refine Pv.EvD.cat ?_ ?_ (by first | exact Pv.catle hw (by decide +kernel) | exact Pv.catle' (by decide +kernel) hw)) | apply Pv.EvD.tup | apply Pv.EvD.lst ls1 | apply Pv.EvD.exc TX.cl_InvalidSpan.ok | exact Pv.EvD.pow ⟨by decide, by decide, by decide⟩ | apply Pv.EvD.neg | (simp; done))
    case l1 => rw [oddp1_len]; decide
    case k1 =>
    intro M1 ws1 G1 T1 m1 g1 q1
    refine cat_use (T1.kp _ _ (fun m => nomatch m) h0) g1 (r0.up T1) q1 (by simp [oddp0_len, oddp1_len]) fun L1 n1 H1 vs1 F1 h1 r1 => ?_
    have E1 := (E0.trans T1).trans F1
    have ls2 := Pg.Lsts.stp ls0 E1
    have rw_2 := rw.up E1
    have rz_2 := rz.up E1
    refine asg_name ?_
    refine op_var rfl ?_
    refine' Pv.EvDA.newl (K := K) (S := [b]) (ds := oddp2 TX.C_InvalidSpan w ps) ?e2 ?l2 ?k2
    case e2 => unfold oddp2; (repeat' first | exact Pv.EvDA.nil | apply Pv.EvDA.cons | exact Pv.EvD.bl | exact Pv.EvD.int | exact Pv.EvD.non | exact Pv.EvD.str | exact Pv.EvD.var (rw_2) | exact Pv.EvD.var (rz_2) | (refine Pv.EvD.cat ?_ ?_ (by first | exact Pv.catle hw (by decide +kernel) | exact Pv.catle' (by decide +kernel) hw)) | apply Pv.EvD.tup | apply Pv.EvD.lst ls2 | apply Pv.EvD.exc TX.cl_InvalidSpan.ok | exact Pv.EvD.pow ⟨by decide, by decide, by decide⟩ | apply Pv.EvD.neg | (simp; done))
    case l2 => rw [oddp2_len]; decide
    case k2 =>
    intro M2 ws2 G2 T2 m2 g2 q2
    refine cat_use (T2.kp _ _ (fun m => nomatch m) h1) g2 (r1.up T2) q2 (by simp [oddp0_len, oddp1_len, oddp2_len]) fun L2 n2 H2 vs2 F2 h2 r2 => ?_
    have E2 := (E1.trans T2).trans F2
    have ls3 := Pg.Lsts.stp ls0 E2
    have rw_3 := rw.up E2
    have rz_3 := rz.up E2
    refine asg_name ?_
    refine op_var rfl ?_
    refine' Pv.EvDA.newl (K := K) (S := [b]) (ds := oddp3 TX.C_InvalidSpan w ps) ?e3 ?l3 ?k3
    case e3 => unfold oddp3; (repeat' first | exact Pv.EvDA.nil | apply Pv.EvDA.cons | exact Pv.EvD.bl | exact Pv.EvD.int | exact Pv.EvD.non | exact Pv.EvD.str | exact Pv.EvD.var (rw_3) | exact Pv.EvD.var (rz_3) | (refine Pv.EvD.cat ?_ ?_ (by first | exact Pv.catle hw (by decide +kernel) | exact Pv.catle' (by decide +kernel) hw)) | apply Pv.EvD.tup | apply Pv.EvD.lst ls3 | apply Pv.EvD.exc TX.cl_InvalidSpan.ok | exact Pv.EvD.pow ⟨by decide, by decide, by decide⟩ | apply Pv.EvD.neg | (simp; done))
    case l3 => rw [oddp3_len]; decide
    case k3 =>
    intro M3 ws3 G3 T3 m3 g3 q3
    refine cat_use (T3.kp _ _ (fun m => nomatch m) h2) g3 (r2.up T3) q3 (by simp [oddp0_len, oddp1_len, oddp2_len, oddp3_len]) fun L3 n3 H3 vs3 F3 h3 r3 => ?_
    have E3 := (E2.trans T3).trans F3
    have ls4 := Pg.Lsts.stp ls0 E3
    have rw_4 := rw.up E3
    have rz_4 := rz.up E3
    refine asg_name ?_
    refine op_var rfl ?_
    refine' Pv.EvDA.newl (K := K) (S := [b]) (ds := oddp4 TX.C_InvalidSpan w ps) ?e4 ?l4 ?k4
    case e4 => unfold oddp4; (repeat' first | exact Pv.EvDA.nil | apply Pv.EvDA.cons | exact Pv.EvD.bl | exact Pv.EvD.int | exact Pv.EvD.non | exact Pv.EvD.str | exact Pv.EvD.var (rw_4) | exact Pv.EvD.var (rz_4) | (refine Pv.EvD.cat ?_ ?_ (by first | exact Pv.catle hw (by decide +kernel) | exact Pv.catle' (by decide +kernel) hw)) | apply Pv.EvD.tup | apply Pv.EvD.lst ls4 | apply Pv.EvD.exc TX.cl_InvalidSpan.ok | exact Pv.EvD.pow ⟨by decide, by decide, by decide⟩ | apply Pv.EvD.neg | (simp; done))
    case l4 => rw [oddp4_len]; decide
    case k4 =>
    intro M4 ws4 G4 T4 m4 g4 q4
    refine cat_use (T4.kp _ _ (fun m => nomatch m) h3) g4 (r3.up T4) q4 (by simp [oddp0_len, oddp1_len, oddp2_len, oddp3_len, oddp4_len]) fun L4 n4 H4 vs4 F4 h4 r4 => ?_
    have E4 := (E3.trans T4).trans F4
    have B1 := B.kp E4 (fun m => nomatch m)
    refine ⟨_, rfl, _, rfl, _, rfl, L4, _, rfl, .inl (SqL.of h4), b, _, _, rfl, B1, by omega, ?_, ?_, fun d H1 d0 d1 o1 B2 => ?_⟩
    · rw [r4.len, show (oddp0 TX.C_InvalidSpan w ps ++ oddp1 TX.C_InvalidSpan w ps ++ oddp2 TX.C_InvalidSpan w ps ++ oddp3 TX.C_InvalidSpan w ps ++ oddp4 TX.C_InvalidSpan w ps).length = 31 from rfl]; exact (by decide : (0 : Int) < ((31 : Nat) : Int))
    · rw [r4.len, show (oddp0 TX.C_InvalidSpan w ps ++ oddp1 TX.C_InvalidSpan w ps ++ oddp2 TX.C_InvalidSpan w ps ++ oddp3 TX.C_InvalidSpan w ps ++ oddp4 TX.C_InvalidSpan w ps).length = 31 from rfl]; exact (by decide : ((31 : Nat) : Int) < 2 ^ 30)
    · rw [r4.len] at d1
      have S1 := o1.stp (List.mem_singleton.mpr rfl : b ∈ [b])
      have nLb : L4 ∉ [b] := fun m => by
        obtain ⟨x, y, z, hb, _⟩ := B1
        rw [List.mem_singleton.mp m, hb] at h4
        injection h4 with h
        injection h with h
        have := r4.len
        rw [← h, show (oddp0 TX.C_InvalidSpan w ps ++ oddp1 TX.C_InvalidSpan w ps ++ oddp2 TX.C_InvalidSpan w ps ++ oddp3 TX.C_InvalidSpan w ps ++ oddp4 TX.C_InvalidSpan w ps).length = 31 from rfl] at this
        exact absurd this (by decide : ¬ 3 = 31)
      obtain ⟨v, e, me, re, ev⟩ := (r4.stp S1 (Pv.bag_ls B1)).pick d0 d1
      exact ⟨L4, _, d, v, rfl, rfl, SqL.of (S1.kp _ _ nLb h4), ev, k v e H1 me (E4.nil.trans S1) B2 re⟩

theorem MonoC.len {K : PySem.W.Frag} : MonoC (fun xs H Q => ∃ p ys, xs = [V.ref p] ∧ (SqL K H p ys ∨ SqT K H p ys) ∧ Q (.int (ys.length : Int)) H) := fun _ _ _ _ h ⟨p, ys, e1, e2, q⟩ => ⟨p, ys, e1, e2, h _ _ q⟩
theorem MonoR.isN : MonoR (fun x y H Q => y = .non ∧ Q (.bl (decide (x = .non))) H) := fun _ _ _ _ _ h ⟨e, q⟩ => ⟨e, h _ _ q⟩
theorem MonoR.neNil {K : PySem.W.Frag} : MonoR (rNeNil K) := fun _ _ _ _ _ h ⟨a, b, xs, e1, e2, n, s1, s2, q⟩ => ⟨a, b, xs, e1, e2, n, s1, s2, h _ _ q⟩
/-! ### values that are no spans -/
theorem abcB_app (a b : List Nat) : abcB (a ++ b) = (abcB a && abcB b) := by unfold abcB; rw [List.all_append]
theorem oddp_no {C : Addr} {w : Txt} {d : D} (m : d ∈ oddp C w []) : isRng d = false := by
  have irr : ∀ x : Txt, decide (x < x) = false := fun x => decide_eq_false (List.lt_irrefl x)
  have asym : ∀ {x y : Txt}, x < y → decide (y < x) = false := fun h => decide_eq_false fun g => List.lt_irrefl _ (List.lt_trans h g)
  have la : ("a" : Str).cps.toList = [97] := by decide +kernel
  have lb : ("b" : Str).cps.toList = [98] := by decide +kernel
  have lc : ("c" : Str).cps.toList = [99] := by decide +kernel
  have l1 : isRng (.tup [.str w, .str w]) = false := by
    show (abcB w && (abcB w && decide (w < w))) = false
    rw [irr]; simp
  have l2 : isRng (.tup [.str (w ++ ("a" : Str).cps.toList), .str w]) = false := by
    show (_ && (_ && decide (w ++ _ < w))) = false
    rw [la, asym (lt_snoc w 97)]; simp
  have l3 : isRng (.tup [.str w, .str (w ++ ("d" : Str).cps.toList)]) = false := by
    show (_ && (abcB (w ++ _) && _)) = false
    rw [abcB_app, show abcB ("d" : Str).cps.toList = false by decide +kernel]; simp
  have l4 : isRng (.tup [wd "d", .non]) = false := by decide +kernel
  have l5 : isRng (.tup [.str (("A" : Str).cps.toList ++ w), .non]) = false := by
    show (abcB (("A" : Str).cps.toList ++ w) && endOk (("A" : Str).cps.toList ++ w) .non) = false
    rw [abcB_app, show abcB ("A" : Str).cps.toList = false by decide +kernel]; simp
  have l6 : isRng (.tup [.str (w ++ (" " : Str).cps.toList), .non]) = false := by
    show (abcB (w ++ (" " : Str).cps.toList) && endOk (w ++ (" " : Str).cps.toList) .non) = false
    rw [abcB_app, show abcB (" " : Str).cps.toList = false by decide +kernel]; simp
  have l7 : isRng (.tup [wd "", wd ""]) = false := by decide +kernel
  have l8 : isRng (.tup [.str w, .str (w ++ ("a\n" : Str).cps.toList)]) = false := by
    show (_ && (abcB (w ++ _) && _)) = false
    rw [abcB_app, show abcB ("a\n" : Str).cps.toList = false by decide +kernel]; simp
  have l9 : isRng (.tup [.str (("b" : Str).cps.toList ++ w), .str (("a" : Str).cps.toList ++ w)]) = false := by
    show (_ && (_ && decide (_ ++ w < _ ++ w))) = false
    rw [la, lb, asym (show [97] ++ w < [98] ++ w from List.cons_lt_cons_iff.mpr (.inl (by decide)))]; simp
  have l10 : isRng (.tup [.str (w ++ ("c" : Str).cps.toList), .str (w ++ ("b" : Str).cps.toList)]) = false := by
    show (_ && (_ && decide (w ++ _ < w ++ _))) = false
    rw [lb, lc, asym (lt_pre w [] [] 98 99 (by decide))]; simp
  have l11 : isRng (.tup [.str (w ++ ("ab" : Str).cps.toList), .str (w ++ ("aab" : Str).cps.toList)]) = false := by
    show (_ && (_ && decide (w ++ _ < w ++ _))) = false
    have e1 : w ++ ("ab" : Str).cps.toList = (w ++ [97]) ++ 98 :: [] := by rw [show ("ab" : Str).cps.toList = [97, 98] by decide +kernel]; simp
    have e2 : w ++ ("aab" : Str).cps.toList = (w ++ [97]) ++ 97 :: [98] := by rw [show ("aab" : Str).cps.toList = [97, 97, 98] by decide +kernel]; simp
    rw [e1, e2, asym (lt_pre (w ++ [97]) [98] [] 97 98 (by decide))]; simp
  have l12 : isRng (.tup [.str w, .lst [.str (w ++ ("a" : Str).cps.toList)]]) = false := by
    show (abcB w && false) = false
    simp
  have l13 : isRng (.tup [.str w, .int 0]) = false := by show (abcB w && false) = false; simp
  have l14 : ∀ b, isRng (.tup [.str w, .bl b]) = false := fun b => by show (abcB w && false) = false; simp
  have l15 : isRng (.tup [.str w, .tup []]) = false := by show (abcB w && false) = false; simp
  rcases List.mem_append.mp m with m | m
  · rcases List.mem_append.mp m with m | m
    · rcases List.mem_append.mp m with m | m
      · rcases List.mem_append.mp m with m | m
        · simp only [oddp0, List.mem_cons, List.not_mem_nil, or_false] at m
          rcases m with rfl | rfl | rfl | rfl | rfl | rfl | rfl | rfl | rfl | rfl <;> first | rfl | exact l1 | exact l2
        · simp only [oddp1, List.mem_cons, List.not_mem_nil, or_false] at m
          rcases m with rfl | rfl | rfl | rfl | rfl | rfl | rfl <;> first | exact l3 | exact l4 | exact l13 | exact l14 _ | rfl
      · simp only [oddp2, List.mem_cons, List.not_mem_nil, or_false] at m
        rcases m with rfl | rfl | rfl | rfl | rfl | rfl <;> first | exact l5 | exact l12 | exact l15 | exact l14 _ | rfl
    · simp only [oddp3, List.mem_cons, List.not_mem_nil, or_false] at m
      rcases m with rfl | rfl | rfl | rfl | rfl <;> first | exact l6 | exact l7 | exact l8 | rfl
  · simp only [oddp4, List.mem_cons, List.not_mem_nil, or_false] at m
    rcases m with rfl | rfl | rfl <;> first | exact l9 | exact l10 | exact l11
theorem adj_bad {a b : D} (h : gapD a b = false) : ∀ (l r : List D), adj (l ++ a :: b :: r) = false
  | [], r => by
    show (gapD a b && _) = false
    rw [h]; rfl
  | [x], r => by
    show (gapD x a && adj (a :: b :: r)) = false
    rw [show adj (a :: b :: r) = false from adj_bad h [] r, Bool.and_false]
  | x :: y :: l, r => by
    show (gapD x y && adj (y :: l ++ a :: b :: r)) = false
    rw [adj_bad h (y :: l) r, Bool.and_false]
theorem spn_bad {a b : D} {ds l r : List D} (h : gapD a b = false) (e : ds = l ++ a :: b :: r) : isSpn (.tup ds) = false := by
  show (ds.all isRng && adj ds) = false
  rw [e, adj_bad h, Bool.and_false]
theorem spn_odd {a : D} {ds l r : List D} (h : isRng a = false) (e : ds = l ++ a :: r) : isSpn (.tup ds) = false := by
  show (ds.all isRng && adj ds) = false
  rw [show ds.all isRng = false from List.all_eq_false.mpr ⟨a, by rw [e]; simp, by rw [h]; simp⟩]
  rfl
theorem spn_rng {ds : List D} {d : D} (m : d ∈ ds) (h : isRng d = false) : isSpn (.tup ds) = false := by
  show (ds.all isRng && adj ds) = false
  rw [show ds.all isRng = false from List.all_eq_false.mpr ⟨d, m, by rw [h]; simp⟩]
  rfl
theorem gap_self {p : Pr} (h : PrOk p) : gapD (prV p) (prV p) = false := by
  rw [gapD_pr]
  obtain ⟨f, e⟩ := p
  cases e with
  | none => rfl
  | some e =>
    have lt : f < e := (h.2 e rfl).2
    show (!(!decide (e < f))) = false
    rw [decide_eq_false fun g => List.lt_irrefl _ (List.lt_trans lt g)]
    rfl
theorem rev_bad : ∀ {ps : List Pr}, 1 < ps.length → SpOk ps → isSpn (.tup (ps.map prV).reverse) = false
  | p0 :: p1 :: rest, _, so => by
    refine spn_bad (l := (rest.map prV).reverse) (a := prV p1) (b := prV p0) (r := []) ?_ (by simp)
    rw [gapD_pr]
    obtain ⟨e', he', lt⟩ := (List.pairwise_cons.mp so.gap).1 p1 List.mem_cons_self
    have ok0 := so.ok p0 List.mem_cons_self
    have ok1 := so.ok p1 (List.mem_cons_of_mem _ List.mem_cons_self)
    have l0 := (ok0.2 e' he').2
    cases h2 : p1.2 with
    | none => rfl
    | some e2 =>
      have l1 := (ok1.2 e2 h2).2
      show (!(!decide (e2 < p0.1))) = false
      rw [decide_eq_false fun g => List.lt_irrefl _ (List.lt_trans l0 (List.lt_trans lt (List.lt_trans l1 g)))]
      rfl
theorem upT1 {K : PySem.W.Frag} {S : List Addr} {H : Hp} {ds : List D} {a : Addr} {xs : List V} {n : Nat} {Q : VK} (ha : SqT K H a xs) (ra : RvL K S H xs ds) (k : ∀ p zs H', Stp [] H H' → SqT K H' p zs → RvL K S H' zs (ds.take (n + 1)) → Q (.ref p) H') : rSlA K (.ref a) none (some ((n : Int) + 1)) H Q :=
  Pv.upT (n := n + 1) ha ra k
def spBent (K : PySem.W.Frag) : Sp := fun vs H Q _ => ∃ (b a : Addr) (n : Nat) (ps : List Pr), vs = [.ref b, .ref a] ∧ Spn K H a ps ∧ ps.length ≤ 20 ∧ Bag H b n ∧ n + 10 < 2 ^ 30 ∧
  ∀ v d H', isSpn d = false → SmallT d → Stp [b] H H' → Bag H' b (n + 2) → Rv K [b] H' v d → Q v H'
theorem cl__law_bent_span {f : Addr} {fd : FuncData} (Dh : Df K mg "_law_bent_span" s__law_bent_span ["bag", "whole"] f fd) (T : Nm mg) (c__law_draw : Cl P w K mg base 1 "_law_draw" s__law_draw ["bag", "upto"] spDraw) : Cl P w K mg base 2 "_law_bent_span" s__law_bent_span ["bag", "whole"] (spBent K) := by
  refine Dh.cl sc__law_bent_span (fun vs H Q E h => ?_) (fun cdv A outer s H vs Q E hr h => ?_)
  · obtain ⟨b, a, n, ps, rfl, _⟩ := h
    rfl
  · obtain ⟨b, a, n, ps, rfl, sp, few, B, hn, k⟩ := h
    refine ⟨_, (pss_cons (ps_set (i := 2) sc__law_bent_span.nd rfl (by first | exact Or.inl rfl | exact Or.inr rfl) (pe_cl c__law_draw hr (by omega) (pa_cons (pv 0) (pa_cons pe_int pa_nil))))
      (pss_cons (ps_setLc (i := 3) (own := [("k", 6)]) rfl sc__law_bent_span.nd rfl rfl (sw_true rfl rfl rfl (by decide +kernel)) (pi_range1 (by rfl) T.n_range (pa_cons (pe_callB call_len_seq (by rfl) T.n_len (by decide +kernel) (pa_cons (pv 1) pa_nil)) pa_nil)) (blkOk_by (own := [("k", 6)]) (N := N__law_bent_span) (sc := defScope s__law_bent_span) (by decide +kernel)) (fun _ _ _ _ _ => (pg_name (i := 6) sc__law_bent_span.nd rfl (by first | exact Or.inl rfl | exact Or.inr rfl))) (fun _ _ _ _ _ => (pts_one (pt_cmpR op_notN (pe_ix (ix_tupK rfl) (pe_ix (ix_tupK rfl) (pv 1) (pv 6) (fun _ _ => rfl)) pe_int (fun _ _ => rfl)) pe_non (by first | exact nomark _ | rfl)))) (fun _ _ _ _ _ => (pv 6)))
      (pss_cons (ps_set (i := 4) sc__law_bent_span.nd rfl (by first | exact Or.inl rfl | exact Or.inr rfl) (pe_cl c__law_draw hr (by omega) (pa_cons (pv 0) (pa_cons (pe_callB (call_max2 rfl) (by rfl) T.n_max (by decide +kernel) (pa_cons pe_int (pa_cons (pe_callB call_len_seq (by rfl) T.n_len (by decide +kernel) (pa_cons (pv 1) pa_nil)) pa_nil))) pa_nil))))
      (pss_cons (ps_if (PW.pt (pw_or (pt_cmpR (Pv.op_eqNilT hr.units) (pv 1) (pe_tup pa_nil) (by first | exact nomark _ | rfl)) (pw_or1 (pt_cmpR op_eq (pv 2) pe_int (by first | exact nomark _ | rfl))))) (pss_one (ps_ret (pe_callTy call_list_of (by rfl) T.n_list (by decide +kernel) (pa_cons (pv 1) pa_nil)))) pss_nil)
      (pss_cons (ps_if (pt_cmpR op_eq (pv 2) pe_int (by first | exact nomark _ | rfl)) (pss_one (ps_ret (pe_op op_catA (pe_slice sl_tupA (pv 1) po_none (po_some (pe_op op_add (pv 4) pe_int))) (pe_slice sl_tupA (pv 1) (po_some (pv 4)) po_none)))) pss_nil)
      (pss_cons (ps_if (PW.pt (pw_and (pt_cmpR op_eq (pv 2) pe_int (by first | exact nomark _ | rfl)) (pw_and1 (pt_cmpR op_gt (pe_callB call_len_seq (by rfl) T.n_len (by decide +kernel) (pa_cons (pv 1) pa_nil)) pe_int (by first | exact nomark _ | rfl))))) (pss_one (ps_ret (Pg.pe_revT (pv 1)))) pss_nil)
      (pss_cons (ps_if (PW.pt (pw_and (pt_cmpR op_eq (pv 2) pe_int (by first | exact nomark _ | rfl)) (pw_and1 (pt_cmpR (Pv.op_neNil hr.units) (pv 3) (pe_lst pa_nil) (by first | exact nomark _ | rfl))))) (pss_cons (ps_set (i := 4) sc__law_bent_span.nd rfl (by first | exact Or.inl rfl | exact Or.inr rfl) (pe_ix ix_list (pv 3) (pe_op op_mod (pe_callTy call_int1 (by rfl) T.n_int (by decide +kernel) (pa_cons (pv 4) pa_nil)) (pe_callB call_len_seq (by rfl) T.n_len (by decide +kernel) (pa_cons (pv 3) pa_nil))) (fun _ _ => rfl)))
      (pss_one (ps_ret (pe_op op_catA (pe_op op_catA (pe_slice sl_tupA (pv 1) po_none (po_some (pv 4))) (pe_tup (pa_cons (pe_tup (pa_cons (pe_ix ix_tup (pe_ix ix_tup (pv 1) (pv 4) (fun _ _ => rfl)) pe_int (fun _ _ => rfl)) (pa_cons (pe_ix ix_tup (pe_ix ix_tup (pv 1) (pv 4) (fun _ _ => rfl)) pe_int (fun _ _ => rfl)) pa_nil))) pa_nil))) (pe_slice sl_tupA (pv 1) (po_some (pe_op op_add (pv 4) pe_int)) po_none))))) pss_nil)
      (pss_cons (ps_if (PW.pt (pw_and (pt_cmpR op_gt (pv 2) pe_int (by first | exact nomark _ | rfl)) (pw_and1 (pt_cmpR op_gt (pe_callB call_len_seq (by rfl) T.n_len (by decide +kernel) (pa_cons (pv 1) pa_nil)) pe_int (by first | exact nomark _ | rfl))))) (pss_cons (ps_set (i := 4) sc__law_bent_span.nd rfl (by first | exact Or.inl rfl | exact Or.inr rfl) (pe_callB (call_min2 rfl) (by rfl) T.n_min (by decide +kernel) (pa_cons (pe_callTy call_int1 (by rfl) T.n_int (by decide +kernel) (pa_cons (pv 4) pa_nil)) (pa_cons (pe_op op_sub (pe_callB call_len_seq (by rfl) T.n_len (by decide +kernel) (pa_cons (pv 1) pa_nil)) pe_int) pa_nil))))
      (pss_one (ps_ret (pe_op op_catA (pe_op op_catA (pe_slice sl_tupA (pv 1) po_none (po_some (pv 4))) (pe_tup (pa_cons (pe_tup (pa_cons (pe_ix ix_tup (pe_ix ix_tup (pv 1) (pv 4) (fun _ _ => rfl)) pe_int (fun _ _ => rfl)) (pa_cons (pe_op op_add_str (pe_ix ix_tup (pe_ix ix_tup (pv 1) (pe_op op_add (pv 4) pe_int) (fun _ _ => rfl)) pe_int (fun _ _ => rfl)) pe_str) pa_nil))) pa_nil))) (pe_slice sl_tupA (pv 1) (po_some (pe_op op_add (pv 4) pe_int)) po_none))))) pss_nil)
      (pss_cons (ps_set (i := 5) sc__law_bent_span.nd rfl (by first | exact Or.inl rfl | exact Or.inr rfl) (pe_ix ix_tup (pe_ix ix_tup (pv 1) (pv 4) (fun _ _ => rfl)) pe_int (fun _ _ => rfl)))
      (pss_one (ps_ret (pe_op op_catA (pe_op op_catA (pe_slice sl_tupA (pv 1) po_none (po_some (pv 4))) (pe_tup (pa_cons (pe_tup (pa_cons (pv 5) (pa_cons (pe_op op_add_str (pv 5) pe_str) pa_nil))) (pa_cons (pe_tup (pa_cons (pe_op op_add_str (pv 5) pe_str) (pa_cons (pe_ix ix_tup (pe_ix ix_tup (pv 1) (pv 4) (fun _ _ => rfl)) pe_int (fun _ _ => rfl)) pa_nil))) pa_nil)))) (pe_slice sl_tupA (pv 1) (po_some (pe_op op_add (pv 4) pe_int)) po_none))))))))))))), ?_⟩
    have nn : ∀ {x : Addr}, x ∉ ([] : List Addr) := fun m => nomatch m
    have one : b ∈ [b] := List.mem_singleton.mpr rfl
    have ok := sp.ok.ok
    refine ⟨_, rfl, b, 6, n, rfl, B, by omega, by decide, by decide, fun way H1 w0 w1 o1 B1 => ?_⟩
    have S1 : Stp [b] H H1 := o1.stp one
    have sp1 := sp.stp S1 (Pv.bag_ls B)
    obtain ⟨⟨xs, hs1, rl1⟩, _, _⟩ := id sp1
    have lx : xs.length = ps.length := by rw [rl1.len, List.length_map]
    have at_ : ∀ {H' : Hp} {i : Nat} {p : Pr}, Stp [] H1 H' → ps[i]? = some p → ∃ t, xs[i]? = some (.ref t) ∧ SqT K H' t [Tx p.1, oV p.2] := fun {H' i p} S' hp => by
      have hi : i < xs.length := by rw [lx]; exact (List.getElem?_eq_some_iff.mp hp).1
      obtain ⟨q, hq, t, et, ht⟩ := prs_get rl1 (List.getElem?_eq_getElem hi)
      rw [hp] at hq
      cases hq
      exact ⟨t, by rw [List.getElem?_eq_getElem hi, et], sqt_stp S' Lsts.nil ht⟩
    -- ended
    refine ⟨_, rfl, a, _, rfl, .inr hs1, _, rfl, by omega, by omega, fun L nL => ?_⟩
    refine lc_range (lo := 0) (n := xs.length) (fun i H' => ∃ is : List Nat, H' L = some (.lst (is.map fun (j : Nat) => V.int (j : Int))) ∧ is.length ≤ i ∧ (∀ j ∈ is, ∃ f e, ps[j]? = some (f, some e)) ∧ Stp [] H1 H')
      ⟨[], upd_same, Nat.le_refl _, fun _ m => (nomatch m), Stp.new nL _⟩ ?_ ?_
    · rintro i H' hi ⟨is, hL, il, isok, S'⟩
      have hi' : i < ps.length := by rw [← lx]; exact hi
      have hp : ps[i]? = some ps[i] := List.getElem?_eq_getElem hi'
      generalize ps[i] = p at hp
      obtain ⟨t, hx, ht⟩ := at_ S' hp
      have hxi : atI xs ((0 : Int) + (i : Int)) = some (.ref t) := by rw [Int.zero_add]; exact atI_nat hx
      refine ⟨rfl, _, rfl, _, rfl, a, _, _, .ref t, rfl, rfl, sqt_stp S' Lsts.nil hs1, hxi, t, _, 1, oV p.2, rfl, rfl, ht, at1, rfl, _, rfl, ?_⟩
      obtain ⟨f1, e1⟩ := p
      cases e1 with
      | none => exact ite2 (fun h => absurd h (by simp [oV])) (fun _ => ⟨is, hL, by omega, isok, S'⟩)
      | some e1 =>
        refine ite2 (fun _ => ?_) (fun h => absurd (by simp [oV]) h)
        refine ⟨_, rfl, _, hL, by rw [List.length_map]; exact Nat.lt_of_le_of_lt (show is.length ≤ 100 by omega) (by decide), is ++ [i], ?_, by simp; omega, fun j m => ?_, S'.mut nL⟩
        · rw [upd_same, List.map_append, Int.zero_add]
          rfl
        · rcases List.mem_append.mp m with m | m
          · exact isok j m
          · rw [List.mem_singleton.mp m]; exact ⟨f1, e1, hp⟩
    rintro H2 ⟨is, hL2, il, isok, S2⟩
    have S12 := S1.trans S2.nil
    have B2 := B1.kp S2 nn
    have hs2 := sqt_stp S2 Lsts.nil hs1
    have Lb : L ≠ b := fun e => by
      obtain ⟨z1, z2, z3, hb, _⟩ := B1
      rw [← e, nL] at hb
      cases hb
    -- at
    refine ⟨_, rfl, _, rfl, a, _, rfl, .inr hs2, _, _, rfl, ?_⟩
    obtain ⟨mm, emm, m1, m2⟩ : ∃ mm : Int, mm = (if (xs.length : Int) > 1 then (xs.length : Int) else 1) ∧ (1 ≤ mm ∧ mm ≤ 100) ∧ (0 < ps.length → mm = ps.length) := ⟨_, rfl, by rw [lx]; split <;> omega, by rw [lx]; intro; split <;> omega⟩
    rw [← emm]
    refine ⟨b, mm, _, rfl, B2, by omega, by omega, by omega, fun e H3 e0 e1 o3 B3 => ?_⟩
    obtain ⟨e, rfl⟩ := Int.eq_ofNat_of_zero_le e0
    have S3 : Stp [b] H H3 := S12.trans (o3.stp one)
    have hs3 := sqt_stp (o3.stp one) (Pv.bag_ls B2) hs2
    have hL3 := o3.at hL2 Lb
    have sp3 := sp.stp S3 (Pv.bag_ls B)
    have rv3 : RvL K [b] H3 xs (ps.map prV) := by
      obtain ⟨⟨xs', hs', rl'⟩, _, _⟩ := id sp3
      have := (sp1.stp (S2.nil.trans (o3.stp one)) (Pv.bag_ls B1)).ex
      exact rps_rv ((rl1.stp S2 Lsts.nil).stp (o3.stp one) (Pv.bag_ls B2)) fun p m => (ok p m).s
    have at3 : ∀ {i : Nat} {p : Pr}, ps[i]? = some p → ∃ t, xs[i]? = some (.ref t) ∧ SqT K H3 t [Tx p.1, oV p.2] := fun {i p} hp => by
      obtain ⟨t, h1, h2⟩ := at_ (Stp.refl _ _) hp
      exact ⟨t, h1, sqt_stp (o3.stp one) (Pv.bag_ls B2) (sqt_stp S2 Lsts.nil h2)⟩
    have small : ∀ {ds : List D}, ds.length ≤ 200 → SmallT (.tup ds) := fun h => by show _ ≤ 5000; omega
    have fin : ∀ {v : V} {d : D} {H' : Hp}, Stp [] H3 H' → isSpn d = false → SmallT d → Rv K [b] H' v d → Q v H' := fun S' h1 h2 r => k _ _ _ h1 h2 (S3.trans S'.nil) (B3.kp S' nn) r
    have asL : ∀ H', Stp [] H3 H' → tRet (tCB (fun xs H Q => ∃ p ys, xs = [.ref p] ∧ (SqL K H p ys ∨ SqT K H p ys) ∧ ∀ l, H l = none → Q (.ref l) (upd H l (.lst ys))) (tCons (tVar 1) tNil)) { nx := fun _ H' => Q .non H', rt := Q } [some (.ref b), some (.ref a), some (.int way), some (.ref L), some (.int (e : Int)), none, none] H' := fun H' S' =>
      ⟨_, rfl, a, _, rfl, .inr (sqt_stp S' Lsts.nil hs3), fun l nl => fin (d := .lst (ps.map prV)) (S'.new' nl) rfl trivial (Rv.newL (Pv.bag_ls (B3.kp S' nn)) nl (rv3.up S') (by rw [List.length_map]; omega))⟩
    refine ⟨_, rfl, Nat.zero_le _, fun q nq => ?_⟩
    have S4 : Stp [] H3 (upd H3 q (.tup [])) := Stp.new nq _
    refine ⟨a, q, _, rfl, rfl, sqt_stp S4 Lsts.nil hs3, SqT.of upd_same, _, rfl, ite2 (fun h => asL _ S4) (fun h => ?_)⟩
    generalize upd H3 q (.tup []) = H4 at *
    have pos : 0 < ps.length := by
      rw [← lx]
      cases xs with
      | nil => exact absurd rfl h
      | cons _ _ => simp
    have hmm := m2 pos
    have he : e < ps.length := by omega
    refine ⟨_, rfl, rfl, _, rfl, ite2 (fun h => asL _ S4) (fun h => ?_)⟩
    have hs4 := sqt_stp S4 Lsts.nil hs3
    have rv4 := rv3.up S4
    have lm : (ps.map prV).length ≤ 20 := by rw [List.length_map]; exact few
    obtain ⟨p, hp⟩ : ∃ p, ps[e]? = some p := ⟨ps[e], List.getElem?_eq_getElem he⟩
    have okp := ok p (List.mem_of_getElem? hp)
    have hpv : (ps.map prV)[e]? = some (prV p) := by rw [List.getElem?_map, hp]; rfl
    have cut : ps.map prV = (ps.map prV).take e ++ prV p :: (ps.map prV).drop (e + 1) := by
      conv => lhs; rw [← List.take_append_drop e (ps.map prV)]
      rw [List.drop_eq_getElem_cons (by rw [List.length_map]; exact he)]
      congr 2
      exact Option.some.inj ((List.getElem?_eq_getElem (by rw [List.length_map]; exact he)).symm.trans hpv)
    -- one twice
    refine ⟨_, rfl, rfl, _, rfl, ite2 (fun h => ?_) (fun h => ?_)⟩
    · refine ⟨_, rfl, _, rfl, _, _, rfl, rfl, _, rfl, upT1 hs4 rv4 fun q1 z1 H5 S5 h5 r5 => ?_⟩
      refine ⟨_, rfl, _, rfl, _, rfl, nopart (Pv.fromT (sqt_stp S5 Lsts.nil hs4) (rv4.up S5) fun q2 z2 H6 S6 h6 r6 => ?_)⟩
      refine Pv.catT (sqt_stp S6 Lsts.nil h5) h6 (r5.up S6) r6 (by simp; omega) fun q3 z3 H7 S7 h7 r7 => ?_
      refine fin (((S4.trans S5).trans S6).trans S7) (spn_bad (l := (ps.map prV).take e) (a := prV p) (b := prV p) (r := (ps.map prV).drop (e + 1)) (gap_self okp) ?_) (small (by simp; omega)) (.tup h7 (by rw [r7.len]; simp; omega) r7)
      have e1 : (ps.map prV).take (e + 1) = (ps.map prV).take e ++ [prV p] := by rw [List.take_add_one, hpv]; rfl
      have e2 : (ps.map prV).drop e = prV p :: (ps.map prV).drop (e + 1) := by
        have := congrArg (List.drop e) cut
        rw [List.drop_left' (by rw [List.length_take]; simp; omega)] at this
        exact this
      rw [e1, e2]
      simp
    -- turned about
    dsimp only [tNext, tSeq, tIfS]
    refine MonoT.cut (t := tAnd _ _) (MonoT.and (MonoT.test (Mono.op' MonoR.eq Mono.var Mono.c)) (MonoT.test (Mono.op' MonoR.i0 (Mono.cb MonoC.len (MonoA.cons Mono.var MonoA.nil)) Mono.c))) (fun t H9 => H9 = H4 ∧ (t = true → 1 < ps.length)) ?_ ?_
    · refine ⟨_, rfl, rfl, _, rfl, ite2 (fun h => ?_) (fun h => ?_)⟩
      · refine ⟨_, rfl, a, _, rfl, .inr hs4, _, _, rfl, rfl, _, rfl, rfl, fun q => ?_⟩
        have := of_decide_eq_true q
        rw [lx] at this
        omega
      · exact ⟨rfl, fun e => nomatch e⟩
    rintro t H9 ⟨e9, ht⟩
    rw [e9]
    refine ite2 (fun h => ?_) (fun h => ?_)
    · have h1 := ht h
      refine ⟨_, rfl, a, _, rfl, hs4, fun q1 nq1 => ?_⟩
      refine fin (S4.new' nq1) ?_ (small (by rw [List.length_reverse]; omega)) (Rv.newT nq1 rv4.rev (by rw [List.length_reverse]; omega))
      exact rev_bad h1 sp.ok
    -- its ends exchanged
    have hL4 := S4.kp _ _ nn hL3
    try dsimp only [tNext, tSeq, tIfS]
    refine MonoT.cut (t := tAnd _ _) (MonoT.and (MonoT.test (Mono.op' MonoR.eq Mono.var Mono.c)) (MonoT.test (Mono.op' MonoR.neNil Mono.var (Mono.lst MonoA.nil)))) (fun t H9 => Stp [] H4 H9 ∧ (t = true → is ≠ [])) ?_ ?_
    · refine ⟨_, rfl, rfl, _, rfl, ite2 (fun h => ?_) (fun h => ?_)⟩
      · refine ⟨_, rfl, Nat.zero_le _, fun q nq => ?_⟩
        refine ⟨L, q, _, rfl, rfl, ne_of_none hL4 nq, SqL.of ((Stp.new nq _ : Stp [] _ _).kp _ _ nn hL4), SqL.of upd_same, _, rfl, Stp.new nq _, fun z e => ?_⟩
        rw [e] at z
        exact absurd z (by decide)
      · exact ⟨Stp.refl _ _, fun e => nomatch e⟩
    rintro t5 H5 ⟨S5, ht5⟩
    have hs5 := sqt_stp S5 Lsts.nil hs4
    have rv5 := rv4.up S5
    have S45 := S4.trans S5
    have at5 : ∀ {H' : Hp} {i : Nat} {p : Pr}, Stp [] H5 H' → ps[i]? = some p → ∃ t, xs[i]? = some (.ref t) ∧ SqT K H' t [Tx p.1, oV p.2] := fun {H' i p} S' hp => by
      obtain ⟨t, h1, h2⟩ := at3 hp
      exact ⟨t, h1, sqt_stp (S45.trans S') Lsts.nil h2⟩
    refine ite2 (fun h => ?_) (fun h => ?_)
    · have hne := ht5 h
      have hL5 := S5.kp _ _ nn hL4
      have ipos : 0 < is.length := List.length_pos_iff.mpr hne
      have em : 0 ≤ (e : Int) % (is.length : Int) := Int.emod_nonneg _ (by omega)
      have em2 : (e : Int) % (is.length : Int) < (is.length : Int) := Int.emod_lt_of_pos _ (by omega)
      obtain ⟨j, ej⟩ := Int.eq_ofNat_of_zero_le em
      have hj : j < is.length := by omega
      refine ⟨_, rfl, _, rfl, .inl ⟨_, rfl, _, rfl, L, _, rfl, .inl (SqL.of hL5), _, _, rfl, rfl, by rw [List.length_map]; omega, L, _, _, .int (is[j] : Int), rfl, rfl, SqL.of hL5, ?_, ?_⟩⟩
      · rw [List.length_map, ej]
        exact atI_nat (by rw [List.getElem?_map, List.getElem?_eq_getElem hj]; rfl)
      obtain ⟨f1, e1, hpj⟩ := isok is[j] (List.getElem_mem hj)
      generalize is[j] = i at *
      have okj := ok _ (List.mem_of_getElem? hpj)
      have hil : i < ps.length := (List.getElem?_eq_some_iff.mp hpj).1
      refine ⟨_, rfl, _, rfl, _, rfl, Pv.upT hs5 rv5 fun q1 z1 H6 S6 h6 r6 => ?_⟩
      obtain ⟨t, hx, ht⟩ := at5 S6 hpj
      have hs6 := sqt_stp S6 Lsts.nil hs5
      have ht' : SqT K H6 t [Tx f1, Tx e1] := ht
      refine ⟨_, rfl, _, rfl, a, _, _, .ref t, rfl, rfl, hs6, atI_nat hx, t, _, 1, Tx e1, rfl, rfl, ht', at1, ?_⟩
      refine ⟨_, rfl, _, rfl, a, _, _, .ref t, rfl, rfl, hs6, atI_nat hx, t, _, 0, Tx f1, rfl, rfl, ht', at0, ?_⟩
      refine ⟨(by show 2 ≤ sizeLine; decide), fun q2 nq2 => ⟨(by show 1 ≤ sizeLine; decide), fun q3 nq3 => ?_⟩⟩
      have l1 := (okj.2 e1 rfl).1.2
      have l2 := okj.1.2
      have S7 : Stp [] H6 (upd H6 q2 (.tup [Tx e1, Tx f1])) := Stp.new nq2 _
      have r2 : Rv K [b] (upd H6 q2 (.tup [Tx e1, Tx f1])) (.ref q2) (prV (e1, some f1)) := Rv.newT nq2 (.cons (.str _ (by omega)) (.cons (.str _ (show f1.length ≤ 100000 by have : f1.length ≤ 40 := l2; omega)) .nil)) (by simp)
      generalize upd H6 q2 (.tup [Tx e1, Tx f1]) = H7 at *
      have S8 : Stp [] H7 (upd H7 q3 (.tup [.ref q2])) := Stp.new nq3 _
      have h8 : SqT K (upd H7 q3 (.tup [.ref q2])) q3 [.ref q2] := SqT.of upd_same
      have S68 := S7.trans S8
      have r8 : RvL K [b] (upd H7 q3 (.tup [.ref q2])) [.ref q2] [prV (e1, some f1)] := .cons (r2.up S8) .nil
      generalize upd H7 q3 (.tup [.ref q2]) = H8 at *
      refine Pv.catT (sqt_stp S68 Lsts.nil h6) h8 (r6.up S68) r8 (by simp; omega) fun q4 z4 H9 S9 h9 r9 => ?_
      have S59 := (S6.trans S68).trans S9
      refine ⟨_, rfl, _, rfl, _, _, rfl, rfl, _, rfl, nopart (Pv.fromT1 (sqt_stp S59 Lsts.nil hs5) (rv5.up S59) fun q5 z5 HA SA hA rA => ?_)⟩
      refine Pv.catT (sqt_stp SA Lsts.nil h9) hA (r9.up SA) rA (by simp; omega) fun q6 z6 HB SB hB rB => ?_
      refine fin (((S45.trans S59).trans SA).trans SB) (spn_odd (a := prV (e1, some f1)) (l := (ps.map prV).take i) (r := (ps.map prV).drop (i + 1)) ?_ (by simp)) (small (by simp; omega)) (.tup hB (by rw [rB.len]; simp; omega) rB)
      show (abcB e1 && (abcB f1 && decide (e1 < f1))) = false
      rw [decide_eq_false fun g => List.lt_irrefl _ (List.lt_trans (okj.2 e1 rfl).2 g)]
      simp
    -- into the next one
    try dsimp only [tNext, tSeq, tIfS]
    refine MonoT.cut (t := tAnd _ _) (MonoT.and (MonoT.test (Mono.op' MonoR.i0 Mono.var Mono.c)) (MonoT.test (Mono.op' MonoR.i0 (Mono.cb MonoC.len (MonoA.cons Mono.var MonoA.nil)) Mono.c))) (fun t H9 => H9 = H5 ∧ (t = true → 1 < ps.length)) ?_ ?_
    · refine ⟨_, rfl, _, _, rfl, rfl, _, rfl, ite2 (fun h => ?_) (fun h => ?_)⟩
      · refine ⟨_, rfl, a, _, rfl, .inr hs5, _, _, rfl, rfl, _, rfl, rfl, fun q => ?_⟩
        have := of_decide_eq_true q
        rw [lx] at this
        omega
      · exact ⟨rfl, fun e => nomatch e⟩
    rintro t6 H9 ⟨e9, ht6⟩
    rw [e9]
    refine ite2 (fun h => ?_) (fun h => ?_)
    · have h1 := ht6 h
      refine ⟨_, rfl, .inl ⟨_, rfl, _, rfl, a, _, rfl, .inr hs5, _, _, rfl, rfl, _, _, rfl, ?_⟩⟩
      obtain ⟨j, ej, hj1⟩ : ∃ j : Nat, (if (xs.length : Int) - 2 < (e : Int) then (xs.length : Int) - 2 else (e : Int)) = (j : Int) ∧ j + 1 < ps.length := by
        rw [lx]
        split
        · exact ⟨ps.length - 2, by omega, by omega⟩
        · exact ⟨e, rfl, by omega⟩
      rw [ej]
      obtain ⟨p1, hp1⟩ : ∃ p, ps[j]? = some p := ⟨ps[j], List.getElem?_eq_getElem (by omega)⟩
      obtain ⟨p2, hp2⟩ : ∃ p, ps[j + 1]? = some p := ⟨ps[j + 1], List.getElem?_eq_getElem hj1⟩
      have l1 := (ok _ (List.mem_of_getElem? hp1)).1.2
      have l2 := (ok _ (List.mem_of_getElem? hp2)).1.2
      refine ⟨_, rfl, _, rfl, _, rfl, Pv.upT hs5 rv5 fun q1 z1 H6 S6 h6 r6 => ?_⟩
      obtain ⟨t, hx, ht⟩ := at5 S6 hp1
      obtain ⟨t2, hx2, ht2⟩ := at5 S6 hp2
      have hs6 := sqt_stp S6 Lsts.nil hs5
      refine ⟨_, rfl, _, rfl, a, _, _, .ref t, rfl, rfl, hs6, atI_nat hx, t, _, 0, Tx p1.1, rfl, rfl, ht, at0, ?_⟩
      refine ⟨_, rfl, _, rfl, _, _, rfl, rfl, a, _, _, .ref t2, rfl, rfl, hs6, atI_nat (j := j + 1) hx2, t2, _, 0, Tx p2.1, rfl, rfl, ht2, at0, tx p2.1, tx [97], rfl, congrArg V.str a_lit, (by rw [tx_len, tx_len]; exact sz (by simp; omega)), ?_⟩
      rw [tx_app]
      refine ⟨(by show 2 ≤ sizeLine; decide), fun q2 nq2 => ⟨(by show 1 ≤ sizeLine; decide), fun q3 nq3 => ?_⟩⟩
      have S7 : Stp [] H6 (upd H6 q2 (.tup [Tx p1.1, Tx (p2.1 ++ [97])])) := Stp.new nq2 _
      have r2 : Rv K [b] (upd H6 q2 (.tup [Tx p1.1, Tx (p2.1 ++ [97])])) (.ref q2) (prV (p1.1, some (p2.1 ++ [97]))) := Rv.newT nq2 (.cons (.str _ (by omega)) (.cons (.str _ (by rw [List.length_append]; simp; omega)) .nil)) (by simp)
      generalize upd H6 q2 (.tup [Tx p1.1, Tx (p2.1 ++ [97])]) = H7 at *
      have S8 : Stp [] H7 (upd H7 q3 (.tup [.ref q2])) := Stp.new nq3 _
      have h8 : SqT K (upd H7 q3 (.tup [.ref q2])) q3 [.ref q2] := SqT.of upd_same
      have S68 := S7.trans S8
      have r8 : RvL K [b] (upd H7 q3 (.tup [.ref q2])) [.ref q2] [prV (p1.1, some (p2.1 ++ [97]))] := .cons (r2.up S8) .nil
      generalize upd H7 q3 (.tup [.ref q2]) = H8 at *
      refine Pv.catT (sqt_stp S68 Lsts.nil h6) h8 (r6.up S68) r8 (by simp; omega) fun q4 z4 H9 S9 h9 r9 => ?_
      have S59 := (S6.trans S68).trans S9
      refine ⟨_, rfl, _, rfl, _, _, rfl, rfl, _, rfl, nopart (Pv.fromT1 (sqt_stp S59 Lsts.nil hs5) (rv5.up S59) fun q5 z5 HA SA hA rA => ?_)⟩
      refine Pv.catT (sqt_stp SA Lsts.nil h9) hA (r9.up SA) rA (by simp; omega) fun q6 z6 HB SB hB rB => ?_
      have e2 : (ps.map prV).drop (j + 1) = prV p2 :: (ps.map prV).drop (j + 2) := by
        rw [List.drop_eq_getElem_cons (by rw [List.length_map]; exact hj1)]
        congr 1
        have : (ps.map prV)[j + 1]? = some (prV p2) := by rw [List.getElem?_map, hp2]; rfl
        exact Option.some.inj ((List.getElem?_eq_getElem (by rw [List.length_map]; exact hj1)).symm.trans this)
      refine fin (((S45.trans S59).trans SA).trans SB) (spn_bad (a := prV (p1.1, some (p2.1 ++ [97]))) (b := prV p2) (l := (ps.map prV).take j) (r := (ps.map prV).drop (j + 2)) ?_ (by rw [e2]; simp)) (small (by simp; omega)) (.tup hB (by rw [rB.len]; simp; omega) rB)
      rw [gapD_pr]
      show (!(!decide (p2.1 ++ [97] < p2.1))) = false
      rw [decide_eq_false fun g => List.lt_irrefl _ (List.lt_trans (lt_snoc p2.1 97) g)]
      rfl
    -- cut in two that touch
    obtain ⟨t, hx, ht⟩ := at5 (Stp.refl _ _) hp
    have l1 := okp.1.2
    have l1' : p.1.length ≤ 40 := l1
    refine ⟨_, rfl, _, rfl, a, _, _, .ref t, rfl, rfl, hs5, atI_nat hx, t, _, 0, Tx p.1, rfl, rfl, ht, at0, ?_⟩
    refine ⟨_, rfl, _, rfl, _, rfl, Pv.upT hs5 rv5 fun q1 z1 H6 S6 h6 r6 => ?_⟩
    have hs6 := sqt_stp S6 Lsts.nil hs5
    have ht6' := sqt_stp S6 Lsts.nil ht
    refine ⟨_, rfl, _, rfl, tx p.1, tx [97], rfl, congrArg V.str a_lit, (by rw [tx_len, tx_len]; exact sz (by simp; omega)), ?_⟩
    rw [tx_app]
    refine ⟨(by show 2 ≤ sizeLine; decide), fun q2 nq2 => ?_⟩
    have S7 : Stp [] H6 (upd H6 q2 (.tup [Tx p.1, Tx (p.1 ++ [97])])) := Stp.new nq2 _
    have r2 : Rv K [b] (upd H6 q2 (.tup [Tx p.1, Tx (p.1 ++ [97])])) (.ref q2) (prV (p.1, some (p.1 ++ [97]))) := Rv.newT nq2 (.cons (.str _ (by omega)) (.cons (.str _ (by rw [List.length_append]; simp; omega)) .nil)) (by simp)
    generalize upd H6 q2 (.tup [Tx p.1, Tx (p.1 ++ [97])]) = H7 at *
    have hs7 := sqt_stp S7 Lsts.nil hs6
    have ht7 := sqt_stp S7 Lsts.nil ht6'
    refine ⟨_, rfl, tx p.1, tx [97], rfl, congrArg V.str a_lit, (by rw [tx_len, tx_len]; exact sz (by simp; omega)), ?_⟩
    rw [tx_app]
    refine ⟨_, rfl, _, rfl, a, _, _, .ref t, rfl, rfl, hs7, atI_nat hx, t, _, 1, oV p.2, rfl, rfl, ht7, at1, ?_⟩
    refine ⟨(by show 2 ≤ sizeLine; decide), fun q3 nq3 => ⟨(by show 2 ≤ sizeLine; decide), fun q4 nq4 => ?_⟩⟩
    have S8 : Stp [] H7 (upd H7 q3 (.tup [Tx (p.1 ++ [97]), oV p.2])) := Stp.new nq3 _
    have rend : ∀ H', Rv K [b] H' (oV p.2) (endD p.2) := fun H' => by
      cases he2 : p.2 with
      | none => exact .non
      | some e2 => exact .str _ (by have := (okp.2 e2 he2).1.2; omega)
    have r3 : Rv K [b] (upd H7 q3 (.tup [Tx (p.1 ++ [97]), oV p.2])) (.ref q3) (prV (p.1 ++ [97], p.2)) := Rv.newT nq3 (.cons (.str _ (by rw [List.length_append]; simp; omega)) (.cons (rend _) .nil)) (by simp)
    generalize upd H7 q3 (.tup [Tx (p.1 ++ [97]), oV p.2]) = H8 at *
    have S9 : Stp [] H8 (upd H8 q4 (.tup [.ref q2, .ref q3])) := Stp.new nq4 _
    have h9 : SqT K (upd H8 q4 (.tup [.ref q2, .ref q3])) q4 [.ref q2, .ref q3] := SqT.of upd_same
    have S69 := (S7.trans S8).trans S9
    have r9 : RvL K [b] (upd H8 q4 (.tup [.ref q2, .ref q3])) [.ref q2, .ref q3] [prV (p.1, some (p.1 ++ [97])), prV (p.1 ++ [97], p.2)] := .cons ((r2.up S8).up S9) (.cons (r3.up S9) .nil)
    generalize upd H8 q4 (.tup [.ref q2, .ref q3]) = H9 at *
    refine Pv.catT (sqt_stp S69 Lsts.nil h6) h9 (r6.up S69) r9 (by simp; omega) fun q5 z5 HA SA hA rA => ?_
    have S5A := (S6.trans S69).trans SA
    refine ⟨_, rfl, _, rfl, _, _, rfl, rfl, _, rfl, nopart (Pv.fromT1 (sqt_stp S5A Lsts.nil hs5) (rv5.up S5A) fun q6 z6 HB SB hB rB => ?_)⟩
    refine Pv.catT (sqt_stp SB Lsts.nil hA) hB (rA.up SB) rB (by simp; omega) fun q7 z7 HC SC hC rC => ?_
    refine fin (((S45.trans S5A).trans SB).trans SC) (spn_bad (a := prV (p.1, some (p.1 ++ [97]))) (b := prV (p.1 ++ [97], p.2)) (l := (ps.map prV).take e) (r := (ps.map prV).drop (e + 1)) ?_ (by simp)) (small (by simp; omega)) (.tup hC (by rw [rC.len]; simp; omega) rC)
    rw [gapD_pr]
    show (!(!decide (p.1 ++ [97] < p.1 ++ [97]))) = false
    rw [decide_eq_false (List.lt_irrefl _)]
    rfl
/-! ### _law_odd_span -/
def odds0 (C : Addr) (w : List Nat) (ps : List Pr) : List D := [.non, .bl true, .bl false, .int 0, .int 1, wd "", .str w, .lst [], .lst [.tup [.str w, .non]], .tup [.str w], .tup [.non], .tup [.str w, .non], .tup [wd "", .non], .tup [.tup []]]
theorem odds0_len {C : Addr} {w : List Nat} {ps : List Pr} : (odds0 C w ps).length = 14 := rfl
def odds1 (C : Addr) (w : List Nat) (ps : List Pr) : List D := [.int (10 ^ (30 : Int).toNat), .tup [.lst [.str w, .non]], .tup [wd "open", spanD ps], .lst [spanD ps], .tup [spanD ps], .obj C, .int (-1), wd "a-b"]
theorem odds1_len {C : Addr} {w : List Nat} {ps : List Pr} : (odds1 C w ps).length = 8 := rfl
def odds (C : Addr) (w : List Nat) (ps : List Pr) : List D := odds0 C w ps ++ odds1 C w ps
theorem odds_no {C : Addr} {w : Txt} {ps : List Pr} {d : D} (m : d ∈ odds C w ps) : isSpn d = false ∧ SmallT d := by
  have nr : ∀ {t : Txt}, isRng (.str t) = false := rfl
  rcases List.mem_append.mp m with m | m
  · simp only [odds0, List.mem_cons, List.not_mem_nil, or_false] at m
    rcases m with rfl | rfl | rfl | rfl | rfl | rfl | rfl | rfl | rfl | rfl | rfl | rfl | rfl | rfl <;> exact ⟨rfl, by first | trivial | simp [SmallT]⟩
  · simp only [odds1, List.mem_cons, List.not_mem_nil, or_false] at m
    rcases m with rfl | rfl | rfl | rfl | rfl | rfl | rfl | rfl
    · exact ⟨rfl, trivial⟩
    · exact ⟨rfl, (by decide : 1 ≤ 5000)⟩
    · exact ⟨rfl, (by decide : 2 ≤ 5000)⟩
    · exact ⟨rfl, trivial⟩
    · refine ⟨?_, (by decide : 1 ≤ 5000)⟩
      refine spn_odd (a := spanD ps) (l := []) (r := []) ?_ rfl
      match ps with
      | [] => rfl
      | [_] => rfl
      | [_, _] => rfl
      | _ :: _ :: _ :: _ => rfl
    · exact ⟨rfl, trivial⟩
    · exact ⟨rfl, trivial⟩
    · exact ⟨rfl, trivial⟩
def spOddS (K : PySem.W.Frag) : Sp := fun vs H Q _ => ∃ (b a : Addr) (n : Nat) (ps : List Pr) (w : Txt), vs = [.ref b, .ref a, Tx w] ∧ Spn K H a ps ∧ ps.length ≤ 20 ∧ w.length ≤ 12 ∧ Bag H b n ∧ n + 20 < 2 ^ 30 ∧
  ∀ v d H', isSpn d = false → SmallT d → Stp [b] H H' → Bag H' b (n + 5) → Rv K [b] H' v d → Q v H'
theorem cl__law_odd_span {f : Addr} {fd : FuncData} (Dh : Df K mg "_law_odd_span" s__law_odd_span ["bag", "whole", "word"] f fd) (T : Nm mg) (TX : Er K mg) (c__law_draw : Cl P w K mg base 1 "_law_draw" s__law_draw ["bag", "upto"] spDraw)
    (c__law_odd_pair : Cl P w K mg base 2 "_law_odd_pair" s__law_odd_pair ["bag", "word"] (spOddP K TX.C_InvalidSpan)) (c__law_bent_span : Cl P w K mg base 2 "_law_bent_span" s__law_bent_span ["bag", "whole"] (spBent K)) : Cl P w K mg base 3 "_law_odd_span" s__law_odd_span ["bag", "whole", "word"] (spOddS K) := by
  refine Dh.cl sc__law_odd_span (fun vs H Q E h => ?_) (fun cdv A outer s H vs Q E hr h => ?_)
  · obtain ⟨b, a, n, ps, w, rfl, _⟩ := h
    rfl
  · obtain ⟨b, a, n, ps, w, rfl, sp, few, hw, B, hn, k⟩ := h
    refine ⟨_, (pss_cons (ps_par (i := 3) (j := 4) rfl sc__law_odd_span.nd rfl rfl (by decide) rfl rfl (pa_cons (pe_cl c__law_draw hr (by omega) (pa_cons (pv 0) (pa_cons pe_int pa_nil))) (pa_cons (pe_cl c__law_draw hr (by omega) (pa_cons (pv 0) (pa_cons (pe_op op_add (pe_callB call_len_seq (by rfl) T.n_len (by decide +kernel) (pa_cons (pv 1) pa_nil)) pe_int) pa_nil))) pa_nil)) (by rfl))
      (pss_cons (ps_if (pt_cmpR op_lt (pv 3) pe_int (by first | exact nomark _ | rfl)) (pss_one (ps_ret (pe_op op_catA (pe_op op_catA (pe_slice sl_tupA (pv 1) po_none (po_some (pv 4))) (pe_tup (pa_cons (pe_cl c__law_odd_pair hr (by omega) (pa_cons (pv 0) (pa_cons (pv 2) pa_nil))) pa_nil))) (pe_slice sl_tupA (pv 1) (po_some (pv 4)) po_none)))) pss_nil)
      (pss_cons (ps_if (pt_cmpR op_lt (pv 3) pe_int (by first | exact nomark _ | rfl)) (pss_one (ps_ret (pe_cl c__law_bent_span hr (by omega) (pa_cons (pv 0) (pa_cons (pv 1) pa_nil))))) pss_nil)
      (pss_cons (ps_set (i := 5) sc__law_odd_span.nd rfl (by first | exact Or.inl rfl | exact Or.inr rfl) (pe_lst (pa_cons pe_non (pa_cons pe_bl (pa_cons pe_bl (pa_cons pe_int (pa_cons pe_int (pa_cons pe_str (pa_cons (pv 2) (pa_cons (pe_lst pa_nil) (pa_cons (pe_lst (pa_cons (pe_tup (pa_cons (pv 2) (pa_cons pe_non pa_nil))) pa_nil)) (pa_cons (pe_tup (pa_cons (pv 2) pa_nil)) (pa_cons (pe_tup (pa_cons pe_non pa_nil)) (pa_cons (pe_tup (pa_cons (pv 2) (pa_cons pe_non pa_nil))) (pa_cons (pe_tup (pa_cons pe_str (pa_cons pe_non pa_nil))) (pa_cons (pe_tup (pa_cons (pe_tup pa_nil) pa_nil)) pa_nil))))))))))))))))
      (pss_cons (ps_set (i := 5) sc__law_odd_span.nd rfl (by first | exact Or.inl rfl | exact Or.inr rfl) (pe_op op_cat (pv 5) (pe_lst (pa_cons (pe_op op_pow pe_int pe_int) (pa_cons (pe_tup (pa_cons (pe_lst (pa_cons (pv 2) (pa_cons pe_non pa_nil))) pa_nil)) (pa_cons (pe_tup (pa_cons pe_str (pa_cons (pv 1) pa_nil))) (pa_cons (pe_lst (pa_cons (pv 1) pa_nil)) (pa_cons (pe_tup (pa_cons (pv 1) pa_nil)) (pa_cons (pe_exc1 PySem.F.excBase_ValueError TX.x_InvalidSpan TX.g_InvalidSpan TX.k_InvalidSpan rfl pe_str) (pa_cons (pe_un un_neg pe_int) (pa_cons pe_str pa_nil)))))))))))
      (pss_one (ps_ret (pe_ix ix_list (pv 5) (pe_cl c__law_draw hr (by omega) (pa_cons (pv 0) (pa_cons (pe_callB call_len_seq (by rfl) T.n_len (by decide +kernel) (pa_cons (pv 5) pa_nil)) pa_nil))) (fun _ _ => rfl))))))))), ?_⟩
    have nn : ∀ {x : Addr}, x ∉ ([] : List Addr) := fun m => nomatch m
    have one : b ∈ [b] := List.mem_singleton.mpr rfl
    have ok := sp.ok.ok
    obtain ⟨⟨xs, hs, rl⟩, _, _⟩ := id sp
    have lx : xs.length = ps.length := by rw [rl.len, List.length_map]
    refine ⟨_, rfl, b, 6, n, rfl, B, by omega, by decide, by decide, fun way H1 w0 w1 o1 B1 => ?_⟩
    have S1 : Stp [b] H H1 := o1.stp one
    have hs1 := sqt_stp S1 (Pv.bag_ls B) hs
    refine ⟨_, rfl, _, rfl, a, _, rfl, .inr hs1, _, _, rfl, rfl, b, _, _, rfl, B1, by omega, by omega, by rw [lx]; omega, fun e H2 e0 e1 o2 B2 => ?_⟩
    have S2 : Stp [b] H H2 := S1.trans (o2.stp one)
    obtain ⟨e, rfl⟩ := Int.eq_ofNat_of_zero_le e0
    have sp2 := sp.stp S2 (Pv.bag_ls B)
    refine ⟨_, _, rfl, ?_⟩
    refine ⟨_, rfl, _, _, rfl, rfl, _, rfl, ite2 (fun h => ?_) (fun h => ?_)⟩
    · obtain ⟨⟨xs, hs2, rl2⟩, _, _⟩ := id sp2
      have rv2 : RvL K [b] H2 xs (ps.map prV) := rps_rv rl2 fun p m => (ok p m).s
      refine ⟨_, rfl, _, rfl, _, rfl, Pv.upT hs2 rv2 fun q1 z1 H3 S3 h3 r3 => ?_⟩
      have B3 := B2.kp S3 nn
      refine ⟨_, rfl, _, rfl, b, _, w, rfl, hw, B3, by omega, fun v d H4 hd S4 B4 rv4 => ?_⟩
      refine ⟨(by show 1 ≤ sizeLine; decide), fun q2 nq2 => ?_⟩
      have S5 : Stp [] H4 (upd H4 q2 (.tup [v])) := Stp.new nq2 _
      have h5 : SqT K (upd H4 q2 (.tup [v])) q2 [v] := SqT.of upd_same
      have r5 : RvL K [b] (upd H4 q2 (.tup [v])) [v] [d] := .cons (rv4.up S5) .nil
      generalize upd H4 q2 (.tup [v]) = H5 at *
      have S35 := S4.trans S5.nil
      refine Pv.catT (sqt_stp S35 (Pv.bag_ls B3) h3) h5 (r3.stp S35 (Pv.bag_ls B3)) r5 (by simp; omega) fun q3 z3 H6 S6 h6 r6 => ?_
      have S26 : Stp [b] H2 H6 := (S3.nil.trans S35).trans S6.nil
      refine ⟨_, rfl, _, rfl, _, rfl, nopart (Pv.fromT (sqt_stp S26 (Pv.bag_ls B2) hs2) (rv2.stp S26 (Pv.bag_ls B2)) fun q4 z4 H7 S7 h7 r7 => ?_)⟩
      refine Pv.catT (sqt_stp S7 Lsts.nil h6) h7 (r6.up S7) r7 (by simp; omega) fun q5 z5 H8 S8 h8 r8 => ?_
      have S48 := ((S5.trans S6).trans S7).trans S8
      refine k _ _ _ ?_ ?_ (S2.trans (((S26.trans S7.nil).trans S8.nil))) ((B4.kp S48 nn).mono (by omega)) (.tup h8 (by rw [r8.len]; simp; omega) r8)
      · exact spn_odd (a := d) (l := (ps.map prV).take e) (r := (ps.map prV).drop e) (oddp_no hd) (by simp)
      · show _ ≤ 5000
        simp
        omega
    refine ⟨_, rfl, _, _, rfl, rfl, _, rfl, ite2 (fun h => ?_) (fun h => ?_)⟩
    · refine ⟨_, rfl, _, rfl, b, a, _, ps, rfl, sp2, few, B2, by omega, fun v d H3 n3 m3 S3 B3 r3 => ?_⟩
      exact k v d H3 n3 m3 (S2.trans S3) (B3.mono (by omega)) r3
    have k : ∀ v d H', d ∈ odds TX.C_InvalidSpan w ps → Stp [b] H2 H' → Bag H' b (n + 3) → Rv K [b] H' v d → Q v H' := fun v d H' m S' B' r => k v d H' (odds_no m).1 (odds_no m).2 (S2.trans S') (B'.mono (by omega)) r
    have B := B2
    have rw : Rv K [b] H2 (Tx w) (.str w) := .str w (by omega)
    have rz : Rv K [b] H2 (.ref a) (spanD ps) := Spn.rv sp2
    dsimp only [tNext]
    have ls0 := Pv.bag_ls B
    have rw_0 := rw
    have rz_0 := rz
    refine asg_name ?_
    refine' Pv.EvDA.newl (K := K) (S := [b]) (ds := odds0 TX.C_InvalidSpan w ps) ?e0 ?l0 ?k0
    case e0 => unfold odds0; (repeat' first | exact Pv.EvDA.nil | apply Pv.EvDA.cons | exact Pv.EvD.bl | exact Pv.EvD.int | exact Pv.EvD.non | exact Pv.EvD.str | exact Pv.EvD.var (rw_0) | exact Pv.EvD.var (rz_0) | (refine Pv.EvD.cat ?_ ?_ (by first | exact Pv.catle hw (by decide +kernel) | exact Pv.catle' (by decide +kernel) hw)) | apply Pv.EvD.tup | apply Pv.EvD.lst ls0 | apply Pv.EvD.exc TX.cl_InvalidSpan.ok | exact Pv.EvD.pow ⟨by decide, by decide, by decide⟩ | apply Pv.EvD.neg | (simp; done))
    case l0 => rw [odds0_len]; decide
    case k0 =>
    intro L0 vs0 H0 E0 n0 h0 r0
    have ls1 := Pg.Lsts.stp ls0 E0
    have rw_1 := rw.up E0
    have rz_1 := rz.up E0
    refine asg_name ?_
    refine op_var rfl ?_
    refine' Pv.EvDA.newl (K := K) (S := [b]) (ds := odds1 TX.C_InvalidSpan w ps) ?e1 ?l1 ?k1
    case e1 => unfold odds1; (repeat' first | exact Pv.EvDA.nil | apply Pv.EvDA.cons | exact Pv.EvD.bl | exact Pv.EvD.int | exact Pv.EvD.non | exact Pv.EvD.str | exact Pv.EvD.var (rw_1) | exact Pv.EvD.var (rz_1) | (refine Pv.EvD.cat ?_ ?_ (by first | exact Pv.catle hw (by decide +kernel) | exact Pv.catle' (by decide +kernel) hw)) | apply Pv.EvD.tup | apply Pv.EvD.lst ls1 | apply Pv.EvD.exc TX.cl_InvalidSpan.ok | exact Pv.EvD.pow ⟨by decide, by decide, by decide⟩ | apply Pv.EvD.neg | (simp; done))
    case l1 => rw [odds1_len]; decide
    case k1 =>
    intro M1 ws1 G1 T1 m1 g1 q1
    refine cat_use (T1.kp _ _ (fun m => nomatch m) h0) g1 (r0.up T1) q1 (by simp [odds0_len, odds1_len]) fun L1 n1 H1 vs1 F1 h1 r1 => ?_
    have E1 := (E0.trans T1).trans F1
    have B1 := B.kp E1 (fun m => nomatch m)
    refine ⟨_, rfl, _, rfl, _, rfl, L1, _, rfl, .inl (SqL.of h1), b, _, _, rfl, B1, by omega, ?_, ?_, fun d H1 d0 d1 o1 B2 => ?_⟩
    · rw [r1.len, show (odds0 TX.C_InvalidSpan w ps ++ odds1 TX.C_InvalidSpan w ps).length = 22 from rfl]; exact (by decide : (0 : Int) < ((22 : Nat) : Int))
    · rw [r1.len, show (odds0 TX.C_InvalidSpan w ps ++ odds1 TX.C_InvalidSpan w ps).length = 22 from rfl]; exact (by decide : ((22 : Nat) : Int) < 2 ^ 30)
    · rw [r1.len] at d1
      have S1 := o1.stp (List.mem_singleton.mpr rfl : b ∈ [b])
      have nLb : L1 ∉ [b] := fun m => by
        obtain ⟨x, y, z, hb, _⟩ := B1
        rw [List.mem_singleton.mp m, hb] at h1
        injection h1 with h
        injection h with h
        have := r1.len
        rw [← h, show (odds0 TX.C_InvalidSpan w ps ++ odds1 TX.C_InvalidSpan w ps).length = 22 from rfl] at this
        exact absurd this (by decide : ¬ 3 = 22)
      obtain ⟨v, e, me, re, ev⟩ := (r1.stp S1 (Pv.bag_ls B1)).pick d0 d1
      exact ⟨L1, _, d, v, rfl, rfl, SqL.of (S1.kp _ _ nLb h1), ev, k v e H1 me (E1.nil.trans S1) B2 re⟩
end Sx
abbrev s__law_odd_text : Stmt := topS 52
abbrev N__law_odd_text : List Str := ["bag", "word", "at", "every", "wrong", "odd"]
theorem sc__law_odd_text : FnScope ["bag", "word", "at", "every", "wrong", "odd"] ["bag", "word"] (defScope s__law_odd_text) := ⟨rfl, rfl, rfl, by decide +kernel, rfl, by decide +kernel, by decide +kernel⟩

/-! ### values that are no texts -/
theorem foldl_app_flat : ∀ (n : Nat) (l : List Nat) (acc : Array Nat), (List.replicate n l.toArray).foldl (· ++ ·) acc = acc ++ ((List.replicate n l).flatten).toArray
  | 0, l, acc => by simp
  | n + 1, l, acc => by
    rw [List.replicate_succ, List.foldl_cons, foldl_app_flat n, List.replicate_succ]
    apply Array.ext'
    simp
theorem mul_flat {l : List Nat} (hl : l ≠ []) (n : Int) : Txt.mul (tx l) n = tx ((List.replicate n.toNat l).flatten) := by
  unfold Txt.mul
  by_cases h : n < 1
  · rw [if_pos h, show n.toNat = 0 by omega]
    rfl
  · rw [if_neg h]
    by_cases h1 : n = 1
    · subst h1
      rw [if_pos (by simp)]
      simp
    · rw [if_neg (by simp [h1, Str.length, hl])]
      show (⟨(List.replicate n.toNat l.toArray).foldl (· ++ ·) #[]⟩ : Str) = _
      rw [foldl_app_flat]
      simp [tx]
theorem EvD.mul {K : PySem.W.Frag} {σ : L2.St} {H : Hp} {s : Str} {l : List Nat} {n : Int} (e : s = tx l) (hl : l ≠ []) (ok : MulOk (tx l) n) (len : ((List.replicate n.toNat l).flatten).length ≤ 100000) : EvD K (tOp (fun x y H Q => ∃ i j, x = .str i ∧ y = .int j ∧ MulOk i j ∧ Q (.str (Txt.mul i j)) H) (tC (.str s)) (tC (.int n))) σ H (.str ((List.replicate n.toNat l).flatten)) := fun H1 s Q k => by
  subst e
  refine ⟨tx l, n, rfl, rfl, ok, ?_⟩
  rw [mul_flat hl]
  exact k _ _ (Stp.refl _ _) (.str _ len)
theorem EvD.upper {K : PySem.W.Frag} {σ : L2.St} {H : Hp} {te : TE} {a : List Nat} (h : EvD K te σ H (.str a)) (hl : a.length ≤ 1000) : EvD K (tM0 (fun x xs H Q => ∃ a, x = .str a ∧ xs = [] ∧ a.length ≤ 5592405 ∧ Q (.str (Txt.upper a)) H) te) σ H (.str (Txt.upper (tx a)).cps.toList) := fun H1 s Q k =>
  h H1 s _ fun v H2 s2 r => by
    cases r with
    | str _ h1 =>
      refine ⟨⟨_, rfl⟩, tx a, rfl, rfl, by rw [tx_len]; omega, k _ _ s2 (Rp.lit _ ?_)⟩
      have := PyProof.Rows.len_upper (tx a)
      have t := tx_len a
      have e : (Txt.upper (tx a)).cps.toList.length = (Txt.upper (tx a)).length := by simp [Str.length]
      omega
theorem EvQ.upper {K : PySem.W.Frag} {σ : L2.St} {H : Hp} {te : TE} {a : List Nat} (h : Pg.EvQ K te σ H (.str a)) (hl : a.length ≤ 1000) : Pg.EvQ K (tM0 (fun x xs H Q => ∃ a, x = .str a ∧ xs = [] ∧ a.length ≤ 5592405 ∧ Q (.str (Txt.upper a)) H) te) σ H (.str (Txt.upper (tx a)).cps.toList) := Pg.EvQ.of (EvD.upper h.rp hl)
theorem bad_mem {l : List Nat} {c : Nat} (m : c ∈ l) (h : ¬ (c = 97 ∨ c = 98 ∨ c = 99)) : ¬ IsTx (.str l) := fun ⟨l', e, a⟩ => by
  cases e
  exact h (a c m)
theorem bad_str (l : List Nat) {s : Str} {c : Nat} (m : c ∈ s.cps.toList) (h : ¬ (c = 97 ∨ c = 98 ∨ c = 99)) : ¬ IsTx (.str (l ++ s.cps.toList)) := bad_mem (List.mem_append_right _ m) h
theorem bad_pre (l : List Nat) {s : Str} {c : Nat} (m : c ∈ s.cps.toList) (h : ¬ (c = 97 ∨ c = 98 ∨ c = 99)) : ¬ IsTx (.str (s.cps.toList ++ l)) := bad_mem (List.mem_append_left _ m) h
def everyL : List Nat := [32, 33, 34, 35, 36, 38, 39, 40, 41, 42, 43, 44, 45, 46, 47, 48, 49, 50, 51, 52, 53, 54, 55, 56, 57, 58, 59, 60, 61, 62, 63, 64] ++ [65, 66, 67, 68, 69, 70, 71, 72, 73, 74, 75, 76, 77, 78, 79, 80, 81, 82, 83, 84, 85, 86, 87, 88, 89, 90, 91, 92, 93, 94, 95, 96] ++ [100, 101, 102, 103, 104, 105, 106, 107, 108, 109, 110, 111, 112, 113, 114, 115, 116, 117, 118, 119, 120, 121, 122, 123, 124, 125, 126, 10]
theorem every_bad : ∀ c ∈ everyL, ¬ (c = 97 ∨ c = 98 ∨ c = 99) := by decide
theorem no_tx {d : Dt} (h : ∀ l, d ≠ .str l) : ¬ IsTx d := fun ⟨l, e, _⟩ => h l e
theorem rpl_rep {K : PySem.W.Frag} {H : Hp} {v : V} {d : Dt} (r : Rp K H v d) : ∀ n : Nat, RpL K H (List.replicate n v) (List.replicate n d)
  | 0 => .nil
  | n + 1 => .cons r (rpl_rep r n)
theorem rep12 (v : V) : (List.replicate (12 : Int).toNat [v]).flatten = List.replicate 12 v := rfl
theorem flat_len (n : Nat) (l : List Nat) : ((List.replicate n l).flatten).length = n * l.length := by simp
theorem mo2000 : MulOk (tx [97, 98, 99]) 2000 := ⟨by decide, fun _ _ => by decide +kernel, fun _ _ => by decide +kernel⟩
theorem mo900 : MulOk (tx [97, 98, 99]) 900 := ⟨by decide, fun _ _ => by decide +kernel, fun _ _ => by decide +kernel⟩
theorem mo900' : MulOk (tx [99, 98, 97]) 900 := ⟨by decide, fun _ _ => by decide +kernel, fun _ _ => by decide +kernel⟩
theorem cba_lit : ("cba" : Str) = tx [99, 98, 97] := by decide +kernel
theorem up_len {l : List Nat} (h : l.length ≤ 12) : (Txt.upper (tx l)).cps.toList.length + ("A" : Str).cps.toList.length ≤ 100000 := by
  have := PyProof.Rows.len_upper (tx l)
  have t := tx_len l
  have e : (Txt.upper (tx l)).cps.toList.length = (Txt.upper (tx l)).length := by simp [Str.length]
  have e2 : ("A" : Str).cps.toList.length = 1 := by decide +kernel
  omega
theorem big900 : ((List.replicate (900 : Int).toNat [97, 98, 99]).flatten ++ ("C" : Str).cps.toList).length + ((List.replicate (900 : Int).toNat [99, 98, 97]).flatten).length ≤ 100000 := by
  rw [List.length_append, flat_len, flat_len]
  decide +kernel
theorem sp_len {l : List Nat} (h : l.length ≤ 12) : (" " : Str).cps.toList.length + l.length ≤ 100000 := by
  have e2 : (" " : Str).cps.toList.length = 1 := by decide +kernel
  omega
theorem nl_len {l : List Nat} (h : l.length ≤ 12) : l.length + ("\n" : Str).cps.toList.length ≤ 100000 := by
  have e2 : ("\n" : Str).cps.toList.length = 1 := by decide +kernel
  omega
def spOddT (K : PySem.W.Frag) : Sp := fun vs H Q _ => ∃ (b : Addr) (n : Nat) (l : List Nat), vs = [.ref b, Tx l] ∧ Bag H b n ∧ n + 10 < 2 ^ 30 ∧ Abc l ∧ l.length ≤ 12 ∧
  ∀ v d H', Rq K H' v d → ¬ IsTx d → d ≠ .non → Stp [b] H H' → Bag H' b (n + 3) → Q v H'
theorem cl__law_odd_text {f : Addr} {fd : FuncData} (D : Df K mg "_law_odd_text" s__law_odd_text ["bag", "word"] f fd) (T : Nm mg) (TX : Er K mg) (c__law_draw : Cl P w K mg base 1 "_law_draw" s__law_draw ["bag", "upto"] spDraw) : Cl P w K mg base 2 "_law_odd_text" s__law_odd_text ["bag", "word"] (spOddT K) := by
  refine D.cl sc__law_odd_text (fun vs H Q E h => ?_) (fun cdv A outer s H vs Q E hr h => ?_)
  · obtain ⟨b, n, l, rfl, _⟩ := h
    rfl
  · obtain ⟨b, n, l, rfl, B, hn, ha, hl, k⟩ := h
    refine ⟨_, (pss_cons (ps_set (i := 2) sc__law_odd_text.nd rfl (by first | exact Or.inl rfl | exact Or.inr rfl) (pe_cl c__law_draw hr (by omega) (pa_cons (pv 0) (pa_cons (pe_op op_add (pe_callB call_len_str (by rfl) T.n_len (by decide +kernel) (pa_cons (pv 1) pa_nil)) pe_int) pa_nil))))
      (pss_cons (ps_set (i := 3) sc__law_odd_text.nd rfl (by first | exact Or.inl rfl | exact Or.inr rfl) (pe_op op_add_str pe_str pe_str))
      (pss_cons (ps_set (i := 3) sc__law_odd_text.nd rfl (by first | exact Or.inl rfl | exact Or.inr rfl) (pe_op op_add_str (pv 3) pe_str))
      (pss_cons (ps_set (i := 4) sc__law_odd_text.nd rfl (by first | exact Or.inl rfl | exact Or.inr rfl) (pe_op op_add_str (pe_op op_add_str (pe_slice sl_str (pv 1) po_none (po_some (pv 2))) (pe_ix ix_str (pv 3) (pe_cl c__law_draw hr (by omega) (pa_cons (pv 0) (pa_cons (pe_callB call_len_str (by rfl) T.n_len (by decide +kernel) (pa_cons (pv 3) pa_nil)) pa_nil))) (fun _ _ => rfl))) (pe_slice sl_str (pv 1) (po_some (pv 2)) po_none)))
      (pss_cons (ps_set (i := 5) sc__law_odd_text.nd rfl (by first | exact Or.inl rfl | exact Or.inr rfl) (pe_lst (pa_cons pe_bl (pa_cons pe_bl (pa_cons pe_int (pa_cons pe_int (pa_cons (pe_un un_neg pe_int) (pa_cons (pe_op op_pow pe_int pe_int) (pa_cons (pe_lst pa_nil) (pa_cons (pe_tup pa_nil) (pa_cons (pe_lst (pa_cons (pv 1) pa_nil)) (pa_cons (pe_tup (pa_cons (pv 1) pa_nil)) (pa_cons (pe_tup (pa_cons (pe_tup (pa_cons (pv 1) (pa_cons pe_non pa_nil))) pa_nil)) (pa_cons (pe_tup (pa_cons pe_str (pa_cons (pv 1) pa_nil))) (pa_cons (pe_lst (pa_cons pe_non pa_nil)) pa_nil)))))))))))))))
      (pss_cons (ps_set (i := 5) sc__law_odd_text.nd rfl (by first | exact Or.inl rfl | exact Or.inr rfl) (pe_op op_cat (pe_op op_cat (pv 5) (pe_op op_rep (pe_lst (pa_cons (pv 4) pa_nil)) pe_int)) (pe_lst (pa_cons (pe_op op_add_str (pv 1) pe_str) (pa_cons (pe_op op_add_str pe_str (pv 1)) (pa_cons (pe_op op_add_str (pe_upper (pv 1)) pe_str) pa_nil))))))
      (pss_cons (ps_set (i := 5) sc__law_odd_text.nd rfl (by first | exact Or.inl rfl | exact Or.inr rfl) (pe_op op_cat (pv 5) (pe_lst (pa_cons (pe_op op_add_str (pe_op Pg.op_mul_str pe_str pe_int) pe_str) (pa_cons (pe_op op_add_str pe_str (pe_op Pg.op_mul_str pe_str pe_int)) (pa_cons (pe_op op_add_str (pe_op op_add_str (pe_op Pg.op_mul_str pe_str pe_int) pe_str) (pe_op Pg.op_mul_str pe_str pe_int)) (pa_cons (pe_exc1 PySem.F.excBase_ValueError TX.x_InvalidText TX.g_InvalidText TX.k_InvalidText rfl (pv 1)) pa_nil)))))))
      (pss_one (ps_ret (pe_ix ix_list (pv 5) (pe_cl c__law_draw hr (by omega) (pa_cons (pv 0) (pa_cons (pe_callB call_len_seq (by rfl) T.n_len (by decide +kernel) (pa_cons (pv 5) pa_nil)) pa_nil))) (fun _ _ => rfl))))))))))), ?_⟩
    have one : b ∈ [b] := List.mem_singleton.mpr rfl
    have len1 : (1 : Nat) ≤ sizeLine := by decide
    refine ⟨_, rfl, _, rfl, tx l, rfl, szt (by omega), _, _, rfl, rfl, b, _, n, rfl, B, by omega, by rw [tx_len]; omega, by rw [tx_len]; omega, fun at0 H1 a0 a1 o1 B1 => ?_⟩
    have S1 : Stp [b] H H1 := o1.stp one
    obtain ⟨k0, rfl⟩ := Int.eq_ofNat_of_zero_le a0
    refine ⟨_, _, rfl, rfl, by decide +kernel, ?_⟩
    refine ⟨_, rfl, _, _, rfl, rfl, by decide +kernel, ?_⟩
    obtain ⟨ev, eev⟩ : ∃ ev : Str, ev = " !\"#$&'()*+,-./0123456789:;<=>?@" ++ "ABCDEFGHIJKLMNOPQRSTUVWXYZ[\\]^_`" ++ "defghijklmnopqrstuvwxyz{|}~\n" := ⟨_, rfl⟩
    rw [← eev]
    have ev9 : ev = tx everyL := by rw [eev]; decide +kernel
    clear eev
    subst ev9
    -- wrong
    refine ⟨_, rfl, _, rfl, (k0 : Int), rfl, tx l, rfl, szt (by omega), ?_⟩
    rw [show cutS (tx l) none (some (k0 : Int)) = _ from tx_upto l k0]
    have le : everyL.length = 92 := by decide
    refine ⟨_, rfl, _, rfl, _, rfl, tx everyL, rfl, szt (by decide), b, _, n + 1, rfl, B1, by omega, by rw [tx_len, le]; decide, by rw [tx_len, le]; decide, fun e H2 e0 e1 o2 B2 => ?_⟩
    have S2 : Stp [b] H1 H2 := o2.stp one
    obtain ⟨c, mc, ec⟩ := pick (xs := everyL) e0 (by rw [tx_len] at e1; exact e1)
    have cb := every_bad c mc
    refine ⟨tx everyL, e, c, rfl, rfl, szt (by decide), ec, ?_⟩
    have lk : (l.take k0).length ≤ 12 := by rw [List.length_take]; omega
    refine ⟨tx (l.take k0), tx [c], rfl, rfl, by rw [tx_len, tx_len]; exact sz (by simp; omega), ?_⟩
    refine ⟨_, rfl, _, rfl, (k0 : Int), rfl, tx l, rfl, szt (by omega), ?_⟩
    rw [show cutS (tx l) (some (k0 : Int)) none = _ from tx_from l k0]
    have ld : (l.drop k0).length ≤ 12 := by rw [List.length_drop]; omega
    refine ⟨tx (l.take k0 ++ [c]), tx (l.drop k0), congrArg V.str (tx_app _ _), rfl, by rw [tx_len, tx_len]; exact sz (by simp; omega), ?_⟩
    obtain ⟨wr, ewr⟩ : ∃ wr, wr = l.take k0 ++ [c] ++ l.drop k0 := ⟨_, rfl⟩
    have wbad : ¬ IsTx (.str wr) := bad_mem (c := c) (by rw [ewr]; simp) cb
    have wl : wr.length ≤ 100 := by rw [ewr]; simp; omega
    rw [show tx (l.take k0 ++ [c]) ++ tx (l.drop k0) = tx wr by rw [ewr]; exact tx_app _ _]
    clear ewr
    have S02 := S1.trans S2
    have lb : Lsts H [b] := Pv.bag_ls B
    have rw0 : ∀ {Hx : Hp}, Rq K Hx (Tx l) (.str l) := fun {_} => .of (.str l (by omega)) (fun e => nomatch e) (fun e => nomatch e)
    have rwr : ∀ {Hx : Hp}, Rq K Hx (Tx wr) (.str wr) := fun {_} => .of (.str wr (by omega)) (fun e => nomatch e) (fun e => nomatch e)
    -- the first
    dsimp only [gName]
    refine asg_name ?_
    refine' Pg.EvQA.newl (K := K) ?e0 ?l0 ?k0
    case e0 => (repeat' first | exact Pg.EvQA.nil | apply Pg.EvQA.cons | exact Pg.EvQ.bl | exact Pg.EvQ.int | exact Pg.EvQ.non | exact Pg.EvQ.str | exact Pg.EvQ.var rw0 | apply Pg.EvQ.tup | apply Pg.EvQ.lst | apply Pg.EvQ.exc TX.cl_InvalidText.ok | exact Pg.EvQ.pow ⟨by decide, by decide, by decide⟩ | apply Pg.EvQ.neg | (simp; done))
    case l0 => simp
    case k0 =>
    intro L0 vs0 H3 S3 n3 h3 r3
    -- wrong, twelve times
    refine asg_name ?_
    refine op_var rfl ?_
    refine ⟨_, rfl, len1, fun p1 n1 => ?_⟩
    have S4 : Stp [] H3 (upd H3 p1 (.lst [Tx wr])) := Stp.new n1 _
    have h4 : (upd H3 p1 (.lst [Tx wr])) p1 = some (.lst [Tx wr]) := upd_same
    generalize upd H3 p1 (.lst [Tx wr]) = H4 at *
    refine ⟨p1, 12, _, rfl, rfl, h4, by decide, by decide, (by show 1 * 12 ≤ sizeLine; decide), fun p2 n2 => ?_⟩
    rw [rep12]
    have S5 : Stp [] H4 (upd H4 p2 (.lst (List.replicate 12 (Tx wr)))) := Stp.new n2 _
    have h5 : (upd H4 p2 (.lst (List.replicate 12 (Tx wr)))) p2 = some (.lst (List.replicate 12 (Tx wr))) := upd_same
    generalize upd H4 p2 (.lst (List.replicate 12 (Tx wr))) = H5 at *
    have S35 := S4.trans S5
    refine ⟨L0, p2, _, _, rfl, rfl, S35.kp _ _ (fun m => nomatch m) h3, h5, ?z1, fun L1 m1 => ?_⟩
    case z1 => rw [r3.len, List.length_replicate]; exact sz (by simp)
    have q5 := r3.stp S35 Lsts.nil
    have q6 := (q5.app (RqL.rep (rwr (Hx := H5)) 12)).stp (Stp.new (o := .lst (vs0 ++ List.replicate 12 (Tx wr))) m1 []) Lsts.nil
    have S6 : Stp [] H5 (upd H5 L1 (.lst (vs0 ++ List.replicate 12 (Tx wr)))) := Stp.new m1 _
    have h6 : (upd H5 L1 (.lst (vs0 ++ List.replicate 12 (Tx wr)))) L1 = some (.lst (vs0 ++ List.replicate 12 (Tx wr))) := upd_same
    generalize vs0 ++ List.replicate 12 (Tx wr) = vs1 at *
    generalize upd H5 L1 (.lst vs1) = H6 at *
    refine' Pg.EvQA.newl (K := K) ?e2 ?l2 ?k2
    case e2 => (repeat' first | exact Pg.EvQA.nil | apply Pg.EvQA.cons | exact Pg.EvQ.bl | exact Pg.EvQ.int | exact Pg.EvQ.non | exact Pg.EvQ.str | exact Pg.EvQ.var rw0 | apply Pg.EvQ.tup | apply Pg.EvQ.lst | apply Pg.EvQ.exc TX.cl_InvalidText.ok | apply Pg.EvQ.cat | apply EvQ.upper | exact up_len hl | exact sp_len hl | exact nl_len hl | exact Nat.le_trans hl (by decide) | (simp; done) | (simp; omega))
    case l2 => simp
    case k2 =>
    intro M2 ws2 H7 S7 n7 h7 r7
    refine ⟨L1, M2, _, _, rfl, rfl, S7.kp _ _ (fun m => nomatch m) h6, h7, ?z3, fun L3 m3 => ?_⟩
    case z3 => rw [q6.len, r7.len]; exact sz (by simp)
    have q8 := ((q6.stp S7 Lsts.nil).app r7).stp (Stp.new (o := .lst (vs1 ++ ws2)) m3 []) Lsts.nil
    have S8 : Stp [] H7 (upd H7 L3 (.lst (vs1 ++ ws2))) := Stp.new m3 _
    have h8 : (upd H7 L3 (.lst (vs1 ++ ws2))) L3 = some (.lst (vs1 ++ ws2)) := upd_same
    generalize vs1 ++ ws2 = vs2 at *
    generalize upd H7 L3 (.lst vs2) = H8 at *
    -- the last
    refine asg_name ?_
    refine op_var rfl ?_
    refine' Pg.EvQA.newl (K := K) ?e4 ?l4 ?k4
    case e4 => (repeat' first | exact Pg.EvQA.nil | apply Pg.EvQA.cons | refine Pg.EvQ.of (EvD.mul abc_lit (by simp) mo2000 (by rw [flat_len]; decide)) | refine Pg.EvQ.of (EvD.mul abc_lit (by simp) mo900 (by rw [flat_len]; decide)) | refine Pg.EvQ.of (EvD.mul cba_lit (by simp) mo900' (by rw [flat_len]; decide)) | exact Pg.EvQ.str | exact Pg.EvQ.var rw0 | apply Pg.EvQ.exc TX.cl_InvalidText.ok | apply Pg.EvQ.cat | exact big900 | (rw [flat_len]; decide +kernel))
    case l4 => simp
    case k4 =>
    intro M4 ws4 H9 S9 n9 h9 r9
    refine ⟨L3, M4, _, _, rfl, rfl, S9.kp _ _ (fun m => nomatch m) h8, h9, ?z5, fun L5 m5 => ?_⟩
    case z5 => rw [q8.len, r9.len]; exact sz (by simp)
    have q10 := ((q8.stp S9 Lsts.nil).app r9).stp (Stp.new (o := .lst (vs2 ++ ws4)) m5 []) Lsts.nil
    have S10 : Stp [] H9 (upd H9 L5 (.lst (vs2 ++ ws4))) := Stp.new m5 _
    have h10 : (upd H9 L5 (.lst (vs2 ++ ws4))) L5 = some (.lst (vs2 ++ ws4)) := upd_same
    have S29 := (((S3.trans S35).trans S6).trans S7).trans (S8.trans S9)
    have nb5 : b ≠ L5 := (B2.kp S29 (fun m => nomatch m)).ne m5
    have S210 := S29.trans S10
    generalize vs2 ++ ws4 = vs3 at *
    generalize upd H9 L5 (.lst vs3) = H10 at *
    have B10 := B2.kp S210 (fun m => nomatch m)
    clear q5 q6 q8 r3 r7 r9
    refine ⟨_, rfl, _, rfl, _, rfl, L5, vs3, rfl, .inl (SqL.of h10), b, _, _, rfl, B10, by omega, ?_, ?_, fun g H11 g0 g1 o3 B11 => ?_⟩
    · rw [q10.len]
      simp
    · rw [q10.len]
      simp
    have S11 : Stp [b] H10 H11 := o3.stp one
    have lb10 : Lsts H10 [b] := Pv.bag_ls B10
    have nLb : L5 ∉ [b] := fun m => nb5 (List.mem_singleton.mp m).symm
    obtain ⟨j, rfl⟩ := Int.eq_ofNat_of_zero_le g0
    have hj : j < vs3.length := by omega
    obtain ⟨d', hd', rd'⟩ := q10.get (List.getElem?_eq_getElem hj)
    refine ⟨L5, vs3, (j : Int), vs3[j], rfl, rfl, SqL.of (S11.kp _ _ nLb h10), atI_nat (List.getElem?_eq_getElem hj), ?_⟩
    have dn : d' ≠ .non := fun e => by
      have md := List.mem_of_getElem? hd'
      rw [e] at md
      simp at md
    refine k _ d' H11 (rd'.draw S11 B10 B11) ?_ dn ((S02.trans S210.nil).trans S11) B11
    have md := List.mem_of_getElem? hd'
    clear q10 hd' rd'
    rcases List.mem_append.mp md with md | md
    · rcases List.mem_append.mp md with md | md
      · rcases List.mem_append.mp md with md | md
        · simp only [List.mem_cons, List.not_mem_nil, or_false] at md
          rcases md with rfl | rfl | rfl | rfl | rfl | rfl | rfl | rfl | rfl | rfl | rfl | rfl | rfl <;> exact no_tx fun l e => nomatch e
        · rw [(List.mem_replicate.mp md).2]
          exact wbad
      · simp only [List.mem_cons, List.not_mem_nil, or_false] at md
        rcases md with rfl | rfl | rfl
        · exact bad_str _ (c := 10) (by decide +kernel) (by decide)
        · exact bad_pre _ (c := 32) (by decide +kernel) (by decide)
        · exact bad_str _ (c := 65) (by decide +kernel) (by decide)
    · simp only [List.mem_cons, List.not_mem_nil, or_false] at md
      rcases md with rfl | rfl | rfl | rfl
      · exact bad_str _ (c := 100) (by decide +kernel) (by decide)
      · exact bad_pre _ (c := 100) (by decide +kernel) (by decide)
      · exact bad_mem (c := 67) (List.mem_append_left _ (List.mem_append_right _ (by decide +kernel))) (by decide)
      · exact no_tx fun l e => nomatch e
abbrev s__law_names : Stmt := topS 56
abbrev N__law_names : List Str := ["caught", "marks", "words", "k"]
theorem sc__law_names : FnScope ["caught", "marks", "words", "k"] ["caught"] (defScope s__law_names) := ⟨rfl, rfl, rfl, by decide +kernel, rfl, by decide +kernel, by decide +kernel⟩

/-! ### the name of an error -/
theorem call_isKK {X : Cx} {K : PySem.W.Frag} (hK : X.K = K) : CallR X (.builtin "isinstance") (rIsK K) := by
  subst hK
  exact call_isK
theorem rv_ref {a : Addr} : ∀ u, RelV (.ref a) u → u = .ref a := fun u r => by
  cases r
  rfl
theorem rv_ve : ∀ u, RelV (.ty "ValueError") u → u = .type "ValueError" := fun u r => by
  cases r
  rfl
/-- the class at D is the one at the place j0 -/
structure Kit (K : PySem.W.Frag) {mg : Str → Option Value} (TX : Er K mg) (D : Addr) (j0 : Nat) : Prop where
  lt : j0 < 16
  c : ExcC K D
  v : PySem.W.kitOne K (.ref D) (.type "ValueError") = some true
  i0 : PySem.W.kitOne K (.ref D) (.ref TX.C_InvalidText) = some (decide (j0 = 0))
  i1 : PySem.W.kitOne K (.ref D) (.ref TX.C_InvalidValue) = some (decide (j0 = 1))
  i2 : PySem.W.kitOne K (.ref D) (.ref TX.C_InvalidSpan) = some (decide (j0 = 2))
  i3 : PySem.W.kitOne K (.ref D) (.ref TX.C_InvalidFilter) = some (decide (j0 = 3))
  i4 : PySem.W.kitOne K (.ref D) (.ref TX.C_InvalidRule) = some (decide (j0 = 4))
  i5 : PySem.W.kitOne K (.ref D) (.ref TX.C_InvalidPage) = some (decide (j0 = 5))
  i6 : PySem.W.kitOne K (.ref D) (.ref TX.C_InvalidNote) = some (decide (j0 = 6))
  i7 : PySem.W.kitOne K (.ref D) (.ref TX.C_InvalidColumn) = some (decide (j0 = 7))
  i8 : PySem.W.kitOne K (.ref D) (.ref TX.C_InvalidIndex) = some (decide (j0 = 8))
  i9 : PySem.W.kitOne K (.ref D) (.ref TX.C_InvalidNumber) = some (decide (j0 = 9))
  i10 : PySem.W.kitOne K (.ref D) (.ref TX.C_InvalidCode) = some (decide (j0 = 10))
  i11 : PySem.W.kitOne K (.ref D) (.ref TX.C_NoBlock) = some (decide (j0 = 11))
  i12 : PySem.W.kitOne K (.ref D) (.ref TX.C_NothingToUndo) = some (decide (j0 = 12))
  i13 : PySem.W.kitOne K (.ref D) (.ref TX.C_Full) = some (decide (j0 = 13))
  i14 : PySem.W.kitOne K (.ref D) (.ref TX.C_InvalidCommand) = some (decide (j0 = 14))
  i15 : PySem.W.kitOne K (.ref D) (.ref TX.C_InvalidWords) = some (decide (j0 = 15))
def wordsV : List V := [.str "text", .str "value", .str "span", .str "filter", .str "rule", .str "page", .str "note", .str "column", .str "index", .str "number", .str "code", .str "block", .str "undo", .str "full", .str "command", .str "words", .str "error"]
def testV (j0 : Nat) : List V := [.bl (decide (j0 = 0)), .bl (decide (j0 = 1)), .bl (decide (j0 = 2)), .bl (decide (j0 = 3)), .bl (decide (j0 = 4)), .bl (decide (j0 = 5)), .bl (decide (j0 = 6)), .bl (decide (j0 = 7)), .bl (decide (j0 = 8)), .bl (decide (j0 = 9)), .bl (decide (j0 = 10)), .bl (decide (j0 = 11)), .bl (decide (j0 = 12)), .bl (decide (j0 = 13)), .bl (decide (j0 = 14)), .bl (decide (j0 = 15)), .bl true]
def wdV (i : Nat) : V := (wordsV[i]?).getD .non
def pjV (j0 i : Nat) : Bool := if i = 16 then true else decide (j0 = i)
def plV (p : Nat → Bool) (n : Nat) : List Nat := (List.range n).filter p
theorem plV_succ (p : Nat → Bool) (n : Nat) : plV p (n + 1) = plV p n ++ (if p n = true then [n] else []) := by
  unfold plV
  rw [List.range_succ, List.filter_append]
  cases q : p n <;> simp [q]
theorem plV_len (p : Nat → Bool) (n : Nat) : (plV p n).length ≤ n := by
  have := List.length_filter_le p (List.range n)
  rw [List.length_range] at this
  exact this
theorem test_at {j0 : Nat} : ∀ {i : Nat}, i < 17 → (testV j0)[i]? = some (.bl (pjV j0 i)) ∧ wordsV[i]? = some (wdV i)
  | 0, _ => ⟨rfl, rfl⟩
  | 1, _ => ⟨rfl, rfl⟩
  | 2, _ => ⟨rfl, rfl⟩
  | 3, _ => ⟨rfl, rfl⟩
  | 4, _ => ⟨rfl, rfl⟩
  | 5, _ => ⟨rfl, rfl⟩
  | 6, _ => ⟨rfl, rfl⟩
  | 7, _ => ⟨rfl, rfl⟩
  | 8, _ => ⟨rfl, rfl⟩
  | 9, _ => ⟨rfl, rfl⟩
  | 10, _ => ⟨rfl, rfl⟩
  | 11, _ => ⟨rfl, rfl⟩
  | 12, _ => ⟨rfl, rfl⟩
  | 13, _ => ⟨rfl, rfl⟩
  | 14, _ => ⟨rfl, rfl⟩
  | 15, _ => ⟨rfl, rfl⟩
  | 16, _ => ⟨rfl, rfl⟩
  | n + 17, h => absurd h (by omega)
theorem names_at : ∀ {j0 : Nat}, j0 < 16 → (plV (pjV j0) 17).map wdV = [wdV j0, .str "error"]
  | 0, _ => rfl
  | 1, _ => rfl
  | 2, _ => rfl
  | 3, _ => rfl
  | 4, _ => rfl
  | 5, _ => rfl
  | 6, _ => rfl
  | 7, _ => rfl
  | 8, _ => rfl
  | 9, _ => rfl
  | 10, _ => rfl
  | 11, _ => rfl
  | 12, _ => rfl
  | 13, _ => rfl
  | 14, _ => rfl
  | 15, _ => rfl
  | n + 16, h => absurd h (by omega)
def spNames (K : PySem.W.Frag) {mg : Str → Option Value} (TX : Er K mg) : Sp := fun vs H Q _ => ∃ (a D : Addr) (j0 : Nat), vs = [.ref a] ∧ Kit K TX D j0 ∧ H a = some (ExK (.ref D) a) ∧ ∀ L H', Stp [] H H' → H' L = some (.lst [wdV j0, .str "error"]) → Q (.ref L) H'
theorem cl__law_names {f : Addr} {fd : FuncData} (D : Df K mg "_law_names" s__law_names ["caught"] f fd) (T : Nm mg) (TX : Er K mg) : Cl P w K mg base 1 "_law_names" s__law_names ["caught"] (spNames K TX) := by
  refine D.cl sc__law_names (fun vs H Q E h => ?_) (fun cdv A outer s H vs Q E hr h => ?_)
  · obtain ⟨a, _, _, rfl, _⟩ := h
    rfl
  · obtain ⟨a, D0, j0, rfl, kt, ha, k⟩ := h
    refine ⟨_, (pss_cons (ps_set (i := 1) sc__law_names.nd rfl (by first | exact Or.inl rfl | exact Or.inr rfl) (pe_lst (pa_cons (pe_callB call_isK (by rfl) T.n_isinstance (by decide +kernel) (pa_cons (pv 0) (pa_cons (pe_glob (v := .ref TX.C_InvalidText) rfl TX.g_InvalidText rfl) pa_nil))) (pa_cons (pe_callB call_isK (by rfl) T.n_isinstance (by decide +kernel) (pa_cons (pv 0) (pa_cons (pe_glob (v := .ref TX.C_InvalidValue) rfl TX.g_InvalidValue rfl) pa_nil))) pa_nil))))
      (pss_cons (ps_set (i := 1) sc__law_names.nd rfl (by first | exact Or.inl rfl | exact Or.inr rfl) (pe_op op_cat (pv 1) (pe_lst (pa_cons (pe_callB call_isK (by rfl) T.n_isinstance (by decide +kernel) (pa_cons (pv 0) (pa_cons (pe_glob (v := .ref TX.C_InvalidSpan) rfl TX.g_InvalidSpan rfl) pa_nil))) (pa_cons (pe_callB call_isK (by rfl) T.n_isinstance (by decide +kernel) (pa_cons (pv 0) (pa_cons (pe_glob (v := .ref TX.C_InvalidFilter) rfl TX.g_InvalidFilter rfl) pa_nil))) pa_nil)))))
      (pss_cons (ps_set (i := 1) sc__law_names.nd rfl (by first | exact Or.inl rfl | exact Or.inr rfl) (pe_op op_cat (pv 1) (pe_lst (pa_cons (pe_callB call_isK (by rfl) T.n_isinstance (by decide +kernel) (pa_cons (pv 0) (pa_cons (pe_glob (v := .ref TX.C_InvalidRule) rfl TX.g_InvalidRule rfl) pa_nil))) (pa_cons (pe_callB call_isK (by rfl) T.n_isinstance (by decide +kernel) (pa_cons (pv 0) (pa_cons (pe_glob (v := .ref TX.C_InvalidPage) rfl TX.g_InvalidPage rfl) pa_nil))) pa_nil)))))
      (pss_cons (ps_set (i := 1) sc__law_names.nd rfl (by first | exact Or.inl rfl | exact Or.inr rfl) (pe_op op_cat (pv 1) (pe_lst (pa_cons (pe_callB call_isK (by rfl) T.n_isinstance (by decide +kernel) (pa_cons (pv 0) (pa_cons (pe_glob (v := .ref TX.C_InvalidNote) rfl TX.g_InvalidNote rfl) pa_nil))) (pa_cons (pe_callB call_isK (by rfl) T.n_isinstance (by decide +kernel) (pa_cons (pv 0) (pa_cons (pe_glob (v := .ref TX.C_InvalidColumn) rfl TX.g_InvalidColumn rfl) pa_nil))) pa_nil)))))
      (pss_cons (ps_set (i := 1) sc__law_names.nd rfl (by first | exact Or.inl rfl | exact Or.inr rfl) (pe_op op_cat (pv 1) (pe_lst (pa_cons (pe_callB call_isK (by rfl) T.n_isinstance (by decide +kernel) (pa_cons (pv 0) (pa_cons (pe_glob (v := .ref TX.C_InvalidIndex) rfl TX.g_InvalidIndex rfl) pa_nil))) (pa_cons (pe_callB call_isK (by rfl) T.n_isinstance (by decide +kernel) (pa_cons (pv 0) (pa_cons (pe_glob (v := .ref TX.C_InvalidNumber) rfl TX.g_InvalidNumber rfl) pa_nil))) pa_nil)))))
      (pss_cons (ps_set (i := 1) sc__law_names.nd rfl (by first | exact Or.inl rfl | exact Or.inr rfl) (pe_op op_cat (pv 1) (pe_lst (pa_cons (pe_callB call_isK (by rfl) T.n_isinstance (by decide +kernel) (pa_cons (pv 0) (pa_cons (pe_glob (v := .ref TX.C_InvalidCode) rfl TX.g_InvalidCode rfl) pa_nil))) (pa_cons (pe_callB call_isK (by rfl) T.n_isinstance (by decide +kernel) (pa_cons (pv 0) (pa_cons (pe_glob (v := .ref TX.C_NoBlock) rfl TX.g_NoBlock rfl) pa_nil))) pa_nil)))))
      (pss_cons (ps_set (i := 1) sc__law_names.nd rfl (by first | exact Or.inl rfl | exact Or.inr rfl) (pe_op op_cat (pv 1) (pe_lst (pa_cons (pe_callB call_isK (by rfl) T.n_isinstance (by decide +kernel) (pa_cons (pv 0) (pa_cons (pe_glob (v := .ref TX.C_NothingToUndo) rfl TX.g_NothingToUndo rfl) pa_nil))) (pa_cons (pe_callB call_isK (by rfl) T.n_isinstance (by decide +kernel) (pa_cons (pv 0) (pa_cons (pe_glob (v := .ref TX.C_Full) rfl TX.g_Full rfl) pa_nil))) pa_nil)))))
      (pss_cons (ps_set (i := 1) sc__law_names.nd rfl (by first | exact Or.inl rfl | exact Or.inr rfl) (pe_op op_cat (pv 1) (pe_lst (pa_cons (pe_callB call_isK (by rfl) T.n_isinstance (by decide +kernel) (pa_cons (pv 0) (pa_cons (pe_glob (v := .ref TX.C_InvalidCommand) rfl TX.g_InvalidCommand rfl) pa_nil))) (pa_cons (pe_callB call_isK (by rfl) T.n_isinstance (by decide +kernel) (pa_cons (pv 0) (pa_cons (pe_glob (v := .ref TX.C_InvalidWords) rfl TX.g_InvalidWords rfl) pa_nil))) pa_nil)))))
      (pss_cons (ps_set (i := 2) sc__law_names.nd rfl (by first | exact Or.inl rfl | exact Or.inr rfl) (pe_lst (pa_cons pe_str (pa_cons pe_str (pa_cons pe_str (pa_cons pe_str (pa_cons pe_str (pa_cons pe_str (pa_cons pe_str (pa_cons pe_str (pa_cons pe_str (pa_cons pe_str (pa_cons pe_str pa_nil)))))))))))))
      (pss_cons (ps_set (i := 2) sc__law_names.nd rfl (by first | exact Or.inl rfl | exact Or.inr rfl) (pe_op op_cat (pv 2) (pe_lst (pa_cons pe_str (pa_cons pe_str (pa_cons pe_str (pa_cons pe_str (pa_cons pe_str (pa_cons pe_str pa_nil)))))))))
      (pss_one (ps_ret (pe_lc (own := [("k", 3)]) rfl sc__law_names.nd (pi_range1 (by rfl) T.n_range (pa_cons pe_int pa_nil)) (blkOk_by (own := [("k", 3)]) (N := N__law_names) (sc := defScope s__law_names) (by decide +kernel)) (fun _ _ _ _ _ => (pg_name (i := 3) sc__law_names.nd rfl (by first | exact Or.inl rfl | exact Or.inr rfl))) (fun _ _ _ _ _ => (pts_one (pt_val (pe_ix (ix_listK rfl) (pe_op op_cat (pv 1) (pe_lst (pa_cons (pe_callB (call_isKK rfl) (by rfl) T.n_isinstance (by decide +kernel) (pa_cons (pv 0) (pa_cons (pe_bltn (v := .ty "ValueError") (u := Value.type "ValueError") (by rfl) T.n_ValueError (by decide +kernel) rfl) pa_nil))) pa_nil))) (pv 3) (fun _ _ => rfl))))) (fun _ _ _ _ _ => (pe_ix (ix_listK rfl) (pv 2) (pv 3) (fun _ _ => rfl)))))))))))))))), ?_⟩
    have nn : ∀ {x : Addr}, x ∉ ([] : List Addr) := fun m => nomatch m
    have s17 : (17 : Nat) ≤ sizeLine := by decide
    have sz : ∀ {n : Nat}, n ≤ 17 → n ≤ sizeLine := fun h => Nat.le_trans h s17
    have cc := kt.c
    -- the first two
    refine ⟨_, rfl, a, _, _, _, _, rfl, cc, ha, rv_ref, kt.i0, ?_⟩
    refine ⟨_, rfl, a, _, _, _, _, rfl, cc, ha, rv_ref, kt.i1, sz (by simp), fun p0 n0 => ?_⟩
    have S0 : Stp [] H (upd H p0 (.lst [.bl (decide (j0 = 0)), .bl (decide (j0 = 1))])) := Stp.new n0 _
    have h0 : (upd H p0 (.lst [.bl (decide (j0 = 0)), .bl (decide (j0 = 1))])) p0 = some (.lst [.bl (decide (j0 = 0)), .bl (decide (j0 = 1))]) := upd_same
    have a0 := S0.kp _ _ nn ha
    generalize upd H p0 (.lst [.bl (decide (j0 = 0)), .bl (decide (j0 = 1))]) = H0 at *
    refine ⟨_, rfl, _, rfl, a, _, _, _, _, rfl, cc, a0, rv_ref, kt.i2, ?_⟩
    refine ⟨_, rfl, a, _, _, _, _, rfl, cc, a0, rv_ref, kt.i3, sz (by simp), fun q1 nq1 => ?_⟩
    have N1 : Stp [] H0 (upd H0 q1 (.lst [.bl (decide (j0 = 2)), .bl (decide (j0 = 3))])) := Stp.new nq1 _
    have e1 : (upd H0 q1 (.lst [.bl (decide (j0 = 2)), .bl (decide (j0 = 3))])) q1 = some (.lst [.bl (decide (j0 = 2)), .bl (decide (j0 = 3))]) := upd_same
    have g1 := N1.kp _ _ nn h0
    have b1 := N1.kp _ _ nn a0
    generalize upd H0 q1 (.lst [.bl (decide (j0 = 2)), .bl (decide (j0 = 3))]) = G1 at *
    refine ⟨p0, q1, _, _, rfl, rfl, g1, e1, sz (by simp), fun p1 n1 => ?_⟩
    have M1 : Stp [] G1 (upd G1 p1 (.lst ([.bl (decide (j0 = 0)), .bl (decide (j0 = 1))] ++ [V.bl (decide (j0 = 2)), V.bl (decide (j0 = 3))]))) := Stp.new n1 _
    have h1 : (upd G1 p1 (.lst ([.bl (decide (j0 = 0)), .bl (decide (j0 = 1))] ++ [V.bl (decide (j0 = 2)), V.bl (decide (j0 = 3))]))) p1 = some (.lst [.bl (decide (j0 = 0)), .bl (decide (j0 = 1)), .bl (decide (j0 = 2)), .bl (decide (j0 = 3))]) := upd_same
    have a1 := M1.kp _ _ nn b1
    have S1 := (S0.trans N1).trans M1
    generalize upd G1 p1 (.lst ([.bl (decide (j0 = 0)), .bl (decide (j0 = 1))] ++ [V.bl (decide (j0 = 2)), V.bl (decide (j0 = 3))])) = H1 at *
    refine ⟨_, rfl, _, rfl, a, _, _, _, _, rfl, cc, a1, rv_ref, kt.i4, ?_⟩
    refine ⟨_, rfl, a, _, _, _, _, rfl, cc, a1, rv_ref, kt.i5, sz (by simp), fun q2 nq2 => ?_⟩
    have N2 : Stp [] H1 (upd H1 q2 (.lst [.bl (decide (j0 = 4)), .bl (decide (j0 = 5))])) := Stp.new nq2 _
    have e2 : (upd H1 q2 (.lst [.bl (decide (j0 = 4)), .bl (decide (j0 = 5))])) q2 = some (.lst [.bl (decide (j0 = 4)), .bl (decide (j0 = 5))]) := upd_same
    have g2 := N2.kp _ _ nn h1
    have b2 := N2.kp _ _ nn a1
    generalize upd H1 q2 (.lst [.bl (decide (j0 = 4)), .bl (decide (j0 = 5))]) = G2 at *
    refine ⟨p1, q2, _, _, rfl, rfl, g2, e2, sz (by simp), fun p2 n2 => ?_⟩
    have M2 : Stp [] G2 (upd G2 p2 (.lst ([.bl (decide (j0 = 0)), .bl (decide (j0 = 1)), .bl (decide (j0 = 2)), .bl (decide (j0 = 3))] ++ [V.bl (decide (j0 = 4)), V.bl (decide (j0 = 5))]))) := Stp.new n2 _
    have h2 : (upd G2 p2 (.lst ([.bl (decide (j0 = 0)), .bl (decide (j0 = 1)), .bl (decide (j0 = 2)), .bl (decide (j0 = 3))] ++ [V.bl (decide (j0 = 4)), V.bl (decide (j0 = 5))]))) p2 = some (.lst [.bl (decide (j0 = 0)), .bl (decide (j0 = 1)), .bl (decide (j0 = 2)), .bl (decide (j0 = 3)), .bl (decide (j0 = 4)), .bl (decide (j0 = 5))]) := upd_same
    have a2 := M2.kp _ _ nn b2
    have S2 := (S1.trans N2).trans M2
    generalize upd G2 p2 (.lst ([.bl (decide (j0 = 0)), .bl (decide (j0 = 1)), .bl (decide (j0 = 2)), .bl (decide (j0 = 3))] ++ [V.bl (decide (j0 = 4)), V.bl (decide (j0 = 5))])) = H2 at *
    refine ⟨_, rfl, _, rfl, a, _, _, _, _, rfl, cc, a2, rv_ref, kt.i6, ?_⟩
    refine ⟨_, rfl, a, _, _, _, _, rfl, cc, a2, rv_ref, kt.i7, sz (by simp), fun q3 nq3 => ?_⟩
    have N3 : Stp [] H2 (upd H2 q3 (.lst [.bl (decide (j0 = 6)), .bl (decide (j0 = 7))])) := Stp.new nq3 _
    have e3 : (upd H2 q3 (.lst [.bl (decide (j0 = 6)), .bl (decide (j0 = 7))])) q3 = some (.lst [.bl (decide (j0 = 6)), .bl (decide (j0 = 7))]) := upd_same
    have g3 := N3.kp _ _ nn h2
    have b3 := N3.kp _ _ nn a2
    generalize upd H2 q3 (.lst [.bl (decide (j0 = 6)), .bl (decide (j0 = 7))]) = G3 at *
    refine ⟨p2, q3, _, _, rfl, rfl, g3, e3, sz (by simp), fun p3 n3 => ?_⟩
    have M3 : Stp [] G3 (upd G3 p3 (.lst ([.bl (decide (j0 = 0)), .bl (decide (j0 = 1)), .bl (decide (j0 = 2)), .bl (decide (j0 = 3)), .bl (decide (j0 = 4)), .bl (decide (j0 = 5))] ++ [V.bl (decide (j0 = 6)), V.bl (decide (j0 = 7))]))) := Stp.new n3 _
    have h3 : (upd G3 p3 (.lst ([.bl (decide (j0 = 0)), .bl (decide (j0 = 1)), .bl (decide (j0 = 2)), .bl (decide (j0 = 3)), .bl (decide (j0 = 4)), .bl (decide (j0 = 5))] ++ [V.bl (decide (j0 = 6)), V.bl (decide (j0 = 7))]))) p3 = some (.lst [.bl (decide (j0 = 0)), .bl (decide (j0 = 1)), .bl (decide (j0 = 2)), .bl (decide (j0 = 3)), .bl (decide (j0 = 4)), .bl (decide (j0 = 5)), .bl (decide (j0 = 6)), .bl (decide (j0 = 7))]) := upd_same
    have a3 := M3.kp _ _ nn b3
    have S3 := (S2.trans N3).trans M3
    generalize upd G3 p3 (.lst ([.bl (decide (j0 = 0)), .bl (decide (j0 = 1)), .bl (decide (j0 = 2)), .bl (decide (j0 = 3)), .bl (decide (j0 = 4)), .bl (decide (j0 = 5))] ++ [V.bl (decide (j0 = 6)), V.bl (decide (j0 = 7))])) = H3 at *
    refine ⟨_, rfl, _, rfl, a, _, _, _, _, rfl, cc, a3, rv_ref, kt.i8, ?_⟩
    refine ⟨_, rfl, a, _, _, _, _, rfl, cc, a3, rv_ref, kt.i9, sz (by simp), fun q4 nq4 => ?_⟩
    have N4 : Stp [] H3 (upd H3 q4 (.lst [.bl (decide (j0 = 8)), .bl (decide (j0 = 9))])) := Stp.new nq4 _
    have e4 : (upd H3 q4 (.lst [.bl (decide (j0 = 8)), .bl (decide (j0 = 9))])) q4 = some (.lst [.bl (decide (j0 = 8)), .bl (decide (j0 = 9))]) := upd_same
    have g4 := N4.kp _ _ nn h3
    have b4 := N4.kp _ _ nn a3
    generalize upd H3 q4 (.lst [.bl (decide (j0 = 8)), .bl (decide (j0 = 9))]) = G4 at *
    refine ⟨p3, q4, _, _, rfl, rfl, g4, e4, sz (by simp), fun p4 n4 => ?_⟩
    have M4 : Stp [] G4 (upd G4 p4 (.lst ([.bl (decide (j0 = 0)), .bl (decide (j0 = 1)), .bl (decide (j0 = 2)), .bl (decide (j0 = 3)), .bl (decide (j0 = 4)), .bl (decide (j0 = 5)), .bl (decide (j0 = 6)), .bl (decide (j0 = 7))] ++ [V.bl (decide (j0 = 8)), V.bl (decide (j0 = 9))]))) := Stp.new n4 _
    have h4 : (upd G4 p4 (.lst ([.bl (decide (j0 = 0)), .bl (decide (j0 = 1)), .bl (decide (j0 = 2)), .bl (decide (j0 = 3)), .bl (decide (j0 = 4)), .bl (decide (j0 = 5)), .bl (decide (j0 = 6)), .bl (decide (j0 = 7))] ++ [V.bl (decide (j0 = 8)), V.bl (decide (j0 = 9))]))) p4 = some (.lst [.bl (decide (j0 = 0)), .bl (decide (j0 = 1)), .bl (decide (j0 = 2)), .bl (decide (j0 = 3)), .bl (decide (j0 = 4)), .bl (decide (j0 = 5)), .bl (decide (j0 = 6)), .bl (decide (j0 = 7)), .bl (decide (j0 = 8)), .bl (decide (j0 = 9))]) := upd_same
    have a4 := M4.kp _ _ nn b4
    have S4 := (S3.trans N4).trans M4
    generalize upd G4 p4 (.lst ([.bl (decide (j0 = 0)), .bl (decide (j0 = 1)), .bl (decide (j0 = 2)), .bl (decide (j0 = 3)), .bl (decide (j0 = 4)), .bl (decide (j0 = 5)), .bl (decide (j0 = 6)), .bl (decide (j0 = 7))] ++ [V.bl (decide (j0 = 8)), V.bl (decide (j0 = 9))])) = H4 at *
    refine ⟨_, rfl, _, rfl, a, _, _, _, _, rfl, cc, a4, rv_ref, kt.i10, ?_⟩
    refine ⟨_, rfl, a, _, _, _, _, rfl, cc, a4, rv_ref, kt.i11, sz (by simp), fun q5 nq5 => ?_⟩
    have N5 : Stp [] H4 (upd H4 q5 (.lst [.bl (decide (j0 = 10)), .bl (decide (j0 = 11))])) := Stp.new nq5 _
    have e5 : (upd H4 q5 (.lst [.bl (decide (j0 = 10)), .bl (decide (j0 = 11))])) q5 = some (.lst [.bl (decide (j0 = 10)), .bl (decide (j0 = 11))]) := upd_same
    have g5 := N5.kp _ _ nn h4
    have b5 := N5.kp _ _ nn a4
    generalize upd H4 q5 (.lst [.bl (decide (j0 = 10)), .bl (decide (j0 = 11))]) = G5 at *
    refine ⟨p4, q5, _, _, rfl, rfl, g5, e5, sz (by simp), fun p5 n5 => ?_⟩
    have M5 : Stp [] G5 (upd G5 p5 (.lst ([.bl (decide (j0 = 0)), .bl (decide (j0 = 1)), .bl (decide (j0 = 2)), .bl (decide (j0 = 3)), .bl (decide (j0 = 4)), .bl (decide (j0 = 5)), .bl (decide (j0 = 6)), .bl (decide (j0 = 7)), .bl (decide (j0 = 8)), .bl (decide (j0 = 9))] ++ [V.bl (decide (j0 = 10)), V.bl (decide (j0 = 11))]))) := Stp.new n5 _
    have h5 : (upd G5 p5 (.lst ([.bl (decide (j0 = 0)), .bl (decide (j0 = 1)), .bl (decide (j0 = 2)), .bl (decide (j0 = 3)), .bl (decide (j0 = 4)), .bl (decide (j0 = 5)), .bl (decide (j0 = 6)), .bl (decide (j0 = 7)), .bl (decide (j0 = 8)), .bl (decide (j0 = 9))] ++ [V.bl (decide (j0 = 10)), V.bl (decide (j0 = 11))]))) p5 = some (.lst [.bl (decide (j0 = 0)), .bl (decide (j0 = 1)), .bl (decide (j0 = 2)), .bl (decide (j0 = 3)), .bl (decide (j0 = 4)), .bl (decide (j0 = 5)), .bl (decide (j0 = 6)), .bl (decide (j0 = 7)), .bl (decide (j0 = 8)), .bl (decide (j0 = 9)), .bl (decide (j0 = 10)), .bl (decide (j0 = 11))]) := upd_same
    have a5 := M5.kp _ _ nn b5
    have S5 := (S4.trans N5).trans M5
    generalize upd G5 p5 (.lst ([.bl (decide (j0 = 0)), .bl (decide (j0 = 1)), .bl (decide (j0 = 2)), .bl (decide (j0 = 3)), .bl (decide (j0 = 4)), .bl (decide (j0 = 5)), .bl (decide (j0 = 6)), .bl (decide (j0 = 7)), .bl (decide (j0 = 8)), .bl (decide (j0 = 9))] ++ [V.bl (decide (j0 = 10)), V.bl (decide (j0 = 11))])) = H5 at *
    refine ⟨_, rfl, _, rfl, a, _, _, _, _, rfl, cc, a5, rv_ref, kt.i12, ?_⟩
    refine ⟨_, rfl, a, _, _, _, _, rfl, cc, a5, rv_ref, kt.i13, sz (by simp), fun q6 nq6 => ?_⟩
    have N6 : Stp [] H5 (upd H5 q6 (.lst [.bl (decide (j0 = 12)), .bl (decide (j0 = 13))])) := Stp.new nq6 _
    have e6 : (upd H5 q6 (.lst [.bl (decide (j0 = 12)), .bl (decide (j0 = 13))])) q6 = some (.lst [.bl (decide (j0 = 12)), .bl (decide (j0 = 13))]) := upd_same
    have g6 := N6.kp _ _ nn h5
    have b6 := N6.kp _ _ nn a5
    generalize upd H5 q6 (.lst [.bl (decide (j0 = 12)), .bl (decide (j0 = 13))]) = G6 at *
    refine ⟨p5, q6, _, _, rfl, rfl, g6, e6, sz (by simp), fun p6 n6 => ?_⟩
    have M6 : Stp [] G6 (upd G6 p6 (.lst ([.bl (decide (j0 = 0)), .bl (decide (j0 = 1)), .bl (decide (j0 = 2)), .bl (decide (j0 = 3)), .bl (decide (j0 = 4)), .bl (decide (j0 = 5)), .bl (decide (j0 = 6)), .bl (decide (j0 = 7)), .bl (decide (j0 = 8)), .bl (decide (j0 = 9)), .bl (decide (j0 = 10)), .bl (decide (j0 = 11))] ++ [V.bl (decide (j0 = 12)), V.bl (decide (j0 = 13))]))) := Stp.new n6 _
    have h6 : (upd G6 p6 (.lst ([.bl (decide (j0 = 0)), .bl (decide (j0 = 1)), .bl (decide (j0 = 2)), .bl (decide (j0 = 3)), .bl (decide (j0 = 4)), .bl (decide (j0 = 5)), .bl (decide (j0 = 6)), .bl (decide (j0 = 7)), .bl (decide (j0 = 8)), .bl (decide (j0 = 9)), .bl (decide (j0 = 10)), .bl (decide (j0 = 11))] ++ [V.bl (decide (j0 = 12)), V.bl (decide (j0 = 13))]))) p6 = some (.lst [.bl (decide (j0 = 0)), .bl (decide (j0 = 1)), .bl (decide (j0 = 2)), .bl (decide (j0 = 3)), .bl (decide (j0 = 4)), .bl (decide (j0 = 5)), .bl (decide (j0 = 6)), .bl (decide (j0 = 7)), .bl (decide (j0 = 8)), .bl (decide (j0 = 9)), .bl (decide (j0 = 10)), .bl (decide (j0 = 11)), .bl (decide (j0 = 12)), .bl (decide (j0 = 13))]) := upd_same
    have a6 := M6.kp _ _ nn b6
    have S6 := (S5.trans N6).trans M6
    generalize upd G6 p6 (.lst ([.bl (decide (j0 = 0)), .bl (decide (j0 = 1)), .bl (decide (j0 = 2)), .bl (decide (j0 = 3)), .bl (decide (j0 = 4)), .bl (decide (j0 = 5)), .bl (decide (j0 = 6)), .bl (decide (j0 = 7)), .bl (decide (j0 = 8)), .bl (decide (j0 = 9)), .bl (decide (j0 = 10)), .bl (decide (j0 = 11))] ++ [V.bl (decide (j0 = 12)), V.bl (decide (j0 = 13))])) = H6 at *
    refine ⟨_, rfl, _, rfl, a, _, _, _, _, rfl, cc, a6, rv_ref, kt.i14, ?_⟩
    refine ⟨_, rfl, a, _, _, _, _, rfl, cc, a6, rv_ref, kt.i15, sz (by simp), fun q7 nq7 => ?_⟩
    have N7 : Stp [] H6 (upd H6 q7 (.lst [.bl (decide (j0 = 14)), .bl (decide (j0 = 15))])) := Stp.new nq7 _
    have e7 : (upd H6 q7 (.lst [.bl (decide (j0 = 14)), .bl (decide (j0 = 15))])) q7 = some (.lst [.bl (decide (j0 = 14)), .bl (decide (j0 = 15))]) := upd_same
    have g7 := N7.kp _ _ nn h6
    have b7 := N7.kp _ _ nn a6
    generalize upd H6 q7 (.lst [.bl (decide (j0 = 14)), .bl (decide (j0 = 15))]) = G7 at *
    refine ⟨p6, q7, _, _, rfl, rfl, g7, e7, sz (by simp), fun p7 n7 => ?_⟩
    have M7 : Stp [] G7 (upd G7 p7 (.lst ([.bl (decide (j0 = 0)), .bl (decide (j0 = 1)), .bl (decide (j0 = 2)), .bl (decide (j0 = 3)), .bl (decide (j0 = 4)), .bl (decide (j0 = 5)), .bl (decide (j0 = 6)), .bl (decide (j0 = 7)), .bl (decide (j0 = 8)), .bl (decide (j0 = 9)), .bl (decide (j0 = 10)), .bl (decide (j0 = 11)), .bl (decide (j0 = 12)), .bl (decide (j0 = 13))] ++ [V.bl (decide (j0 = 14)), V.bl (decide (j0 = 15))]))) := Stp.new n7 _
    have h7 : (upd G7 p7 (.lst ([.bl (decide (j0 = 0)), .bl (decide (j0 = 1)), .bl (decide (j0 = 2)), .bl (decide (j0 = 3)), .bl (decide (j0 = 4)), .bl (decide (j0 = 5)), .bl (decide (j0 = 6)), .bl (decide (j0 = 7)), .bl (decide (j0 = 8)), .bl (decide (j0 = 9)), .bl (decide (j0 = 10)), .bl (decide (j0 = 11)), .bl (decide (j0 = 12)), .bl (decide (j0 = 13))] ++ [V.bl (decide (j0 = 14)), V.bl (decide (j0 = 15))]))) p7 = some (.lst [.bl (decide (j0 = 0)), .bl (decide (j0 = 1)), .bl (decide (j0 = 2)), .bl (decide (j0 = 3)), .bl (decide (j0 = 4)), .bl (decide (j0 = 5)), .bl (decide (j0 = 6)), .bl (decide (j0 = 7)), .bl (decide (j0 = 8)), .bl (decide (j0 = 9)), .bl (decide (j0 = 10)), .bl (decide (j0 = 11)), .bl (decide (j0 = 12)), .bl (decide (j0 = 13)), .bl (decide (j0 = 14)), .bl (decide (j0 = 15))]) := upd_same
    have a7 := M7.kp _ _ nn b7
    have S7 := (S6.trans N7).trans M7
    generalize upd G7 p7 (.lst ([.bl (decide (j0 = 0)), .bl (decide (j0 = 1)), .bl (decide (j0 = 2)), .bl (decide (j0 = 3)), .bl (decide (j0 = 4)), .bl (decide (j0 = 5)), .bl (decide (j0 = 6)), .bl (decide (j0 = 7)), .bl (decide (j0 = 8)), .bl (decide (j0 = 9)), .bl (decide (j0 = 10)), .bl (decide (j0 = 11)), .bl (decide (j0 = 12)), .bl (decide (j0 = 13))] ++ [V.bl (decide (j0 = 14)), V.bl (decide (j0 = 15))])) = H7 at *
    -- the words
    refine ⟨sz (by decide), fun w0 m0 => ?_⟩
    have X0 : Stp [] H7 (upd H7 w0 (.lst [.str "text", .str "value", .str "span", .str "filter", .str "rule", .str "page", .str "note", .str "column", .str "index", .str "number", .str "code"])) := Stp.new m0 _
    have y0 : (upd H7 w0 (.lst [.str "text", .str "value", .str "span", .str "filter", .str "rule", .str "page", .str "note", .str "column", .str "index", .str "number", .str "code"])) w0 = some (.lst [.str "text", .str "value", .str "span", .str "filter", .str "rule", .str "page", .str "note", .str "column", .str "index", .str "number", .str "code"]) := upd_same
    generalize upd H7 w0 (.lst [.str "text", .str "value", .str "span", .str "filter", .str "rule", .str "page", .str "note", .str "column", .str "index", .str "number", .str "code"]) = H8 at *
    refine ⟨_, rfl, sz (by decide), fun w1 m1 => ?_⟩
    have X1 : Stp [] H8 (upd H8 w1 (.lst [.str "block", .str "undo", .str "full", .str "command", .str "words", .str "error"])) := Stp.new m1 _
    have y1 : (upd H8 w1 (.lst [.str "block", .str "undo", .str "full", .str "command", .str "words", .str "error"])) w1 = some (.lst [.str "block", .str "undo", .str "full", .str "command", .str "words", .str "error"]) := upd_same
    generalize upd H8 w1 (.lst [.str "block", .str "undo", .str "full", .str "command", .str "words", .str "error"]) = H9 at *
    refine ⟨w0, w1, _, _, rfl, rfl, X1.kp _ _ nn y0, y1, sz (by decide), fun W mW => ?_⟩
    have X2 : Stp [] H9 (upd H9 W (.lst ([.str "text", .str "value", .str "span", .str "filter", .str "rule", .str "page", .str "note", .str "column", .str "index", .str "number", .str "code"] ++ [.str "block", .str "undo", .str "full", .str "command", .str "words", .str "error"]))) := Stp.new mW _
    have y2 : (upd H9 W (.lst ([.str "text", .str "value", .str "span", .str "filter", .str "rule", .str "page", .str "note", .str "column", .str "index", .str "number", .str "code"] ++ [.str "block", .str "undo", .str "full", .str "command", .str "words", .str "error"]))) W = some (.lst wordsV) := upd_same
    generalize upd H9 W (.lst ([.str "text", .str "value", .str "span", .str "filter", .str "rule", .str "page", .str "note", .str "column", .str "index", .str "number", .str "code"] ++ [.str "block", .str "undo", .str "full", .str "command", .str "words", .str "error"])) = H10 at *
    have X02 := (X0.trans X1).trans X2
    have h10 := X02.kp _ _ nn h7
    have a10 := X02.kp _ _ nn a7
    clear h0 a0 h1 a1 h2 a2 h3 a3 h4 a4 h5 a5 h6 a6 e1 e2 e3 e4 e5 e6 e7 g1 g2 g3 g4 g5 g6 g7 b1 b2 b3 b4 b5 b6 b7 y0 y1
    refine ⟨17, rfl, by decide, by decide, fun R nR => ?_⟩
    refine lc_range (lo := 0) (n := 17) (fun i H' => H' R = some (.lst ((plV (pjV j0) i).map wdV)) ∧ Stp [] H10 H') ⟨upd_same, Stp.new nR _⟩ ?_ ?_
    · rintro i H' hi ⟨hR, S⟩
      rw [Int.zero_add]
      have ha' := S.kp _ _ nn a10
      have hp' := S.kp _ _ nn h10
      have hW' := S.kp _ _ nn y2
      obtain ⟨g1, g2⟩ := test_at (j0 := j0) hi
      have g3 := plV_succ (pjV j0) i
      refine ⟨rfl, _, rfl, _, rfl, a, _, _, _, _, rfl, cc, ha', rv_ve, kt.v, sz (by decide), fun q nq => ?_⟩
      have T1 : Stp [] H' (upd H' q (.lst [.bl true])) := Stp.new nq _
      have e1 : (upd H' q (.lst [.bl true])) q = some (.lst [.bl true]) := upd_same
      generalize upd H' q (.lst [.bl true]) = J1 at *
      refine ⟨p7, q, _, _, rfl, rfl, T1.kp _ _ nn hp', e1, sz (by simp), fun r nr => ?_⟩
      have T2 : Stp [] J1 (upd J1 r (.lst ([.bl (decide (j0 = 0)), .bl (decide (j0 = 1)), .bl (decide (j0 = 2)), .bl (decide (j0 = 3)), .bl (decide (j0 = 4)), .bl (decide (j0 = 5)), .bl (decide (j0 = 6)), .bl (decide (j0 = 7)), .bl (decide (j0 = 8)), .bl (decide (j0 = 9)), .bl (decide (j0 = 10)), .bl (decide (j0 = 11)), .bl (decide (j0 = 12)), .bl (decide (j0 = 13)), .bl (decide (j0 = 14)), .bl (decide (j0 = 15))] ++ [V.bl true]))) := Stp.new nr _
      have e2 : (upd J1 r (.lst ([.bl (decide (j0 = 0)), .bl (decide (j0 = 1)), .bl (decide (j0 = 2)), .bl (decide (j0 = 3)), .bl (decide (j0 = 4)), .bl (decide (j0 = 5)), .bl (decide (j0 = 6)), .bl (decide (j0 = 7)), .bl (decide (j0 = 8)), .bl (decide (j0 = 9)), .bl (decide (j0 = 10)), .bl (decide (j0 = 11)), .bl (decide (j0 = 12)), .bl (decide (j0 = 13)), .bl (decide (j0 = 14)), .bl (decide (j0 = 15))] ++ [V.bl true]))) r = some (.lst (testV j0)) := upd_same
      generalize upd J1 r (.lst ([.bl (decide (j0 = 0)), .bl (decide (j0 = 1)), .bl (decide (j0 = 2)), .bl (decide (j0 = 3)), .bl (decide (j0 = 4)), .bl (decide (j0 = 5)), .bl (decide (j0 = 6)), .bl (decide (j0 = 7)), .bl (decide (j0 = 8)), .bl (decide (j0 = 9)), .bl (decide (j0 = 10)), .bl (decide (j0 = 11)), .bl (decide (j0 = 12)), .bl (decide (j0 = 13)), .bl (decide (j0 = 14)), .bl (decide (j0 = 15))] ++ [V.bl true])) = J2 at *
      have T12 := T1.trans T2
      refine ⟨_, rfl, r, _, _, _, rfl, rfl, SqL.of e2, atI_nat g1, ?_⟩
      have hR2 := T12.kp _ _ nn hR
      refine ⟨_, rfl, ite2 (fun h => ?_) (fun h => ?_)⟩
      · refine ⟨_, rfl, _, rfl, W, _, _, _, rfl, rfl, SqL.of (T12.kp _ _ nn hW'), atI_nat g2, _, hR2, ?_, ?_, (S.trans T12).mut nR⟩
        · have := plV_len (pjV j0) i
          rw [List.length_map]
          exact Nat.lt_of_le_of_lt (show _ ≤ 17 by omega) (by decide)
        · rw [upd_same, g3, if_pos h, List.map_append]
          rfl
      · rw [g3, if_neg h, List.append_nil]
        exact ⟨hR2, S.trans T12⟩
    rintro H' ⟨hR, S⟩
    rw [names_at kt.lt] at hR
    exact k R H' ((S7.trans X02).trans S) hR
/-- the classes that are raised -/
structure Kits (K : PySem.W.Frag) {mg : Str → Option Value} (TX : Er K mg) : Prop where
  kt_InvalidText : Kit K TX TX.C_InvalidText 0
  kt_InvalidValue : Kit K TX TX.C_InvalidValue 1
  kt_InvalidSpan : Kit K TX TX.C_InvalidSpan 2
  kt_InvalidFilter : Kit K TX TX.C_InvalidFilter 3
  kt_InvalidRule : Kit K TX TX.C_InvalidRule 4
  kt_InvalidPage : Kit K TX TX.C_InvalidPage 5
  kt_InvalidNote : Kit K TX TX.C_InvalidNote 6
  kt_InvalidColumn : Kit K TX TX.C_InvalidColumn 7
  kt_InvalidIndex : Kit K TX TX.C_InvalidIndex 8
  kt_InvalidNumber : Kit K TX TX.C_InvalidNumber 9
  kt_InvalidCode : Kit K TX TX.C_InvalidCode 10
  kt_NoBlock : Kit K TX TX.C_NoBlock 11
  kt_NothingToUndo : Kit K TX TX.C_NothingToUndo 12
  kt_Full : Kit K TX TX.C_Full 13
  kt_InvalidCommand : Kit K TX TX.C_InvalidCommand 14
  kt_InvalidWords : Kit K TX TX.C_InvalidWords 15
/-! ### no error -/
theorem call_isiKK {X : Cx} {K : PySem.W.Frag} (hK : X.K = K) : CallR X (.builtin "isinstance") (rIsi K) := by
  subst hK
  exact call_isi
/-- None is of none of the classes -/
structure KitN (K : PySem.W.Frag) {mg : Str → Option Value} (TX : Er K mg) : Prop where
  i0 : PySem.W.kitOne K (.type "NoneType") (.ref TX.C_InvalidText) = some false
  i1 : PySem.W.kitOne K (.type "NoneType") (.ref TX.C_InvalidValue) = some false
  i2 : PySem.W.kitOne K (.type "NoneType") (.ref TX.C_InvalidSpan) = some false
  i3 : PySem.W.kitOne K (.type "NoneType") (.ref TX.C_InvalidFilter) = some false
  i4 : PySem.W.kitOne K (.type "NoneType") (.ref TX.C_InvalidRule) = some false
  i5 : PySem.W.kitOne K (.type "NoneType") (.ref TX.C_InvalidPage) = some false
  i6 : PySem.W.kitOne K (.type "NoneType") (.ref TX.C_InvalidNote) = some false
  i7 : PySem.W.kitOne K (.type "NoneType") (.ref TX.C_InvalidColumn) = some false
  i8 : PySem.W.kitOne K (.type "NoneType") (.ref TX.C_InvalidIndex) = some false
  i9 : PySem.W.kitOne K (.type "NoneType") (.ref TX.C_InvalidNumber) = some false
  i10 : PySem.W.kitOne K (.type "NoneType") (.ref TX.C_InvalidCode) = some false
  i11 : PySem.W.kitOne K (.type "NoneType") (.ref TX.C_NoBlock) = some false
  i12 : PySem.W.kitOne K (.type "NoneType") (.ref TX.C_NothingToUndo) = some false
  i13 : PySem.W.kitOne K (.type "NoneType") (.ref TX.C_Full) = some false
  i14 : PySem.W.kitOne K (.type "NoneType") (.ref TX.C_InvalidCommand) = some false
  i15 : PySem.W.kitOne K (.type "NoneType") (.ref TX.C_InvalidWords) = some false
def testN : List V := [.bl false, .bl false, .bl false, .bl false, .bl false, .bl false, .bl false, .bl false, .bl false, .bl false, .bl false, .bl false, .bl false, .bl false, .bl false, .bl false, .bl false]
theorem testN_at : ∀ {i : Nat}, i < 17 → testN[i]? = some (.bl false)
  | 0, _ => rfl
  | 1, _ => rfl
  | 2, _ => rfl
  | 3, _ => rfl
  | 4, _ => rfl
  | 5, _ => rfl
  | 6, _ => rfl
  | 7, _ => rfl
  | 8, _ => rfl
  | 9, _ => rfl
  | 10, _ => rfl
  | 11, _ => rfl
  | 12, _ => rfl
  | 13, _ => rfl
  | 14, _ => rfl
  | 15, _ => rfl
  | 16, _ => rfl
  | n + 17, h => absurd h (by omega)
def spNamesN : Sp := fun vs H Q _ => vs = [.non] ∧ ∀ L H', Stp [] H H' → H' L = some (.lst []) → Q (.ref L) H'
theorem cl__law_namesN {f : Addr} {fd : FuncData} (D : Df K mg "_law_names" s__law_names ["caught"] f fd) (T : Nm mg) (TX : Er K mg) (kt : KitN K TX) : Cl P w K mg base 1 "_law_names" s__law_names ["caught"] spNamesN := by
  refine D.cl sc__law_names (fun vs H Q E h => ?_) (fun cdv A outer s H vs Q E hr h => ?_)
  · obtain ⟨rfl, _⟩ := h
    rfl
  · obtain ⟨rfl, k⟩ := h
    refine ⟨_, (pss_cons (ps_set (i := 1) sc__law_names.nd rfl (by first | exact Or.inl rfl | exact Or.inr rfl) (pe_lst (pa_cons (pe_callB call_isi (by rfl) T.n_isinstance (by decide +kernel) (pa_cons (pv 0) (pa_cons (pe_glob (v := .ref TX.C_InvalidText) rfl TX.g_InvalidText rfl) pa_nil))) (pa_cons (pe_callB call_isi (by rfl) T.n_isinstance (by decide +kernel) (pa_cons (pv 0) (pa_cons (pe_glob (v := .ref TX.C_InvalidValue) rfl TX.g_InvalidValue rfl) pa_nil))) pa_nil))))
      (pss_cons (ps_set (i := 1) sc__law_names.nd rfl (by first | exact Or.inl rfl | exact Or.inr rfl) (pe_op op_cat (pv 1) (pe_lst (pa_cons (pe_callB call_isi (by rfl) T.n_isinstance (by decide +kernel) (pa_cons (pv 0) (pa_cons (pe_glob (v := .ref TX.C_InvalidSpan) rfl TX.g_InvalidSpan rfl) pa_nil))) (pa_cons (pe_callB call_isi (by rfl) T.n_isinstance (by decide +kernel) (pa_cons (pv 0) (pa_cons (pe_glob (v := .ref TX.C_InvalidFilter) rfl TX.g_InvalidFilter rfl) pa_nil))) pa_nil)))))
      (pss_cons (ps_set (i := 1) sc__law_names.nd rfl (by first | exact Or.inl rfl | exact Or.inr rfl) (pe_op op_cat (pv 1) (pe_lst (pa_cons (pe_callB call_isi (by rfl) T.n_isinstance (by decide +kernel) (pa_cons (pv 0) (pa_cons (pe_glob (v := .ref TX.C_InvalidRule) rfl TX.g_InvalidRule rfl) pa_nil))) (pa_cons (pe_callB call_isi (by rfl) T.n_isinstance (by decide +kernel) (pa_cons (pv 0) (pa_cons (pe_glob (v := .ref TX.C_InvalidPage) rfl TX.g_InvalidPage rfl) pa_nil))) pa_nil)))))
      (pss_cons (ps_set (i := 1) sc__law_names.nd rfl (by first | exact Or.inl rfl | exact Or.inr rfl) (pe_op op_cat (pv 1) (pe_lst (pa_cons (pe_callB call_isi (by rfl) T.n_isinstance (by decide +kernel) (pa_cons (pv 0) (pa_cons (pe_glob (v := .ref TX.C_InvalidNote) rfl TX.g_InvalidNote rfl) pa_nil))) (pa_cons (pe_callB call_isi (by rfl) T.n_isinstance (by decide +kernel) (pa_cons (pv 0) (pa_cons (pe_glob (v := .ref TX.C_InvalidColumn) rfl TX.g_InvalidColumn rfl) pa_nil))) pa_nil)))))
      (pss_cons (ps_set (i := 1) sc__law_names.nd rfl (by first | exact Or.inl rfl | exact Or.inr rfl) (pe_op op_cat (pv 1) (pe_lst (pa_cons (pe_callB call_isi (by rfl) T.n_isinstance (by decide +kernel) (pa_cons (pv 0) (pa_cons (pe_glob (v := .ref TX.C_InvalidIndex) rfl TX.g_InvalidIndex rfl) pa_nil))) (pa_cons (pe_callB call_isi (by rfl) T.n_isinstance (by decide +kernel) (pa_cons (pv 0) (pa_cons (pe_glob (v := .ref TX.C_InvalidNumber) rfl TX.g_InvalidNumber rfl) pa_nil))) pa_nil)))))
      (pss_cons (ps_set (i := 1) sc__law_names.nd rfl (by first | exact Or.inl rfl | exact Or.inr rfl) (pe_op op_cat (pv 1) (pe_lst (pa_cons (pe_callB call_isi (by rfl) T.n_isinstance (by decide +kernel) (pa_cons (pv 0) (pa_cons (pe_glob (v := .ref TX.C_InvalidCode) rfl TX.g_InvalidCode rfl) pa_nil))) (pa_cons (pe_callB call_isi (by rfl) T.n_isinstance (by decide +kernel) (pa_cons (pv 0) (pa_cons (pe_glob (v := .ref TX.C_NoBlock) rfl TX.g_NoBlock rfl) pa_nil))) pa_nil)))))
      (pss_cons (ps_set (i := 1) sc__law_names.nd rfl (by first | exact Or.inl rfl | exact Or.inr rfl) (pe_op op_cat (pv 1) (pe_lst (pa_cons (pe_callB call_isi (by rfl) T.n_isinstance (by decide +kernel) (pa_cons (pv 0) (pa_cons (pe_glob (v := .ref TX.C_NothingToUndo) rfl TX.g_NothingToUndo rfl) pa_nil))) (pa_cons (pe_callB call_isi (by rfl) T.n_isinstance (by decide +kernel) (pa_cons (pv 0) (pa_cons (pe_glob (v := .ref TX.C_Full) rfl TX.g_Full rfl) pa_nil))) pa_nil)))))
      (pss_cons (ps_set (i := 1) sc__law_names.nd rfl (by first | exact Or.inl rfl | exact Or.inr rfl) (pe_op op_cat (pv 1) (pe_lst (pa_cons (pe_callB call_isi (by rfl) T.n_isinstance (by decide +kernel) (pa_cons (pv 0) (pa_cons (pe_glob (v := .ref TX.C_InvalidCommand) rfl TX.g_InvalidCommand rfl) pa_nil))) (pa_cons (pe_callB call_isi (by rfl) T.n_isinstance (by decide +kernel) (pa_cons (pv 0) (pa_cons (pe_glob (v := .ref TX.C_InvalidWords) rfl TX.g_InvalidWords rfl) pa_nil))) pa_nil)))))
      (pss_cons (ps_set (i := 2) sc__law_names.nd rfl (by first | exact Or.inl rfl | exact Or.inr rfl) (pe_lst (pa_cons pe_str (pa_cons pe_str (pa_cons pe_str (pa_cons pe_str (pa_cons pe_str (pa_cons pe_str (pa_cons pe_str (pa_cons pe_str (pa_cons pe_str (pa_cons pe_str (pa_cons pe_str pa_nil)))))))))))))
      (pss_cons (ps_set (i := 2) sc__law_names.nd rfl (by first | exact Or.inl rfl | exact Or.inr rfl) (pe_op op_cat (pv 2) (pe_lst (pa_cons pe_str (pa_cons pe_str (pa_cons pe_str (pa_cons pe_str (pa_cons pe_str (pa_cons pe_str pa_nil)))))))))
      (pss_one (ps_ret (pe_lc (own := [("k", 3)]) rfl sc__law_names.nd (pi_range1 (by rfl) T.n_range (pa_cons pe_int pa_nil)) (blkOk_by (own := [("k", 3)]) (N := N__law_names) (sc := defScope s__law_names) (by decide +kernel)) (fun _ _ _ _ _ => (pg_name (i := 3) sc__law_names.nd rfl (by first | exact Or.inl rfl | exact Or.inr rfl))) (fun _ _ _ _ _ => (pts_one (pt_val (pe_ix (ix_listK rfl) (pe_op op_cat (pv 1) (pe_lst (pa_cons (pe_callB (call_isiKK rfl) (by rfl) T.n_isinstance (by decide +kernel) (pa_cons (pv 0) (pa_cons (pe_bltn (v := .ty "ValueError") (u := Value.type "ValueError") (by rfl) T.n_ValueError (by decide +kernel) rfl) pa_nil))) pa_nil))) (pv 3) (fun _ _ => rfl))))) (fun _ _ _ _ _ => (pe_ix (ix_listK rfl) (pv 2) (pv 3) (fun _ _ => rfl)))))))))))))))), ?_⟩
    have nn : ∀ {x : Addr}, x ∉ ([] : List Addr) := fun m => nomatch m
    have s17 : (17 : Nat) ≤ sizeLine := by decide
    have sz : ∀ {n : Nat}, n ≤ 17 → n ≤ sizeLine := fun h => Nat.le_trans h s17
    have ty : ∀ {H' : Hp}, TyX K H' .non (.type "NoneType") := .base .non
    have kv : PySem.W.kitOne K (.type "NoneType") (.type "ValueError") = some false := kit_ty (by decide +kernel)
    refine ⟨_, rfl, _, _, _, _, _, rfl, .own _, ty, kt.i0, ?_⟩
    refine ⟨_, rfl, _, _, _, _, _, rfl, .own _, ty, kt.i1, sz (by simp), fun p0 n0 => ?_⟩
    have S0 : Stp [] H (upd H p0 (.lst [.bl false, .bl false])) := Stp.new n0 _
    have h0 : (upd H p0 (.lst [.bl false, .bl false])) p0 = some (.lst [.bl false, .bl false]) := upd_same
    generalize upd H p0 (.lst [.bl false, .bl false]) = H0 at *
    refine ⟨_, rfl, ⟨_, rfl, _, _, _, _, _, rfl, .own _, ty, kt.i2, ?_⟩⟩
    refine ⟨_, rfl, _, _, _, _, _, rfl, .own _, ty, kt.i3, sz (by simp), fun q1 nq1 => ?_⟩
    have N1 : Stp [] H0 (upd H0 q1 (.lst [.bl false, .bl false])) := Stp.new nq1 _
    have e1 : (upd H0 q1 (.lst [.bl false, .bl false])) q1 = some (.lst [.bl false, .bl false]) := upd_same
    have g1 := N1.kp _ _ nn h0
    generalize upd H0 q1 (.lst [.bl false, .bl false]) = G1 at *
    refine ⟨p0, q1, _, _, rfl, rfl, g1, e1, sz (by simp), fun p1 n1 => ?_⟩
    have M1 : Stp [] G1 (upd G1 p1 (.lst ([.bl false, .bl false] ++ [V.bl false, V.bl false]))) := Stp.new n1 _
    have h1 : (upd G1 p1 (.lst ([.bl false, .bl false] ++ [V.bl false, V.bl false]))) p1 = some (.lst [.bl false, .bl false, .bl false, .bl false]) := upd_same
    have S1 := (S0.trans N1).trans M1
    generalize upd G1 p1 (.lst ([.bl false, .bl false] ++ [V.bl false, V.bl false])) = H1 at *
    refine ⟨_, rfl, ⟨_, rfl, _, _, _, _, _, rfl, .own _, ty, kt.i4, ?_⟩⟩
    refine ⟨_, rfl, _, _, _, _, _, rfl, .own _, ty, kt.i5, sz (by simp), fun q2 nq2 => ?_⟩
    have N2 : Stp [] H1 (upd H1 q2 (.lst [.bl false, .bl false])) := Stp.new nq2 _
    have e2 : (upd H1 q2 (.lst [.bl false, .bl false])) q2 = some (.lst [.bl false, .bl false]) := upd_same
    have g2 := N2.kp _ _ nn h1
    generalize upd H1 q2 (.lst [.bl false, .bl false]) = G2 at *
    refine ⟨p1, q2, _, _, rfl, rfl, g2, e2, sz (by simp), fun p2 n2 => ?_⟩
    have M2 : Stp [] G2 (upd G2 p2 (.lst ([.bl false, .bl false, .bl false, .bl false] ++ [V.bl false, V.bl false]))) := Stp.new n2 _
    have h2 : (upd G2 p2 (.lst ([.bl false, .bl false, .bl false, .bl false] ++ [V.bl false, V.bl false]))) p2 = some (.lst [.bl false, .bl false, .bl false, .bl false, .bl false, .bl false]) := upd_same
    have S2 := (S1.trans N2).trans M2
    generalize upd G2 p2 (.lst ([.bl false, .bl false, .bl false, .bl false] ++ [V.bl false, V.bl false])) = H2 at *
    refine ⟨_, rfl, ⟨_, rfl, _, _, _, _, _, rfl, .own _, ty, kt.i6, ?_⟩⟩
    refine ⟨_, rfl, _, _, _, _, _, rfl, .own _, ty, kt.i7, sz (by simp), fun q3 nq3 => ?_⟩
    have N3 : Stp [] H2 (upd H2 q3 (.lst [.bl false, .bl false])) := Stp.new nq3 _
    have e3 : (upd H2 q3 (.lst [.bl false, .bl false])) q3 = some (.lst [.bl false, .bl false]) := upd_same
    have g3 := N3.kp _ _ nn h2
    generalize upd H2 q3 (.lst [.bl false, .bl false]) = G3 at *
    refine ⟨p2, q3, _, _, rfl, rfl, g3, e3, sz (by simp), fun p3 n3 => ?_⟩
    have M3 : Stp [] G3 (upd G3 p3 (.lst ([.bl false, .bl false, .bl false, .bl false, .bl false, .bl false] ++ [V.bl false, V.bl false]))) := Stp.new n3 _
    have h3 : (upd G3 p3 (.lst ([.bl false, .bl false, .bl false, .bl false, .bl false, .bl false] ++ [V.bl false, V.bl false]))) p3 = some (.lst [.bl false, .bl false, .bl false, .bl false, .bl false, .bl false, .bl false, .bl false]) := upd_same
    have S3 := (S2.trans N3).trans M3
    generalize upd G3 p3 (.lst ([.bl false, .bl false, .bl false, .bl false, .bl false, .bl false] ++ [V.bl false, V.bl false])) = H3 at *
    refine ⟨_, rfl, ⟨_, rfl, _, _, _, _, _, rfl, .own _, ty, kt.i8, ?_⟩⟩
    refine ⟨_, rfl, _, _, _, _, _, rfl, .own _, ty, kt.i9, sz (by simp), fun q4 nq4 => ?_⟩
    have N4 : Stp [] H3 (upd H3 q4 (.lst [.bl false, .bl false])) := Stp.new nq4 _
    have e4 : (upd H3 q4 (.lst [.bl false, .bl false])) q4 = some (.lst [.bl false, .bl false]) := upd_same
    have g4 := N4.kp _ _ nn h3
    generalize upd H3 q4 (.lst [.bl false, .bl false]) = G4 at *
    refine ⟨p3, q4, _, _, rfl, rfl, g4, e4, sz (by simp), fun p4 n4 => ?_⟩
    have M4 : Stp [] G4 (upd G4 p4 (.lst ([.bl false, .bl false, .bl false, .bl false, .bl false, .bl false, .bl false, .bl false] ++ [V.bl false, V.bl false]))) := Stp.new n4 _
    have h4 : (upd G4 p4 (.lst ([.bl false, .bl false, .bl false, .bl false, .bl false, .bl false, .bl false, .bl false] ++ [V.bl false, V.bl false]))) p4 = some (.lst [.bl false, .bl false, .bl false, .bl false, .bl false, .bl false, .bl false, .bl false, .bl false, .bl false]) := upd_same
    have S4 := (S3.trans N4).trans M4
    generalize upd G4 p4 (.lst ([.bl false, .bl false, .bl false, .bl false, .bl false, .bl false, .bl false, .bl false] ++ [V.bl false, V.bl false])) = H4 at *
    refine ⟨_, rfl, ⟨_, rfl, _, _, _, _, _, rfl, .own _, ty, kt.i10, ?_⟩⟩
    refine ⟨_, rfl, _, _, _, _, _, rfl, .own _, ty, kt.i11, sz (by simp), fun q5 nq5 => ?_⟩
    have N5 : Stp [] H4 (upd H4 q5 (.lst [.bl false, .bl false])) := Stp.new nq5 _
    have e5 : (upd H4 q5 (.lst [.bl false, .bl false])) q5 = some (.lst [.bl false, .bl false]) := upd_same
    have g5 := N5.kp _ _ nn h4
    generalize upd H4 q5 (.lst [.bl false, .bl false]) = G5 at *
    refine ⟨p4, q5, _, _, rfl, rfl, g5, e5, sz (by simp), fun p5 n5 => ?_⟩
    have M5 : Stp [] G5 (upd G5 p5 (.lst ([.bl false, .bl false, .bl false, .bl false, .bl false, .bl false, .bl false, .bl false, .bl false, .bl false] ++ [V.bl false, V.bl false]))) := Stp.new n5 _
    have h5 : (upd G5 p5 (.lst ([.bl false, .bl false, .bl false, .bl false, .bl false, .bl false, .bl false, .bl false, .bl false, .bl false] ++ [V.bl false, V.bl false]))) p5 = some (.lst [.bl false, .bl false, .bl false, .bl false, .bl false, .bl false, .bl false, .bl false, .bl false, .bl false, .bl false, .bl false]) := upd_same
    have S5 := (S4.trans N5).trans M5
    generalize upd G5 p5 (.lst ([.bl false, .bl false, .bl false, .bl false, .bl false, .bl false, .bl false, .bl false, .bl false, .bl false] ++ [V.bl false, V.bl false])) = H5 at *
    refine ⟨_, rfl, ⟨_, rfl, _, _, _, _, _, rfl, .own _, ty, kt.i12, ?_⟩⟩
    refine ⟨_, rfl, _, _, _, _, _, rfl, .own _, ty, kt.i13, sz (by simp), fun q6 nq6 => ?_⟩
    have N6 : Stp [] H5 (upd H5 q6 (.lst [.bl false, .bl false])) := Stp.new nq6 _
    have e6 : (upd H5 q6 (.lst [.bl false, .bl false])) q6 = some (.lst [.bl false, .bl false]) := upd_same
    have g6 := N6.kp _ _ nn h5
    generalize upd H5 q6 (.lst [.bl false, .bl false]) = G6 at *
    refine ⟨p5, q6, _, _, rfl, rfl, g6, e6, sz (by simp), fun p6 n6 => ?_⟩
    have M6 : Stp [] G6 (upd G6 p6 (.lst ([.bl false, .bl false, .bl false, .bl false, .bl false, .bl false, .bl false, .bl false, .bl false, .bl false, .bl false, .bl false] ++ [V.bl false, V.bl false]))) := Stp.new n6 _
    have h6 : (upd G6 p6 (.lst ([.bl false, .bl false, .bl false, .bl false, .bl false, .bl false, .bl false, .bl false, .bl false, .bl false, .bl false, .bl false] ++ [V.bl false, V.bl false]))) p6 = some (.lst [.bl false, .bl false, .bl false, .bl false, .bl false, .bl false, .bl false, .bl false, .bl false, .bl false, .bl false, .bl false, .bl false, .bl false]) := upd_same
    have S6 := (S5.trans N6).trans M6
    generalize upd G6 p6 (.lst ([.bl false, .bl false, .bl false, .bl false, .bl false, .bl false, .bl false, .bl false, .bl false, .bl false, .bl false, .bl false] ++ [V.bl false, V.bl false])) = H6 at *
    refine ⟨_, rfl, ⟨_, rfl, _, _, _, _, _, rfl, .own _, ty, kt.i14, ?_⟩⟩
    refine ⟨_, rfl, _, _, _, _, _, rfl, .own _, ty, kt.i15, sz (by simp), fun q7 nq7 => ?_⟩
    have N7 : Stp [] H6 (upd H6 q7 (.lst [.bl false, .bl false])) := Stp.new nq7 _
    have e7 : (upd H6 q7 (.lst [.bl false, .bl false])) q7 = some (.lst [.bl false, .bl false]) := upd_same
    have g7 := N7.kp _ _ nn h6
    generalize upd H6 q7 (.lst [.bl false, .bl false]) = G7 at *
    refine ⟨p6, q7, _, _, rfl, rfl, g7, e7, sz (by simp), fun p7 n7 => ?_⟩
    have M7 : Stp [] G7 (upd G7 p7 (.lst ([.bl false, .bl false, .bl false, .bl false, .bl false, .bl false, .bl false, .bl false, .bl false, .bl false, .bl false, .bl false, .bl false, .bl false] ++ [V.bl false, V.bl false]))) := Stp.new n7 _
    have h7 : (upd G7 p7 (.lst ([.bl false, .bl false, .bl false, .bl false, .bl false, .bl false, .bl false, .bl false, .bl false, .bl false, .bl false, .bl false, .bl false, .bl false] ++ [V.bl false, V.bl false]))) p7 = some (.lst [.bl false, .bl false, .bl false, .bl false, .bl false, .bl false, .bl false, .bl false, .bl false, .bl false, .bl false, .bl false, .bl false, .bl false, .bl false, .bl false]) := upd_same
    have S7 := (S6.trans N7).trans M7
    generalize upd G7 p7 (.lst ([.bl false, .bl false, .bl false, .bl false, .bl false, .bl false, .bl false, .bl false, .bl false, .bl false, .bl false, .bl false, .bl false, .bl false] ++ [V.bl false, V.bl false])) = H7 at *
    -- the words
    refine ⟨sz (by decide), fun w0 m0 => ?_⟩
    have X0 : Stp [] H7 (upd H7 w0 (.lst [.str "text", .str "value", .str "span", .str "filter", .str "rule", .str "page", .str "note", .str "column", .str "index", .str "number", .str "code"])) := Stp.new m0 _
    have y0 : (upd H7 w0 (.lst [.str "text", .str "value", .str "span", .str "filter", .str "rule", .str "page", .str "note", .str "column", .str "index", .str "number", .str "code"])) w0 = some (.lst [.str "text", .str "value", .str "span", .str "filter", .str "rule", .str "page", .str "note", .str "column", .str "index", .str "number", .str "code"]) := upd_same
    generalize upd H7 w0 (.lst [.str "text", .str "value", .str "span", .str "filter", .str "rule", .str "page", .str "note", .str "column", .str "index", .str "number", .str "code"]) = H8 at *
    refine ⟨_, rfl, sz (by decide), fun w1 m1 => ?_⟩
    have X1 : Stp [] H8 (upd H8 w1 (.lst [.str "block", .str "undo", .str "full", .str "command", .str "words", .str "error"])) := Stp.new m1 _
    have y1 : (upd H8 w1 (.lst [.str "block", .str "undo", .str "full", .str "command", .str "words", .str "error"])) w1 = some (.lst [.str "block", .str "undo", .str "full", .str "command", .str "words", .str "error"]) := upd_same
    generalize upd H8 w1 (.lst [.str "block", .str "undo", .str "full", .str "command", .str "words", .str "error"]) = H9 at *
    refine ⟨w0, w1, _, _, rfl, rfl, X1.kp _ _ nn y0, y1, sz (by decide), fun W mW => ?_⟩
    have X2 : Stp [] H9 (upd H9 W (.lst ([.str "text", .str "value", .str "span", .str "filter", .str "rule", .str "page", .str "note", .str "column", .str "index", .str "number", .str "code"] ++ [.str "block", .str "undo", .str "full", .str "command", .str "words", .str "error"]))) := Stp.new mW _
    generalize upd H9 W (.lst ([.str "text", .str "value", .str "span", .str "filter", .str "rule", .str "page", .str "note", .str "column", .str "index", .str "number", .str "code"] ++ [.str "block", .str "undo", .str "full", .str "command", .str "words", .str "error"])) = H10 at *
    have X02 := (X0.trans X1).trans X2
    have h10 := X02.kp _ _ nn h7
    clear h0 h1 h2 h3 h4 h5 h6 e1 e2 e3 e4 e5 e6 e7 g1 g2 g3 g4 g5 g6 g7 y0 y1
    refine ⟨17, rfl, by decide, by decide, fun R nR => ?_⟩
    refine lc_range (lo := 0) (n := 17) (fun i H' => H' R = some (.lst []) ∧ Stp [] H10 H') ⟨upd_same, Stp.new nR _⟩ ?_ ?_
    · rintro i H' hi ⟨hR, S⟩
      rw [Int.zero_add]
      have hp' := S.kp _ _ nn h10
      refine ⟨rfl, _, rfl, _, rfl, _, _, _, _, _, rfl, .ty _, ty, kv, sz (by decide), fun q nq => ?_⟩
      have T1 : Stp [] H' (upd H' q (.lst [.bl false])) := Stp.new nq _
      have e1 : (upd H' q (.lst [.bl false])) q = some (.lst [.bl false]) := upd_same
      generalize upd H' q (.lst [.bl false]) = J1 at *
      refine ⟨p7, q, _, _, rfl, rfl, T1.kp _ _ nn hp', e1, sz (by simp), fun r nr => ?_⟩
      have T2 : Stp [] J1 (upd J1 r (.lst ([.bl false, .bl false, .bl false, .bl false, .bl false, .bl false, .bl false, .bl false, .bl false, .bl false, .bl false, .bl false, .bl false, .bl false, .bl false, .bl false] ++ [V.bl false]))) := Stp.new nr _
      have e2 : (upd J1 r (.lst ([.bl false, .bl false, .bl false, .bl false, .bl false, .bl false, .bl false, .bl false, .bl false, .bl false, .bl false, .bl false, .bl false, .bl false, .bl false, .bl false] ++ [V.bl false]))) r = some (.lst testN) := upd_same
      generalize upd J1 r (.lst ([.bl false, .bl false, .bl false, .bl false, .bl false, .bl false, .bl false, .bl false, .bl false, .bl false, .bl false, .bl false, .bl false, .bl false, .bl false, .bl false] ++ [V.bl false])) = J2 at *
      have T12 := T1.trans T2
      refine ⟨_, rfl, r, _, _, _, rfl, rfl, SqL.of e2, atI_nat (testN_at hi), ?_⟩
      have hR2 := T12.kp _ _ nn hR
      exact ⟨_, rfl, ite2 (fun h => nomatch h) (fun _ => ⟨hR2, S.trans T12⟩)⟩
    rintro H' ⟨hR, S⟩
    exact k R H' ((S7.trans X02).trans S) hR
/-! ### the name of an error that was made -/
theorem call_isEK {X : Cx} {K : PySem.W.Frag} (hK : X.K = K) : CallR X (.builtin "isinstance") (rIsE K) := by
  subst hK
  exact call_isE
def spNamesE (K : PySem.W.Frag) {mg : Str → Option Value} (TX : Er K mg) : Sp := fun vs H Q _ => ∃ (a D : Addr) (j0 : Nat), vs = [.ref a] ∧ Kit K TX D j0 ∧ ErrAt H a D ∧ ∀ L H', Stp [] H H' → H' L = some (.lst [wdV j0, .str "error"]) → Q (.ref L) H'
theorem cl__law_namesE {f : Addr} {fd : FuncData} (D : Df K mg "_law_names" s__law_names ["caught"] f fd) (T : Nm mg) (TX : Er K mg) : Cl P w K mg base 1 "_law_names" s__law_names ["caught"] (spNamesE K TX) := by
  refine D.cl sc__law_names (fun vs H Q E h => ?_) (fun cdv A outer s H vs Q E hr h => ?_)
  · obtain ⟨a, _, _, rfl, _⟩ := h
    rfl
  · obtain ⟨a, D0, j0, rfl, kt, ha, k⟩ := h
    refine ⟨_, (pss_cons (ps_set (i := 1) sc__law_names.nd rfl (by first | exact Or.inl rfl | exact Or.inr rfl) (pe_lst (pa_cons (pe_callB Pg.call_isE (by rfl) T.n_isinstance (by decide +kernel) (pa_cons (pv 0) (pa_cons (pe_glob (v := .ref TX.C_InvalidText) rfl TX.g_InvalidText rfl) pa_nil))) (pa_cons (pe_callB Pg.call_isE (by rfl) T.n_isinstance (by decide +kernel) (pa_cons (pv 0) (pa_cons (pe_glob (v := .ref TX.C_InvalidValue) rfl TX.g_InvalidValue rfl) pa_nil))) pa_nil))))
      (pss_cons (ps_set (i := 1) sc__law_names.nd rfl (by first | exact Or.inl rfl | exact Or.inr rfl) (pe_op op_cat (pv 1) (pe_lst (pa_cons (pe_callB Pg.call_isE (by rfl) T.n_isinstance (by decide +kernel) (pa_cons (pv 0) (pa_cons (pe_glob (v := .ref TX.C_InvalidSpan) rfl TX.g_InvalidSpan rfl) pa_nil))) (pa_cons (pe_callB Pg.call_isE (by rfl) T.n_isinstance (by decide +kernel) (pa_cons (pv 0) (pa_cons (pe_glob (v := .ref TX.C_InvalidFilter) rfl TX.g_InvalidFilter rfl) pa_nil))) pa_nil)))))
      (pss_cons (ps_set (i := 1) sc__law_names.nd rfl (by first | exact Or.inl rfl | exact Or.inr rfl) (pe_op op_cat (pv 1) (pe_lst (pa_cons (pe_callB Pg.call_isE (by rfl) T.n_isinstance (by decide +kernel) (pa_cons (pv 0) (pa_cons (pe_glob (v := .ref TX.C_InvalidRule) rfl TX.g_InvalidRule rfl) pa_nil))) (pa_cons (pe_callB Pg.call_isE (by rfl) T.n_isinstance (by decide +kernel) (pa_cons (pv 0) (pa_cons (pe_glob (v := .ref TX.C_InvalidPage) rfl TX.g_InvalidPage rfl) pa_nil))) pa_nil)))))
      (pss_cons (ps_set (i := 1) sc__law_names.nd rfl (by first | exact Or.inl rfl | exact Or.inr rfl) (pe_op op_cat (pv 1) (pe_lst (pa_cons (pe_callB Pg.call_isE (by rfl) T.n_isinstance (by decide +kernel) (pa_cons (pv 0) (pa_cons (pe_glob (v := .ref TX.C_InvalidNote) rfl TX.g_InvalidNote rfl) pa_nil))) (pa_cons (pe_callB Pg.call_isE (by rfl) T.n_isinstance (by decide +kernel) (pa_cons (pv 0) (pa_cons (pe_glob (v := .ref TX.C_InvalidColumn) rfl TX.g_InvalidColumn rfl) pa_nil))) pa_nil)))))
      (pss_cons (ps_set (i := 1) sc__law_names.nd rfl (by first | exact Or.inl rfl | exact Or.inr rfl) (pe_op op_cat (pv 1) (pe_lst (pa_cons (pe_callB Pg.call_isE (by rfl) T.n_isinstance (by decide +kernel) (pa_cons (pv 0) (pa_cons (pe_glob (v := .ref TX.C_InvalidIndex) rfl TX.g_InvalidIndex rfl) pa_nil))) (pa_cons (pe_callB Pg.call_isE (by rfl) T.n_isinstance (by decide +kernel) (pa_cons (pv 0) (pa_cons (pe_glob (v := .ref TX.C_InvalidNumber) rfl TX.g_InvalidNumber rfl) pa_nil))) pa_nil)))))
      (pss_cons (ps_set (i := 1) sc__law_names.nd rfl (by first | exact Or.inl rfl | exact Or.inr rfl) (pe_op op_cat (pv 1) (pe_lst (pa_cons (pe_callB Pg.call_isE (by rfl) T.n_isinstance (by decide +kernel) (pa_cons (pv 0) (pa_cons (pe_glob (v := .ref TX.C_InvalidCode) rfl TX.g_InvalidCode rfl) pa_nil))) (pa_cons (pe_callB Pg.call_isE (by rfl) T.n_isinstance (by decide +kernel) (pa_cons (pv 0) (pa_cons (pe_glob (v := .ref TX.C_NoBlock) rfl TX.g_NoBlock rfl) pa_nil))) pa_nil)))))
      (pss_cons (ps_set (i := 1) sc__law_names.nd rfl (by first | exact Or.inl rfl | exact Or.inr rfl) (pe_op op_cat (pv 1) (pe_lst (pa_cons (pe_callB Pg.call_isE (by rfl) T.n_isinstance (by decide +kernel) (pa_cons (pv 0) (pa_cons (pe_glob (v := .ref TX.C_NothingToUndo) rfl TX.g_NothingToUndo rfl) pa_nil))) (pa_cons (pe_callB Pg.call_isE (by rfl) T.n_isinstance (by decide +kernel) (pa_cons (pv 0) (pa_cons (pe_glob (v := .ref TX.C_Full) rfl TX.g_Full rfl) pa_nil))) pa_nil)))))
      (pss_cons (ps_set (i := 1) sc__law_names.nd rfl (by first | exact Or.inl rfl | exact Or.inr rfl) (pe_op op_cat (pv 1) (pe_lst (pa_cons (pe_callB Pg.call_isE (by rfl) T.n_isinstance (by decide +kernel) (pa_cons (pv 0) (pa_cons (pe_glob (v := .ref TX.C_InvalidCommand) rfl TX.g_InvalidCommand rfl) pa_nil))) (pa_cons (pe_callB Pg.call_isE (by rfl) T.n_isinstance (by decide +kernel) (pa_cons (pv 0) (pa_cons (pe_glob (v := .ref TX.C_InvalidWords) rfl TX.g_InvalidWords rfl) pa_nil))) pa_nil)))))
      (pss_cons (ps_set (i := 2) sc__law_names.nd rfl (by first | exact Or.inl rfl | exact Or.inr rfl) (pe_lst (pa_cons pe_str (pa_cons pe_str (pa_cons pe_str (pa_cons pe_str (pa_cons pe_str (pa_cons pe_str (pa_cons pe_str (pa_cons pe_str (pa_cons pe_str (pa_cons pe_str (pa_cons pe_str pa_nil)))))))))))))
      (pss_cons (ps_set (i := 2) sc__law_names.nd rfl (by first | exact Or.inl rfl | exact Or.inr rfl) (pe_op op_cat (pv 2) (pe_lst (pa_cons pe_str (pa_cons pe_str (pa_cons pe_str (pa_cons pe_str (pa_cons pe_str (pa_cons pe_str pa_nil)))))))))
      (pss_one (ps_ret (pe_lc (own := [("k", 3)]) rfl sc__law_names.nd (pi_range1 (by rfl) T.n_range (pa_cons pe_int pa_nil)) (blkOk_by (own := [("k", 3)]) (N := N__law_names) (sc := defScope s__law_names) (by decide +kernel)) (fun _ _ _ _ _ => (pg_name (i := 3) sc__law_names.nd rfl (by first | exact Or.inl rfl | exact Or.inr rfl))) (fun _ _ _ _ _ => (pts_one (pt_val (pe_ix (ix_listK rfl) (pe_op op_cat (pv 1) (pe_lst (pa_cons (pe_callB (call_isEK rfl) (by rfl) T.n_isinstance (by decide +kernel) (pa_cons (pv 0) (pa_cons (pe_bltn (v := .ty "ValueError") (u := Value.type "ValueError") (by rfl) T.n_ValueError (by decide +kernel) rfl) pa_nil))) pa_nil))) (pv 3) (fun _ _ => rfl))))) (fun _ _ _ _ _ => (pe_ix (ix_listK rfl) (pv 2) (pv 3) (fun _ _ => rfl)))))))))))))))), ?_⟩
    have nn : ∀ {x : Addr}, x ∉ ([] : List Addr) := fun m => nomatch m
    have s17 : (17 : Nat) ≤ sizeLine := by decide
    have sz : ∀ {n : Nat}, n ≤ 17 → n ≤ sizeLine := fun h => Nat.le_trans h s17
    have cc := kt.c
    -- the first two
    refine ⟨_, rfl, a, _, _, _, _, rfl, cc, ha, rv_ref, kt.i0, ?_⟩
    refine ⟨_, rfl, a, _, _, _, _, rfl, cc, ha, rv_ref, kt.i1, sz (by simp), fun p0 n0 => ?_⟩
    have S0 : Stp [] H (upd H p0 (.lst [.bl (decide (j0 = 0)), .bl (decide (j0 = 1))])) := Stp.new n0 _
    have h0 : (upd H p0 (.lst [.bl (decide (j0 = 0)), .bl (decide (j0 = 1))])) p0 = some (.lst [.bl (decide (j0 = 0)), .bl (decide (j0 = 1))]) := upd_same
    have a0 := ha.up S0
    generalize upd H p0 (.lst [.bl (decide (j0 = 0)), .bl (decide (j0 = 1))]) = H0 at *
    refine ⟨_, rfl, _, rfl, a, _, _, _, _, rfl, cc, a0, rv_ref, kt.i2, ?_⟩
    refine ⟨_, rfl, a, _, _, _, _, rfl, cc, a0, rv_ref, kt.i3, sz (by simp), fun q1 nq1 => ?_⟩
    have N1 : Stp [] H0 (upd H0 q1 (.lst [.bl (decide (j0 = 2)), .bl (decide (j0 = 3))])) := Stp.new nq1 _
    have e1 : (upd H0 q1 (.lst [.bl (decide (j0 = 2)), .bl (decide (j0 = 3))])) q1 = some (.lst [.bl (decide (j0 = 2)), .bl (decide (j0 = 3))]) := upd_same
    have g1 := N1.kp _ _ nn h0
    have b1 := a0.up N1
    generalize upd H0 q1 (.lst [.bl (decide (j0 = 2)), .bl (decide (j0 = 3))]) = G1 at *
    refine ⟨p0, q1, _, _, rfl, rfl, g1, e1, sz (by simp), fun p1 n1 => ?_⟩
    have M1 : Stp [] G1 (upd G1 p1 (.lst ([.bl (decide (j0 = 0)), .bl (decide (j0 = 1))] ++ [V.bl (decide (j0 = 2)), V.bl (decide (j0 = 3))]))) := Stp.new n1 _
    have h1 : (upd G1 p1 (.lst ([.bl (decide (j0 = 0)), .bl (decide (j0 = 1))] ++ [V.bl (decide (j0 = 2)), V.bl (decide (j0 = 3))]))) p1 = some (.lst [.bl (decide (j0 = 0)), .bl (decide (j0 = 1)), .bl (decide (j0 = 2)), .bl (decide (j0 = 3))]) := upd_same
    have a1 := b1.up M1
    have S1 := (S0.trans N1).trans M1
    generalize upd G1 p1 (.lst ([.bl (decide (j0 = 0)), .bl (decide (j0 = 1))] ++ [V.bl (decide (j0 = 2)), V.bl (decide (j0 = 3))])) = H1 at *
    refine ⟨_, rfl, _, rfl, a, _, _, _, _, rfl, cc, a1, rv_ref, kt.i4, ?_⟩
    refine ⟨_, rfl, a, _, _, _, _, rfl, cc, a1, rv_ref, kt.i5, sz (by simp), fun q2 nq2 => ?_⟩
    have N2 : Stp [] H1 (upd H1 q2 (.lst [.bl (decide (j0 = 4)), .bl (decide (j0 = 5))])) := Stp.new nq2 _
    have e2 : (upd H1 q2 (.lst [.bl (decide (j0 = 4)), .bl (decide (j0 = 5))])) q2 = some (.lst [.bl (decide (j0 = 4)), .bl (decide (j0 = 5))]) := upd_same
    have g2 := N2.kp _ _ nn h1
    have b2 := a1.up N2
    generalize upd H1 q2 (.lst [.bl (decide (j0 = 4)), .bl (decide (j0 = 5))]) = G2 at *
    refine ⟨p1, q2, _, _, rfl, rfl, g2, e2, sz (by simp), fun p2 n2 => ?_⟩
    have M2 : Stp [] G2 (upd G2 p2 (.lst ([.bl (decide (j0 = 0)), .bl (decide (j0 = 1)), .bl (decide (j0 = 2)), .bl (decide (j0 = 3))] ++ [V.bl (decide (j0 = 4)), V.bl (decide (j0 = 5))]))) := Stp.new n2 _
    have h2 : (upd G2 p2 (.lst ([.bl (decide (j0 = 0)), .bl (decide (j0 = 1)), .bl (decide (j0 = 2)), .bl (decide (j0 = 3))] ++ [V.bl (decide (j0 = 4)), V.bl (decide (j0 = 5))]))) p2 = some (.lst [.bl (decide (j0 = 0)), .bl (decide (j0 = 1)), .bl (decide (j0 = 2)), .bl (decide (j0 = 3)), .bl (decide (j0 = 4)), .bl (decide (j0 = 5))]) := upd_same
    have a2 := b2.up M2
    have S2 := (S1.trans N2).trans M2
    generalize upd G2 p2 (.lst ([.bl (decide (j0 = 0)), .bl (decide (j0 = 1)), .bl (decide (j0 = 2)), .bl (decide (j0 = 3))] ++ [V.bl (decide (j0 = 4)), V.bl (decide (j0 = 5))])) = H2 at *
    refine ⟨_, rfl, _, rfl, a, _, _, _, _, rfl, cc, a2, rv_ref, kt.i6, ?_⟩
    refine ⟨_, rfl, a, _, _, _, _, rfl, cc, a2, rv_ref, kt.i7, sz (by simp), fun q3 nq3 => ?_⟩
    have N3 : Stp [] H2 (upd H2 q3 (.lst [.bl (decide (j0 = 6)), .bl (decide (j0 = 7))])) := Stp.new nq3 _
    have e3 : (upd H2 q3 (.lst [.bl (decide (j0 = 6)), .bl (decide (j0 = 7))])) q3 = some (.lst [.bl (decide (j0 = 6)), .bl (decide (j0 = 7))]) := upd_same
    have g3 := N3.kp _ _ nn h2
    have b3 := a2.up N3
    generalize upd H2 q3 (.lst [.bl (decide (j0 = 6)), .bl (decide (j0 = 7))]) = G3 at *
    refine ⟨p2, q3, _, _, rfl, rfl, g3, e3, sz (by simp), fun p3 n3 => ?_⟩
    have M3 : Stp [] G3 (upd G3 p3 (.lst ([.bl (decide (j0 = 0)), .bl (decide (j0 = 1)), .bl (decide (j0 = 2)), .bl (decide (j0 = 3)), .bl (decide (j0 = 4)), .bl (decide (j0 = 5))] ++ [V.bl (decide (j0 = 6)), V.bl (decide (j0 = 7))]))) := Stp.new n3 _
    have h3 : (upd G3 p3 (.lst ([.bl (decide (j0 = 0)), .bl (decide (j0 = 1)), .bl (decide (j0 = 2)), .bl (decide (j0 = 3)), .bl (decide (j0 = 4)), .bl (decide (j0 = 5))] ++ [V.bl (decide (j0 = 6)), V.bl (decide (j0 = 7))]))) p3 = some (.lst [.bl (decide (j0 = 0)), .bl (decide (j0 = 1)), .bl (decide (j0 = 2)), .bl (decide (j0 = 3)), .bl (decide (j0 = 4)), .bl (decide (j0 = 5)), .bl (decide (j0 = 6)), .bl (decide (j0 = 7))]) := upd_same
    have a3 := b3.up M3
    have S3 := (S2.trans N3).trans M3
    generalize upd G3 p3 (.lst ([.bl (decide (j0 = 0)), .bl (decide (j0 = 1)), .bl (decide (j0 = 2)), .bl (decide (j0 = 3)), .bl (decide (j0 = 4)), .bl (decide (j0 = 5))] ++ [V.bl (decide (j0 = 6)), V.bl (decide (j0 = 7))])) = H3 at *
    refine ⟨_, rfl, _, rfl, a, _, _, _, _, rfl, cc, a3, rv_ref, kt.i8, ?_⟩
    refine ⟨_, rfl, a, _, _, _, _, rfl, cc, a3, rv_ref, kt.i9, sz (by simp), fun q4 nq4 => ?_⟩
    have N4 : Stp [] H3 (upd H3 q4 (.lst [.bl (decide (j0 = 8)), .bl (decide (j0 = 9))])) := Stp.new nq4 _
    have e4 : (upd H3 q4 (.lst [.bl (decide (j0 = 8)), .bl (decide (j0 = 9))])) q4 = some (.lst [.bl (decide (j0 = 8)), .bl (decide (j0 = 9))]) := upd_same
    have g4 := N4.kp _ _ nn h3
    have b4 := a3.up N4
    generalize upd H3 q4 (.lst [.bl (decide (j0 = 8)), .bl (decide (j0 = 9))]) = G4 at *
    refine ⟨p3, q4, _, _, rfl, rfl, g4, e4, sz (by simp), fun p4 n4 => ?_⟩
    have M4 : Stp [] G4 (upd G4 p4 (.lst ([.bl (decide (j0 = 0)), .bl (decide (j0 = 1)), .bl (decide (j0 = 2)), .bl (decide (j0 = 3)), .bl (decide (j0 = 4)), .bl (decide (j0 = 5)), .bl (decide (j0 = 6)), .bl (decide (j0 = 7))] ++ [V.bl (decide (j0 = 8)), V.bl (decide (j0 = 9))]))) := Stp.new n4 _
    have h4 : (upd G4 p4 (.lst ([.bl (decide (j0 = 0)), .bl (decide (j0 = 1)), .bl (decide (j0 = 2)), .bl (decide (j0 = 3)), .bl (decide (j0 = 4)), .bl (decide (j0 = 5)), .bl (decide (j0 = 6)), .bl (decide (j0 = 7))] ++ [V.bl (decide (j0 = 8)), V.bl (decide (j0 = 9))]))) p4 = some (.lst [.bl (decide (j0 = 0)), .bl (decide (j0 = 1)), .bl (decide (j0 = 2)), .bl (decide (j0 = 3)), .bl (decide (j0 = 4)), .bl (decide (j0 = 5)), .bl (decide (j0 = 6)), .bl (decide (j0 = 7)), .bl (decide (j0 = 8)), .bl (decide (j0 = 9))]) := upd_same
    have a4 := b4.up M4
    have S4 := (S3.trans N4).trans M4
    generalize upd G4 p4 (.lst ([.bl (decide (j0 = 0)), .bl (decide (j0 = 1)), .bl (decide (j0 = 2)), .bl (decide (j0 = 3)), .bl (decide (j0 = 4)), .bl (decide (j0 = 5)), .bl (decide (j0 = 6)), .bl (decide (j0 = 7))] ++ [V.bl (decide (j0 = 8)), V.bl (decide (j0 = 9))])) = H4 at *
    refine ⟨_, rfl, _, rfl, a, _, _, _, _, rfl, cc, a4, rv_ref, kt.i10, ?_⟩
    refine ⟨_, rfl, a, _, _, _, _, rfl, cc, a4, rv_ref, kt.i11, sz (by simp), fun q5 nq5 => ?_⟩
    have N5 : Stp [] H4 (upd H4 q5 (.lst [.bl (decide (j0 = 10)), .bl (decide (j0 = 11))])) := Stp.new nq5 _
    have e5 : (upd H4 q5 (.lst [.bl (decide (j0 = 10)), .bl (decide (j0 = 11))])) q5 = some (.lst [.bl (decide (j0 = 10)), .bl (decide (j0 = 11))]) := upd_same
    have g5 := N5.kp _ _ nn h4
    have b5 := a4.up N5
    generalize upd H4 q5 (.lst [.bl (decide (j0 = 10)), .bl (decide (j0 = 11))]) = G5 at *
    refine ⟨p4, q5, _, _, rfl, rfl, g5, e5, sz (by simp), fun p5 n5 => ?_⟩
    have M5 : Stp [] G5 (upd G5 p5 (.lst ([.bl (decide (j0 = 0)), .bl (decide (j0 = 1)), .bl (decide (j0 = 2)), .bl (decide (j0 = 3)), .bl (decide (j0 = 4)), .bl (decide (j0 = 5)), .bl (decide (j0 = 6)), .bl (decide (j0 = 7)), .bl (decide (j0 = 8)), .bl (decide (j0 = 9))] ++ [V.bl (decide (j0 = 10)), V.bl (decide (j0 = 11))]))) := Stp.new n5 _
    have h5 : (upd G5 p5 (.lst ([.bl (decide (j0 = 0)), .bl (decide (j0 = 1)), .bl (decide (j0 = 2)), .bl (decide (j0 = 3)), .bl (decide (j0 = 4)), .bl (decide (j0 = 5)), .bl (decide (j0 = 6)), .bl (decide (j0 = 7)), .bl (decide (j0 = 8)), .bl (decide (j0 = 9))] ++ [V.bl (decide (j0 = 10)), V.bl (decide (j0 = 11))]))) p5 = some (.lst [.bl (decide (j0 = 0)), .bl (decide (j0 = 1)), .bl (decide (j0 = 2)), .bl (decide (j0 = 3)), .bl (decide (j0 = 4)), .bl (decide (j0 = 5)), .bl (decide (j0 = 6)), .bl (decide (j0 = 7)), .bl (decide (j0 = 8)), .bl (decide (j0 = 9)), .bl (decide (j0 = 10)), .bl (decide (j0 = 11))]) := upd_same
    have a5 := b5.up M5
    have S5 := (S4.trans N5).trans M5
    generalize upd G5 p5 (.lst ([.bl (decide (j0 = 0)), .bl (decide (j0 = 1)), .bl (decide (j0 = 2)), .bl (decide (j0 = 3)), .bl (decide (j0 = 4)), .bl (decide (j0 = 5)), .bl (decide (j0 = 6)), .bl (decide (j0 = 7)), .bl (decide (j0 = 8)), .bl (decide (j0 = 9))] ++ [V.bl (decide (j0 = 10)), V.bl (decide (j0 = 11))])) = H5 at *
    refine ⟨_, rfl, _, rfl, a, _, _, _, _, rfl, cc, a5, rv_ref, kt.i12, ?_⟩
    refine ⟨_, rfl, a, _, _, _, _, rfl, cc, a5, rv_ref, kt.i13, sz (by simp), fun q6 nq6 => ?_⟩
    have N6 : Stp [] H5 (upd H5 q6 (.lst [.bl (decide (j0 = 12)), .bl (decide (j0 = 13))])) := Stp.new nq6 _
    have e6 : (upd H5 q6 (.lst [.bl (decide (j0 = 12)), .bl (decide (j0 = 13))])) q6 = some (.lst [.bl (decide (j0 = 12)), .bl (decide (j0 = 13))]) := upd_same
    have g6 := N6.kp _ _ nn h5
    have b6 := a5.up N6
    generalize upd H5 q6 (.lst [.bl (decide (j0 = 12)), .bl (decide (j0 = 13))]) = G6 at *
    refine ⟨p5, q6, _, _, rfl, rfl, g6, e6, sz (by simp), fun p6 n6 => ?_⟩
    have M6 : Stp [] G6 (upd G6 p6 (.lst ([.bl (decide (j0 = 0)), .bl (decide (j0 = 1)), .bl (decide (j0 = 2)), .bl (decide (j0 = 3)), .bl (decide (j0 = 4)), .bl (decide (j0 = 5)), .bl (decide (j0 = 6)), .bl (decide (j0 = 7)), .bl (decide (j0 = 8)), .bl (decide (j0 = 9)), .bl (decide (j0 = 10)), .bl (decide (j0 = 11))] ++ [V.bl (decide (j0 = 12)), V.bl (decide (j0 = 13))]))) := Stp.new n6 _
    have h6 : (upd G6 p6 (.lst ([.bl (decide (j0 = 0)), .bl (decide (j0 = 1)), .bl (decide (j0 = 2)), .bl (decide (j0 = 3)), .bl (decide (j0 = 4)), .bl (decide (j0 = 5)), .bl (decide (j0 = 6)), .bl (decide (j0 = 7)), .bl (decide (j0 = 8)), .bl (decide (j0 = 9)), .bl (decide (j0 = 10)), .bl (decide (j0 = 11))] ++ [V.bl (decide (j0 = 12)), V.bl (decide (j0 = 13))]))) p6 = some (.lst [.bl (decide (j0 = 0)), .bl (decide (j0 = 1)), .bl (decide (j0 = 2)), .bl (decide (j0 = 3)), .bl (decide (j0 = 4)), .bl (decide (j0 = 5)), .bl (decide (j0 = 6)), .bl (decide (j0 = 7)), .bl (decide (j0 = 8)), .bl (decide (j0 = 9)), .bl (decide (j0 = 10)), .bl (decide (j0 = 11)), .bl (decide (j0 = 12)), .bl (decide (j0 = 13))]) := upd_same
    have a6 := b6.up M6
    have S6 := (S5.trans N6).trans M6
    generalize upd G6 p6 (.lst ([.bl (decide (j0 = 0)), .bl (decide (j0 = 1)), .bl (decide (j0 = 2)), .bl (decide (j0 = 3)), .bl (decide (j0 = 4)), .bl (decide (j0 = 5)), .bl (decide (j0 = 6)), .bl (decide (j0 = 7)), .bl (decide (j0 = 8)), .bl (decide (j0 = 9)), .bl (decide (j0 = 10)), .bl (decide (j0 = 11))] ++ [V.bl (decide (j0 = 12)), V.bl (decide (j0 = 13))])) = H6 at *
    refine ⟨_, rfl, _, rfl, a, _, _, _, _, rfl, cc, a6, rv_ref, kt.i14, ?_⟩
    refine ⟨_, rfl, a, _, _, _, _, rfl, cc, a6, rv_ref, kt.i15, sz (by simp), fun q7 nq7 => ?_⟩
    have N7 : Stp [] H6 (upd H6 q7 (.lst [.bl (decide (j0 = 14)), .bl (decide (j0 = 15))])) := Stp.new nq7 _
    have e7 : (upd H6 q7 (.lst [.bl (decide (j0 = 14)), .bl (decide (j0 = 15))])) q7 = some (.lst [.bl (decide (j0 = 14)), .bl (decide (j0 = 15))]) := upd_same
    have g7 := N7.kp _ _ nn h6
    have b7 := a6.up N7
    generalize upd H6 q7 (.lst [.bl (decide (j0 = 14)), .bl (decide (j0 = 15))]) = G7 at *
    refine ⟨p6, q7, _, _, rfl, rfl, g7, e7, sz (by simp), fun p7 n7 => ?_⟩
    have M7 : Stp [] G7 (upd G7 p7 (.lst ([.bl (decide (j0 = 0)), .bl (decide (j0 = 1)), .bl (decide (j0 = 2)), .bl (decide (j0 = 3)), .bl (decide (j0 = 4)), .bl (decide (j0 = 5)), .bl (decide (j0 = 6)), .bl (decide (j0 = 7)), .bl (decide (j0 = 8)), .bl (decide (j0 = 9)), .bl (decide (j0 = 10)), .bl (decide (j0 = 11)), .bl (decide (j0 = 12)), .bl (decide (j0 = 13))] ++ [V.bl (decide (j0 = 14)), V.bl (decide (j0 = 15))]))) := Stp.new n7 _
    have h7 : (upd G7 p7 (.lst ([.bl (decide (j0 = 0)), .bl (decide (j0 = 1)), .bl (decide (j0 = 2)), .bl (decide (j0 = 3)), .bl (decide (j0 = 4)), .bl (decide (j0 = 5)), .bl (decide (j0 = 6)), .bl (decide (j0 = 7)), .bl (decide (j0 = 8)), .bl (decide (j0 = 9)), .bl (decide (j0 = 10)), .bl (decide (j0 = 11)), .bl (decide (j0 = 12)), .bl (decide (j0 = 13))] ++ [V.bl (decide (j0 = 14)), V.bl (decide (j0 = 15))]))) p7 = some (.lst [.bl (decide (j0 = 0)), .bl (decide (j0 = 1)), .bl (decide (j0 = 2)), .bl (decide (j0 = 3)), .bl (decide (j0 = 4)), .bl (decide (j0 = 5)), .bl (decide (j0 = 6)), .bl (decide (j0 = 7)), .bl (decide (j0 = 8)), .bl (decide (j0 = 9)), .bl (decide (j0 = 10)), .bl (decide (j0 = 11)), .bl (decide (j0 = 12)), .bl (decide (j0 = 13)), .bl (decide (j0 = 14)), .bl (decide (j0 = 15))]) := upd_same
    have a7 := b7.up M7
    have S7 := (S6.trans N7).trans M7
    generalize upd G7 p7 (.lst ([.bl (decide (j0 = 0)), .bl (decide (j0 = 1)), .bl (decide (j0 = 2)), .bl (decide (j0 = 3)), .bl (decide (j0 = 4)), .bl (decide (j0 = 5)), .bl (decide (j0 = 6)), .bl (decide (j0 = 7)), .bl (decide (j0 = 8)), .bl (decide (j0 = 9)), .bl (decide (j0 = 10)), .bl (decide (j0 = 11)), .bl (decide (j0 = 12)), .bl (decide (j0 = 13))] ++ [V.bl (decide (j0 = 14)), V.bl (decide (j0 = 15))])) = H7 at *
    -- the words
    refine ⟨sz (by decide), fun w0 m0 => ?_⟩
    have X0 : Stp [] H7 (upd H7 w0 (.lst [.str "text", .str "value", .str "span", .str "filter", .str "rule", .str "page", .str "note", .str "column", .str "index", .str "number", .str "code"])) := Stp.new m0 _
    have y0 : (upd H7 w0 (.lst [.str "text", .str "value", .str "span", .str "filter", .str "rule", .str "page", .str "note", .str "column", .str "index", .str "number", .str "code"])) w0 = some (.lst [.str "text", .str "value", .str "span", .str "filter", .str "rule", .str "page", .str "note", .str "column", .str "index", .str "number", .str "code"]) := upd_same
    generalize upd H7 w0 (.lst [.str "text", .str "value", .str "span", .str "filter", .str "rule", .str "page", .str "note", .str "column", .str "index", .str "number", .str "code"]) = H8 at *
    refine ⟨_, rfl, sz (by decide), fun w1 m1 => ?_⟩
    have X1 : Stp [] H8 (upd H8 w1 (.lst [.str "block", .str "undo", .str "full", .str "command", .str "words", .str "error"])) := Stp.new m1 _
    have y1 : (upd H8 w1 (.lst [.str "block", .str "undo", .str "full", .str "command", .str "words", .str "error"])) w1 = some (.lst [.str "block", .str "undo", .str "full", .str "command", .str "words", .str "error"]) := upd_same
    generalize upd H8 w1 (.lst [.str "block", .str "undo", .str "full", .str "command", .str "words", .str "error"]) = H9 at *
    refine ⟨w0, w1, _, _, rfl, rfl, X1.kp _ _ nn y0, y1, sz (by decide), fun W mW => ?_⟩
    have X2 : Stp [] H9 (upd H9 W (.lst ([.str "text", .str "value", .str "span", .str "filter", .str "rule", .str "page", .str "note", .str "column", .str "index", .str "number", .str "code"] ++ [.str "block", .str "undo", .str "full", .str "command", .str "words", .str "error"]))) := Stp.new mW _
    have y2 : (upd H9 W (.lst ([.str "text", .str "value", .str "span", .str "filter", .str "rule", .str "page", .str "note", .str "column", .str "index", .str "number", .str "code"] ++ [.str "block", .str "undo", .str "full", .str "command", .str "words", .str "error"]))) W = some (.lst wordsV) := upd_same
    generalize upd H9 W (.lst ([.str "text", .str "value", .str "span", .str "filter", .str "rule", .str "page", .str "note", .str "column", .str "index", .str "number", .str "code"] ++ [.str "block", .str "undo", .str "full", .str "command", .str "words", .str "error"])) = H10 at *
    have X02 := (X0.trans X1).trans X2
    have h10 := X02.kp _ _ nn h7
    have a10 := a7.up X02
    clear h0 a0 h1 a1 h2 a2 h3 a3 h4 a4 h5 a5 h6 a6 e1 e2 e3 e4 e5 e6 e7 g1 g2 g3 g4 g5 g6 g7 b1 b2 b3 b4 b5 b6 b7 y0 y1
    refine ⟨17, rfl, by decide, by decide, fun R nR => ?_⟩
    refine lc_range (lo := 0) (n := 17) (fun i H' => H' R = some (.lst ((plV (pjV j0) i).map wdV)) ∧ Stp [] H10 H') ⟨upd_same, Stp.new nR _⟩ ?_ ?_
    · rintro i H' hi ⟨hR, S⟩
      rw [Int.zero_add]
      have ha' := a10.up S
      have hp' := S.kp _ _ nn h10
      have hW' := S.kp _ _ nn y2
      obtain ⟨g1, g2⟩ := test_at (j0 := j0) hi
      have g3 := plV_succ (pjV j0) i
      refine ⟨rfl, _, rfl, _, rfl, a, _, _, _, _, rfl, cc, ha', rv_ve, kt.v, sz (by decide), fun q nq => ?_⟩
      have T1 : Stp [] H' (upd H' q (.lst [.bl true])) := Stp.new nq _
      have e1 : (upd H' q (.lst [.bl true])) q = some (.lst [.bl true]) := upd_same
      generalize upd H' q (.lst [.bl true]) = J1 at *
      refine ⟨p7, q, _, _, rfl, rfl, T1.kp _ _ nn hp', e1, sz (by simp), fun r nr => ?_⟩
      have T2 : Stp [] J1 (upd J1 r (.lst ([.bl (decide (j0 = 0)), .bl (decide (j0 = 1)), .bl (decide (j0 = 2)), .bl (decide (j0 = 3)), .bl (decide (j0 = 4)), .bl (decide (j0 = 5)), .bl (decide (j0 = 6)), .bl (decide (j0 = 7)), .bl (decide (j0 = 8)), .bl (decide (j0 = 9)), .bl (decide (j0 = 10)), .bl (decide (j0 = 11)), .bl (decide (j0 = 12)), .bl (decide (j0 = 13)), .bl (decide (j0 = 14)), .bl (decide (j0 = 15))] ++ [V.bl true]))) := Stp.new nr _
      have e2 : (upd J1 r (.lst ([.bl (decide (j0 = 0)), .bl (decide (j0 = 1)), .bl (decide (j0 = 2)), .bl (decide (j0 = 3)), .bl (decide (j0 = 4)), .bl (decide (j0 = 5)), .bl (decide (j0 = 6)), .bl (decide (j0 = 7)), .bl (decide (j0 = 8)), .bl (decide (j0 = 9)), .bl (decide (j0 = 10)), .bl (decide (j0 = 11)), .bl (decide (j0 = 12)), .bl (decide (j0 = 13)), .bl (decide (j0 = 14)), .bl (decide (j0 = 15))] ++ [V.bl true]))) r = some (.lst (testV j0)) := upd_same
      generalize upd J1 r (.lst ([.bl (decide (j0 = 0)), .bl (decide (j0 = 1)), .bl (decide (j0 = 2)), .bl (decide (j0 = 3)), .bl (decide (j0 = 4)), .bl (decide (j0 = 5)), .bl (decide (j0 = 6)), .bl (decide (j0 = 7)), .bl (decide (j0 = 8)), .bl (decide (j0 = 9)), .bl (decide (j0 = 10)), .bl (decide (j0 = 11)), .bl (decide (j0 = 12)), .bl (decide (j0 = 13)), .bl (decide (j0 = 14)), .bl (decide (j0 = 15))] ++ [V.bl true])) = J2 at *
      have T12 := T1.trans T2
      refine ⟨_, rfl, r, _, _, _, rfl, rfl, SqL.of e2, atI_nat g1, ?_⟩
      have hR2 := T12.kp _ _ nn hR
      refine ⟨_, rfl, ite2 (fun h => ?_) (fun h => ?_)⟩
      · refine ⟨_, rfl, _, rfl, W, _, _, _, rfl, rfl, SqL.of (T12.kp _ _ nn hW'), atI_nat g2, _, hR2, ?_, ?_, (S.trans T12).mut nR⟩
        · have := plV_len (pjV j0) i
          rw [List.length_map]
          exact Nat.lt_of_le_of_lt (show _ ≤ 17 by omega) (by decide)
        · rw [upd_same, g3, if_pos h, List.map_append]
          rfl
      · rw [g3, if_neg h, List.append_nil]
        exact ⟨hR2, S.trans T12⟩
    rintro H' ⟨hR, S⟩
    rw [names_at kt.lt] at hR
    exact k R H' ((S7.trans X02).trans S) hR
/-! ### what is refused -/
def orS (a b : Sp) : Sp := fun vs H Q E => a vs H Q E ∨ b vs H Q E
theorem Cl.orr {k : Nat} {x : Str} {st : Stmt} {ps : List Str} {sp sp' : Sp} (c : Cl P w K mg base k x st ps sp) (c' : Cl P w K mg base k x st ps sp') : Cl P w K mg base k x st ps (orS sp sp') := by
  obtain ⟨f, fd, D, F⟩ := c.ex
  obtain ⟨f', fd', D', F'⟩ := c'.ex
  obtain ⟨rfl, rfl⟩ := D.uniq D'
  exact ⟨_, _, D, FnOk.or F F'⟩
def BadT (K : PySem.W.Frag) (H : Hp) (v : V) : Prop := ∃ d, Rp K H v d ∧ ¬ IsTx d
def BadS (K : PySem.W.Frag) (H : Hp) (v : V) : Prop := ∃ S d, Rv K S H v d ∧ Sx.isSpn d = false ∧ Sx.SmallT d
def BadN (K : PySem.W.Frag) (H : Hp) (v : V) : Prop := ∃ d, Rp K H v d ∧ (d.ty ≠ some "int" ∨ ∃ i, v = .int i ∧ (i < 1 ∨ 1000 < i))
def badR (d : D) : Prop := (∀ ds, d ≠ .lst ds) ∨ ∃ ds, d = .lst ds ∧ ds.length ≤ 200 ∧ ∃ e ∈ ds, Sx.isRng e = false
def BadR (K : PySem.W.Frag) (H : Hp) (v : V) : Prop := ∃ S d, Rv K S H v d ∧ badR d
theorem BadT.up {H H' : Hp} {v : V} (h : BadT K H v) (s : Stp [] H H') : BadT K H' v := by
  obtain ⟨d, r, q⟩ := h
  exact ⟨d, r.stp s Lsts.nil, q⟩
theorem BadN.up {H H' : Hp} {v : V} (h : BadN K H v) (s : Stp [] H H') : BadN K H' v := by
  obtain ⟨d, r, q⟩ := h
  exact ⟨d, r.stp s Lsts.nil, q⟩
theorem BadS.up {H H' : Hp} {v : V} (h : BadS K H v) (s : Stp [] H H') : BadS K H' v := by
  obtain ⟨S, d, r, q⟩ := h
  exact ⟨S, d, r.up s, q⟩
theorem BadR.up {H H' : Hp} {v : V} (h : BadR K H v) (s : Stp [] H H') : BadR K H' v := by
  obtain ⟨S, d, r, q⟩ := h
  exact ⟨S, d, r.up s, q⟩
/-- the call is refused -/
def spB (bad : Hp → V → Prop) (C : Addr) : Sp := fun vs H _ E => ∃ v, vs = [v] ∧ bad H v ∧ ∀ H', Stp [] H H' → E (.ref C) none H'
theorem cl_check_textB {f : Addr} {fd : FuncData} (D : Df K mg "check_text" s_check_text ["text"] f fd) (T : Nm mg) (TX : Er K mg) (c_is_text : Cl P w K mg base 1 "is_text" s_is_text ["value"] (spIsText K)) : ClX P w K mg base 2 "check_text" s_check_text ["text"] (spB (BadT K) TX.C_InvalidText) := by
  refine D.clX sc_check_text (fun vs H Q E h => ?_) (fun cdv A outer s H vs Q E hr h tk => ?_)
  · obtain ⟨v, rfl, _⟩ := h
    rfl
  · obtain ⟨v, rfl, ⟨d, r, no⟩, k⟩ := h
    refine ⟨_, (pss_one (ps_if (pt_not (pt_val (pe_cl c_is_text hr (by omega) (pa_cons (pv 0) pa_nil)))) (pss_one (ps_raise1 rfl tk TX.e_InvalidText)) pss_nil)), ?_⟩
    refine ⟨_, rfl, v, d, rfl, r, fun b hb => ?_⟩
    obtain rfl : b = false := Bool.eq_false_iff.mpr fun e => no (hb.mp e)
    exact ⟨_, rfl, ite2 (fun _ => k H (Stp.refl _ _)) (fun h => absurd rfl h)⟩
theorem cl_check_spanB {f : Addr} {fd : FuncData} (D : Df K mg "check_span" s_check_span ["span"] f fd) (T : Nm mg) (TX : Er K mg) (c_is_span : Cl P w K mg base 3 "is_span" s_is_span ["value"] (Sx.spTellS K)) : ClX P w K mg base 4 "check_span" s_check_span ["span"] (spB (BadS K) TX.C_InvalidSpan) := by
  refine D.clX sc_check_span (fun vs H Q E h => ?_) (fun cdv A outer s H vs Q E hr h tk => ?_)
  · obtain ⟨v, rfl, _⟩ := h
    rfl
  · obtain ⟨v, rfl, ⟨S, d, r, no, sm⟩, k⟩ := h
    refine ⟨_, (pss_one (ps_if (pt_not (pt_val (pe_cl c_is_span hr (by omega) (pa_cons (pv 0) pa_nil)))) (pss_one (ps_raise1 rfl tk TX.e_InvalidSpan)) pss_nil)), ?_⟩
    refine ⟨_, rfl, S, v, d, rfl, r, sm, fun H1 b S1 hb => ?_⟩
    rw [no] at hb
    subst hb
    exact ⟨_, rfl, ite2 (fun _ => k H1 S1) (fun h => absurd rfl h)⟩
theorem cl_check_mostB {f : Addr} {fd : FuncData} (D : Df K mg "check_most" s_check_most ["most"] f fd) (T : Nm mg) (TX : Er K mg) : ClX P w K mg base 1 "check_most" s_check_most ["most"] (spB (BadN K) TX.C_InvalidNumber) := by
  refine D.clX sc_check_most (fun vs H Q E h => ?_) (fun cdv A outer s H vs Q E hr h tk => ?_)
  · obtain ⟨v, rfl, _⟩ := h
    rfl
  · obtain ⟨v, rfl, ⟨d, r, bad⟩, k⟩ := h
    refine ⟨_, (pss_one (ps_if (PW.pt (pw_or (pt_tyNot (T := "int") Mono.var (pv 0) T.n_type T.n_int (by decide +kernel)) (pw_or (pt_cmpR op_lt (pv 0) pe_int (by first | exact nomark _ | rfl)) (pw_or1 (pt_cmpR op_gt (pv 0) pe_int (by first | exact nomark _ | rfl)))))) (pss_one (ps_raise1 rfl tk TX.e_InvalidNumber)) pss_nil)), ?_⟩
    have k0 := k H (Stp.refl _ _)
    refine ⟨_, rfl, d, r, ?_⟩
    refine ite2 (fun _ => k0) (fun h => ?_)
    have e : d.ty = some "int" := by
      have h2 := Bool.eq_false_iff.mpr h
      simpa using h2
    obtain ⟨i, rfl, hi⟩ := bad.resolve_left fun q => q e
    refine ⟨_, rfl, _, _, rfl, rfl, _, rfl, ite2 (fun _ => k0) (fun h1 => ?_)⟩
    have h1 : ¬ i < 1 := fun q => h1 (decide_eq_true q)
    refine ⟨_, rfl, _, _, rfl, rfl, _, rfl, ite2 (fun _ => k0) (fun h2 => ?_)⟩
    have h2 : ¬ 1000 < i := fun q => h2 (decide_eq_true q)
    omega
theorem cl_check_rangesB {f : Addr} {fd : FuncData} (D : Df K mg "check_ranges" s_check_ranges ["ranges"] f fd) (T : Nm mg) (TX : Er K mg) (c_is_range : Cl P w K mg base 2 "is_range" s_is_range ["value"] (Sx.spTell K Sx.isRng)) : ClX P w K mg base 3 "check_ranges" s_check_ranges ["ranges"] (spB (BadR K) TX.C_InvalidSpan) := by
  refine D.clX sc_check_ranges (fun vs H Q E h => ?_) (fun cdv A outer s H vs Q E hr h tk => ?_)
  · obtain ⟨v, rfl, _⟩ := h
    rfl
  · obtain ⟨v, rfl, ⟨S, d, r, bad⟩, k⟩ := h
    refine ⟨_, (pss_one (ps_if (PW.pt (pw_or (pt_tyNot (T := "list") Mono.var (pv 0) T.n_type T.n_list (by decide +kernel)) (pw_or1 (pt_not (pt_val (pe_callB (cr_all rfl) (by rfl) T.n_all (by decide +kernel) (pa_cons (pe_lc (own := [("part", 1)]) rfl sc_check_ranges.nd (pi_list (pv 0)) (blkOk_by (own := [("part", 1)]) (N := N_check_ranges) (sc := defScope s_check_ranges) (by decide +kernel)) (fun _ _ _ _ _ => (pg_name (i := 1) sc_check_ranges.nd rfl (by first | exact Or.inl rfl | exact Or.inr rfl))) (fun _ _ _ _ _ => pts_nil) (fun _ _ _ _ _ => (pe_cl c_is_range hr (by omega) (pa_cons (pv 1) pa_nil)))) pa_nil))))))) (pss_one (ps_raise1 rfl tk TX.e_InvalidSpan)) pss_nil)), ?_⟩
    refine ⟨_, rfl, d.old, r.old, ?_⟩
    refine ite2 (fun _ => k H (Stp.refl _ _)) (fun h => ?_)
    have e : ∃ ds, d = .lst ds := Pv.D.lst_of (by
      have h2 := Bool.eq_false_iff.mpr h
      simpa [Pv.D.ty] using h2)
    obtain ⟨ds0, e⟩ := e
    obtain ⟨ds, e2, few, u, mu, bu⟩ := bad.resolve_left fun q => q ds0 e
    subst e2
    cases r with
    | lst ha hn hl rl =>
      rename_i a xs
      refine ⟨_, rfl, a, rfl, ⟨_, SqL.of ha⟩, fun L nL => ?_⟩
      refine lc_mapL (K := K) (ds := (ds.map Sx.isRng).map Dt.bl) nL (SqL.of ha) (by simp [rl.len]) (by rw [rl.len]; omega) (fun j x e H3 hx hd S3 Q2 q => ?_) fun ws H3 S3 h3 r3 => ?_
      · obtain ⟨e', he, re⟩ := rl.get hx
        rw [List.getElem?_map, List.getElem?_map, he] at hd
        cases hd
        exact ⟨rfl, _, rfl, S, x, e', rfl, re.up S3, fun H4 b S4 eb => q _ _ S4 (by rw [eb]; exact .bl _)⟩
      obtain rfl := rpl_bls r3
      refine ⟨L, _, rfl, SqL.of h3, ?_⟩
      have e1 : (ds.map Sx.isRng).all id = false := by
        rw [List.all_map]
        exact List.all_eq_false.mpr ⟨u, mu, by rw [Function.comp, bu]; simp⟩
      rw [e1]
      exact ⟨_, rfl, ite2 (fun _ => k H3 S3) (fun h => absurd rfl h)⟩
/-! ### the calls that are refused -/
def spB2 (bad : Hp → V → Prop) (good : Hp → V → Prop) (bad2 : Hp → V → Prop) (C C' : Addr) : Sp := fun vs H _ E => ∃ v1 v2, vs = [v1, v2] ∧ (bad H v1 ∧ (∀ H', Stp [] H H' → E (.ref C) none H') ∨ good H v1 ∧ bad2 H v2 ∧ ∀ H', Stp [] H H' → E (.ref C') none H')
def GoodS (K : PySem.W.Frag) (H : Hp) (v : V) : Prop := ∃ a ps, v = .ref a ∧ Spn K H a ps ∧ ps.length ≤ 100
theorem GoodS.up {H H' : Hp} {v : V} (h : GoodS K H v) (s : Stp [] H H') : GoodS K H' v := by
  obtain ⟨a, ps, e, sp, few⟩ := h
  exact ⟨a, ps, e, sp.up s, few⟩
abbrev spCkSX (K : PySem.W.Frag) (C : Addr) : Sp := orS (spCkSpan K) (spB (BadS K) C)
theorem cl_oppositeB {f : Addr} {fd : FuncData} (D : Df K mg "opposite" s_opposite ["span"] f fd) (T : Nm mg) (TX : Er K mg) (c_check_spanX : ClX P w K mg base 4 "check_span" s_check_span ["span"] (spCkSX K TX.C_InvalidSpan)) : ClX P w K mg base 5 "opposite" s_opposite ["span"] (spB (BadS K) TX.C_InvalidSpan) := by
  refine D.clX sc_opposite (fun vs H Q E h => ?_) (fun cdv A outer s H vs Q E hr h tk => ?_)
  · obtain ⟨v, rfl, _⟩ := h
    rfl
  · obtain ⟨v, rfl, bad, k⟩ := h
    refine ⟨_, (pss_cons (ps_expr (pe_clX c_check_spanX tk hr (by omega) (pa_cons (pv 0) pa_nil)))
      (PSs.nox (pss_cons (ps_set (i := 1) sc_opposite.nd rfl (by first | exact Or.inl rfl | exact Or.inr rfl) (pe_lst pa_nil))
      (pss_cons (ps_set (i := 2) sc_opposite.nd rfl (by first | exact Or.inl rfl | exact Or.inr rfl) pe_str)
      (pss_cons (ps_for PassesOwn.never rfl (pi_tup (pv 0)) (pg_tup rfl (pgs_cons (pg_name (i := 3) sc_opposite.nd rfl (by first | exact Or.inl rfl | exact Or.inr rfl)) (pgs_cons (pg_name (i := 4) sc_opposite.nd rfl (by first | exact Or.inl rfl | exact Or.inr rfl)) pgs_nil (by rfl)) (by rfl)) (by rfl) (by rfl)) (pss_cons (ps_if (pt_cmpR op_lt_str (pv 2) (pv 3) (by first | exact nomark _ | rfl)) (pss_one (ps_expr (pe_bm PySem.F.plainAttrs_list PySem.F.slot_list_append PySem.F.type_list_append mt_append (pv 1) (pa_cons (pe_tup (pa_cons (pv 2) (pa_cons (pv 3) pa_nil))) pa_nil)))) pss_nil)
      (pss_one (ps_set (i := 2) sc_opposite.nd rfl (by first | exact Or.inl rfl | exact Or.inr rfl) (pv 4)))))
      (pss_cons (ps_if (pt_cmpR op_notN (pv 2) pe_non (by first | exact nomark _ | rfl)) (pss_one (ps_expr (pe_bm PySem.F.plainAttrs_list PySem.F.slot_list_append PySem.F.type_list_append mt_append (pv 1) (pa_cons (pe_tup (pa_cons (pv 2) (pa_cons pe_non pa_nil))) pa_nil)))) pss_nil)
      (pss_one (ps_ret (pe_callTy call_tuple_of (by rfl) T.n_tuple (by decide +kernel) (pa_cons (pv 1) pa_nil)))))))))), ?_⟩
    exact ⟨_, rfl, .inr ⟨v, rfl, bad, k⟩⟩
theorem cl_least_textB {f : Addr} {fd : FuncData} (D : Df K mg "least_text" s_least_text ["span"] f fd) (T : Nm mg) (TX : Er K mg) (c_check_spanX : ClX P w K mg base 4 "check_span" s_check_span ["span"] (spCkSX K TX.C_InvalidSpan)) : ClX P w K mg base 5 "least_text" s_least_text ["span"] (spB (BadS K) TX.C_InvalidSpan) := by
  refine D.clX sc_least_text (fun vs H Q E h => ?_) (fun cdv A outer s H vs Q E hr h tk => ?_)
  · obtain ⟨v, rfl, _⟩ := h
    rfl
  · obtain ⟨v, rfl, bad, k⟩ := h
    refine ⟨_, (pss_cons (ps_expr (pe_clX c_check_spanX tk hr (by omega) (pa_cons (pv 0) pa_nil)))
      (pss_one (ps_ret (pe_ifExp (pt_truth (pv 0) (by intro _; rfl)) (pe_ix ix_tup (pe_ix ix_tup (pv 0) pe_int (fun _ _ => rfl)) pe_int (fun _ _ => rfl)) pe_non)))), ?_⟩
    exact ⟨_, rfl, .inr ⟨v, rfl, bad, k⟩⟩
theorem cl_is_finiteB {f : Addr} {fd : FuncData} (D : Df K mg "is_finite" s_is_finite ["span"] f fd) (T : Nm mg) (TX : Er K mg) (c_check_spanX : ClX P w K mg base 4 "check_span" s_check_span ["span"] (spCkSX K TX.C_InvalidSpan)) (c_ends_soon : Cl P w K mg base 1 "ends_soon" s_ends_soon ["first", "end"] spSoon) : ClX P w K mg base 5 "is_finite" s_is_finite ["span"] (spB (BadS K) TX.C_InvalidSpan) := by
  refine D.clX sc_is_finite (fun vs H Q E h => ?_) (fun cdv A outer s H vs Q E hr h tk => ?_)
  · obtain ⟨v, rfl, _⟩ := h
    rfl
  · obtain ⟨v, rfl, bad, k⟩ := h
    refine ⟨_, (pss_cons (ps_expr (pe_clX c_check_spanX tk hr (by omega) (pa_cons (pv 0) pa_nil)))
      (pss_one (ps_ret (pe_callB (cr_all rfl) (by rfl) T.n_all (by decide +kernel) (pa_cons (pe_lc (own := [("first", 1), ("end", 2)]) rfl sc_is_finite.nd (pi_tup (pv 0)) (blkOk_by (own := [("first", 1), ("end", 2)]) (N := N_is_finite) (sc := defScope s_is_finite) (by decide +kernel)) (fun _ _ _ _ _ => (pg_tupK (n := 2) rfl rfl (pgs_cons (pg_name (i := 1) sc_is_finite.nd rfl (by first | exact Or.inl rfl | exact Or.inr rfl)) (pgs_cons (pg_name (i := 2) sc_is_finite.nd rfl (by first | exact Or.inl rfl | exact Or.inr rfl)) pgs_nil (by rfl)) (by rfl)) (by rfl) (by rfl))) (fun _ _ _ _ _ => pts_nil) (fun _ _ _ _ _ => (pe_cl c_ends_soon hr (by omega) (pa_cons (pv 1) (pa_cons (pv 2) pa_nil))))) pa_nil))))), ?_⟩
    exact ⟨_, rfl, .inr ⟨v, rfl, bad, k⟩⟩
theorem cl_span_ofB {f : Addr} {fd : FuncData} (D : Df K mg "span_of" s_span_of ["ranges"] f fd) (T : Nm mg) (TX : Er K mg) (c_check_rangesX : ClX P w K mg base 3 "check_ranges" s_check_ranges ["ranges"] (spB (BadR K) TX.C_InvalidSpan)) (c_later_end : Cl P w K mg base 1 "later_end" s_later_end ["end", "other_end"] spLater)
    (c_ascending : Cl P w K mg base 1 "ascending" s_ascending ["texts"] (spAsc K)) (c_reaches : Cl P w K mg base 1 "reaches" s_reaches ["end", "first"] spReachesG) : ClX P w K mg base 4 "span_of" s_span_of ["ranges"] (spB (BadR K) TX.C_InvalidSpan) := by
  refine D.clX sc_span_of (fun vs H Q E h => ?_) (fun cdv A outer s H vs Q E hr h tk => ?_)
  · obtain ⟨v, rfl, _⟩ := h
    rfl
  · obtain ⟨v, rfl, bad, k⟩ := h
    refine ⟨_, (pss_cons (ps_expr (pe_clX c_check_rangesX tk hr (by omega) (pa_cons (pv 0) pa_nil)))
      (PSs.nox (pss_cons (ps_set (i := 1) sc_span_of.nd rfl (by first | exact Or.inl rfl | exact Or.inr rfl) pe_dnewK)
      (pss_cons (ps_for PassesOwn.never rfl (pi_list (pv 0)) (pg_tup rfl (pgs_cons (pg_name (i := 2) sc_span_of.nd rfl (by first | exact Or.inl rfl | exact Or.inr rfl)) (pgs_cons (pg_name (i := 3) sc_span_of.nd rfl (by first | exact Or.inl rfl | exact Or.inr rfl)) pgs_nil (by rfl)) (by rfl)) (by rfl) (by rfl)) (pss_one (ps_dput (hu_of hr) (pv 1) (pv 2) (pe_ifExp (pt_cmp (pc_din (hu_of hr) (pv 2) (pv 1))) (pe_cl c_later_end hr (by omega) (pa_cons (pv 3) (pa_cons (pe_dget (hu_of hr) (pv 1) (pv 2) (fun _ _ => rfl)) pa_nil))) (pv 3)) rfl)))
      (pss_cons (ps_set (i := 4) sc_span_of.nd rfl (by first | exact Or.inl rfl | exact Or.inr rfl) (pe_lst pa_nil))
      (pss_cons (ps_for PassesOwn.never rfl (pi_list (pe_cl c_ascending hr (by omega) (pa_cons (pe_callTy (call_list_dK rfl) (by rfl) T.n_list (by decide +kernel) (pa_cons (pv 1) pa_nil)) pa_nil))) (pg_name (i := 2) sc_span_of.nd rfl (by first | exact Or.inl rfl | exact Or.inr rfl)) (pss_one (ps_if (PW.pt (pw_and (pt_truth (pv 4) (by intro _; rfl)) (pw_and1 (pt_val (pe_cl c_reaches hr (by omega) (pa_cons (pe_ix ix_tup (pe_ix ix_list (pv 4) (pe_un un_neg pe_int) (fun _ _ => rfl)) pe_int (fun _ _ => rfl)) (pa_cons (pv 2) pa_nil))))))) (pss_one (ps_asg (pe_tup (pa_cons (pe_ix ix_tup (pe_ix ix_list (pv 4) (pe_un un_neg pe_int) (fun _ _ => rfl)) pe_int (fun _ _ => rfl)) (pa_cons (pe_cl c_later_end hr (by omega) (pa_cons (pe_ix ix_tup (pe_ix ix_list (pv 4) (pe_un un_neg pe_int) (fun _ _ => rfl)) pe_int (fun _ _ => rfl)) (pa_cons (pe_dget (hu_of hr) (pv 1) (pv 2) (fun _ _ => rfl)) pa_nil))) pa_nil))) (pg_sub (pv 4) (pe_un un_neg pe_int) set_list))) (pss_one (ps_expr (pe_bm PySem.F.plainAttrs_list PySem.F.slot_list_append PySem.F.type_list_append mt_append (pv 4) (pa_cons (pe_tup (pa_cons (pv 2) (pa_cons (pe_dget (hu_of hr) (pv 1) (pv 2) (fun _ _ => rfl)) pa_nil))) pa_nil)))))))
      (pss_one (ps_ret (pe_callTy call_tuple_of (by rfl) T.n_tuple (by decide +kernel) (pa_cons (pv 4) pa_nil)))))))))), ?_⟩
    exact ⟨_, rfl, v, rfl, bad, k⟩
theorem cl_joinedB {f : Addr} {fd : FuncData} (D : Df K mg "joined" s_joined ["span", "other_span"] f fd) (T : Nm mg) (TX : Er K mg) (c_check_spanX : ClX P w K mg base 4 "check_span" s_check_span ["span"] (spCkSX K TX.C_InvalidSpan)) (c_span_of : Cl P w K mg base 4 "span_of" s_span_of ["ranges"] (spSpanOf K)) :
    ClX P w K mg base 5 "joined" s_joined ["span", "other_span"] (spB2 (BadS K) (GoodS K) (BadS K) TX.C_InvalidSpan TX.C_InvalidSpan) := by
  refine D.clX sc_joined (fun vs H Q E h => ?_) (fun cdv A outer s H vs Q E hr h tk => ?_)
  · obtain ⟨v1, v2, rfl, _⟩ := h
    rfl
  · obtain ⟨v1, v2, rfl, h⟩ := h
    refine ⟨_, (pss_cons (ps_expr (pe_clX c_check_spanX tk hr (by omega) (pa_cons (pv 0) pa_nil)))
      (pss_cons (ps_expr (pe_clX c_check_spanX tk hr (by omega) (pa_cons (pv 1) pa_nil)))
      (pss_one (ps_ret (pe_cl c_span_of hr (by omega) (pa_cons (pe_lst (StX.pa_star (pv 0) (StX.pa_star (pv 1) pa_nil))) pa_nil)))))), ?_⟩
    rcases h with ⟨bad, k⟩ | ⟨⟨a, ps, rfl, sp, few⟩, bad, k⟩
    · exact ⟨_, rfl, .inr ⟨v1, rfl, bad, k⟩⟩
    · exact ⟨_, rfl, .inl ⟨a, ps, rfl, sp, fun H1 S1 => ⟨_, rfl, .inr ⟨v2, rfl, bad.up S1, fun H2 S2 => k H2 (S1.trans S2)⟩⟩⟩⟩
theorem cl_sharedB {f : Addr} {fd : FuncData} (D : Df K mg "shared" s_shared ["span", "other_span"] f fd) (T : Nm mg) (TX : Er K mg) (c_oppositeX : ClX P w K mg base 5 "opposite" s_opposite ["span"] (orS (spOpp K) (spB (BadS K) TX.C_InvalidSpan))) (c_joined : Cl P w K mg base 5 "joined" s_joined ["span", "other_span"] (spJoined K)) :
    ClX P w K mg base 6 "shared" s_shared ["span", "other_span"] (spB2 (BadS K) (GoodS K) (BadS K) TX.C_InvalidSpan TX.C_InvalidSpan) := by
  refine D.clX sc_shared (fun vs H Q E h => ?_) (fun cdv A outer s H vs Q E hr h tk => ?_)
  · obtain ⟨v1, v2, rfl, _⟩ := h
    rfl
  · obtain ⟨v1, v2, rfl, h⟩ := h
    refine ⟨_, (pss_one (ps_ret (pe_clX c_oppositeX tk hr (by omega) (pa_cons (pe_cl c_joined hr (by omega) (pa_cons (pe_clX c_oppositeX tk hr (by omega) (pa_cons (pv 0) pa_nil)) (pa_cons (pe_clX c_oppositeX tk hr (by omega) (pa_cons (pv 1) pa_nil)) pa_nil))) pa_nil)))), ?_⟩
    rcases h with ⟨bad, k⟩ | ⟨⟨a, ps, rfl, sp, few⟩, bad, k⟩
    · exact ⟨_, rfl, .inr ⟨v1, rfl, bad, k⟩⟩
    · exact ⟨_, rfl, .inl ⟨a, ps, rfl, sp, by omega, fun b H1 S1 _ => ⟨_, rfl, .inr ⟨v2, rfl, bad.up S1, fun H2 S2 => k H2 (S1.trans S2)⟩⟩⟩⟩
theorem cl_hasB {f : Addr} {fd : FuncData} (D : Df K mg "has" s_has ["span", "text"] f fd) (T : Nm mg) (TX : Er K mg) (c_check_spanX : ClX P w K mg base 4 "check_span" s_check_span ["span"] (spCkSX K TX.C_InvalidSpan)) (c_check_textX : ClX P w K mg base 2 "check_text" s_check_text ["text"] (spB (BadT K) TX.C_InvalidText)) :
    ClX P w K mg base 5 "has" s_has ["span", "text"] (spB2 (BadS K) (GoodS K) (BadT K) TX.C_InvalidSpan TX.C_InvalidText) := by
  refine D.clX sc_has (fun vs H Q E h => ?_) (fun cdv A outer s H vs Q E hr h tk => ?_)
  · obtain ⟨v1, v2, rfl, _⟩ := h
    rfl
  · obtain ⟨v1, v2, rfl, h⟩ := h
    refine ⟨_, (pss_cons (ps_expr (pe_clX c_check_spanX tk hr (by omega) (pa_cons (pv 0) pa_nil)))
      (pss_cons (ps_expr (pe_clX c_check_textX tk hr (by omega) (pa_cons (pv 1) pa_nil)))
      (pss_one (ps_ret (pe_callB (cr_any rfl) (by rfl) T.n_any (by decide +kernel) (pa_cons (pe_lc (own := [("first", 2), ("end", 3)]) rfl sc_has.nd (pi_tup (pv 0)) (blkOk_by (own := [("first", 2), ("end", 3)]) (N := N_has) (sc := defScope s_has) (by decide +kernel)) (fun _ _ _ _ _ => (pg_tupK (n := 2) rfl rfl (pgs_cons (pg_name (i := 2) sc_has.nd rfl (by first | exact Or.inl rfl | exact Or.inr rfl)) (pgs_cons (pg_name (i := 3) sc_has.nd rfl (by first | exact Or.inl rfl | exact Or.inr rfl)) pgs_nil (by rfl)) (by rfl)) (by rfl) (by rfl))) (fun _ _ _ _ _ => pts_nil) (fun _ _ _ _ _ => (pe_and (pe_cmpR op_le_str (pv 2) (pv 1) (by first | exact nomark _ | rfl)) (pe_one (pe_or (pe_cmpR op_isN (pv 3) pe_non (by first | exact nomark _ | rfl)) (pe_one (pe_cmpR op_lt_str (pv 1) (pv 3) (by first | exact nomark _ | rfl)))))))) pa_nil)))))), ?_⟩
    rcases h with ⟨bad, k⟩ | ⟨⟨a, ps, rfl, sp, few⟩, bad, k⟩
    · exact ⟨_, rfl, .inr ⟨v1, rfl, bad, k⟩⟩
    · exact ⟨_, rfl, .inl ⟨a, ps, rfl, sp, fun H1 S1 => ⟨_, rfl, v2, rfl, bad.up S1, fun H2 S2 => k H2 (S1.trans S2)⟩⟩⟩
theorem cl_texts_inB {f : Addr} {fd : FuncData} (D : Df K mg "texts_in" s_texts_in ["span", "most"] f fd) (T : Nm mg) (TX : Er K mg) (c_check_spanX : ClX P w K mg base 4 "check_span" s_check_span ["span"] (spCkSX K TX.C_InvalidSpan)) (c_check_mostX : ClX P w K mg base 1 "check_most" s_check_most ["most"] (spB (BadN K) TX.C_InvalidNumber)) (c_behind : Cl P w K mg base 3 "behind" s_behind ["text"] spBehind) :
    ClX P w K mg base 5 "texts_in" s_texts_in ["span", "most"] (spB2 (BadS K) (GoodS K) (BadN K) TX.C_InvalidSpan TX.C_InvalidNumber) := by
  refine D.clX sc_texts_in (fun vs H Q E h => ?_) (fun cdv A outer s H vs Q E hr h tk => ?_)
  · obtain ⟨v1, v2, rfl, _⟩ := h
    rfl
  · obtain ⟨v1, v2, rfl, h⟩ := h
    refine ⟨_, (pss_cons (ps_expr (pe_clX c_check_spanX tk hr (by omega) (pa_cons (pv 0) pa_nil)))
      (pss_cons (ps_expr (pe_clX c_check_mostX tk hr (by omega) (pa_cons (pv 1) pa_nil)))
      (PSs.nox (pss_cons (ps_set (i := 2) sc_texts_in.nd rfl (by first | exact Or.inl rfl | exact Or.inr rfl) (pe_lst pa_nil))
      (pss_cons (ps_for PassesOwn.never rfl (pi_tup (pv 0)) (pg_tup rfl (pgs_cons (pg_name (i := 3) sc_texts_in.nd rfl (by first | exact Or.inl rfl | exact Or.inr rfl)) (pgs_cons (pg_name (i := 4) sc_texts_in.nd rfl (by first | exact Or.inl rfl | exact Or.inr rfl)) pgs_nil (by rfl)) (by rfl)) (by rfl) (by rfl)) (pss_cons (ps_set (i := 5) sc_texts_in.nd rfl (by first | exact Or.inl rfl | exact Or.inr rfl) (pv 3))
      (pss_one (ps_while PassesOwn.never (PW.pt (pw_and (pt_cmpR op_lt (pe_callB call_len_seq (by rfl) T.n_len (by decide +kernel) (pa_cons (pv 2) pa_nil)) (pv 1) (by first | exact nomark _ | rfl)) (pw_and1 (PW.pt (pw_or (pt_cmpR op_isN (pv 4) pe_non (by first | exact nomark _ | rfl)) (pw_or1 (pt_cmpR op_lt_str (pv 5) (pv 4) (by first | exact nomark _ | rfl)))))))) (pss_cons (ps_expr (pe_bm PySem.F.plainAttrs_list PySem.F.slot_list_append PySem.F.type_list_append mt_append (pv 2) (pa_cons (pv 5) pa_nil)))
      (pss_one (ps_set (i := 5) sc_texts_in.nd rfl (by first | exact Or.inl rfl | exact Or.inr rfl) (pe_cl c_behind hr (by omega) (pa_cons (pv 5) pa_nil)))))))))
      (pss_one (ps_ret (pv 2)))))))), ?_⟩
    rcases h with ⟨bad, k⟩ | ⟨⟨a, ps, rfl, sp, few⟩, bad, k⟩
    · exact ⟨_, rfl, .inr ⟨v1, rfl, bad, k⟩⟩
    · exact ⟨_, rfl, .inl ⟨a, ps, rfl, sp, fun H1 S1 => ⟨_, rfl, v2, rfl, bad.up S1, fun H2 S2 => k H2 (S1.trans S2)⟩⟩⟩
abbrev s__law_one : Stmt := topS 59
abbrev N__law_one : List Str := ["door", "by_name", "mine"]
theorem sc__law_one : FnScope ["door", "by_name", "mine"] ["door", "by_name", "mine"] (defScope s__law_one) := ⟨rfl, rfl, rfl, by decide +kernel, rfl, by decide +kernel, by decide +kernel⟩

abbrev s__law_two : Stmt := topS 60
abbrev N__law_two : List Str := ["door", "by_name", "mine", "yours"]
theorem sc__law_two : FnScope ["door", "by_name", "mine", "yours"] ["door", "by_name", "mine", "yours"] (defScope s__law_two) := ⟨rfl, rfl, rfl, by decide +kernel, rfl, by decide +kernel, by decide +kernel⟩

abbrev s__law_told : Stmt := topS 61
abbrev N__law_told : List Str := ["door", "by_name", "mine", "yours", "caught", "e"]
theorem sc__law_told : FnScope ["door", "by_name", "mine", "yours", "caught", "e"] ["door", "by_name", "mine", "yours"] (defScope s__law_told) := ⟨rfl, rfl, rfl, by decide +kernel, rfl, by decide +kernel, by decide +kernel⟩

/-! ### what is asked -/
def swap2 {α : Type} : List α → List α
  | [a, b] => [b, a]
  | _ => []
theorem kb_opposite_span {K : PySem.W.Frag} (f : Addr) (fd : FuncData) (F : Fun K "opposite" "opposite" s_opposite f fd) : KBinds K fd ["span"] ["span"] (fun us ws => match us with | [] => ws | _ :: _ => []) (fun vs zs => match vs with | [] => zs | _ :: _ => []) :=
  kb_of (g := fun ws => ws) (gV := fun zs => zs) F (by simp) (fun _ _ _ _ _ _ ws hl => match ws, hl with | [_], _ => rfl) fun r => r
theorem kb_least_text_span {K : PySem.W.Frag} (f : Addr) (fd : FuncData) (F : Fun K "least_text" "least_text" s_least_text f fd) : KBinds K fd ["span"] ["span"] (fun us ws => match us with | [] => ws | _ :: _ => []) (fun vs zs => match vs with | [] => zs | _ :: _ => []) :=
  kb_of (g := fun ws => ws) (gV := fun zs => zs) F (by simp) (fun _ _ _ _ _ _ ws hl => match ws, hl with | [_], _ => rfl) fun r => r
theorem kb_is_finite_span {K : PySem.W.Frag} (f : Addr) (fd : FuncData) (F : Fun K "is_finite" "is_finite" s_is_finite f fd) : KBinds K fd ["span"] ["span"] (fun us ws => match us with | [] => ws | _ :: _ => []) (fun vs zs => match vs with | [] => zs | _ :: _ => []) :=
  kb_of (g := fun ws => ws) (gV := fun zs => zs) F (by simp) (fun _ _ _ _ _ _ ws hl => match ws, hl with | [_], _ => rfl) fun r => r
theorem kb_span_of_ranges {K : PySem.W.Frag} (f : Addr) (fd : FuncData) (F : Fun K "span_of" "span_of" s_span_of f fd) : KBinds K fd ["ranges"] ["ranges"] (fun us ws => match us with | [] => ws | _ :: _ => []) (fun vs zs => match vs with | [] => zs | _ :: _ => []) :=
  kb_of (g := fun ws => ws) (gV := fun zs => zs) F (by simp) (fun _ _ _ _ _ _ ws hl => match ws, hl with | [_], _ => rfl) fun r => r
theorem kb_joined_other_span_span {K : PySem.W.Frag} (f : Addr) (fd : FuncData) (F : Fun K "joined" "joined" s_joined f fd) : KBinds K fd ["span", "other_span"] ["other_span", "span"] (fun us ws => match us with | [] => swap2 ws | _ :: _ => []) (fun vs zs => match vs with | [] => swap2 zs | _ :: _ => []) :=
  kb_of (g := swap2) (gV := swap2) F (by simp) (fun kV doc pm an cdv ct ws hl => by
    rcases ws with _ | ⟨a, _ | ⟨b, _ | ⟨c, t⟩⟩⟩
    · cases hl
    · cases hl
    · rfl
    · cases hl) fun {zs ws} r => by
    cases r with
    | nil => exact .nil
    | cons r1 r =>
      cases r with
      | nil => exact .nil
      | cons r2 r =>
        cases r with
        | nil => exact .cons r2 (.cons r1 .nil)
        | cons r3 r => exact .nil
theorem kb_shared_other_span_span {K : PySem.W.Frag} (f : Addr) (fd : FuncData) (F : Fun K "shared" "shared" s_shared f fd) : KBinds K fd ["span", "other_span"] ["other_span", "span"] (fun us ws => match us with | [] => swap2 ws | _ :: _ => []) (fun vs zs => match vs with | [] => swap2 zs | _ :: _ => []) :=
  kb_of (g := swap2) (gV := swap2) F (by simp) (fun kV doc pm an cdv ct ws hl => by
    rcases ws with _ | ⟨a, _ | ⟨b, _ | ⟨c, t⟩⟩⟩
    · cases hl
    · cases hl
    · rfl
    · cases hl) fun {zs ws} r => by
    cases r with
    | nil => exact .nil
    | cons r1 r =>
      cases r with
      | nil => exact .nil
      | cons r2 r =>
        cases r with
        | nil => exact .cons r2 (.cons r1 .nil)
        | cons r3 r => exact .nil
theorem kb_has_text_span {K : PySem.W.Frag} (f : Addr) (fd : FuncData) (F : Fun K "has" "has" s_has f fd) : KBinds K fd ["span", "text"] ["text", "span"] (fun us ws => match us with | [] => swap2 ws | _ :: _ => []) (fun vs zs => match vs with | [] => swap2 zs | _ :: _ => []) :=
  kb_of (g := swap2) (gV := swap2) F (by simp) (fun kV doc pm an cdv ct ws hl => by
    rcases ws with _ | ⟨a, _ | ⟨b, _ | ⟨c, t⟩⟩⟩
    · cases hl
    · cases hl
    · rfl
    · cases hl) fun {zs ws} r => by
    cases r with
    | nil => exact .nil
    | cons r1 r =>
      cases r with
      | nil => exact .nil
      | cons r2 r =>
        cases r with
        | nil => exact .cons r2 (.cons r1 .nil)
        | cons r3 r => exact .nil
theorem kb_texts_in_most_span {K : PySem.W.Frag} (f : Addr) (fd : FuncData) (F : Fun K "texts_in" "texts_in" s_texts_in f fd) : KBinds K fd ["span", "most"] ["most", "span"] (fun us ws => match us with | [] => swap2 ws | _ :: _ => []) (fun vs zs => match vs with | [] => swap2 zs | _ :: _ => []) :=
  kb_of (g := swap2) (gV := swap2) F (by simp) (fun kV doc pm an cdv ct ws hl => by
    rcases ws with _ | ⟨a, _ | ⟨b, _ | ⟨c, t⟩⟩⟩
    · cases hl
    · cases hl
    · rfl
    · cases hl) fun {zs ws} r => by
    cases r with
    | nil => exact .nil
    | cons r1 r =>
      cases r with
      | nil => exact .nil
      | cons r2 r =>
        cases r with
        | nil => exact .cons r2 (.cons r1 .nil)
        | cons r3 r => exact .nil
/-- a list of ranges -/
def GoodR (K : PySem.W.Frag) (H : Hp) (v : V) : Prop := ∃ (a : Addr) (xs : List V) (ps : List Pr), v = .ref a ∧ H a = some (.lst xs) ∧ RpL K H xs (ps.map prD) ∧ (∀ p ∈ ps, PrOk p) ∧ ps.length ≤ 100
theorem GoodR.up {H H' : Hp} {v : V} (h : GoodR K H v) (s : Stp [] H H') : GoodR K H' v := by
  obtain ⟨a, xs, ps, e, ha, rl, q⟩ := h
  exact ⟨a, xs, ps, e, s.kp _ _ (fun m => nomatch m) ha, rl.stp s Lsts.nil, q⟩
/-- a call: which function, its arguments, the place of the error's class -/
inductive Ask (K : PySem.W.Frag) (H : Hp) : Int → V → V → Option Nat → Prop
  | s1 {g : Int} {v1 v2 : V} : (g = 0 ∨ g = 1 ∨ g = 2 ∨ g = 4 ∨ g = 5 ∨ g = 6 ∨ g = 7) → BadS K H v1 → Ask K H g v1 v2 (some 2)
  | r1 {v1 v2 : V} : BadR K H v1 → Ask K H 3 v1 v2 (some 2)
  | s0 {g : Int} {v1 v2 : V} : (g = 0 ∨ g = 1 ∨ g = 2) → GoodS K H v1 → Ask K H g v1 v2 none
  | r0 {v1 v2 : V} : GoodR K H v1 → Ask K H 3 v1 v2 none
  | b2 {g : Int} {v1 v2 : V} : (g = 4 ∨ g = 5) → GoodS K H v1 → BadS K H v2 → Ask K H g v1 v2 (some 2)
  | t2 {v1 v2 : V} : GoodS K H v1 → BadT K H v2 → Ask K H 6 v1 v2 (some 0)
  | n2 {v1 v2 : V} : GoodS K H v1 → BadN K H v2 → Ask K H 7 v1 v2 (some 9)
  | j0 {g : Int} {v1 v2 : V} : (g = 4 ∨ g = 5) → GoodS K H v1 → GoodS K H v2 → Ask K H g v1 v2 none
  | h0 {v1 : V} {l : Txt} : GoodS K H v1 → Short l → Ask K H 6 v1 (Tx l) none
  | m0 {v1 : V} {n : Nat} : GoodS K H v1 → 1 ≤ n → n ≤ 900 → Ask K H 7 v1 (.int (n : Int)) none
theorem Ask.up {H H' : Hp} {g : Int} {v1 v2 : V} {r : Option Nat} (h : Ask K H g v1 v2 r) (s : Stp [] H H') : Ask K H' g v1 v2 r := by
  cases h with
  | s1 hg b => exact .s1 hg (b.up s)
  | r1 b => exact .r1 (b.up s)
  | s0 hg b => exact .s0 hg (b.up s)
  | r0 b => exact .r0 (b.up s)
  | b2 hg a b => exact .b2 hg (a.up s) (b.up s)
  | t2 a b => exact .t2 (a.up s) (b.up s)
  | n2 a b => exact .n2 (a.up s) (b.up s)
  | j0 hg a b => exact .j0 hg (a.up s) (b.up s)
  | h0 a b => exact .h0 (a.up s) b
  | m0 a b c => exact .m0 (a.up s) b c
def clsOf {K : PySem.W.Frag} {mg : Str → Option Value} (TX : Er K mg) : Nat → Addr
  | 0 => TX.C_InvalidText
  | 2 => TX.C_InvalidSpan
  | _ => TX.C_InvalidNumber
def spOne (K : PySem.W.Frag) {mg : Str → Option Value} (TX : Er K mg) : Sp := fun vs H Q E => ∃ (g : Int) (bn : Bool) (v1 v2 : V) (r : Option Nat), vs = [.int g, .bl bn, v1] ∧ 0 ≤ g ∧ g < 4 ∧ Ask K H g v1 v2 r ∧ (r = none → ∀ v H', Stp [] H H' → Q v H') ∧ (∀ j, r = some j → ∀ H', Stp [] H H' → E (.ref (clsOf TX j)) none H')
def spTwo (K : PySem.W.Frag) {mg : Str → Option Value} (TX : Er K mg) : Sp := fun vs H Q E => ∃ (g : Int) (bn : Bool) (v1 v2 : V) (r : Option Nat), vs = [.int g, .bl bn, v1, v2] ∧ 4 ≤ g ∧ Ask K H g v1 v2 r ∧ (r = none → ∀ v H', Stp [] H H' → Q v H') ∧ (∀ j, r = some j → ∀ H', Stp [] H H' → E (.ref (clsOf TX j)) none H')
theorem cl__law_one {f : Addr} {fd : FuncData} (D : Df K mg "_law_one" s__law_one ["door", "by_name", "mine"] f fd) (T : Nm mg) (TX : Er K mg) (c_oppositeX : ClX P w K mg base 5 "opposite" s_opposite ["span"] (orS (spOpp K) (spB (BadS K) TX.C_InvalidSpan))) (c_least_textX : ClX P w K mg base 5 "least_text" s_least_text ["span"] (orS (spLeast K) (spB (BadS K) TX.C_InvalidSpan))) (c_is_finiteX : ClX P w K mg base 5 "is_finite" s_is_finite ["span"] (orS (spFinite K) (spB (BadS K) TX.C_InvalidSpan))) (c_span_ofX : ClX P w K mg base 4 "span_of" s_span_of ["ranges"] (orS (spSpanOf K) (spB (BadR K) TX.C_InvalidSpan))) : ClX P w K mg base 6 "_law_one" s__law_one ["door", "by_name", "mine"] (spOne K TX) := by
  refine D.clX sc__law_one (fun vs H Q E h => ?_) (fun cdv A outer s H vs Q E hr h tk => ?_)
  · obtain ⟨g, bn, v1, v2, r, rfl, _⟩ := h
    rfl
  · obtain ⟨g, bn, v1, v2, r, rfl, g0, g4, ask, kq, ke⟩ := h
    refine ⟨_, (pss_cons (ps_if (pt_cmpR op_eq (pv 0) pe_int (by first | exact nomark _ | rfl)) (pss_one (ps_ret (pe_ifExp (pt_val (pv 1)) (pe_clXK c_oppositeX tk hr (by omega) kb_opposite_span (pk_cons (pv 2) pk_nil)) (pe_clX c_oppositeX tk hr (by omega) (pa_cons (pv 2) pa_nil))))) pss_nil)
      (pss_cons (ps_if (pt_cmpR op_eq (pv 0) pe_int (by first | exact nomark _ | rfl)) (pss_one (ps_ret (pe_ifExp (pt_val (pv 1)) (pe_clXK c_least_textX tk hr (by omega) kb_least_text_span (pk_cons (pv 2) pk_nil)) (pe_clX c_least_textX tk hr (by omega) (pa_cons (pv 2) pa_nil))))) pss_nil)
      (pss_cons (ps_if (pt_cmpR op_eq (pv 0) pe_int (by first | exact nomark _ | rfl)) (pss_one (ps_ret (pe_ifExp (pt_val (pv 1)) (pe_clXK c_is_finiteX tk hr (by omega) kb_is_finite_span (pk_cons (pv 2) pk_nil)) (pe_clX c_is_finiteX tk hr (by omega) (pa_cons (pv 2) pa_nil))))) pss_nil)
      (pss_one (ps_ret (pe_ifExp (pt_val (pv 1)) (pe_clXK c_span_ofX tk hr (by omega) kb_span_of_ranges (pk_cons (pv 2) pk_nil)) (pe_clX c_span_ofX tk hr (by omega) (pa_cons (pv 2) pa_nil)))))))), ?_⟩
    cases ask with
    | s1 hg bad =>
      rcases hg with rfl | rfl | rfl | rfl | rfl | rfl | rfl
      · exact ⟨_, rfl, rfl, _, rfl, ite2 (fun _ => (by cases bn; exact ⟨_, rfl, _, rfl, ite2 (fun h => nomatch h) (fun _ => ⟨_, rfl, .inr ⟨v1, rfl, bad, ke 2 rfl⟩⟩)⟩; exact ⟨_, rfl, _, rfl, ite2 (fun _ => ⟨_, rfl, .inr ⟨v1, rfl, bad, ke 2 rfl⟩⟩) (fun h => absurd rfl h)⟩)) (fun h => absurd rfl h)⟩
      · exact ⟨_, rfl, rfl, _, rfl, ite2 (fun h => absurd h (by decide)) (fun _ => ⟨_, rfl, rfl, _, rfl, ite2 (fun _ => (by cases bn; exact ⟨_, rfl, _, rfl, ite2 (fun h => nomatch h) (fun _ => ⟨_, rfl, .inr ⟨v1, rfl, bad, ke 2 rfl⟩⟩)⟩; exact ⟨_, rfl, _, rfl, ite2 (fun _ => ⟨_, rfl, .inr ⟨v1, rfl, bad, ke 2 rfl⟩⟩) (fun h => absurd rfl h)⟩)) (fun h => absurd rfl h)⟩)⟩
      · exact ⟨_, rfl, rfl, _, rfl, ite2 (fun h => absurd h (by decide)) (fun _ => ⟨_, rfl, rfl, _, rfl, ite2 (fun h => absurd h (by decide)) (fun _ => ⟨_, rfl, rfl, _, rfl, ite2 (fun _ => (by cases bn; exact ⟨_, rfl, _, rfl, ite2 (fun h => nomatch h) (fun _ => ⟨_, rfl, .inr ⟨v1, rfl, bad, ke 2 rfl⟩⟩)⟩; exact ⟨_, rfl, _, rfl, ite2 (fun _ => ⟨_, rfl, .inr ⟨v1, rfl, bad, ke 2 rfl⟩⟩) (fun h => absurd rfl h)⟩)) (fun h => absurd rfl h)⟩)⟩)⟩
      · exact absurd g4 (by omega)
      · exact absurd g4 (by omega)
      · exact absurd g4 (by omega)
      · exact absurd g4 (by omega)
    | r1 bad =>
      exact ⟨_, rfl, rfl, _, rfl, ite2 (fun h => absurd h (by decide)) (fun _ => ⟨_, rfl, rfl, _, rfl, ite2 (fun h => absurd h (by decide)) (fun _ => ⟨_, rfl, rfl, _, rfl, ite2 (fun h => absurd h (by decide)) (fun _ => (by cases bn; exact ⟨_, rfl, _, rfl, ite2 (fun h => nomatch h) (fun _ => ⟨_, rfl, .inr ⟨v1, rfl, bad, ke 2 rfl⟩⟩)⟩; exact ⟨_, rfl, _, rfl, ite2 (fun _ => ⟨_, rfl, .inr ⟨v1, rfl, bad, ke 2 rfl⟩⟩) (fun h => absurd rfl h)⟩))⟩)⟩)⟩
    | s0 hg gs =>
      obtain ⟨a, ps, rfl, sp, few⟩ := gs
      rcases hg with rfl | rfl | rfl
      · exact ⟨_, rfl, rfl, _, rfl, ite2 (fun _ => (by cases bn; exact ⟨_, rfl, _, rfl, ite2 (fun h => nomatch h) (fun _ => ⟨_, rfl, .inl ⟨a, ps, rfl, sp, by omega, fun b H' S _ => kq rfl _ H' S⟩⟩)⟩; exact ⟨_, rfl, _, rfl, ite2 (fun _ => ⟨_, rfl, .inl ⟨a, ps, rfl, sp, by omega, fun b H' S _ => kq rfl _ H' S⟩⟩) (fun h => absurd rfl h)⟩)) (fun h => absurd rfl h)⟩
      · exact ⟨_, rfl, rfl, _, rfl, ite2 (fun h => absurd h (by decide)) (fun _ => ⟨_, rfl, rfl, _, rfl, ite2 (fun _ => (by cases bn; exact ⟨_, rfl, _, rfl, ite2 (fun h => nomatch h) (fun _ => ⟨_, rfl, .inl ⟨a, ps, rfl, sp, fun H' S => kq rfl _ H' S⟩⟩)⟩; exact ⟨_, rfl, _, rfl, ite2 (fun _ => ⟨_, rfl, .inl ⟨a, ps, rfl, sp, fun H' S => kq rfl _ H' S⟩⟩) (fun h => absurd rfl h)⟩)) (fun h => absurd rfl h)⟩)⟩
      · exact ⟨_, rfl, rfl, _, rfl, ite2 (fun h => absurd h (by decide)) (fun _ => ⟨_, rfl, rfl, _, rfl, ite2 (fun h => absurd h (by decide)) (fun _ => ⟨_, rfl, rfl, _, rfl, ite2 (fun _ => (by cases bn; exact ⟨_, rfl, _, rfl, ite2 (fun h => nomatch h) (fun _ => ⟨_, rfl, .inl ⟨a, ps, rfl, sp, fun H' S => kq rfl _ H' S⟩⟩)⟩; exact ⟨_, rfl, _, rfl, ite2 (fun _ => ⟨_, rfl, .inl ⟨a, ps, rfl, sp, fun H' S => kq rfl _ H' S⟩⟩) (fun h => absurd rfl h)⟩)) (fun h => absurd rfl h)⟩)⟩)⟩
    | r0 gr =>
      obtain ⟨a, xs, ps, rfl, ha, rl, ok, few⟩ := gr
      exact ⟨_, rfl, rfl, _, rfl, ite2 (fun h => absurd h (by decide)) (fun _ => ⟨_, rfl, rfl, _, rfl, ite2 (fun h => absurd h (by decide)) (fun _ => ⟨_, rfl, rfl, _, rfl, ite2 (fun h => absurd h (by decide)) (fun _ => (by cases bn; exact ⟨_, rfl, _, rfl, ite2 (fun h => nomatch h) (fun _ => ⟨_, rfl, .inl ⟨a, xs, ps, rfl, ha, rl, ok, by omega, fun b ds H' S _ _ => kq rfl _ H' S⟩⟩)⟩; exact ⟨_, rfl, _, rfl, ite2 (fun _ => ⟨_, rfl, .inl ⟨a, xs, ps, rfl, ha, rl, ok, by omega, fun b ds H' S _ _ => kq rfl _ H' S⟩⟩) (fun h => absurd rfl h)⟩))⟩)⟩)⟩
    | b2 hg gs bad =>
      omega
    | t2 gs bad =>
      exact absurd g4 (by omega)
    | n2 gs bad =>
      exact absurd g4 (by omega)
    | j0 hg gs gs2 =>
      omega
    | h0 gs sl =>
      exact absurd g4 (by omega)
    | m0 gs n1 n9 =>
      exact absurd g4 (by omega)
theorem cl__law_two {f : Addr} {fd : FuncData} (D : Df K mg "_law_two" s__law_two ["door", "by_name", "mine", "yours"] f fd) (T : Nm mg) (TX : Er K mg) (c_joinedX : ClX P w K mg base 5 "joined" s_joined ["span", "other_span"] (orS (spJoined K) (spB2 (BadS K) (GoodS K) (BadS K) TX.C_InvalidSpan TX.C_InvalidSpan))) (c_sharedX : ClX P w K mg base 6 "shared" s_shared ["span", "other_span"] (orS (spShared K) (spB2 (BadS K) (GoodS K) (BadS K) TX.C_InvalidSpan TX.C_InvalidSpan))) (c_hasX : ClX P w K mg base 5 "has" s_has ["span", "text"] (orS (spHas K) (spB2 (BadS K) (GoodS K) (BadT K) TX.C_InvalidSpan TX.C_InvalidText))) (c_texts_inX : ClX P w K mg base 5 "texts_in" s_texts_in ["span", "most"] (orS (spTexts K) (spB2 (BadS K) (GoodS K) (BadN K) TX.C_InvalidSpan TX.C_InvalidNumber))) : ClX P w K mg base 7 "_law_two" s__law_two ["door", "by_name", "mine", "yours"] (spTwo K TX) := by
  refine D.clX sc__law_two (fun vs H Q E h => ?_) (fun cdv A outer s H vs Q E hr h tk => ?_)
  · obtain ⟨g, bn, v1, v2, r, rfl, _⟩ := h
    rfl
  · obtain ⟨g, bn, v1, v2, r, rfl, g0, ask, kq, ke⟩ := h
    refine ⟨_, (pss_cons (ps_if (pt_cmpR op_eq (pv 0) pe_int (by first | exact nomark _ | rfl)) (pss_one (ps_ret (pe_ifExp (pt_val (pv 1)) (pe_clXK c_joinedX tk hr (by omega) kb_joined_other_span_span (pk_cons (pv 3) (pk_cons (pv 2) pk_nil))) (pe_clX c_joinedX tk hr (by omega) (pa_cons (pv 2) (pa_cons (pv 3) pa_nil)))))) pss_nil)
      (pss_cons (ps_if (pt_cmpR op_eq (pv 0) pe_int (by first | exact nomark _ | rfl)) (pss_one (ps_ret (pe_ifExp (pt_val (pv 1)) (pe_clXK c_sharedX tk hr (by omega) kb_shared_other_span_span (pk_cons (pv 3) (pk_cons (pv 2) pk_nil))) (pe_clX c_sharedX tk hr (by omega) (pa_cons (pv 2) (pa_cons (pv 3) pa_nil)))))) pss_nil)
      (pss_cons (ps_if (pt_cmpR op_eq (pv 0) pe_int (by first | exact nomark _ | rfl)) (pss_one (ps_ret (pe_ifExp (pt_val (pv 1)) (pe_clXK c_hasX tk hr (by omega) kb_has_text_span (pk_cons (pv 3) (pk_cons (pv 2) pk_nil))) (pe_clX c_hasX tk hr (by omega) (pa_cons (pv 2) (pa_cons (pv 3) pa_nil)))))) pss_nil)
      (pss_one (ps_ret (pe_ifExp (pt_val (pv 1)) (pe_clXK c_texts_inX tk hr (by omega) kb_texts_in_most_span (pk_cons (pv 3) (pk_cons (pv 2) pk_nil))) (pe_clX c_texts_inX tk hr (by omega) (pa_cons (pv 2) (pa_cons (pv 3) pa_nil))))))))), ?_⟩
    cases ask with
    | s1 hg bad =>
      rcases hg with rfl | rfl | rfl | rfl | rfl | rfl | rfl
      · exact absurd g0 (by omega)
      · exact absurd g0 (by omega)
      · exact absurd g0 (by omega)
      · exact ⟨_, rfl, rfl, _, rfl, ite2 (fun _ => (by cases bn; exact ⟨_, rfl, _, rfl, ite2 (fun h => nomatch h) (fun _ => ⟨_, rfl, _, rfl, .inr ⟨v1, v2, rfl, .inl ⟨bad, ke 2 rfl⟩⟩⟩)⟩; exact ⟨_, rfl, _, rfl, ite2 (fun _ => ⟨_, rfl, _, rfl, .inr ⟨v1, v2, rfl, .inl ⟨bad, ke 2 rfl⟩⟩⟩) (fun h => absurd rfl h)⟩)) (fun h => absurd rfl h)⟩
      · exact ⟨_, rfl, rfl, _, rfl, ite2 (fun h => absurd h (by decide)) (fun _ => ⟨_, rfl, rfl, _, rfl, ite2 (fun _ => (by cases bn; exact ⟨_, rfl, _, rfl, ite2 (fun h => nomatch h) (fun _ => ⟨_, rfl, _, rfl, .inr ⟨v1, v2, rfl, .inl ⟨bad, ke 2 rfl⟩⟩⟩)⟩; exact ⟨_, rfl, _, rfl, ite2 (fun _ => ⟨_, rfl, _, rfl, .inr ⟨v1, v2, rfl, .inl ⟨bad, ke 2 rfl⟩⟩⟩) (fun h => absurd rfl h)⟩)) (fun h => absurd rfl h)⟩)⟩
      · exact ⟨_, rfl, rfl, _, rfl, ite2 (fun h => absurd h (by decide)) (fun _ => ⟨_, rfl, rfl, _, rfl, ite2 (fun h => absurd h (by decide)) (fun _ => ⟨_, rfl, rfl, _, rfl, ite2 (fun _ => (by cases bn; exact ⟨_, rfl, _, rfl, ite2 (fun h => nomatch h) (fun _ => ⟨_, rfl, _, rfl, .inr ⟨v1, v2, rfl, .inl ⟨bad, ke 2 rfl⟩⟩⟩)⟩; exact ⟨_, rfl, _, rfl, ite2 (fun _ => ⟨_, rfl, _, rfl, .inr ⟨v1, v2, rfl, .inl ⟨bad, ke 2 rfl⟩⟩⟩) (fun h => absurd rfl h)⟩)) (fun h => absurd rfl h)⟩)⟩)⟩
      · exact ⟨_, rfl, rfl, _, rfl, ite2 (fun h => absurd h (by decide)) (fun _ => ⟨_, rfl, rfl, _, rfl, ite2 (fun h => absurd h (by decide)) (fun _ => ⟨_, rfl, rfl, _, rfl, ite2 (fun h => absurd h (by decide)) (fun _ => (by cases bn; exact ⟨_, rfl, _, rfl, ite2 (fun h => nomatch h) (fun _ => ⟨_, rfl, _, rfl, .inr ⟨v1, v2, rfl, .inl ⟨bad, ke 2 rfl⟩⟩⟩)⟩; exact ⟨_, rfl, _, rfl, ite2 (fun _ => ⟨_, rfl, _, rfl, .inr ⟨v1, v2, rfl, .inl ⟨bad, ke 2 rfl⟩⟩⟩) (fun h => absurd rfl h)⟩))⟩)⟩)⟩
    | r1 bad =>
      exact absurd g0 (by omega)
    | s0 hg gs =>
      omega
    | r0 gr =>
      exact absurd g0 (by omega)
    | b2 hg gs bad =>
      obtain ⟨a, ps, rfl, sp, few⟩ := gs
      rcases hg with rfl | rfl
      · exact ⟨_, rfl, rfl, _, rfl, ite2 (fun _ => (by cases bn; exact ⟨_, rfl, _, rfl, ite2 (fun h => nomatch h) (fun _ => ⟨_, rfl, _, rfl, .inr ⟨_, v2, rfl, .inr ⟨⟨a, ps, rfl, sp, few⟩, bad, ke 2 rfl⟩⟩⟩)⟩; exact ⟨_, rfl, _, rfl, ite2 (fun _ => ⟨_, rfl, _, rfl, .inr ⟨_, v2, rfl, .inr ⟨⟨a, ps, rfl, sp, few⟩, bad, ke 2 rfl⟩⟩⟩) (fun h => absurd rfl h)⟩)) (fun h => absurd rfl h)⟩
      · exact ⟨_, rfl, rfl, _, rfl, ite2 (fun h => absurd h (by decide)) (fun _ => ⟨_, rfl, rfl, _, rfl, ite2 (fun _ => (by cases bn; exact ⟨_, rfl, _, rfl, ite2 (fun h => nomatch h) (fun _ => ⟨_, rfl, _, rfl, .inr ⟨_, v2, rfl, .inr ⟨⟨a, ps, rfl, sp, few⟩, bad, ke 2 rfl⟩⟩⟩)⟩; exact ⟨_, rfl, _, rfl, ite2 (fun _ => ⟨_, rfl, _, rfl, .inr ⟨_, v2, rfl, .inr ⟨⟨a, ps, rfl, sp, few⟩, bad, ke 2 rfl⟩⟩⟩) (fun h => absurd rfl h)⟩)) (fun h => absurd rfl h)⟩)⟩
    | t2 gs bad =>
      obtain ⟨a, ps, rfl, sp, few⟩ := gs
      exact ⟨_, rfl, rfl, _, rfl, ite2 (fun h => absurd h (by decide)) (fun _ => ⟨_, rfl, rfl, _, rfl, ite2 (fun h => absurd h (by decide)) (fun _ => ⟨_, rfl, rfl, _, rfl, ite2 (fun _ => (by cases bn; exact ⟨_, rfl, _, rfl, ite2 (fun h => nomatch h) (fun _ => ⟨_, rfl, _, rfl, .inr ⟨_, v2, rfl, .inr ⟨⟨a, ps, rfl, sp, few⟩, bad, ke 0 rfl⟩⟩⟩)⟩; exact ⟨_, rfl, _, rfl, ite2 (fun _ => ⟨_, rfl, _, rfl, .inr ⟨_, v2, rfl, .inr ⟨⟨a, ps, rfl, sp, few⟩, bad, ke 0 rfl⟩⟩⟩) (fun h => absurd rfl h)⟩)) (fun h => absurd rfl h)⟩)⟩)⟩
    | n2 gs bad =>
      obtain ⟨a, ps, rfl, sp, few⟩ := gs
      exact ⟨_, rfl, rfl, _, rfl, ite2 (fun h => absurd h (by decide)) (fun _ => ⟨_, rfl, rfl, _, rfl, ite2 (fun h => absurd h (by decide)) (fun _ => ⟨_, rfl, rfl, _, rfl, ite2 (fun h => absurd h (by decide)) (fun _ => (by cases bn; exact ⟨_, rfl, _, rfl, ite2 (fun h => nomatch h) (fun _ => ⟨_, rfl, _, rfl, .inr ⟨_, v2, rfl, .inr ⟨⟨a, ps, rfl, sp, few⟩, bad, ke 9 rfl⟩⟩⟩)⟩; exact ⟨_, rfl, _, rfl, ite2 (fun _ => ⟨_, rfl, _, rfl, .inr ⟨_, v2, rfl, .inr ⟨⟨a, ps, rfl, sp, few⟩, bad, ke 9 rfl⟩⟩⟩) (fun h => absurd rfl h)⟩))⟩)⟩)⟩
    | j0 hg gs gs2 =>
      obtain ⟨a, ps, rfl, sp, few⟩ := gs
      obtain ⟨b, qs, rfl, sq, few2⟩ := gs2
      rcases hg with rfl | rfl
      · exact ⟨_, rfl, rfl, _, rfl, ite2 (fun _ => (by cases bn; exact ⟨_, rfl, _, rfl, ite2 (fun h => nomatch h) (fun _ => ⟨_, rfl, _, rfl, .inl ⟨a, b, ps, qs, rfl, sp, sq, by omega, fun c ds H' S _ _ => kq rfl _ H' S⟩⟩)⟩; exact ⟨_, rfl, _, rfl, ite2 (fun _ => ⟨_, rfl, _, rfl, .inl ⟨a, b, ps, qs, rfl, sp, sq, by omega, fun c ds H' S _ _ => kq rfl _ H' S⟩⟩) (fun h => absurd rfl h)⟩)) (fun h => absurd rfl h)⟩
      · exact ⟨_, rfl, rfl, _, rfl, ite2 (fun h => absurd h (by decide)) (fun _ => ⟨_, rfl, rfl, _, rfl, ite2 (fun _ => (by cases bn; exact ⟨_, rfl, _, rfl, ite2 (fun h => nomatch h) (fun _ => ⟨_, rfl, _, rfl, .inl ⟨a, b, ps, qs, rfl, sp, sq, by omega, fun c ds H' S _ _ _ => kq rfl _ H' S⟩⟩)⟩; exact ⟨_, rfl, _, rfl, ite2 (fun _ => ⟨_, rfl, _, rfl, .inl ⟨a, b, ps, qs, rfl, sp, sq, by omega, fun c ds H' S _ _ _ => kq rfl _ H' S⟩⟩) (fun h => absurd rfl h)⟩)) (fun h => absurd rfl h)⟩)⟩
    | h0 gs sl =>
      obtain ⟨a, ps, rfl, sp, few⟩ := gs
      exact ⟨_, rfl, rfl, _, rfl, ite2 (fun h => absurd h (by decide)) (fun _ => ⟨_, rfl, rfl, _, rfl, ite2 (fun h => absurd h (by decide)) (fun _ => ⟨_, rfl, rfl, _, rfl, ite2 (fun _ => (by cases bn; exact ⟨_, rfl, _, rfl, ite2 (fun h => nomatch h) (fun _ => ⟨_, rfl, _, rfl, .inl ⟨a, ps, _, rfl, sp, sl, fun H' S => kq rfl _ H' S⟩⟩)⟩; exact ⟨_, rfl, _, rfl, ite2 (fun _ => ⟨_, rfl, _, rfl, .inl ⟨a, ps, _, rfl, sp, sl, fun H' S => kq rfl _ H' S⟩⟩) (fun h => absurd rfl h)⟩)) (fun h => absurd rfl h)⟩)⟩)⟩
    | m0 gs n1 n9 =>
      obtain ⟨a, ps, rfl, sp, few⟩ := gs
      exact ⟨_, rfl, rfl, _, rfl, ite2 (fun h => absurd h (by decide)) (fun _ => ⟨_, rfl, rfl, _, rfl, ite2 (fun h => absurd h (by decide)) (fun _ => ⟨_, rfl, rfl, _, rfl, ite2 (fun h => absurd h (by decide)) (fun _ => (by cases bn; exact ⟨_, rfl, _, rfl, ite2 (fun h => nomatch h) (fun _ => ⟨_, rfl, _, rfl, .inl ⟨a, ps, _, rfl, sp, n1, n9, fun p H' _ S _ => kq rfl _ H' S⟩⟩)⟩; exact ⟨_, rfl, _, rfl, ite2 (fun _ => ⟨_, rfl, _, rfl, .inl ⟨a, ps, _, rfl, sp, n1, n9, fun p H' _ S _ => kq rfl _ H' S⟩⟩) (fun h => absurd rfl h)⟩))⟩)⟩)⟩
/-! ### what is told -/
def toldV : Option Nat → List V
  | none => []
  | some j => [wdV j, .str "error"]
def okJ : Option Nat → Prop
  | none => True
  | some j => j = 0 ∨ j = 2 ∨ j = 9
theorem Ask.okJ {H : Hp} {g : Int} {v1 v2 : V} {r : Option Nat} (h : Ask K H g v1 v2 r) : okJ r := by
  cases h <;> simp [Kq.okJ]
theorem Ask.rng {H : Hp} {g : Int} {v1 v2 : V} {r : Option Nat} (h : Ask K H g v1 v2 r) : 0 ≤ g := by
  cases h <;> omega
theorem kit_of {TX : Er K mg} (KT : Kits K TX) {j : Nat} (h : okJ (some j)) : Kit K TX (clsOf TX j) j := by
  rcases h with rfl | rfl | rfl
  · exact KT.kt_InvalidText
  · exact KT.kt_InvalidSpan
  · exact KT.kt_InvalidNumber
theorem exm_of (TX : Er K mg) {j : Nat} (h : okJ (some j)) : PySem.W.exmOne K (.ref (clsOf TX j)) (.ref TX.C_SkipError) = some true := by
  rcases h with rfl | rfl | rfl
  · exact TX.m_InvalidText
  · exact TX.m_InvalidSpan
  · exact TX.m_InvalidNumber
def spTold (K : PySem.W.Frag) : Sp := fun vs H Q _ => ∃ (g : Int) (bn : Bool) (v1 v2 : V) (r : Option Nat), vs = [.int g, .bl bn, v1, v2] ∧ Ask K H g v1 v2 r ∧ ∀ L H', Stp [] H H' → H' L = some (.lst (toldV r)) → Q (.ref L) H'
theorem cl__law_told {f : Addr} {fd : FuncData} (D : Df K mg "_law_told" s__law_told ["door", "by_name", "mine", "yours"] f fd) (T : Nm mg) (TX : Er K mg) (KT : Kits K TX) (c__law_oneX : ClX P w K mg base 6 "_law_one" s__law_one ["door", "by_name", "mine"] (spOne K TX)) (c__law_twoX : ClX P w K mg base 7 "_law_two" s__law_two ["door", "by_name", "mine", "yours"] (spTwo K TX))
    (c__law_names : Cl P w K mg base 1 "_law_names" s__law_names ["caught"] (orS (spNames K TX) spNamesN)) : Cl P w K mg base 8 "_law_told" s__law_told ["door", "by_name", "mine", "yours"] (spTold K) := by
  refine D.cl sc__law_told (fun vs H Q E h => ?_) (fun cdv A outer s H vs Q E hr h => ?_)
  · obtain ⟨g, bn, v1, v2, r, rfl, _⟩ := h
    rfl
  · obtain ⟨g, bn, v1, v2, r, rfl, ask, k⟩ := h
    refine ⟨_, (pss_cons (ps_set (i := 4) sc__law_told.nd rfl (by first | exact Or.inl rfl | exact Or.inr rfl) pe_non)
      (pss_cons (ps_try_keep (i := 5) (n := "e") (c := .ref TX.C_SkipError) rfl rfl rfl sc__law_told.nd rfl rfl ⟨rfl, by decide, .inl TX.g_SkipError⟩ takes0 (tb := fun W => _) (fun W pn xe tk _ => (pss_one (ps_if (pt_cmpR op_lt (pv 0) pe_int (by first | exact nomark _ | rfl)) (pss_one (ps_expr (pe_clX c__law_oneX tk hr (by omega) (pa_cons (pv 0) (pa_cons (pv 1) (pa_cons (pv 2) pa_nil)))))) (pss_one (ps_expr (pe_clX c__law_twoX tk hr (by omega) (pa_cons (pv 0) (pa_cons (pv 1) (pa_cons (pv 2) (pa_cons (pv 3) pa_nil)))))))))) (fun a pn => (pss_one (ps_set (i := 4) sc__law_told.nd rfl (by first | exact Or.inl rfl | exact Or.inr rfl) (pv 5)))))
      (pss_one (ps_ret (pe_cl c__law_names hr (by omega) (pa_cons (pv 4) pa_nil)))))), ?_⟩
    have oj := ask.okJ
    have g0 := ask.rng
    refine ⟨_, rfl, _, _, rfl, rfl, _, rfl, ite2 (fun h => ?_) (fun h => ?_)⟩
    · have g4 : g < 4 := of_decide_eq_true h
      refine ⟨_, rfl, _, rfl, _, rfl, g, bn, v1, v2, r, rfl, g0, g4, ask, fun e v H1 S1 => ?_, fun j e H1 S1 => ?_⟩
      · subst e
        exact ⟨_, rfl, .inr ⟨rfl, fun L H' S hL => k L H' (S1.trans S) hL⟩⟩
      · subst e
        exact ⟨true, exm_of TX oj, fun _ => ⟨rfl, fun a na => ⟨_, rfl, _, rfl, .inl ⟨a, _, j, rfl, kit_of KT oj, upd_same, fun L H' S hL => k L H' ((S1.new' na).trans S) hL⟩⟩⟩, fun h => (nomatch h)⟩
    · have g4 : ¬ g < 4 := fun e => h (decide_eq_true e)
      refine ⟨_, rfl, _, rfl, _, rfl, _, rfl, g, bn, v1, v2, r, rfl, by omega, ask, fun e v H1 S1 => ?_, fun j e H1 S1 => ?_⟩
      · subst e
        exact ⟨_, rfl, .inr ⟨rfl, fun L H' S hL => k L H' (S1.trans S) hL⟩⟩
      · subst e
        exact ⟨true, exm_of TX oj, fun _ => ⟨rfl, fun a na => ⟨_, rfl, _, rfl, .inl ⟨a, _, j, rfl, kit_of KT oj, upd_same, fun L H' S hL => k L H' ((S1.new' na).trans S) hL⟩⟩⟩, fun h => (nomatch h)⟩
abbrev s__law_odd_number : Stmt := topS 58
abbrev N__law_odd_number : List Str := ["bag", "odd"]
theorem sc__law_odd_number : FnScope ["bag", "odd"] ["bag"] (defScope s__law_odd_number) := ⟨rfl, rfl, rfl, by decide +kernel, rfl, by decide +kernel, by decide +kernel⟩

abbrev s__law_odd_pairs : Stmt := topS 57
abbrev N__law_odd_pairs : List Str := ["bag", "pairs", "word", "at", "way", "ended", "pair", "odd"]
theorem sc__law_odd_pairs : FnScope ["bag", "pairs", "word", "at", "way", "ended", "pair", "odd"] ["bag", "pairs", "word"] (defScope s__law_odd_pairs) := ⟨rfl, rfl, rfl, by decide +kernel, rfl, by decide +kernel, by decide +kernel⟩

/-! ### numbers that are none -/
def spOddN (K : PySem.W.Frag) : Sp := fun vs H Q _ => ∃ (b : Addr) (n : Nat), vs = [.ref b] ∧ Bag H b n ∧ n + 10 < 2 ^ 30 ∧ ∀ v d H', Rq K H' v d → BadN K H' v → Stp [b] H H' → Bag H' b (n + 1) → Q v H'
theorem op_op {r : R2} {ta tb : TE} {σ : L2.St} {H : Hp} {Q : VK} (h : ta σ H fun x H1 => tb σ H1 fun y H2 => r x y H2 Q) : tOp r ta tb σ H Q := h
theorem EvQ.negE {te : TE} {σ : L2.St} {H : Hp} {i : Int} (h : Pg.EvQ K te σ H (.int i)) : Pg.EvQ K (tUn (rU fun i => .int (-i)) te) σ H (.int (-i)) := fun H1 s Q k =>
  h H1 s _ fun v H2 s2 r => by
    cases r.rp with
    | int j => exact ⟨_, rfl, k _ _ s2 (.of (.int _) (fun e => nomatch e) (fun e => nomatch e))⟩
theorem cl__law_odd_number {f : Addr} {fd : FuncData} (D : Df K mg "_law_odd_number" s__law_odd_number ["bag"] f fd) (T : Nm mg) (TX : Er K mg) (c__law_draw : Cl P w K mg base 1 "_law_draw" s__law_draw ["bag", "upto"] spDraw) : Cl P w K mg base 2 "_law_odd_number" s__law_odd_number ["bag"] (spOddN K) := by
  refine D.cl sc__law_odd_number (fun vs H Q E h => ?_) (fun cdv A outer s H vs Q E hr h => ?_)
  · obtain ⟨b, n, rfl, _⟩ := h
    rfl
  · obtain ⟨b, n, rfl, B, hn, k⟩ := h
    refine ⟨_, (pss_cons (ps_set (i := 1) sc__law_odd_number.nd rfl (by first | exact Or.inl rfl | exact Or.inr rfl) (pe_lst (pa_cons pe_int (pa_cons (pe_un un_neg pe_int) (pa_cons pe_int (pa_cons pe_bl (pa_cons pe_bl (pa_cons pe_non (pa_cons pe_str (pa_cons (pe_tup (pa_cons pe_int pa_nil)) (pa_cons (pe_lst (pa_cons pe_int pa_nil)) (pa_cons (pe_op op_pow pe_int pe_int) (pa_cons (pe_un un_neg (pe_op op_pow pe_int pe_int)) (pa_cons pe_str (pa_cons (pe_tup pa_nil) (pa_cons pe_int (pa_cons (pe_lst pa_nil) pa_nil)))))))))))))))))
      (pss_one (ps_ret (pe_ix ix_list (pe_op op_cat (pv 1) (pe_lst (pa_cons (pe_exc1 PySem.F.excBase_ValueError TX.x_InvalidNumber TX.g_InvalidNumber TX.k_InvalidNumber rfl pe_str) pa_nil))) (pe_cl c__law_draw hr (by omega) (pa_cons (pv 0) (pa_cons (pe_op op_add (pe_callB call_len_seq (by rfl) T.n_len (by decide +kernel) (pa_cons (pv 1) pa_nil)) pe_int) pa_nil))) (fun _ _ => rfl))))), ?_⟩
    have nn : ∀ {x : Addr}, x ∉ ([] : List Addr) := fun m => nomatch m
    have one : b ∈ [b] := List.mem_singleton.mpr rfl
    refine asg_name ?_
    refine' Pg.EvQA.newl (K := K) ?e0 ?l0 ?k0
    case e0 => (repeat' first | exact Pg.EvQA.nil | apply Pg.EvQA.cons | exact Pg.EvQ.bl | exact Pg.EvQ.int | exact Pg.EvQ.non | exact Pg.EvQ.str | exact Pg.EvQ.neg | apply EvQ.negE | exact Pg.EvQ.pow ⟨by decide, by decide, by decide⟩ | apply Pg.EvQ.tup | apply Pg.EvQ.lst | (simp; done))
    case l0 => simp
    case k0 =>
    intro L0 vs0 H0 S0 n0 h0 r0
    refine op_op ?_
    refine op_var rfl ?_
    refine' Pg.EvQA.newl (K := K) ?e1 ?l1 ?k1
    case e1 => (repeat' first | exact Pg.EvQA.nil | apply Pg.EvQA.cons | exact Pg.EvQ.str | apply Pg.EvQ.exc TX.cl_InvalidNumber.ok)
    case l1 => simp
    case k1 =>
    intro M1 ws1 G1 T1 m1 g1 q1
    refine ⟨L0, M1, _, _, rfl, rfl, T1.kp _ _ nn h0, g1, ?z1, fun L1 n1 => ?_⟩
    case z1 => rw [r0.len, q1.len]; exact sz (by simp)
    have B1 := B.kp (S0.trans T1) nn
    have nb1 : b ≠ L1 := B1.ne n1
    have hO : (upd G1 L1 (.lst (vs0 ++ ws1))) L0 = some (.lst vs0) := by
      rw [upd_ne (ne_of_none (T1.kp _ _ nn h0) n1)]
      exact T1.kp _ _ nn h0
    have S1 : Stp [] G1 (upd G1 L1 (.lst (vs0 ++ ws1))) := Stp.new n1 _
    have r1 := ((r0.stp T1 Lsts.nil).app q1).stp S1 Lsts.nil
    have h1 : (upd G1 L1 (.lst (vs0 ++ ws1))) L1 = some (.lst (vs0 ++ ws1)) := upd_same
    have l0 := r0.len
    generalize vs0 ++ ws1 = vs1 at *
    generalize upd G1 L1 (.lst vs1) = H1 at *
    have E1 := (S0.trans T1).trans S1
    have B2 := B.kp E1 nn
    refine ⟨_, rfl, _, rfl, L0, _, rfl, .inl (SqL.of hO), _, _, rfl, rfl, b, _, n, rfl, B2, by omega, by omega, by rw [l0]; decide, fun e H2 e0 e1 o1 B3 => ?_⟩
    have S2 : Stp [b] H1 H2 := o1.stp one
    have nLb : L1 ∉ [b] := fun m => nb1 (List.mem_singleton.mp m).symm
    obtain ⟨j, rfl⟩ := Int.eq_ofNat_of_zero_le e0
    have hj : j < vs1.length := by
      rw [r1.len]
      rw [l0] at e1
      simp at e1 ⊢
      omega
    obtain ⟨d', hd', rd'⟩ := r1.get (List.getElem?_eq_getElem hj)
    have rd2 := rd'.draw S2 B2 B3
    refine ⟨L1, vs1, (j : Int), vs1[j], rfl, rfl, SqL.of (S2.kp _ _ nLb h1), atI_nat (List.getElem?_eq_getElem hj), ?_⟩
    refine k _ d' H2 rd2 ?_ (E1.nil.trans S2) B3
    have md := List.mem_of_getElem? hd'
    clear hd' rd' r1 r0 q1
    have ns : d'.ty ≠ some "int" → BadN K H2 vs1[j] := fun h => ⟨_, rd2.rp, .inl h⟩
    have nt : ∀ {i : Int}, d' = .int i → (i < 1 ∨ 1000 < i) → BadN K H2 vs1[j] := fun e h => by
      subst e
      refine ⟨_, rd2.rp, .inr ⟨_, ?_, h⟩⟩
      have := rd2.rp
      generalize vs1[j] = x at *
      cases this
      rfl
    simp only [List.mem_append, List.mem_cons, List.not_mem_nil, or_false] at md
    rcases md with (h | h | h | h | h | h | h | h | h | h | h | h | h | h | h) | h
    · exact nt h (by decide)
    · exact nt h (by decide)
    · exact nt h (by decide)
    · exact ns (by subst h; decide)
    · exact ns (by subst h; decide)
    · exact ns (by subst h; decide)
    · exact ns (by subst h; simp [Dt.ty])
    · exact ns (by subst h; simp [Dt.ty])
    · exact ns (by subst h; simp [Dt.ty])
    · exact nt h (by decide)
    · exact nt h (by decide)
    · exact ns (by subst h; simp [Dt.ty])
    · exact ns (by subst h; simp [Dt.ty])
    · exact nt h (by decide)
    · exact ns (by subst h; simp [Dt.ty])
    · exact ns (by subst h; simp [Dt.ty])
/-! ### values that are no lists of ranges -/
theorem tt_join {t : TT} {σ : L2.St} {H : Hp} {Q : Bool → Hp → Prop} (I : Bool → Hp → Prop) (h : (∀ b H', I b H' → Q b H') → t σ H Q) (k : ∀ b H', I b H' → Q b H') : t σ H Q := h k
theorem EvD.tupOf {S : List Addr} {te : TE} {σ : L2.St} {H : Hp} {ds : List D} (h : Pv.EvD K S te σ H (.lst ds)) : Pv.EvD K S (tCB (fun xs H Q => ∃ p ys, xs = [.ref p] ∧ ((SqL K H p ys ∧ ∀ l, H l = none → Q (.ref l) (upd H l (.tup ys))) ∨ (SqT K H p ys ∧ Q (.ref p) H))) (tCons te tNil)) σ H (.tup ds) := fun H1 s Q k =>
  h H1 s _ fun v H2 s2 r => by
    cases r with
    | lst ha hn hl rl => exact ⟨_, _, rfl, .inl ⟨SqL.of ha, fun l nl => k _ _ (s2.new' nl) (Rv.newT nl rl (by rw [← rl.len]; exact hl))⟩⟩
theorem EvD.catL {S : List Addr} {te tb : TE} {σ : L2.St} {H : Hp} {ds es : List D} (L : Lsts H S) (h : Pv.EvD K S te σ H (.lst ds)) (g : Pv.EvD K S tb σ H (.lst es)) (hl : ds.length + es.length ≤ 100000) : Pv.EvD K S (tOp rCat te tb) σ H (.lst (ds ++ es)) := fun H1 s Q k =>
  h H1 s _ fun v H2 s2 r => g H2 (s.trans s2) _ fun v2 H3 s3 r2 => by
    have r' := r.up s3
    cases r' with
    | lst ha hn hz rl =>
      cases r2 with
      | lst hb hm hy rm =>
        refine cat_use ha hb rl rm hl fun p np H' zs s4 h4 r4 => ?_
        have LL := Pg.Lsts.stp L (s.trans (s2.trans s3))
        exact k _ _ (s2.trans (s3.trans s4)) (.lst h4 (fun m => by
          obtain ⟨ys, hy⟩ := LL _ m
          rw [np] at hy
          cases hy) (by rw [r4.len, List.length_append]; exact hl) r4)
theorem put_mid {b a : Addr} {i n m : Nat} {xs : List V} {ds : List D} {G : D → Prop} {te : TE} {σ : L2.St} {H : Hp} {Q : VK} (e1 : σ[1]? = some (some (.ref a))) (e3 : σ[3]? = some (some (.int (i : Int)))) (ha : H a = some (.lst xs)) (an : a ∉ [b]) (rl : RvL K [b] H xs ds) (hl : ds.length ≤ 1000) (B : Bag H b n)
    (ht : ∀ H1, Stp [] H H1 → Bag H1 b n → ∀ Q1 : VK, (∀ q v d H2, H2 q = some (.lst [v]) → Stp [b] H1 H2 → Bag H2 b m → Rv K [b] H2 v d → G d → Q1 (.ref q) H2) → te σ H1 Q1)
    (k : ∀ p zs d H', H' p = some (.lst zs) → p ∉ [b] → RvL K [b] H' zs (ds.take i ++ [d] ++ ds.drop i) → G d → Stp [b] H H' → Bag H' b m → Q (.ref p) H') :
    tOp rCat (tOp rCat (tSl (rSlL K) (tVar 1) tNoPart (tPart (tVar 3))) te) (tSl (rSlL K) (tVar 1) (tPart (tVar 3)) tNoPart) σ H Q := by
  have nn : ∀ {x : Addr}, x ∉ ([] : List Addr) := fun m => nomatch m
  refine ⟨_, e1, _, e3, _, rfl, a, _, rfl, SqL.of ha, fun p1 np1 => ?_⟩
  rw [show cutV xs none (some (i : Int)) = _ from cut_upto i]
  have S3 : Stp [] H (upd H p1 (.lst (xs.take i))) := Stp.new np1 _
  have h3 : (upd H p1 (.lst (xs.take i))) p1 = some (.lst (xs.take i)) := upd_same
  have n1 : p1 ∉ [b] := fun m => B.ne np1 (List.mem_singleton.mp m).symm
  have r3 := (rl.take i).up S3
  generalize upd H p1 (.lst (xs.take i)) = H3 at *
  have B3 := B.kp S3 nn
  have ls := Pv.bag_ls B
  have ls3 := Pv.bag_ls B3
  refine ht H3 S3 B3 _ fun q v d H4 hq S4 B4 rv g => ?_
  have ha4 := S4.kp _ _ an (S3.kp _ _ nn ha)
  have rl4 := (rl.up S3).stp S4 ls3
  refine cat_use (es := [d]) (S4.kp _ _ n1 h3) hq (r3.stp S4 ls3) (.cons rv .nil) (by rw [List.length_take]; simp; omega) fun p6 n6 H6 z6 S6 h6 q6 => ?_
  refine ⟨_, e1, _, e3, _, rfl, nopart ⟨a, xs, rfl, SqL.of (S6.kp _ _ nn ha4), fun p7 np7 => ?_⟩⟩
  rw [show cutV xs (some (i : Int)) none = _ from cut_from i]
  have S7 : Stp [] H6 (upd H6 p7 (.lst (xs.drop i))) := Stp.new np7 _
  refine cat_use (S7.kp _ _ nn h6) upd_same (q6.up S7) (((rl4.up S6).drop i).up S7) (by simp; omega) fun p8 n8 H8 z8 S8 h8 q8 => ?_
  have S48 := (S6.trans S7).trans S8
  have B7 := B4.kp (S6.trans S7) nn
  exact k p8 z8 d H8 h8 (fun m => B7.ne n8 (List.mem_singleton.mp m).symm) q8 g ((S3.nil.trans S4).trans S48.nil) (B4.kp S48 nn)
def oddl (C : Addr) (w : List Nat) (ps : List Pr) : List D := [.non, .tup (ps.map Sx.prV), wd "", .bl true, .int 0, .tup [], .lst [.lst (ps.map Sx.prV ++ [.tup [.str w, .non]])], .lst [.lst []], .str w, .tup [.str w, .non], .obj C]
theorem oddl_len {C : Addr} {w : List Nat} {ps : List Pr} : (oddl C w ps).length = 11 := rfl
theorem oddl_bad {C : Addr} {w : List Nat} {ps : List Pr} {d : D} (m : d ∈ oddl C w ps) : badR d := by
  simp only [oddl, List.mem_cons, List.not_mem_nil, or_false] at m
  rcases m with rfl | rfl | rfl | rfl | rfl | rfl | rfl | rfl | rfl | rfl | rfl
  case inr.inr.inr.inr.inr.inr.inl => exact .inr ⟨_, rfl, by simp, _, List.mem_singleton.mpr rfl, rfl⟩
  case inr.inr.inr.inr.inr.inr.inr.inl => exact .inr ⟨_, rfl, by simp, _, List.mem_singleton.mpr rfl, rfl⟩
  all_goals exact .inl fun ds e => by cases e
theorem back_no {p : Pr} {e : Txt} (ok : PrOk p) (h : p.2 = some e) : Sx.isRng (.tup [.str e, .str p.1]) = false := by
  show (Sx.abcB e && (Sx.abcB p.1 && decide (e < p.1))) = false
  rw [decide_eq_false fun q => List.lt_irrefl _ (List.lt_trans (ok.2 e h).2 q)]
  simp
def spOddL (K : PySem.W.Frag) : Sp := fun vs H Q _ => ∃ (b a : Addr) (n : Nat) (xs : List V) (ps : List Pr) (l : Txt), vs = [.ref b, .ref a, Tx l] ∧ a ≠ b ∧ H a = some (.lst xs) ∧ RpL K H xs (ps.map prD) ∧ (∀ p ∈ ps, PrOk p) ∧ ps.length ≤ 40 ∧ l.length ≤ 12 ∧ Bag H b n ∧ n + 100 < 2 ^ 30 ∧
  ∀ v d H', Rv K [b] H' v d → badR d → Stp [b] H H' → Bag H' b (n + 10) → Q v H'
theorem cl__law_odd_pairs {f : Addr} {fd : FuncData} (Dh : Df K mg "_law_odd_pairs" s__law_odd_pairs ["bag", "pairs", "word"] f fd) (T : Nm mg) (TX : Er K mg) (c__law_draw : Cl P w K mg base 1 "_law_draw" s__law_draw ["bag", "upto"] spDraw) (c__law_odd_pair : Cl P w K mg base 2 "_law_odd_pair" s__law_odd_pair ["bag", "word"] (Sx.spOddP K TX.C_InvalidSpan)) :
    Cl P w K mg base 3 "_law_odd_pairs" s__law_odd_pairs ["bag", "pairs", "word"] (spOddL K) := by
  refine Dh.cl sc__law_odd_pairs (fun vs H Q E h => ?_) (fun cdv A outer s H vs Q E hr h => ?_)
  · obtain ⟨b, a, n, xs, ps, l, rfl, _⟩ := h
    rfl
  · obtain ⟨b, a, n, xs, ps, l, rfl, ab, ha, rl, ok, few, ll, B, hn, k⟩ := h
    refine ⟨_, (pss_cons (ps_par (i := 3) (j := 4) rfl sc__law_odd_pairs.nd rfl rfl (by decide) rfl rfl (pa_cons (pe_cl c__law_draw hr (by omega) (pa_cons (pv 0) (pa_cons (pe_op op_add (pe_callB call_len_seq (by rfl) T.n_len (by decide +kernel) (pa_cons (pv 1) pa_nil)) pe_int) pa_nil))) (pa_cons (pe_cl c__law_draw hr (by omega) (pa_cons (pv 0) (pa_cons pe_int pa_nil))) pa_nil)) (by rfl))
      (pss_cons (ps_setLc (i := 5) (own := [("pair", 6)]) rfl sc__law_odd_pairs.nd rfl rfl (sw_true rfl rfl rfl (by decide +kernel)) (pi_list (pv 1)) (blkOk_by (own := [("pair", 6)]) (N := N__law_odd_pairs) (sc := defScope s__law_odd_pairs) (by decide +kernel)) (fun _ _ _ _ _ => (pg_name (i := 6) sc__law_odd_pairs.nd rfl (by first | exact Or.inl rfl | exact Or.inr rfl))) (fun _ _ _ _ _ => (pts_one (pt_cmpR op_notN (pe_ix (ix_tupK rfl) (pv 6) pe_int (fun _ _ => rfl)) pe_non (by first | exact nomark _ | rfl)))) (fun _ _ _ _ _ => (pv 6)))
      (pss_cons (ps_if (PW.pt (pw_and (pt_cmpR op_eq (pv 4) pe_int (by first | exact nomark _ | rfl)) (pw_and1 (pt_cmpR (Pv.op_neNil hr.units) (pv 5) (pe_lst pa_nil) (by first | exact nomark _ | rfl))))) (pss_cons (ps_set (i := 6) sc__law_odd_pairs.nd rfl (by first | exact Or.inl rfl | exact Or.inr rfl) (pe_ix ix_list (pv 5) (pe_cl c__law_draw hr (by omega) (pa_cons (pv 0) (pa_cons (pe_callB call_len_seq (by rfl) T.n_len (by decide +kernel) (pa_cons (pv 5) pa_nil)) pa_nil))) (fun _ _ => rfl)))
      (pss_one (ps_ret (pe_op op_cat (pe_op op_cat (pe_slice sl_list (pv 1) po_none (po_some (pv 3))) (pe_lst (pa_cons (pe_tup (pa_cons (pe_ix ix_tup (pv 6) pe_int (fun _ _ => rfl)) (pa_cons (pe_ix ix_tup (pv 6) pe_int (fun _ _ => rfl)) pa_nil))) pa_nil))) (pe_slice sl_list (pv 1) (po_some (pv 3)) po_none))))) pss_nil)
      (pss_cons (ps_if (pt_cmpR op_lt (pv 4) pe_int (by first | exact nomark _ | rfl)) (pss_one (ps_ret (pe_op op_cat (pe_op op_cat (pe_slice sl_list (pv 1) po_none (po_some (pv 3))) (pe_lst (pa_cons (pe_cl c__law_odd_pair hr (by omega) (pa_cons (pv 0) (pa_cons (pv 2) pa_nil))) pa_nil))) (pe_slice sl_list (pv 1) (po_some (pv 3)) po_none)))) pss_nil)
      (pss_cons (ps_set (i := 7) sc__law_odd_pairs.nd rfl (by first | exact Or.inl rfl | exact Or.inr rfl) (pe_lst (pa_cons pe_non (pa_cons (pe_callTy call_tuple_of (by rfl) T.n_tuple (by decide +kernel) (pa_cons (pv 1) pa_nil)) (pa_cons pe_str (pa_cons pe_bl (pa_cons pe_int (pa_cons (pe_tup pa_nil) (pa_cons (pe_lst (pa_cons (pe_op op_cat (pv 1) (pe_lst (pa_cons (pe_tup (pa_cons (pv 2) (pa_cons pe_non pa_nil))) pa_nil))) pa_nil)) (pa_cons (pe_lst (pa_cons (pe_lst pa_nil) pa_nil)) (pa_cons (pv 2) (pa_cons (pe_tup (pa_cons (pv 2) (pa_cons pe_non pa_nil))) (pa_cons (pe_exc1 PySem.F.excBase_ValueError TX.x_InvalidSpan TX.g_InvalidSpan TX.k_InvalidSpan rfl (pv 2)) pa_nil)))))))))))))
      (pss_one (ps_ret (pe_ix ix_list (pv 7) (pe_cl c__law_draw hr (by omega) (pa_cons (pv 0) (pa_cons (pe_callB call_len_seq (by rfl) T.n_len (by decide +kernel) (pa_cons (pv 7) pa_nil)) pa_nil))) (fun _ _ => rfl))))))))), ?_⟩
    have nn : ∀ {x : Addr}, x ∉ ([] : List Addr) := fun m => nomatch m
    have one : b ∈ [b] := List.mem_singleton.mpr rfl
    have an : a ∉ [b] := fun m => ab (List.mem_singleton.mp m)
    have lx : xs.length = ps.length := by rw [rl.len, List.length_map]
    have pS : ∀ p ∈ ps, PrS p := fun p m => (ok p m).s
    refine ⟨_, rfl, _, rfl, a, _, rfl, .inl (SqL.of ha), _, _, rfl, rfl, b, _, n, rfl, B, by omega, by omega, by rw [lx]; omega, fun at_ H1 a0 a1 o1 B1 => ?_⟩
    have S1 : Stp [b] H H1 := o1.stp one
    obtain ⟨i, rfl⟩ := Int.eq_ofNat_of_zero_le a0
    refine ⟨_, rfl, b, 3, _, rfl, B1, by omega, by decide, by decide, fun way H2 w0 w1 o2 B2 => ?_⟩
    have S2 : Stp [b] H H2 := S1.trans (o2.stp one)
    have ha2 := S2.kp _ _ an ha
    have rl2 := rl.stp S2 (Pv.bag_ls B)
    -- ended
    dsimp only [tNext]
    refine ⟨_, _, rfl, _, rfl, a, rfl, ⟨_, SqL.of ha2⟩, fun L nL => ?_⟩
    have aL : a ≠ L := ne_of_none ha2 nL
    have Lb : L ∉ [b] := fun m => B2.ne nL (List.mem_singleton.mp m).symm
    refine lc_list (a := a) (xs := xs) (fun j H3 => ∃ (qs : List Pr) (vs : List V), H3 L = some (.lst vs) ∧ RpL K H3 vs (qs.map prD) ∧ (∀ q ∈ qs, q ∈ ps ∧ ∃ e, q.2 = some e) ∧ qs.length ≤ j ∧ Stp [] H2 H3)
      ⟨[], [], upd_same, .nil, fun q m => (nomatch m), Nat.le_refl _, Stp.new nL _⟩ (fun j H3 _ ⟨_, _, _, _, _, _, S⟩ => SqL.of (S.kp _ _ nn ha2)) ?_ ?_
    · rintro j x H3 hi ⟨qs, vs, hL, rv, ms, lq, S⟩
      obtain ⟨p, hp, t, rfl, ht⟩ := prs_get rl2 hi
      obtain ⟨g, e⟩ := p
      have mp := List.mem_of_getElem? hp
      have o1 := pS _ mp
      have ht2 : SqT K H3 t [Tx g, oV e] := sqt_stp S Lsts.nil ht
      have hj : j < xs.length := (List.getElem?_eq_some_iff.mp hi).1
      have lv : vs.length < sizeLine := by
        have h1 := rv.len
        rw [List.length_map] at h1
        exact Nat.lt_of_le_of_lt (show vs.length ≤ 1000 by omega) (by decide)
      refine ⟨rfl, _, rfl, t, _, 1, oV e, rfl, rfl, ht2, at1, rfl, _, rfl, ?_⟩
      cases e with
      | none => exact ite2 (fun h => nomatch h) (fun _ => ⟨qs, vs, hL, rv, ms, by omega, S⟩)
      | some e =>
        refine ite2 (fun _ => ?_) (fun h => absurd rfl h)
        refine ⟨_, rfl, vs, hL, lv, qs ++ [(g, some e)], _, upd_same, ?_, fun q m => ?_, by simp; omega, S.mut nL⟩
        · have s4 : Stp [L] H3 (upd H3 L (.lst (vs ++ [.ref t]))) := Stp.put (by simp)
          exact prs_one (rv.stp s4 (.one hL)) (pr_rp (sqt_stp s4 (.one hL) ht2) o1.1.2 fun e' q => (o1.2 e' q).2)
        · rcases List.mem_append.mp m with m | m
          · exact ms q m
          · rw [List.mem_singleton.mp m]
            exact ⟨mp, e, rfl⟩
    rintro H3 ⟨qs, ws, hL, rq, mq, lq, S3⟩
    have B3 := B2.kp S3 nn
    have ha3 := S3.kp _ _ nn ha2
    have S03 : Stp [b] H H3 := S2.trans S3.nil
    have rv3 : RvL K [b] H3 xs (ps.map Sx.prV) := Sx.rps_rv (rl2.stp S3 Lsts.nil) pS
    dsimp only [gName]
    -- turned
    refine seq_end (fun σ H' => σ = [some (.ref b), some (.ref a), some (Tx l), some (.int (i : Int)), some (.int way), some (.ref L), none, none] ∧ Stp [] H3 H') ?_ (fun fin => ?_)
    rotate_left
    · refine tt_join (t := tAnd _ _) (fun c H' => Stp [] H3 H' ∧ (c = true → qs ≠ [])) (fun fi => ?_) ?_
      · refine ⟨_, rfl, rfl, _, rfl, ite2 (fun _ => ?_) (fun _ => fi _ _ ⟨Stp.refl _ _, fun e => nomatch e⟩)⟩
        refine ⟨_, rfl, Nat.zero_le _, fun z nz => ⟨L, z, ws, rfl, rfl, ne_of_none hL nz, SqL.of (by rw [upd_ne (ne_of_none hL nz)]; exact hL), SqL.of upd_same, _, rfl, fi _ _ ⟨Stp.new nz _, fun e h => ?_⟩⟩⟩
        subst h
        cases rq
        exact absurd e (by simp)
      rintro c H4 ⟨S4, hc⟩
      refine ite2 (fun ec => ?_) (fun ec => fin _ _ ⟨rfl, S4⟩)
      have q0 : 0 < qs.length := List.length_pos_iff.mpr (hc ec)
      have B4 := B3.kp S4 nn
      have lw : ws.length = qs.length := by rw [rq.len, List.length_map]
      have hL4 := S4.kp _ _ nn hL
      refine ⟨_, rfl, _, rfl, _, rfl, L, _, rfl, .inl (SqL.of hL4), b, _, _, rfl, B4, by omega, by rw [lw]; omega, by rw [lw]; omega, fun e H5 e0 e1 o5 B5 => ?_⟩
      have S5 : Stp [b] H4 H5 := o5.stp one
      have hL5 := S5.kp _ _ Lb hL4
      obtain ⟨j, rfl⟩ := Int.eq_ofNat_of_zero_le e0
      have hj : j < ws.length := by omega
      obtain ⟨q, hq, t, et, ht⟩ := prs_get (rq.stp (S4.nil.trans S5) (Pv.bag_ls B3)) (List.getElem?_eq_getElem hj)
      obtain ⟨mp, e, eq2⟩ := mq _ (List.mem_of_getElem? hq)
      obtain ⟨g, e'⟩ := q
      obtain rfl : e' = some e := eq2
      refine ⟨L, ws, (j : Int), ws[j], rfl, rfl, SqL.of hL5, atI_nat (List.getElem?_eq_getElem hj), ?_⟩
      rw [et]
      have S35 := S4.nil.trans S5
      refine put_mid (b := b) (n := n + 1 + 1 + 1) (m := n + 1 + 1 + 1) (ds := ps.map Sx.prV) (G := fun d => Sx.isRng d = false) rfl rfl (S35.kp _ _ an ha3) an (rv3.stp S35 (Pv.bag_ls B3)) (by rw [List.length_map]; omega) B5 (fun H6 S6 B6 Q1 k1 => ?_) fun p zs d H' hp pb rz g S' B' => ?_
      · have ht6 := sqt_stp S6 Lsts.nil ht
        refine ⟨_, rfl, t, _, 1, Tx e, rfl, rfl, ht6, at1, _, rfl, t, _, 0, Tx g, rfl, rfl, ht6, at0, (by show 2 ≤ sizeLine; decide), fun x nx => ⟨(by show 1 ≤ sizeLine; decide), fun q nq => ?_⟩⟩
        have o1 := pS _ mp
        have le : e.length ≤ 100000 := Nat.le_trans (o1.2 e rfl).2 (by decide)
        have lg : g.length ≤ 100000 := Nat.le_trans o1.1.2 (by decide)
        have S7 : Stp [] H6 (upd H6 x (.tup [Tx e, Tx g])) := Stp.new nx _
        have S8 := S7.new' (o := .lst [.ref x]) nq
        refine k1 q (.ref x) (.tup [.str e, .str g]) _ upd_same S8.nil (B6.kp S8 nn) (Rv.up (.tup (SqT.of upd_same) (by simp) (.cons (.str e le) (.cons (.str g lg) .nil))) (Stp.new nq _)) (back_no (ok _ mp) rfl)
      · exact k _ (.lst ((ps.map Sx.prV).take i ++ [d] ++ (ps.map Sx.prV).drop i)) H' (.lst hp pb (by rw [rz.len]; simp; omega) rz) (.inr ⟨_, rfl, by simp; omega, d, by simp, g⟩) ((S03.trans S35).trans S') (B'.mono (by omega))
    rintro σ H4 ⟨rfl, S4⟩
    have B4 := B3.kp S4 nn
    have ha4 := S4.kp _ _ nn ha3
    have S04 : Stp [b] H H4 := S03.trans S4.nil
    have rv4 := rv3.up S4
    refine ⟨_, rfl, _, _, rfl, rfl, _, rfl, ite2 (fun _ => ?_) (fun _ => ?_)⟩
    · refine put_mid (b := b) (n := n + 1 + 1) (m := n + 1 + 1 + 1) (ds := ps.map Sx.prV) (G := fun d => Sx.isRng d = false) rfl rfl ha4 an rv4 (by rw [List.length_map]; omega) B4 (fun H6 S6 B6 Q1 k1 => ?_) fun p zs d H' hp pb rz g S' B' => ?_
      · refine ⟨_, rfl, _, rfl, b, _, l, rfl, ll, B6, by omega, fun v d H7 md S7 B7 rv => ⟨(by show 1 ≤ sizeLine; decide), fun q nq => ?_⟩⟩
        have S8 : Stp [] H7 (upd H7 q (.lst [v])) := Stp.new nq _
        exact k1 q v d _ upd_same (S7.trans S8.nil) (B7.kp S8 nn) (rv.up S8) (Sx.oddp_no md)
      · exact k _ (.lst ((ps.map Sx.prV).take i ++ [d] ++ (ps.map Sx.prV).drop i)) H' (.lst hp pb (by rw [rz.len]; simp; omega) rz) (.inr ⟨_, rfl, by simp; omega, d, by simp, g⟩) (S04.trans S') (B'.mono (by omega))
    have ls0 := Pv.bag_ls B4
    have rw0 : Rv K [b] H4 (Tx l) (.str l) := .str l (by omega)
    have rz0 : Rv K [b] H4 (.ref a) (.lst (ps.map Sx.prV)) := .lst ha4 an (by omega) rv4
    dsimp only [tNext]
    refine asg_name ?_
    refine' Pv.EvDA.newl (K := K) (S := [b]) (ds := oddl TX.C_InvalidSpan l ps) ?e0 ?l0 ?k0
    case e0 => unfold oddl; (repeat' first | exact Pv.EvDA.nil | apply Pv.EvDA.cons | exact Pv.EvD.bl | exact Pv.EvD.int | exact Pv.EvD.non | exact Pv.EvD.str | exact Pv.EvD.var rw0 | exact Pv.EvD.var rz0 | apply EvD.tupOf | apply EvD.catL ls0 | apply Pv.EvD.tup | apply Pv.EvD.lst ls0 | apply Pv.EvD.exc TX.cl_InvalidSpan.ok | (simp; done) | (simp; omega))
    case l0 => rw [oddl_len]; decide
    case k0 =>
    intro L0 vs0 H5 E0 n0 h0 r0
    have B5 := B4.kp E0 nn
    refine ⟨_, rfl, _, rfl, _, rfl, L0, _, rfl, .inl (SqL.of h0), b, _, _, rfl, B5, by omega, ?_, ?_, fun d H6 d0 d1 o6 B6 => ?_⟩
    · rw [r0.len, oddl_len]; decide
    · rw [r0.len, oddl_len]; decide
    rw [r0.len] at d1
    have S6 := o6.stp one
    have nLb : L0 ∉ [b] := fun m => B4.ne n0 (List.mem_singleton.mp m).symm
    obtain ⟨v, e, me, re, ev⟩ := (r0.stp S6 (Pv.bag_ls B5)).pick d0 d1
    exact ⟨L0, _, d, v, rfl, rfl, SqL.of (S6.kp _ _ nLb h0), ev, k v e H6 re (oddl_bad me) ((S04.trans E0.nil).trans S6) (B6.mono (by omega))⟩
/-! ### InvalidWords.__init__ -/
def clsBody0 : Stmt → Stmt
  | .ClassDef _ _ _ (s :: _) _ _ _ _ _ _ _ => s
  | s => s
abbrev s_init : Stmt := clsBody0 (topS 17)
theorem sc_init : FnScope ["self", "place"] ["self", "place"] (defScope s_init) := ⟨rfl, rfl, rfl, by decide +kernel, rfl, by decide +kernel, by decide +kernel⟩
/-- InvalidWords: what the written part says -/
structure Iw (K : PySem.W.Frag) {mg : Str → Option Value} (TX : Er K mg) (fI : Addr) (fdI : FuncData) : Prop where
  T : OexI K TX.C_InvalidWords fI
  F : Fun K "__init__" "InvalidWords.__init__" s_init fI fdI
  x : XfC K TX.C_InvalidWords
  np : PySem.W.findIn K (.ref TX.C_InvalidWords) "place" = some none
  sg : PySem.W.specialIn K (.ref TX.C_SkipError) "__getattribute__" = some (some (.builtin "type.__getattribute__"))
  rd : PySem.W.readsIn (mc := .type "type") K TX.C_SkipError = true
  fc : PySem.W.findCls K (.ref TX.C_SkipError) (.type "type") "__init__" = some (.val (.builtin "ValueError.__init__"))
def spIni (K : PySem.W.Frag) (C : Addr) : Sp := fun vs H Q _ => ∃ (a : Addr) (i : Int), vs = [.ref a, .int i] ∧ i.natAbs.log2 < 1920 ∧ H a = some (exo a C none) ∧ ∀ d, H d = none → d ≠ a → Q .non (upd (upd H d (exd d [("place", .int i)])) a (exo a C (some d)))
theorem int_len {i : Int} (h : i.natAbs.log2 < 1920) : (Str.ofString (toString i)).length ≤ 1921 := by
  rw [PySem.ofString_length]
  exact int_text_length_le (k := 1920) (by decide) h
theorem ini_words {TX : Er K mg} {fI : Addr} {fdI : FuncData} (I : Iw K TX fI fdI) : Ini P w K mg base 1 "InvalidWords" TX.C_InvalidWords ["self", "place"] (spIni K TX.C_InvalidWords) := by
  refine ⟨TX.g_InvalidWords, fI, fdI, I.T, ?_, I.F.binds fun _ _ _ _ _ _ us hl => match us, hl with | [_, _], _ => rfl, ?_⟩
  · refine I.F.ok sc_init (fun vs H Q E h => ?_) (fun cdv A outer s H vs Q E hr h => ?_)
    · obtain ⟨a, i, rfl, _⟩ := h
      rfl
    · obtain ⟨a, i, rfl, hi, ha, k⟩ := h
      refine ⟨_, pss_cons (ps_expr (pe_skinit rfl TX.g_SkipError I.sg I.rd I.fc (pa_cons (pv 0) (pa_cons (pe_joined (.cons pe_str (.cons (pe_fmt (pv 1)) (.cons pe_str .nil)))) pa_nil)))) (pss_one (ps_ost (pv 0) (pv 1))), ?_⟩
      have l1 : (Str.empty ++ ("the words cannot be read from word " : Str)).length = 35 := by decide +kernel
      have l2 := int_len hi
      have l3 : (" on" : Str).length = 3 := by decide +kernel
      refine ⟨_, rfl, _, rfl, by rw [l1]; decide, _, rfl, .inr ⟨i, rfl, hi, _, rfl, ?_, _, rfl, ?_, a, TX.C_InvalidWords, _, rfl, by simp, I.T.t, ha, ?_⟩⟩
      · rw [Str.length_append, l1]
        exact Nat.le_trans (show _ ≤ 2000 by omega) (by decide)
      · rw [Str.length_append, Str.length_append, l1, l3]
        exact Nat.le_trans (show _ ≤ 2000 by omega) (by decide)
      · exact ⟨_, rfl, _, rfl, a, TX.C_InvalidWords, rfl, I.T.t, I.np, .inl ⟨ha, fun dx n ne => k dx n ne⟩⟩
  · intro s self us hl
    obtain ⟨oc, od, kV, doc, pm, an, cdv, ct, osl, rfl, lk, hcd⟩ := I.F.ex
    match us, hl with
    | [u], _ => exact .of_eq rfl
abbrev s__law_made : Stmt := topS 62
abbrev N__law_made : List Str := ["word", "made", "k", "names", "places", "one_made"]
theorem sc__law_made : FnScope ["word", "made", "k", "names", "places", "one_made"] ["word"] (defScope s__law_made) := ⟨rfl, rfl, rfl, by decide +kernel, rfl, by decide +kernel, by decide +kernel⟩

/-! ### _law_made -/
/-- errors that were made, from the class at the place j on -/
inductive Mde (K : PySem.W.Frag) {mg : Str → Option Value} (TX : Er K mg) (H : Hp) : Nat → List V → Prop
  | nil {j : Nat} : Mde K TX H j []
  | cons {j : Nat} {a D : Addr} {xs : List V} : Kit K TX D j → PySem.W.kitOne K (.ref D) (.ref TX.C_SkipError) = some true → ErrAt H a D → Mde K TX H (j + 1) xs → Mde K TX H j (.ref a :: xs)
theorem Mde.up {TX : Er K mg} {H H' : Hp} {j : Nat} {xs : List V} (h : Mde K TX H j xs) (s : Stp [] H H') : Mde K TX H' j xs := by
  induction h with
  | nil => exact .nil
  | cons a b c _ ih => exact .cons a b (c.up s) ih
theorem Mde.app {TX : Er K mg} {H : Hp} {j k : Nat} {xs ys : List V} (h : Mde K TX H j xs) (e : k = j + xs.length) (g : Mde K TX H k ys) : Mde K TX H j (xs ++ ys) := by
  induction h with
  | nil =>
    have e : k = _ := e
    rw [List.length_nil, Nat.add_zero] at e
    subst e
    exact g
  | cons a b c _ ih => exact .cons a b c (ih (by rw [e, List.length_cons]; omega))
theorem Mde.get {TX : Er K mg} {H : Hp} {j i : Nat} {xs : List V} {v : V} (h : Mde K TX H j xs) (e : xs[i]? = some v) : ∃ a D, v = .ref a ∧ Kit K TX D (j + i) ∧ PySem.W.kitOne K (.ref D) (.ref TX.C_SkipError) = some true ∧ ErrAt H a D := by
  induction h generalizing i with
  | nil => cases e
  | cons a b c _ ih =>
    cases i with
    | zero =>
      cases e
      exact ⟨_, _, rfl, a, b, c⟩
    | succ i =>
      obtain ⟨a', D', r1, r2, r3⟩ := ih (i := i) (by simpa using e)
      rw [Nat.add_assoc, Nat.add_comm 1 i] at r2
      exact ⟨a', D', r1, r2, r3⟩
/-- the items of a list: errors -/
def EvM (K : PySem.W.Frag) {mg : Str → Option Value} (TX : Er K mg) (ta : TA) (σ : L2.St) (H : Hp) (j n : Nat) : Prop := ∀ (H1 : Hp), Stp [] H H1 → ∀ (Q : List V → Hp → Prop), (∀ vs H2, Stp [] H1 H2 → Mde K TX H2 j vs → vs.length = n → Q vs H2) → ta σ H1 Q
theorem EvM.nil {TX : Er K mg} {σ : L2.St} {H : Hp} {j : Nat} : EvM K TX tNil σ H j 0 := fun H1 _ Q k => k [] H1 (Stp.refl _ _) .nil rfl
theorem EvM.exc {TX : Er K mg} {ta : TA} {σ : L2.St} {H : Hp} {j n : Nat} {C : Addr} {v : V} (kt : Kit K TX C j) (sk : PySem.W.kitOne K (.ref C) (.ref TX.C_SkipError) = some true) (g : EvM K TX ta σ H (j + 1) n) (e : σ[0]? = some (some v) := by rfl) :
    EvM K TX (tCons (fun σ H Q => tVar 0 σ H fun x H1 => ∀ a, H1 a = none → Q (.ref a) (upd H1 a (ExO (.ref C) a))) ta) σ H j (n + 1) := fun H1 s Q k => by
  refine ⟨v, e, fun a na => ?_⟩
  have S1 : Stp [] H1 (upd H1 a (ExO (.ref C) a)) := Stp.new na _
  exact g _ (s.trans S1) _ fun vs H2 S2 m l => k _ _ (S1.trans S2) (.cons kt sk ((ErrAt.up (.inl upd_same) S2)) m) (by rw [List.length_cons, l])
theorem mk_iw {C : Addr} {ta : TA} {σ : L2.St} {i : Int} {H : Hp} {Q : VK} (hi : i.natAbs.log2 < 1920) (hta : ∀ Q' : List V → Hp → Prop, Q' [V.int i] H → ta σ H Q') (k : ∀ a d H2, Stp [] H H2 → H a = none → H2 a = some (exo a C (some d)) → H2 d = some (exd d [("place", .int i)]) → Q (.ref a) H2) :
    tMkE C (spIni K C) ta σ H Q := by
  refine hta _ ⟨by simp, fun a na => ⟨a, i, rfl, hi, upd_same, fun d nd ne => ⟨rfl, ?_⟩⟩⟩
  have S1 : Stp [] H (upd H a (exo a C none)) := Stp.new na _
  refine k a d _ ((S1.new' nd).mutO na) na upd_same ?_
  rw [upd_ne ne]
  exact upd_same
theorem iw_place {TX : Er K mg} {fI : Addr} {fdI : FuncData} (IW : Iw K TX fI fdI) {ta : TA} {σ : L2.St} {i : Int} {H : Hp} {Q : VK} (hi : i.natAbs.log2 < 1920) (hta : ∀ Q' : List V → Hp → Prop, Q' [V.int i] H → ta σ H Q') (k : ∀ H2, Stp [] H H2 → Q (.int i) H2) :
    tOat K "place" (tMkE TX.C_InvalidWords (spIni K TX.C_InvalidWords) ta) σ H Q := mk_iw hi hta fun a d H2 S na ha hd => ⟨a, _, d, _, _, rfl, IW.x, IW.np, ha, hd, rfl, k H2 S⟩
def placesP : PyData := .list [.int 3, .int 3, .int (-1), .int (10 ^ (20 : Int).toNat)]
theorem ift {p q : Prop} (h : p) : if true = true then p else q := h
def namesS : List Str := ["text", "value", "span", "filter", "rule", "page", "note", "column", "index", "number", "code", "block", "undo", "full", "command", "words"]
theorem names_at16 : (List.range 16).map wdV = namesS.map V.str := rfl
/-- each is a SkipError -/
structure Skp (K : PySem.W.Frag) {mg : Str → Option Value} (TX : Er K mg) : Prop where
  s_InvalidText : PySem.W.kitOne K (.ref TX.C_InvalidText) (.ref TX.C_SkipError) = some true
  s_InvalidValue : PySem.W.kitOne K (.ref TX.C_InvalidValue) (.ref TX.C_SkipError) = some true
  s_InvalidSpan : PySem.W.kitOne K (.ref TX.C_InvalidSpan) (.ref TX.C_SkipError) = some true
  s_InvalidFilter : PySem.W.kitOne K (.ref TX.C_InvalidFilter) (.ref TX.C_SkipError) = some true
  s_InvalidRule : PySem.W.kitOne K (.ref TX.C_InvalidRule) (.ref TX.C_SkipError) = some true
  s_InvalidPage : PySem.W.kitOne K (.ref TX.C_InvalidPage) (.ref TX.C_SkipError) = some true
  s_InvalidNote : PySem.W.kitOne K (.ref TX.C_InvalidNote) (.ref TX.C_SkipError) = some true
  s_InvalidColumn : PySem.W.kitOne K (.ref TX.C_InvalidColumn) (.ref TX.C_SkipError) = some true
  s_InvalidIndex : PySem.W.kitOne K (.ref TX.C_InvalidIndex) (.ref TX.C_SkipError) = some true
  s_InvalidNumber : PySem.W.kitOne K (.ref TX.C_InvalidNumber) (.ref TX.C_SkipError) = some true
  s_InvalidCode : PySem.W.kitOne K (.ref TX.C_InvalidCode) (.ref TX.C_SkipError) = some true
  s_NoBlock : PySem.W.kitOne K (.ref TX.C_NoBlock) (.ref TX.C_SkipError) = some true
  s_NothingToUndo : PySem.W.kitOne K (.ref TX.C_NothingToUndo) (.ref TX.C_SkipError) = some true
  s_Full : PySem.W.kitOne K (.ref TX.C_Full) (.ref TX.C_SkipError) = some true
  s_InvalidCommand : PySem.W.kitOne K (.ref TX.C_InvalidCommand) (.ref TX.C_SkipError) = some true
  s_InvalidWords : PySem.W.kitOne K (.ref TX.C_InvalidWords) (.ref TX.C_SkipError) = some true
def spMade : Sp := fun vs H Q _ => vs = [.str "a b"] ∧ ∀ H', Stp [] H H' → Q (.bl true) H'
theorem cl__law_made {f fI : Addr} {fd fdI : FuncData} (D : Df K mg "_law_made" s__law_made ["word"] f fd) (T : Nm mg) (TX : Er K mg) (KT : Kits K TX) (SK : Skp K TX) (IW : Iw K TX fI fdI) (c_init : Ini P w K mg base 1 "InvalidWords" TX.C_InvalidWords ["self", "place"] (spIni K TX.C_InvalidWords)) (c__law_names : Cl P w K mg base 1 "_law_names" s__law_names ["caught"] (spNamesE K TX)) :
    ClG P w K mg base 3 "_law_made" s__law_made ["word"] spMade := by
  refine ⟨f, fd, D, D.g sc__law_made (fun vs H Q E h => ?_) (fun cdv A outer s H vs Q E hG hr h => ?_)⟩
  · obtain ⟨rfl, _⟩ := h
    rfl
  · obtain ⟨rfl, k⟩ := h
    refine ⟨_, (pss_cons (ps_set (i := 1) sc__law_made.nd rfl (by first | exact Or.inl rfl | exact Or.inr rfl) (pe_lst (pa_cons (pe_exc1 PySem.F.excBase_ValueError TX.x_InvalidText TX.g_InvalidText TX.k_InvalidText rfl (pv 0)) (pa_cons (pe_exc1 PySem.F.excBase_ValueError TX.x_InvalidValue TX.g_InvalidValue TX.k_InvalidValue rfl (pv 0)) (pa_cons (pe_exc1 PySem.F.excBase_ValueError TX.x_InvalidSpan TX.g_InvalidSpan TX.k_InvalidSpan rfl (pv 0)) (pa_cons (pe_exc1 PySem.F.excBase_ValueError TX.x_InvalidFilter TX.g_InvalidFilter TX.k_InvalidFilter rfl (pv 0)) (pa_cons (pe_exc1 PySem.F.excBase_ValueError TX.x_InvalidRule TX.g_InvalidRule TX.k_InvalidRule rfl (pv 0)) pa_nil)))))))
      (pss_cons (ps_set (i := 1) sc__law_made.nd rfl (by first | exact Or.inl rfl | exact Or.inr rfl) (pe_op op_cat (pv 1) (pe_lst (pa_cons (pe_exc1 PySem.F.excBase_ValueError TX.x_InvalidPage TX.g_InvalidPage TX.k_InvalidPage rfl (pv 0)) (pa_cons (pe_exc1 PySem.F.excBase_ValueError TX.x_InvalidNote TX.g_InvalidNote TX.k_InvalidNote rfl (pv 0)) (pa_cons (pe_exc1 PySem.F.excBase_ValueError TX.x_InvalidColumn TX.g_InvalidColumn TX.k_InvalidColumn rfl (pv 0)) (pa_cons (pe_exc1 PySem.F.excBase_ValueError TX.x_InvalidIndex TX.g_InvalidIndex TX.k_InvalidIndex rfl (pv 0)) pa_nil)))))))
      (pss_cons (ps_set (i := 1) sc__law_made.nd rfl (by first | exact Or.inl rfl | exact Or.inr rfl) (pe_op op_cat (pv 1) (pe_lst (pa_cons (pe_exc1 PySem.F.excBase_ValueError TX.x_InvalidNumber TX.g_InvalidNumber TX.k_InvalidNumber rfl (pv 0)) (pa_cons (pe_exc1 PySem.F.excBase_ValueError TX.x_InvalidCode TX.g_InvalidCode TX.k_InvalidCode rfl (pv 0)) (pa_cons (pe_exc1 PySem.F.excBase_ValueError TX.x_NoBlock TX.g_NoBlock TX.k_NoBlock rfl (pv 0)) (pa_cons (pe_exc1 PySem.F.excBase_ValueError TX.x_NothingToUndo TX.g_NothingToUndo TX.k_NothingToUndo rfl (pv 0)) (pa_cons (pe_exc1 PySem.F.excBase_ValueError TX.x_Full TX.g_Full TX.k_Full rfl (pv 0)) pa_nil))))))))
      (pss_cons (ps_set (i := 1) sc__law_made.nd rfl (by first | exact Or.inl rfl | exact Or.inr rfl) (pe_op op_cat (pv 1) (pe_lst (pa_cons (pe_exc1 PySem.F.excBase_ValueError TX.x_InvalidCommand TX.g_InvalidCommand TX.k_InvalidCommand rfl (pv 0)) (pa_cons (Pg.pe_ini c_init hr (by omega) (pa_cons (pe_callB call_len_str (by rfl) T.n_len (by decide +kernel) (pa_cons (pv 0) pa_nil)) pa_nil)) pa_nil)))))
      (pss_cons (ps_for PassesOwn.never rfl (pi_range1 (by rfl) T.n_range (pa_cons pe_int pa_nil)) (pg_name (i := 2) sc__law_made.nd rfl (by first | exact Or.inl rfl | exact Or.inr rfl)) (pss_one (ps_if (PW.pt (pw_or (pt_cmpR op_ne (pe_callB call_len_seq (by rfl) T.n_len (by decide +kernel) (pa_cons (pe_cl c__law_names hr (by omega) (pa_cons (pe_ix ix_list (pv 1) (pv 2) (fun _ _ => rfl)) pa_nil)) pa_nil)) pe_int (by first | exact nomark _ | rfl)) (pw_or1 (pt_not (pt_val (pe_callB Pg.call_isE (by rfl) T.n_isinstance (by decide +kernel) (pa_cons (pe_ix ix_list (pv 1) (pv 2) (fun _ _ => rfl)) (pa_cons (pe_glob (v := .ref TX.C_SkipError) rfl TX.g_SkipError rfl) pa_nil)))))))) (pss_one (ps_ret pe_bl)) pss_nil)))
      (pss_cons (ps_setLc (i := 3) (own := [("one_made", 5)]) rfl sc__law_made.nd rfl rfl (sw_true rfl rfl rfl (by decide +kernel)) (pi_list (pv 1)) (blkOk_by (own := [("one_made", 5)]) (N := N__law_made) (sc := defScope s__law_made) (by decide +kernel)) (fun _ _ _ _ _ => (pg_name (i := 5) sc__law_made.nd rfl (by first | exact Or.inl rfl | exact Or.inr rfl))) (fun _ _ _ _ _ => pts_nil) (fun _ _ _ _ _ => (pe_ix (ix_listK rfl) (pe_cl c__law_names hr (by omega) (pa_cons (pv 5) pa_nil)) pe_int (fun _ _ => rfl))))
      (pss_cons (ps_set (i := 4) sc__law_made.nd rfl (by first | exact Or.inl rfl | exact Or.inr rfl) (pe_lst (pa_cons (Pg.pe_oat (Pg.pe_ini c_init hr (by omega) (pa_cons (pe_callB call_len_str (by rfl) T.n_len (by decide +kernel) (pa_cons (pv 0) pa_nil)) pa_nil))) (pa_cons (Pg.pe_oat (Pg.pe_iniK c_init hr (by omega) (pk_cons (pe_callB call_len_str (by rfl) T.n_len (by decide +kernel) (pa_cons (pv 0) pa_nil)) pk_nil))) (pa_cons (Pg.pe_oat (Pg.pe_ini c_init hr (by omega) (pa_cons (pe_un un_neg pe_int) pa_nil))) pa_nil)))))
      (pss_cons (ps_set (i := 4) sc__law_made.nd rfl (by first | exact Or.inl rfl | exact Or.inr rfl) (pe_op op_cat (pv 4) (pe_lst (pa_cons (Pg.pe_oat (Pg.pe_ini c_init hr (by omega) (pa_cons (pe_op op_pow pe_int pe_int) pa_nil))) pa_nil))))
      (pss_one (ps_ret (pe_and (pe_cmpR op_eq (Pg.pe_lenSetT hr.hd (by rfl) T.n_len (by rfl) T.n_set (pv 3)) pe_int (by first | exact nomark _ | rfl)) (pe_one (pe_cmpR op_eq (pe_callB (Pg.call_repr hG hr) (by rfl) T.n_repr (by decide +kernel) (pa_cons (pv 4) pa_nil)) (pe_callB (Pg.call_repr hG hr) (by rfl) T.n_repr (by decide +kernel) (pa_cons (pe_lst (pa_cons (pe_callB call_len_str (by rfl) T.n_len (by decide +kernel) (pa_cons (pv 0) pa_nil)) (pa_cons (pe_callB call_len_str (by rfl) T.n_len (by decide +kernel) (pa_cons (pv 0) pa_nil)) (pa_cons (pe_un un_neg pe_int) (pa_cons (pe_op op_pow pe_int pe_int) pa_nil))))) pa_nil)) (by first | exact nomark _ | rfl)))))))))))))), ?_⟩
    have nn : ∀ {x : Addr}, x ∉ ([] : List Addr) := fun m => nomatch m
    have l3 : ("a b" : Str).length = 3 := by decide +kernel
    have hz : ("a b" : Str).length ≤ sizeLine := by rw [l3]; decide
    have i3 : (V.int (("a b" : Str).length : Int)) = .int 3 := by rw [l3]; rfl
    have f3 : (3 : Int).natAbs.log2 < 1920 := by decide +kernel
    have f1 : (-1 : Int).natAbs.log2 < 1920 := by decide +kernel
    have f20 : ((10 : Int) ^ (20 : Int).toNat).natAbs.log2 < 1920 := by decide +kernel
    -- made
    refine asg_name ?_
    refine (EvM.exc KT.kt_InvalidText SK.s_InvalidText (EvM.exc KT.kt_InvalidValue SK.s_InvalidValue (EvM.exc KT.kt_InvalidSpan SK.s_InvalidSpan (EvM.exc KT.kt_InvalidFilter SK.s_InvalidFilter (EvM.exc KT.kt_InvalidRule SK.s_InvalidRule EvM.nil))))) H (Stp.refl _ _) _ fun ws0 H0 T0 m0 n0 => ?_
    refine ⟨by rw [n0]; decide, fun p0 np0 => ?_⟩
    have U0 : Stp [] H0 (upd H0 p0 (.lst ws0)) := Stp.new np0 _
    have h0 : (upd H0 p0 (.lst ws0)) p0 = some (.lst ws0) := upd_same
    have S0 := T0.trans U0
    have M0 := m0.up U0
    generalize upd H0 p0 (.lst ws0) = G0 at *
    dsimp only [tNext]
    refine asg_name ?_
    refine op_var rfl ?_
    refine (EvM.exc KT.kt_InvalidPage SK.s_InvalidPage (EvM.exc KT.kt_InvalidNote SK.s_InvalidNote (EvM.exc KT.kt_InvalidColumn SK.s_InvalidColumn (EvM.exc KT.kt_InvalidIndex SK.s_InvalidIndex EvM.nil)))) G0 (Stp.refl _ _) _ fun ws1 H1 T1 m1 n1 => ?_
    refine ⟨by rw [n1]; decide, fun q1 nq1 => ?_⟩
    have V1 : Stp [] H1 (upd H1 q1 (.lst ws1)) := Stp.new nq1 _
    have e1 : (upd H1 q1 (.lst ws1)) q1 = some (.lst ws1) := upd_same
    refine ⟨p0, q1, _, _, rfl, rfl, V1.kp _ _ nn (T1.kp _ _ nn h0), e1, by rw [n0, n1]; decide, fun p1 np1 => ?_⟩
    have U1 := (T1.trans V1).new' (o := .lst (ws0 ++ ws1)) np1
    have S1 := S0.trans U1
    have M1 := (M0.up U1).app (k := 5) (by rw [n0]) (m1.up (V1.new' (o := .lst (ws0 ++ ws1)) np1))
    have L1 : (ws0 ++ ws1).length = 9 := by rw [List.length_append, n0, n1]
    have h1 : (upd (upd H1 q1 (.lst ws1)) p1 (.lst (ws0 ++ ws1))) p1 = some (.lst (ws0 ++ ws1)) := upd_same
    generalize upd (upd H1 q1 (.lst ws1)) p1 (.lst (ws0 ++ ws1)) = G1 at *
    generalize ws0 ++ ws1 = xs1 at *
    dsimp only [tNext]
    refine asg_name ?_
    refine op_var rfl ?_
    refine (EvM.exc KT.kt_InvalidNumber SK.s_InvalidNumber (EvM.exc KT.kt_InvalidCode SK.s_InvalidCode (EvM.exc KT.kt_NoBlock SK.s_NoBlock (EvM.exc KT.kt_NothingToUndo SK.s_NothingToUndo (EvM.exc KT.kt_Full SK.s_Full EvM.nil))))) G1 (Stp.refl _ _) _ fun ws2 H2 T2 m2 n2 => ?_
    refine ⟨by rw [n2]; decide, fun q2 nq2 => ?_⟩
    have V2 : Stp [] H2 (upd H2 q2 (.lst ws2)) := Stp.new nq2 _
    have e2 : (upd H2 q2 (.lst ws2)) q2 = some (.lst ws2) := upd_same
    refine ⟨p1, q2, _, _, rfl, rfl, V2.kp _ _ nn (T2.kp _ _ nn h1), e2, by rw [L1, n2]; decide, fun p2 np2 => ?_⟩
    have U2 := (T2.trans V2).new' (o := .lst (xs1 ++ ws2)) np2
    have S2 := S1.trans U2
    have M2 := (M1.up U2).app (k := 9) (by rw [L1]) (m2.up (V2.new' (o := .lst (xs1 ++ ws2)) np2))
    have L2 : (xs1 ++ ws2).length = 14 := by rw [List.length_append, L1, n2]
    have h2 : (upd (upd H2 q2 (.lst ws2)) p2 (.lst (xs1 ++ ws2))) p2 = some (.lst (xs1 ++ ws2)) := upd_same
    generalize upd (upd H2 q2 (.lst ws2)) p2 (.lst (xs1 ++ ws2)) = G2 at *
    generalize xs1 ++ ws2 = xs2 at *
    dsimp only [tNext]
    refine asg_name ?_
    refine op_var rfl ?_
    refine (EvM.exc KT.kt_InvalidCommand SK.s_InvalidCommand (fun Hx Sx Qx kx => ?_ : EvM K TX _ _ G2 15 1)) G2 (Stp.refl _ _) _ fun ws3 H3 T3 m3 n3 => ?_
    · refine mk_iw (i := 3) f3 (fun Q' q => ⟨_, rfl, _, rfl, hz, by rw [i3]; exact q⟩) fun a d H2 S2 na ha hd => ?_
      exact kx _ _ S2 (.cons KT.kt_InvalidWords SK.s_InvalidWords (.inr ⟨d, _, ha, hd⟩) .nil) rfl
    refine ⟨by rw [n3]; decide, fun q3 nq3 => ?_⟩
    have V3 : Stp [] H3 (upd H3 q3 (.lst ws3)) := Stp.new nq3 _
    have e3 : (upd H3 q3 (.lst ws3)) q3 = some (.lst ws3) := upd_same
    refine ⟨p2, q3, _, _, rfl, rfl, V3.kp _ _ nn (T3.kp _ _ nn h2), e3, by rw [L2, n3]; decide, fun p3 np3 => ?_⟩
    have U3 := (T3.trans V3).new' (o := .lst (xs2 ++ ws3)) np3
    have S3 := S2.trans U3
    have M3 := (M2.up U3).app (k := 14) (by rw [L2]) (m3.up (V3.new' (o := .lst (xs2 ++ ws3)) np3))
    have L3 : (xs2 ++ ws3).length = 16 := by rw [List.length_append, L2, n3]
    have h3 : (upd (upd H3 q3 (.lst ws3)) p3 (.lst (xs2 ++ ws3))) p3 = some (.lst (xs2 ++ ws3)) := upd_same
    generalize upd (upd H3 q3 (.lst ws3)) p3 (.lst (xs2 ++ ws3)) = G3 at *
    generalize xs2 ++ ws3 = xs3 at *
    clear M0 M1 M2 h0 h1 h2 m0 m1 m2 m3 T0 T1 T2 T3 V1 V2 V3 U1 U2 U3 S0 S1 S2
    dsimp only [tNext]
    -- each of its own class
    refine seq_end (fun σ H' => ∃ x2 : Option V, σ = [some (.str "a b"), some (.ref p3), x2, none, none, none] ∧ Stp [] G3 H') ?_ (fun fin => ?_)
    rotate_left
    · refine ⟨16, rfl, by decide, by decide, for_range (lo := 0) (n := 16) (fun i σ H' => ∃ x2 : Option V, σ = [some (.str "a b"), some (.ref p3), x2, none, none, none] ∧ Stp [] G3 H') ⟨_, rfl, Stp.refl _ _⟩ ?_ (fun σ H' h => fin σ H' h)⟩
      rintro i σ H' hi ⟨x2, rfl, S⟩
      rw [Int.zero_add]
      obtain ⟨v, hv⟩ : ∃ v, xs3[i]? = some v := ⟨_, List.getElem?_eq_getElem (show i < xs3.length by omega)⟩
      obtain ⟨a, C, rfl, kt, sk, ea⟩ := (M3.up S).get hv
      rw [Nat.zero_add] at kt
      refine ⟨_, rfl, _, rfl, p3, _, (i : Int), .ref a, rfl, rfl, SqL.of (S.kp _ _ nn h3), atI_nat hv, a, C, i, rfl, kt, ea, fun N H2 S2 hN => ?_⟩
      refine ⟨N, _, rfl, .inl (SqL.of hN), rfl, _, rfl, ite2 (fun h => absurd h (by simp)) (fun _ => ?_)⟩
      have S02 := S.trans S2
      refine ⟨_, rfl, _, rfl, p3, _, (i : Int), .ref a, rfl, rfl, SqL.of (S02.kp _ _ nn h3), atI_nat hv, a, C, _, _, true, rfl, kt.c, ea.up S2, rv_ref, sk, ?_⟩
      exact ⟨_, rfl, ite2 (fun h => absurd h (by decide)) (fun _ => ⟨_, rfl, S02⟩)⟩
    rintro σ G4 ⟨x2, rfl, S4⟩
    -- the names
    have h4 := S4.kp _ _ nn h3
    have M4 := M3.up S4
    refine ⟨_, rfl, p3, rfl, ⟨_, SqL.of h4⟩, fun N nN => ?_⟩
    refine lc_list (a := p3) (xs := xs3) (fun i H' => H' N = some (.lst ((List.range i).map wdV)) ∧ Stp [] G4 H') ⟨upd_same, Stp.new nN _⟩ (fun i H' _ ⟨_, S⟩ => SqL.of (S.kp _ _ nn h4)) ?_ ?_
    · rintro i v H' hv ⟨hN, S⟩
      obtain ⟨a, C, rfl, kt, sk, ea⟩ := (M4.up S).get hv
      rw [Nat.zero_add] at kt
      have hi : i < xs3.length := (List.getElem?_eq_some_iff.mp hv).1
      refine ⟨rfl, _, rfl, a, C, i, rfl, kt, ea, fun M H2 S2 hM => ?_⟩
      refine ⟨M, _, 0, wdV i, rfl, rfl, SqL.of hM, at0, _, S2.kp _ _ nn hN, ?_, ?_, (S.trans S2).mut nN⟩
      · rw [List.length_map, List.length_range]
        exact Nat.lt_of_le_of_lt (show i ≤ 16 by omega) (by decide)
      · rw [upd_same, List.range_succ, List.map_append]
        rfl
    rintro G5 ⟨hN, S5⟩
    rw [L3, names_at16] at hN
    dsimp only [gName]
    -- the places
    refine asg_name ?_
    refine iw_place IW f3 (fun Q' q => ⟨_, rfl, _, rfl, hz, by rw [i3]; exact q⟩) fun J1 R1 => ?_
    refine iw_place IW f3 (fun Q' q => ⟨_, rfl, _, rfl, hz, by rw [i3]; exact q⟩) fun J2 R2 => ?_
    refine iw_place IW f1 (fun Q' q => ⟨1, rfl, q⟩) fun J3 R3 => ?_
    refine ⟨(by show 3 ≤ sizeLine; decide), fun pa npa => ?_⟩
    have R4 : Stp [] J3 (upd J3 pa (.lst [.int 3, .int 3, .int (-1)])) := Stp.new npa _
    have ha : (upd J3 pa (.lst [.int 3, .int 3, .int (-1)])) pa = some (.lst [.int 3, .int 3, .int (-1)]) := upd_same
    generalize upd J3 pa (.lst [.int 3, .int 3, .int (-1)]) = J4 at *
    dsimp only [tNext]
    refine asg_name ?_
    refine op_var rfl ?_
    refine iw_place IW f20 (fun Q' q => ⟨10, 20, rfl, rfl, ⟨by decide, by decide, by decide⟩, q⟩) fun J5 R5 => ?_
    refine ⟨(by show 1 ≤ sizeLine; decide), fun pb npb => ?_⟩
    have R6 : Stp [] J5 (upd J5 pb (.lst [.int (10 ^ (20 : Int).toNat)])) := Stp.new npb _
    refine ⟨pa, pb, _, _, rfl, rfl, R6.kp _ _ nn (R5.kp _ _ nn ha), upd_same, (by show 3 + 1 ≤ sizeLine; decide), fun pc npc => ?_⟩
    have R7 := R6.new' (o := .lst ([.int 3, .int 3, .int (-1)] ++ [.int (10 ^ (20 : Int).toNat)])) npc
    have hc : (upd (upd J5 pb (.lst [.int (10 ^ (20 : Int).toNat)])) pc (.lst ([.int 3, .int 3, .int (-1)] ++ [.int (10 ^ (20 : Int).toNat)]))) pc = some (.lst [.int 3, .int 3, .int (-1), .int (10 ^ (20 : Int).toNat)]) := upd_same
    generalize upd (upd J5 pb (.lst [.int (10 ^ (20 : Int).toNat)])) pc (.lst ([.int 3, .int 3, .int (-1)] ++ [.int (10 ^ (20 : Int).toNat)])) = J7 at *
    have R57 := (((R1.trans R2).trans R3).trans R4).trans (R5.trans R7)
    have hN7 := R57.kp _ _ nn hN
    dsimp only [tNext]
    have rvp : ∀ {Hx : Hp} {x : Addr}, Hx x = some (.lst [.int 3, .int 3, .int (-1), .int (10 ^ (20 : Int).toNat)]) → Dp K Hx (.ref x) placesP := fun h => .lst (SqL.of h) (.cons (.int _) (.cons (.int _) (.cons (.int _) (.cons (.int _) .nil))))
    refine ⟨_, rfl, N, namesS, rfl, SqL.of hN7, by decide, ?_⟩
    have e16 : (onceL [] namesS).length = 16 := by decide +kernel
    rw [e16]
    refine ⟨rfl, _, rfl, ite2 (fun _ => ?_) (fun h => absurd rfl h)⟩
    refine ⟨_, rfl, _, placesP, rfl, rvp hc, by decide +kernel, by decide +kernel, by decide +kernel, ?_⟩
    refine ⟨_, rfl, _, rfl, hz, ?_⟩
    rw [i3]
    refine ⟨_, rfl, _, rfl, hz, ?_⟩
    rw [i3]
    refine ⟨1, rfl, 10, 20, rfl, rfl, ⟨by decide, by decide, by decide⟩, (by show 4 ≤ sizeLine; decide), fun pd npd => ?_⟩
    refine ⟨_, placesP, rfl, rvp upd_same, by decide +kernel, by decide +kernel, by decide +kernel, ?_⟩
    have e : decide (V.str placesP.shown = V.str placesP.shown) = true := decide_eq_true rfl
    refine ⟨rfl, ?_⟩
    show Q (.bl (decide (V.str placesP.shown = V.str placesP.shown))) _
    rw [e]
    exact k _ (((((S3.trans S4).trans S5).trans R57)).new' npd)
abbrev s__law_right : Stmt := topS 63
abbrev N__law_right : List Str := ["bag", "door", "by_name", "pool", "pairs", "mine", "word", "some", "yours", "odd", "due", "held", "told", "k", "thing"]
theorem sc__law_right : FnScope ["bag", "door", "by_name", "pool", "pairs", "mine", "word", "some", "yours", "odd", "due", "held", "told", "k", "thing"] ["bag"] (defScope s__law_right) := ⟨rfl, rfl, rfl, by decide +kernel, rfl, by decide +kernel, by decide +kernel⟩

/-! ### _law_right -/
theorem call_list_ofK {X : Cx} {K : PySem.W.Frag} (hK : X.K = K) : CallR X (.type "list") (fun xs H Q => ∃ p ys, xs = [.ref p] ∧ (SqL K H p ys ∨ SqT K H p ys) ∧ ∀ l, H l = none → Q (.ref l) (upd H l (.lst ys))) := by
  subst hK
  exact call_list_of
def toldP : Option Nat → List PyData
  | none => []
  | some j => [.str (match wdV j with | .str s => s | _ => ""), .str "error"]
theorem told_eq {H : Hp} {a b : Addr} {r : Option Nat} {Q : VK} (h : okJ r) (ha : SqL K H a (toldV r)) (hb : SqL K H b (toldV r)) (k : Q (.bl true) H) : rEqD K (.ref a) (.ref b) H Q := by
  have dp : DpAll K H (toldV r) (toldP r) := by
    cases r with
    | none => exact .nil
    | some j => rcases h with rfl | rfl | rfl <;> exact .cons (.str _) (.cons (.str _) .nil)
  have sh : SeqAt.shaped (.list (toldP r)) = true := by
    cases r with
    | none => rfl
    | some j => rcases h with rfl | rfl | rfl <;> decide +kernel
  have ev : PyData.eqv (.list (toldP r)) (.list (toldP r)) = true := by
    cases r with
    | none => simp [toldP, PyData.eqv, PyData.eqvAll]
    | some j => simp [toldP, PyData.eqv, PyData.eqvAll]
  refine ⟨_, _, .lst ha dp, .lst hb dp, sh, sh, ?_⟩
  rw [ev]
  exact k
theorem isL_iff {d : Dt} (h : isL d = true) : d = .lst := by cases d <;> first | rfl | cases h
def spRight (K : PySem.W.Frag) : Sp := fun vs H Q _ => ∃ (b : Addr) (n : Nat), vs = [.ref b] ∧ Bag H b n ∧ n ≤ 10 ∧ ∀ H', Stp [b] H H' → Q (.bl true) H'
theorem cl__law_right {f : Addr} {fd : FuncData} (Dh : Df K mg "_law_right" s__law_right ["bag"] f fd) (T : Nm mg) (TX : Er K mg) (c__law_draw : Cl P w K mg base 1 "_law_draw" s__law_draw ["bag", "upto"] spDraw) (c__law_pair : Cl P w K mg base 4 "_law_pair" s__law_pair ["bag", "pool"] (spPair K)) (c__law_due : Cl P w K mg base 2 "_law_due" s__law_due ["pairs"] (spDue K)) (c__law_some : Cl P w K mg base 3 "_law_some" s__law_some ["bag", "pool"] spSome)
    (c__law_span : Cl P w K mg base 5 "_law_span" s__law_span ["bag", "pool", "upto"] (spSpan K)) (c__law_odd_text : Cl P w K mg base 2 "_law_odd_text" s__law_odd_text ["bag", "word"] (spOddT K)) (c__law_odd_span : Cl P w K mg base 3 "_law_odd_span" s__law_odd_span ["bag", "whole", "word"] (Sx.spOddS K)) (c__law_odd_number : Cl P w K mg base 2 "_law_odd_number" s__law_odd_number ["bag"] (spOddN K))
    (c__law_odd_pairs : Cl P w K mg base 3 "_law_odd_pairs" s__law_odd_pairs ["bag", "pairs", "word"] (spOddL K)) (c__law_told : Cl P w K mg base 8 "_law_told" s__law_told ["door", "by_name", "mine", "yours"] (spTold K)) :
    Cl P w K mg base 9 "_law_right" s__law_right ["bag"] (spRight K) := by
  refine Dh.cl sc__law_right (fun vs H Q E h => ?_) (fun cdv A outer s H vs Q E hr h => ?_)
  · obtain ⟨b, n, rfl, _⟩ := h
    rfl
  · obtain ⟨b, n, rfl, B, hn, k⟩ := h
    refine ⟨_, (pss_cons (ps_asg (pe_tup (pa_cons (pe_cl c__law_draw hr (by omega) (pa_cons (pv 0) (pa_cons pe_int pa_nil))) (pa_cons (pe_cmpR op_eq (pe_cl c__law_draw hr (by omega) (pa_cons (pv 0) (pa_cons pe_int pa_nil))) pe_int (by first | exact nomark _ | rfl)) (pa_cons (pe_lst pa_nil) pa_nil)))) (pg_tup rfl (pgs_cons (pg_name (i := 1) sc__law_right.nd rfl (by first | exact Or.inl rfl | exact Or.inr rfl)) (pgs_cons (pg_name (i := 2) sc__law_right.nd rfl (by first | exact Or.inl rfl | exact Or.inr rfl)) (pgs_cons (pg_name (i := 3) sc__law_right.nd rfl (by first | exact Or.inl rfl | exact Or.inr rfl)) pgs_nil (by rfl)) (by rfl)) (by rfl)) (by rfl) (by rfl)))
      (pss_cons (ps_setLc (i := 4) (own := [("k", 13)]) rfl sc__law_right.nd rfl rfl (sw_true rfl rfl rfl (by decide +kernel)) (pi_range1 (by rfl) T.n_range (pa_cons (pe_cl c__law_draw hr (by omega) (pa_cons (pv 0) (pa_cons (pe_ix ix_list (pe_lst (pa_cons pe_int (pa_cons pe_int (pa_cons pe_int (pa_cons pe_int pa_nil))))) (pe_cl c__law_draw hr (by omega) (pa_cons (pv 0) (pa_cons pe_int pa_nil))) (fun _ _ => rfl)) pa_nil))) pa_nil)) (blkOk_by (own := [("k", 13)]) (N := N__law_right) (sc := defScope s__law_right) (by decide +kernel)) (fun _ _ _ _ _ => (pg_name (i := 13) sc__law_right.nd rfl (by first | exact Or.inl rfl | exact Or.inr rfl))) (fun _ _ _ _ _ => pts_nil) (fun _ _ _ _ _ => (pe_cl c__law_pair hr (by omega) (pa_cons (pv 0) (pa_cons (pv 3) pa_nil)))))
      (pss_cons (ps_par (i := 5) (j := 6) rfl sc__law_right.nd rfl rfl (by decide) rfl rfl (pa_cons (pe_cl c__law_due hr (by omega) (pa_cons (pv 4) pa_nil)) (pa_cons (pe_cl c__law_some hr (by omega) (pa_cons (pv 0) (pa_cons (pv 3) pa_nil))) pa_nil)) (by rfl))
      (pss_cons (ps_set (i := 7) sc__law_right.nd rfl (by first | exact Or.inl rfl | exact Or.inr rfl) (pe_cl c__law_span hr (by omega) (pa_cons (pv 0) (pa_cons (pv 3) (pa_cons pe_int pa_nil)))))
      (pss_cons (ps_set (i := 8) sc__law_right.nd rfl (by first | exact Or.inl rfl | exact Or.inr rfl) (pe_ix ix_list (pe_lst (pa_cons (pv 7) (pa_cons (pv 7) (pa_cons (pv 6) (pa_cons (pe_op op_add pe_int (pe_cl c__law_draw hr (by omega) (pa_cons (pv 0) (pa_cons pe_int pa_nil)))) pa_nil))))) (pe_callB (call_max2 rfl) (by rfl) T.n_max (by decide +kernel) (pa_cons pe_int (pa_cons (pe_op op_sub (pv 1) pe_int) pa_nil))) (fun _ _ => rfl)))
      (pss_cons (ps_par (i := 9) (j := 10) rfl sc__law_right.nd rfl rfl (by decide) rfl rfl (pa_cons (pe_cl c__law_draw hr (by omega) (pa_cons (pv 0) (pa_cons pe_int pa_nil))) (pa_cons (pe_lst pa_nil) pa_nil)) (by rfl))
      (pss_cons (ps_if (PW.pt (pw_and (pt_cmpR op_gt (pv 9) pe_int (by first | exact nomark _ | rfl)) (pw_and1 (pt_cmpR op_gt (pv 1) pe_int (by first | exact nomark _ | rfl))))) (pss_cons (ps_set (i := 8) sc__law_right.nd rfl (by first | exact Or.inl rfl | exact Or.inr rfl) (pe_cl c__law_odd_span hr (by omega) (pa_cons (pv 0) (pa_cons (pv 5) (pa_cons (pv 6) pa_nil)))))
      (pss_cons (ps_if (pt_cmpR op_eq (pv 1) pe_int (by first | exact nomark _ | rfl)) (pss_one (ps_set (i := 8) sc__law_right.nd rfl (by first | exact Or.inl rfl | exact Or.inr rfl) (pe_ifExp (pt_cmpR op_gt (pe_cl c__law_draw hr (by omega) (pa_cons (pv 0) (pa_cons pe_int pa_nil))) pe_int (by first | exact nomark _ | rfl)) (pe_cl c__law_odd_text hr (by omega) (pa_cons (pv 0) (pa_cons (pv 6) pa_nil))) pe_non))) pss_nil)
      (pss_cons (ps_if (pt_cmpR op_eq (pv 1) pe_int (by first | exact nomark _ | rfl)) (pss_one (ps_set (i := 8) sc__law_right.nd rfl (by first | exact Or.inl rfl | exact Or.inr rfl) (pe_cl c__law_odd_number hr (by omega) (pa_cons (pv 0) pa_nil)))) pss_nil)
      (pss_one (ps_set (i := 10) sc__law_right.nd rfl (by first | exact Or.inl rfl | exact Or.inr rfl) (pe_lst (pa_cons (pe_ix ix_list (pe_lst (pa_cons pe_str (pa_cons pe_str (pa_cons pe_str (pa_cons pe_str pa_nil))))) (pe_op op_sub (pv 1) pe_int) (fun _ _ => rfl)) (pa_cons pe_str pa_nil)))))))) pss_nil)
      (pss_cons (ps_if (pt_cmpR op_eq (pv 1) pe_int (by first | exact nomark _ | rfl)) (pss_one (ps_set (i := 5) sc__law_right.nd rfl (by first | exact Or.inl rfl | exact Or.inr rfl) (pv 4))) pss_nil)
      (pss_cons (ps_if (PW.pt (pw_and (pt_cmpR op_lt (pv 9) pe_int (by first | exact nomark _ | rfl)) (pw_and1 (pt_cmpR op_gt (pv 9) pe_int (by first | exact nomark _ | rfl))))) (pss_cons (ps_set (i := 5) sc__law_right.nd rfl (by first | exact Or.inl rfl | exact Or.inr rfl) (pe_ifExp (pt_cmpR op_eq (pv 1) pe_int (by first | exact nomark _ | rfl)) (pe_cl c__law_odd_pairs hr (by omega) (pa_cons (pv 0) (pa_cons (pv 4) (pa_cons (pv 6) pa_nil)))) (pe_cl c__law_odd_span hr (by omega) (pa_cons (pv 0) (pa_cons (pv 5) (pa_cons (pv 6) pa_nil))))))
      (pss_one (ps_set (i := 10) sc__law_right.nd rfl (by first | exact Or.inl rfl | exact Or.inr rfl) (pe_lst (pa_cons pe_str (pa_cons pe_str pa_nil)))))) pss_nil)
      (pss_cons (ps_setLc (i := 11) (own := [("thing", 14)]) rfl sc__law_right.nd rfl rfl (sw_true rfl rfl rfl (by decide +kernel)) (pi_list (pe_lst (pa_cons (pv 5) (pa_cons (pv 8) pa_nil)))) (blkOk_by (own := [("thing", 14)]) (N := N__law_right) (sc := defScope s__law_right) (by decide +kernel)) (fun _ _ _ _ _ => (pg_name (i := 14) sc__law_right.nd rfl (by first | exact Or.inl rfl | exact Or.inr rfl))) (fun _ _ _ _ _ => pts_nil) (fun _ _ _ _ _ => (pe_ifExp (pt_val (pe_callB (Pg.call_isiQK rfl) (by rfl) T.n_isinstance (by decide +kernel) (pa_cons (pv 14) (pa_cons (pe_bltn (v := .ty "list") (u := Value.type "list") (by rfl) T.n_list (by decide +kernel) rfl) pa_nil)))) (pe_callTy (call_list_ofK rfl) (by rfl) T.n_list (by decide +kernel) (pa_cons (pv 14) pa_nil)) (pe_lst pa_nil))))
      (pss_cons (ps_set (i := 12) sc__law_right.nd rfl (by first | exact Or.inl rfl | exact Or.inr rfl) (pe_cl c__law_told hr (by omega) (pa_cons (pv 1) (pa_cons (pv 2) (pa_cons (pv 5) (pa_cons (pv 8) pa_nil))))))
      (pss_cons (ps_if (PW.pt (pw_or (PW.pt (pw_and (pt_val (pe_callB Pg.call_isiQ (by rfl) T.n_isinstance (by decide +kernel) (pa_cons (pv 5) (pa_cons (pe_bltn (v := .ty "list") (u := Value.type "list") (by rfl) T.n_list (by decide +kernel) rfl) pa_nil)))) (pw_and1 (pt_cmpR (Pg.op_neS hr.units) (pv 5) (pe_ix ix_list (pv 11) pe_int (fun _ _ => rfl)) (by first | exact nomark _ | rfl))))) (pw_or1 (PW.pt (pw_and (pt_val (pe_callB Pg.call_isiQ (by rfl) T.n_isinstance (by decide +kernel) (pa_cons (pv 8) (pa_cons (pe_bltn (v := .ty "list") (u := Value.type "list") (by rfl) T.n_list (by decide +kernel) rfl) pa_nil)))) (pw_and1 (pt_cmpR (Pg.op_neS hr.units) (pv 8) (pe_ix ix_list (pv 11) pe_int (fun _ _ => rfl)) (by first | exact nomark _ | rfl)))))))) (pss_one (ps_ret pe_bl)) pss_nil)
      (pss_one (ps_ret (pe_cmpR (op_eqD hr.units) (pv 12) (pv 10) (by first | exact nomark _ | rfl)))))))))))))))), ?_⟩
    have nn : ∀ {x : Addr}, x ∉ ([] : List Addr) := fun m => nomatch m
    have one : b ∈ [b] := List.mem_singleton.mpr rfl
    have len2 : (2 : Nat) ≤ sizeLine := by decide
    have len4 : (4 : Nat) ≤ sizeLine := by decide
    -- door, by_name, pool
    refine ⟨_, rfl, b, 8, n, rfl, B, by omega, by decide, by decide, fun g H1 g0 g1 o1 B1 => ?_⟩
    refine ⟨_, rfl, b, 2, _, rfl, B1, by omega, by decide, by decide, fun c H2 c0 c1 o2 B2 => ⟨rfl, Nat.zero_le _, fun p np => ⟨(by show 3 ≤ sizeLine; decide), fun t nt => ⟨t, _, rfl, SqT.of upd_same, rfl, _, _, rfl, _, _, rfl, _, _, rfl, rfl, ?_⟩⟩⟩⟩
    obtain ⟨bn, ebn⟩ : ∃ bn : Bool, bn = decide (V.int c = V.int 0) := ⟨_, rfl⟩
    rw [← ebn]
    clear ebn
    have bp : b ≠ p := B2.ne np
    have sub : ∀ x ∈ ([b] : List Addr), x ∈ [b, p] := fun x m => by rw [List.mem_singleton.mp m]; simp
    have P3 : Pool (upd H2 p (.lst [])) p [] := ⟨upd_same, fun l m => nomatch m⟩
    have B3 := B2.upd (o := .lst []) bp
    have T2 : Stp [b] H H2 := (o1.stp one).trans (o2.stp one)
    have T3 : Stp [b, p] H (upd H2 p (.lst [])) := (T2.sub sub).new' np
    have pH : H p = none := T2.fresh (fun m => bp (List.mem_singleton.mp m).symm) np
    generalize upd H2 p (.lst []) = H3' at *
    have St : Stp [] H3' (upd H3' t (.tup [.int g, .bl bn, .ref p])) := Stp.new nt _
    have P3 : Pool (upd H3' t (.tup [.int g, .bl bn, .ref p])) p [] := ⟨St.kp _ _ nn P3.1, P3.2⟩
    have B3 := B3.kp St nn
    have T3 := T3.trans St.nil
    dsimp only [gName, tNext]
    generalize upd H3' t (.tup [.int g, .bl bn, .ref p]) = H3 at *
    -- pairs
    refine ⟨_, rfl, len4, fun q nq => ?_⟩
    have Sq : Stp [] H3 (upd H3 q (.lst [.int 5, .int 5, .int 5, .int 21])) := Stp.new nq _
    have hq : (upd H3 q (.lst [.int 5, .int 5, .int 5, .int 21])) q = some (.lst [.int 5, .int 5, .int 5, .int 21]) := upd_same
    have P4 : Pool (upd H3 q (.lst [.int 5, .int 5, .int 5, .int 21])) p [] := ⟨Sq.kp _ _ nn P3.1, P3.2⟩
    have B4 := B3.kp Sq nn
    have bq : q ∉ [b] := fun m => B3.ne nq (List.mem_singleton.mp m).symm
    have T4 : Stp [b, p] H (upd H3 q (.lst [.int 5, .int 5, .int 5, .int 21])) := T3.trans Sq.nil
    generalize upd H3 q (.lst [.int 5, .int 5, .int 5, .int 21]) = H4 at *
    refine ⟨_, rfl, b, 4, _, rfl, B4, by omega, by decide, by decide, fun i H5 i0 i1 o5 B5 => ?_⟩
    have S5 : Stp [b] H4 H5 := o5.stp one
    obtain ⟨up, eup, u0, u21⟩ : ∃ up : Int, atI [V.int 5, .int 5, .int 5, .int 21] i = some (.int up) ∧ 0 < up ∧ up ≤ 21 := by
      have hi : i = 0 ∨ i = 1 ∨ i = 2 ∨ i = 3 := by omega
      rcases hi with rfl | rfl | rfl | rfl
      · exact ⟨5, rfl, by decide, by decide⟩
      · exact ⟨5, rfl, by decide, by decide⟩
      · exact ⟨5, rfl, by decide, by decide⟩
      · exact ⟨21, rfl, by decide, by decide⟩
    refine ⟨q, _, i, .int up, rfl, rfl, SqL.of (S5.kp _ _ bq hq), eup, b, up, _, rfl, B5, by omega, by omega, by omega, fun z H6 z0 z1 o6 B6 => ?_⟩
    have S6 : Stp [b] H4 H6 := S5.trans (o6.stp one)
    have npb : p ∉ [b] := fun m => bp (List.mem_singleton.mp m).symm
    have p6 : H6 p = some (.lst ([].map Tx)) := S6.kp _ _ npb P4.1
    have T6 : Stp [b, p] H H6 := T4.trans (S6.sub sub)
    refine ⟨z, rfl, by omega, by omega, fun a na => ?_⟩
    have nab : a ≠ b := (B6.ne na).symm
    have nap : a ≠ p := (ne_of_none p6 na).symm
    have nam : a ∉ [b, p] := fun m => by
      simp at m
      rcases m with m | m
      · exact nab m
      · exact nap m
    have n6 : n + 2 + 1 + 1 ≤ 20 := by omega
    refine lc_range (lo := 0) (n := z.toNat) (fun i H4 => ∃ (ps : List Pr) (vs : List V) (ls : List (List Nat)), ps.length = i ∧ H4 a = some (.lst vs) ∧ RpL K H4 vs (ps.map prD) ∧ (∀ q ∈ ps, Pr12 q) ∧ Stp [b, p] H6 H4 ∧ Bag H4 b (20 + 60 * i) ∧ Pool H4 p ls ∧ ls.length ≤ 2 * i)
      ⟨[], [], [], rfl, upd_same, .nil, fun q m => (nomatch m), Stp.new na _, (B6.upd nab.symm).mono (by omega), ⟨by rw [upd_ne nap.symm]; exact p6, P4.2⟩, by simp⟩ ?_ ?_
    · rintro i H4 hi ⟨ps, vs, ls, hl, hL, rl, ok, S4, B4, P4, l4⟩
      refine ⟨rfl, _, rfl, _, rfl, b, p, _, ls, rfl, B4, by omega, P4, by omega, bp, fun t pr ls' H5 rt pk S5 B5 P5 l5 => ?_⟩
      have hL5 : H5 a = some (.lst vs) := S5.kp _ _ nam hL
      have L4 : Lsts H4 [b, p] := by
        obtain ⟨x, y, z, hb, _⟩ := B4
        exact .cons hb (.one P4.1)
      have s6 : Stp [a] H5 (upd H5 a (.lst (vs ++ [.ref t]))) := Stp.put (by simp)
      refine ⟨vs, hL5, ?_, ps ++ [pr], vs ++ [.ref t], ls', by simp [hl], upd_same, prs_one ((rl.stp S5 L4).stp s6 (.one hL5)) (rt.stp s6 (.one hL5)), fun q m => ?_, (S4.trans S5).mut na, (B5.upd nab.symm).mono (by omega), ⟨by rw [upd_ne nap.symm]; exact P5.1, P5.2⟩, by omega⟩
      · rw [rl.len, List.length_map, hl]
        exact Nat.lt_of_le_of_lt (show i ≤ 1000 by omega) (by decide)
      · rcases List.mem_append.mp m with m | m
        · exact ok q m
        · rw [List.mem_singleton.mp m]
          exact pk
    rintro H7 ⟨ps, xs, ls, hl, ha, rl, ok, S7, B7, P7, l7⟩
    have few : ps.length ≤ 20 := by omega
    have pS : ∀ q ∈ ps, PrS q := fun q m => (ok q m).ok.s
    have pO : ∀ q ∈ ps, PrOk q := fun q m => (ok q m).ok
    have B7 : Bag H7 b 2000 := B7.mono (by omega)
    have T7 : Stp [b, p] H H7 := T6.trans S7
    have nab' : a ∉ [b] := fun m => nab (List.mem_singleton.mp m)
    dsimp only [gName]
    -- mine, word
    refine ⟨_, rfl, a, xs, ps, rfl, ha, rl, pS, by omega, fun m ms H8 S8 sp eq => ?_⟩
    have lm : ms.length ≤ 20 := Nat.le_trans (norm_len sp.ok eq) few
    have B8 := B7.kp S8 nn
    have P8 : Pool H8 p ls := ⟨S8.kp _ _ nn P7.1, P7.2⟩
    refine ⟨_, rfl, _, rfl, b, p, _, ls, rfl, B8, by omega, P8, by omega, bp, fun l H9 al ll S9 B9 => ⟨_, _, rfl, ?_⟩⟩
    have sp9 := sp.stp S9 (Pv.bag_ls B8)
    have ha9 := S9.kp _ _ nab' (S8.kp _ _ nn ha)
    have rl9 := (rl.stp S8 Lsts.nil).stp S9 (Pv.bag_ls B8)
    have P9 : Pool H9 p ls := ⟨S9.kp _ _ npb P8.1, P8.2⟩
    have T9 : Stp [b, p] H H9 := (T7.trans S8.nil).trans (S9.sub sub)
    -- some
    refine ⟨_, rfl, _, rfl, b, p, _, 3, ls, rfl, by decide, by decide, B9, by omega, P9, by omega, bp, fun sm qs ls2 H10 sq lim lq S10 B10 P10 l10 => ?_⟩
    have L9 : Lsts H9 [b, p] := by
      obtain ⟨x, y, z, hb, _⟩ := B9
      exact .cons hb (.one P9.1)
    have sp10 := sp9.stp S10 L9
    have ha10 := S10.kp _ _ nam ha9
    have rl10 := rl9.stp S10 L9
    have T10 : Stp [b, p] H H10 := T9.trans S10
    have H10b : Bag H10 b 4000 := B10.mono (by omega)
    have T10' : Stp [b, p] H H10 := T10
    clear T9 T10 L9 S10 B10 P10 l10 sp9 ha9 rl9 P9 sp ha rl S8 S9 B8 P8 B9 S7 B7 P7 T7 l7 eq T6 p6 B6 o6 S6 S5 o5 B5 hq Sq P4 B4 T4 P3 B3 T3
    -- yours
    dsimp only [gName, tNext]
    refine ⟨_, rfl, _, rfl, _, rfl, _, rfl, b, 50, _, rfl, H10b, by omega, by decide, by decide, fun e H11 e0 e1 o11 B11 => ?_⟩
    refine ⟨1, e, rfl, rfl, len4, fun q2 nq2 => ?_⟩
    have S11 : Stp [b] H10 H11 := o11.stp one
    have S12 : Stp [] H11 (upd H11 q2 (.lst [.ref sm, .ref sm, Tx l, .int (1 + e)])) := Stp.new nq2 _
    have hq2 : (upd H11 q2 (.lst [.ref sm, .ref sm, Tx l, .int (1 + e)])) q2 = some (.lst [.ref sm, .ref sm, Tx l, .int (1 + e)]) := upd_same
    have B12 := B11.kp S12 nn
    have ls10 := Pv.bag_ls H10b
    have sp12 := (sp10.stp S11 ls10).stp S12 Lsts.nil
    have sq12 := (sq.stp S11 ls10).stp S12 Lsts.nil
    have ha12 := S12.kp _ _ nn (S11.kp _ _ nab' ha10)
    have rl12 := (rl10.stp S11 ls10).stp S12 Lsts.nil
    have T12 : Stp [b, p] H (upd H11 q2 (.lst [.ref sm, .ref sm, Tx l, .int (1 + e)])) := (T10'.trans (S11.sub sub)).trans S12.nil
    generalize upd H11 q2 (.lst [.ref sm, .ref sm, Tx l, .int (1 + e)]) = H12 at *
    obtain ⟨v2, ev2, ak, d2, rq2⟩ : ∃ v2, atI [V.ref sm, .ref sm, Tx l, .int (1 + e)] (if g - 4 > 0 then g - 4 else 0) = some v2 ∧ (g ≠ 3 → Ask K H12 g (.ref m) v2 none) ∧ ∃ d, Rq K H12 v2 d := by
      have gs : GoodS K H12 (.ref m) := ⟨m, ms, rfl, sp12, by omega⟩
      have gq : GoodS K H12 (.ref sm) := ⟨sm, qs, rfl, sq12, by omega⟩
      have rs : ∃ d, Rq K H12 (.ref sm) d := ⟨_, Rq.ofRv (Sx.Spn.rv (S := []) sq12)⟩
      have hg : g = 0 ∨ g = 1 ∨ g = 2 ∨ g = 3 ∨ g = 4 ∨ g = 5 ∨ g = 6 ∨ g = 7 := by omega
      rcases hg with rfl | rfl | rfl | rfl | rfl | rfl | rfl | rfl
      · exact ⟨_, rfl, fun _ => .s0 (by decide) gs, rs⟩
      · exact ⟨_, rfl, fun _ => .s0 (by decide) gs, rs⟩
      · exact ⟨_, rfl, fun _ => .s0 (by decide) gs, rs⟩
      · exact ⟨_, rfl, fun h => absurd rfl h, rs⟩
      · exact ⟨_, rfl, fun _ => .j0 (by decide) gs gq, rs⟩
      · exact ⟨_, rfl, fun _ => .j0 (by decide) gs gq, rs⟩
      · exact ⟨_, rfl, fun _ => .h0 gs ⟨al, by omega⟩, _, .of (.str l (by omega)) (fun e => nomatch e) (fun e => nomatch e)⟩
      · refine ⟨_, rfl, fun _ => ?_, _, .of (.int _) (fun e => nomatch e) (fun e => nomatch e)⟩
        obtain ⟨j, rfl⟩ := Int.eq_ofNat_of_zero_le e0
        have ej : (1 : Int) + (j : Int) = ((1 + j : Nat) : Int) := by omega
        rw [ej]
        exact Ask.m0 (n := 1 + j) gs (by omega) (by omega)
    refine ⟨_, rfl, g, 4, rfl, rfl, 0, g - 4, rfl, q2, _, _, v2, rfl, rfl, SqL.of hq2, ev2, ?_⟩
    -- odd, due
    refine ⟨_, rfl, b, 4, _, rfl, B12, by omega, by decide, by decide, fun odd H13 d0 d1 o13 B13 => ⟨Nat.zero_le _, fun D0 nD0 => ⟨_, _, rfl, ?_⟩⟩⟩
    have S13 : Stp [b] H12 H13 := o13.stp one
    have S14 : Stp [] H13 (upd H13 D0 (.lst [])) := Stp.new nD0 _
    have hD0 : (upd H13 D0 (.lst [])) D0 = some (.lst []) := upd_same
    have bD0 : D0 ∉ [b] := fun m => B13.ne nD0 (List.mem_singleton.mp m).symm
    have B14 := B13.kp S14 nn
    have ls12 := Pv.bag_ls B12
    have rq2 := (rq2.draw S13 B12 B13).stp S14 Lsts.nil
    have sp14 := (sp12.stp S13 ls12).stp S14 Lsts.nil
    have sq14 := (sq12.stp S13 ls12).stp S14 Lsts.nil
    have ha14 := S14.kp _ _ nn (S13.kp _ _ nab' ha12)
    have rl14 := (rl12.stp S13 ls12).stp S14 Lsts.nil
    have T14 : Stp [b, p] H (upd H13 D0 (.lst [])) := (T12.trans (S13.sub sub)).trans S14.nil
    have ak14 : g ≠ 3 → Ask K (upd H13 D0 (.lst [])) g (.ref m) v2 none := fun h => by
      have gs : GoodS K (upd H13 D0 (.lst [])) (.ref m) := ⟨m, ms, rfl, sp14, by omega⟩
      have gq : GoodS K (upd H13 D0 (.lst [])) (.ref sm) := ⟨sm, qs, rfl, sq14, by omega⟩
      have ak := ak h
      generalize hv : V.ref m = v1 at ak
      generalize hr : (none : Option Nat) = r at ak
      cases ak with
      | s0 hg _ => rw [← hv]; exact .s0 hg gs
      | r0 _ => exact absurd rfl h
      | j0 hg _ g2 =>
        have : v2 = .ref sm := by
          rcases hg with rfl | rfl <;> exact (Option.some.inj ev2).symm
        subst this
        rw [← hv]
        exact .j0 hg gs gq
      | h0 _ a => rw [← hv]; exact .h0 gs a
      | m0 _ a b => rw [← hv]; exact .m0 gs a b
      | _ => cases hr
    clear ak sp10 ha10 rl10 sq sp12 sq12 ha12 rl12 hq2 S11 S12 o11 B11 H10b T10' T12 S13 S14 o13 B13 B12 ls10 ls12
    generalize upd H13 D0 (.lst []) = H14 at *
    dsimp only [tNext]
    -- yours wrong
    refine seq_end (fun σ H' => ∃ (v2' : V) (D' : Addr) (r : Option Nat), σ = [some (.ref b), some (.int g), some (.bl bn), some (.ref p), some (.ref a), some (.ref m), some (Tx l), some (.ref sm), some v2', some (.int odd), some (.ref D'), none, none, none, none] ∧ H' D' = some (.lst (toldV r)) ∧ D' ∉ [b] ∧ (g ≠ 3 → Ask K H' g (.ref m) v2' r) ∧ (g = 3 → r = none) ∧ (∃ d, Rq K H' v2' d) ∧ Stp [b] H14 H' ∧ Bag H' b 5000) ?_ (fun fin => ?_)
    rotate_left
    · refine MonoT.cut (t := tAnd _ _) (MonoT.and (MonoT.test (Mono.op' MonoR.i0 Mono.var Mono.c)) (MonoT.test (Mono.op' MonoR.i0 Mono.var Mono.c))) (fun c H' => H' = H14 ∧ (c = true → 3 < g)) ?_ ?_
      · refine ⟨_, rfl, _, _, rfl, rfl, _, rfl, ite2 (fun h => ⟨_, rfl, _, _, rfl, rfl, _, rfl, rfl, fun e => of_decide_eq_true e⟩) (fun h => ⟨rfl, fun e => nomatch e⟩)⟩
      rintro c H' ⟨rfl, hc⟩
      refine ite2 (fun ec => ?_) (fun ec => fin _ _ ⟨v2, D0, none, rfl, hD0, bD0, ak14, fun _ => rfl, ⟨d2, rq2⟩, Stp.refl _ _, B14.mono (by omega)⟩)
      have g3 := hc ec
      have ls14 := Pv.bag_ls B14
      refine ⟨_, rfl, _, rfl, _, rfl, b, m, _, ms, l, rfl, sp14, lm, ll, B14, by omega, fun v d HC no small SC BC rv => ?_⟩
      have sp15 := sp14.stp SC ls14
      have gs15 : GoodS K HC (.ref m) := ⟨m, ms, rfl, sp15, by omega⟩
      have bad : BadS K HC v := ⟨_, _, rv, no, small⟩
      have rqv : ∃ d, Rq K HC v d := ⟨_, Rq.ofRv rv⟩
      have hg : g = 4 ∨ g = 5 ∨ g = 6 ∨ g = 7 := by omega
      have BC := BC.mono (show _ ≤ 4900 by omega)
      rcases hg with rfl | rfl | rfl | rfl
      · refine ⟨_, rfl, rfl, _, rfl, ite2 (fun h => absurd h (by decide)) (fun _ => ⟨_, rfl, rfl, _, rfl, ite2 (fun h => absurd h (by decide)) (fun _ => ?_)⟩)⟩
        refine ⟨len4, fun q nq => ?_⟩
        have SA : Stp [] HC (upd HC q (.lst [.str "span", .str "span", .str "text", .str "number"])) := Stp.new nq _
        have hq : (upd HC q (.lst [.str "span", .str "span", .str "text", .str "number"])) q = some (.lst [.str "span", .str "span", .str "text", .str "number"]) := upd_same
        refine ⟨_, rfl, _, _, rfl, rfl, q, _, _, .str "span", rfl, rfl, SqL.of hq, rfl, len2, fun D' nD => ?_⟩
        have SB := SA.new' (o := .lst [.str "span", .str "error"]) nD
        have bD' : D' ∉ [b] := fun m => (BC.kp SA nn).ne nD (List.mem_singleton.mp m).symm
        have SB' := (SC.trans SA.nil).trans (Stp.new (o := .lst [.str "span", .str "error"]) nD [b])
        obtain ⟨d', rq'⟩ := rqv
        exact fin _ _ ⟨v, D', some 2, rfl, upd_same, bD', fun _ => .b2 (by decide) (gs15.up SB) (bad.up SB), fun e => absurd e (by decide), ⟨d', rq'.stp SB Lsts.nil⟩, SB', (BC.kp SB nn).mono (by omega)⟩
      · refine ⟨_, rfl, rfl, _, rfl, ite2 (fun h => absurd h (by decide)) (fun _ => ⟨_, rfl, rfl, _, rfl, ite2 (fun h => absurd h (by decide)) (fun _ => ?_)⟩)⟩
        refine ⟨len4, fun q nq => ?_⟩
        have SA : Stp [] HC (upd HC q (.lst [.str "span", .str "span", .str "text", .str "number"])) := Stp.new nq _
        have hq : (upd HC q (.lst [.str "span", .str "span", .str "text", .str "number"])) q = some (.lst [.str "span", .str "span", .str "text", .str "number"]) := upd_same
        refine ⟨_, rfl, _, _, rfl, rfl, q, _, _, .str "span", rfl, rfl, SqL.of hq, rfl, len2, fun D' nD => ?_⟩
        have SB := SA.new' (o := .lst [.str "span", .str "error"]) nD
        have bD' : D' ∉ [b] := fun m => (BC.kp SA nn).ne nD (List.mem_singleton.mp m).symm
        have SB' := (SC.trans SA.nil).trans (Stp.new (o := .lst [.str "span", .str "error"]) nD [b])
        obtain ⟨d', rq'⟩ := rqv
        exact fin _ _ ⟨v, D', some 2, rfl, upd_same, bD', fun _ => .b2 (by decide) (gs15.up SB) (bad.up SB), fun e => absurd e (by decide), ⟨d', rq'.stp SB Lsts.nil⟩, SB', (BC.kp SB nn).mono (by omega)⟩
      · dsimp only [gName]
        refine seq_end (fun σ HC' => ∃ v', σ = [some (.ref b), some (.int 6), some (.bl bn), some (.ref p), some (.ref a), some (.ref m), some (Tx l), some (.ref sm), some v', some (.int odd), some (.ref D0), none, none, none, none] ∧ BadT K HC' v' ∧ (∃ d, Rq K HC' v' d) ∧ Stp [b] HC HC' ∧ Bag HC' b 4950) ?_ (fun fin2 => ?_)
        rotate_left
        · refine ⟨_, rfl, rfl, _, rfl, ite2 (fun _ => ?_) (fun h => absurd rfl h)⟩
          refine ⟨_, rfl, b, 5, _, rfl, BC, by omega, by decide, by decide, fun e' HD f0 f1 oD BD => ?_⟩
          have SD : Stp [b] HC HD := oD.stp one
          refine ⟨_, _, rfl, rfl, _, rfl, ite2 (fun _ => ?_) (fun _ => ?_)⟩
          · refine ⟨_, rfl, _, rfl, b, _, l, rfl, BD, by omega, al, ll, fun v' d' HE rq' nt dn SE BE => ?_⟩
            exact fin2 _ _ ⟨v', rfl, ⟨d', rq'.rp, nt⟩, ⟨d', rq'⟩, SD.trans SE, BE.mono (by omega)⟩
          · exact fin2 _ _ ⟨.non, rfl, ⟨.non, .non, by simp [IsTx]⟩, ⟨.non, .of .non (fun e => nomatch e) (fun e => nomatch e)⟩, SD, BD.mono (by omega)⟩
        rintro σ HC' ⟨v', rfl, badT, ⟨d', rq'⟩, SC', BC'⟩
        have gs16 : GoodS K HC' (.ref m) := ⟨m, ms, rfl, sp15.stp SC' (Pv.bag_ls BC), by omega⟩
        refine ⟨_, rfl, rfl, _, rfl, ite2 (fun h => absurd h (by decide)) (fun _ => ?_)⟩
        refine ⟨len4, fun q nq => ?_⟩
        have SA : Stp [] HC' (upd HC' q (.lst [.str "span", .str "span", .str "text", .str "number"])) := Stp.new nq _
        have hq : (upd HC' q (.lst [.str "span", .str "span", .str "text", .str "number"])) q = some (.lst [.str "span", .str "span", .str "text", .str "number"]) := upd_same
        refine ⟨_, rfl, _, _, rfl, rfl, q, _, _, .str "text", rfl, rfl, SqL.of hq, rfl, len2, fun D' nD => ?_⟩
        have SB := SA.new' (o := .lst [.str "text", .str "error"]) nD
        have bD' : D' ∉ [b] := fun m => (BC'.kp SA nn).ne nD (List.mem_singleton.mp m).symm
        have SB' := ((SC.trans SC').trans SA.nil).trans (Stp.new (o := .lst [.str "text", .str "error"]) nD [b])
        exact fin _ _ ⟨v', D', some 0, rfl, upd_same, bD', fun _ => .t2 (gs16.up SB) (badT.up SB), fun e => absurd e (by decide), ⟨d', rq'.stp SB Lsts.nil⟩, SB', (BC'.kp SB nn).mono (by omega)⟩
      · refine ⟨_, rfl, rfl, _, rfl, ite2 (fun h => absurd h (by decide)) (fun _ => ?_)⟩
        refine ⟨_, rfl, rfl, _, rfl, ite2 (fun _ => ?_) (fun h => absurd rfl h)⟩
        refine ⟨_, rfl, b, _, rfl, BC, by omega, fun v' d' HC' rq' badN SC' BC' => ?_⟩
        have gs16 : GoodS K HC' (.ref m) := ⟨m, ms, rfl, sp15.stp SC' (Pv.bag_ls BC), by omega⟩
        refine ⟨len4, fun q nq => ?_⟩
        have SA : Stp [] HC' (upd HC' q (.lst [.str "span", .str "span", .str "text", .str "number"])) := Stp.new nq _
        have hq : (upd HC' q (.lst [.str "span", .str "span", .str "text", .str "number"])) q = some (.lst [.str "span", .str "span", .str "text", .str "number"]) := upd_same
        refine ⟨_, rfl, _, _, rfl, rfl, q, _, _, .str "number", rfl, rfl, SqL.of hq, rfl, len2, fun D' nD => ?_⟩
        have SB := SA.new' (o := .lst [.str "number", .str "error"]) nD
        have bD' : D' ∉ [b] := fun m => (BC'.kp SA nn).ne nD (List.mem_singleton.mp m).symm
        have SB' := ((SC.trans SC').trans SA.nil).trans (Stp.new (o := .lst [.str "number", .str "error"]) nD [b])
        exact fin _ _ ⟨v', D', some 9, rfl, upd_same, bD', fun _ => .n2 (gs16.up SB) (badN.up SB), fun e => absurd e (by decide), ⟨d', rq'.stp SB Lsts.nil⟩, SB', (BC'.kp SB nn).mono (by omega)⟩
    clear rq2
    rintro σ H15 ⟨v2', D', r, rfl, hD, bD', ak, r3, ⟨d2, rq2⟩, S15, B15⟩
    have ls14 := Pv.bag_ls B14
    have sp15 := sp14.stp S15 ls14
    have ha15 := S15.kp _ _ nab' ha14
    have rl15 := rl14.stp S15 ls14
    have T15 : Stp [b, p] H H15 := T14.trans (S15.sub sub)
    have rvA : Rv K [b] H15 (.ref a) (.lst (ps.map Sx.prV)) := .lst ha15 nab' (by rw [rl15.len, List.length_map]; omega) (Sx.rps_rv rl15 pS)
    clear ak14 sp14 sq14 ha14 rl14 S15 T14 B14 hD0 bD0 ls14
    -- mine
    refine seq_end (fun σ H' => ∃ v1 : V, σ = [some (.ref b), some (.int g), some (.bl bn), some (.ref p), some (.ref a), some v1, some (Tx l), some (.ref sm), some v2', some (.int odd), some (.ref D'), none, none, none, none] ∧ H' = H15 ∧ Ask K H15 g v1 v2' r ∧ (∃ d, Rq K H15 v1 d) ∧ (g ≠ 3 → v1 = .ref m)) ?_ (fun fin => ?_)
    rotate_left
    · refine ⟨_, rfl, rfl, _, rfl, ite2 (fun h => ?_) (fun h => ?_)⟩
      · have e3 : g = 3 := V.int.inj (of_decide_eq_true h)
        obtain rfl := r3 e3
        subst e3
        exact ⟨_, rfl, fin _ _ ⟨.ref a, rfl, rfl, .r0 ⟨a, xs, ps, rfl, ha15, rl15, pO, by omega⟩, ⟨_, Rq.ofRv rvA⟩, fun h => absurd rfl h⟩⟩
      · have n3 : g ≠ 3 := fun e => h (by rw [e]; rfl)
        exact fin _ _ ⟨.ref m, rfl, rfl, ak n3, ⟨_, Rq.ofRv (Sx.Spn.rv (S := []) sp15)⟩, fun _ => rfl⟩
    rintro σ H15' ⟨v1, rfl, rfl, ak, ⟨d1, rq1⟩, em⟩
    -- mine wrong
    refine seq_end (fun σ H' => ∃ (v1' : V) (D' : Addr) (r : Option Nat), σ = [some (.ref b), some (.int g), some (.bl bn), some (.ref p), some (.ref a), some v1', some (Tx l), some (.ref sm), some v2', some (.int odd), some (.ref D'), none, none, none, none] ∧ H' D' = some (.lst (toldV r)) ∧ Ask K H' g v1' v2' r ∧ (∃ d, Rq K H' v1' d) ∧ (∃ d, Rq K H' v2' d) ∧ Stp [b] H15' H') ?_ (fun fin => ?_)
    rotate_left
    · refine MonoT.cut (t := tAnd _ _) (MonoT.and (MonoT.test (Mono.op' MonoR.i0 Mono.var Mono.c)) (MonoT.test (Mono.op' MonoR.i0 Mono.var Mono.c))) (fun c H' => H' = H15') ?_ ?_
      · refine ⟨_, rfl, _, _, rfl, rfl, _, rfl, ite2 (fun h => ⟨_, rfl, _, _, rfl, rfl, _, rfl, rfl⟩) (fun h => rfl)⟩
      rintro c H' rfl
      refine ite2 (fun ec => ?_) (fun ec => fin _ _ ⟨v1, D', r, rfl, hD, ak, ⟨d1, rq1⟩, ⟨d2, rq2⟩, Stp.refl _ _⟩)
      refine seq_end (fun σ HC => ∃ v1' : V, σ = [some (.ref b), some (.int g), some (.bl bn), some (.ref p), some (.ref a), some v1', some (Tx l), some (.ref sm), some v2', some (.int odd), some (.ref D'), none, none, none, none] ∧ (∀ H2, Stp [] HC H2 → Ask K H2 g v1' v2' (some 2)) ∧ (∃ d, Rq K HC v1' d) ∧ (∃ d, Rq K HC v2' d) ∧ Stp [b] H' HC ∧ ∃ n, Bag HC b n) ?_ (fun fin2 => ?_)
      rotate_left
      · refine ⟨_, rfl, rfl, _, rfl, ite2 (fun h => ?_) (fun h => ?_)⟩
        · have e3 : g = 3 := V.int.inj (of_decide_eq_true h)
          subst e3
          refine ⟨_, rfl, _, rfl, _, rfl, b, a, _, xs, ps, l, rfl, nab, ha15, rl15, pO, by omega, ll, B15, by omega, fun v d HC rv bad SC BC => ?_⟩
          have br : BadR K HC v := ⟨_, _, rv, bad⟩
          exact fin2 _ _ ⟨v, rfl, fun H2 S2 => .r1 (br.up S2), ⟨_, Rq.ofRv rv⟩, ⟨d2, rq2.draw SC B15 BC⟩, SC, _, BC⟩
        · have n3 : g ≠ 3 := fun e => h (by rw [e]; rfl)
          obtain rfl := em n3
          refine ⟨_, rfl, _, rfl, _, rfl, b, m, _, ms, l, rfl, sp15, lm, ll, B15, by omega, fun v d HC no small SC BC rv => ?_⟩
          have bs : BadS K HC v := ⟨_, _, rv, no, small⟩
          exact fin2 _ _ ⟨v, rfl, fun H2 S2 => .s1 (by omega) (bs.up S2), ⟨_, Rq.ofRv rv⟩, ⟨d2, rq2.draw SC B15 BC⟩, SC, _, BC⟩
      rintro σ HC ⟨v1', rfl, ak', ⟨d1', rq1'⟩, ⟨d2', rq2'⟩, SC, nC, BC⟩
      refine ⟨len2, fun D2 nD => ?_⟩
      have SA : Stp [] HC (upd HC D2 (.lst [.str "span", .str "error"])) := Stp.new nD _
      exact fin _ _ ⟨v1', D2, some 2, rfl, upd_same, ak' _ SA, ⟨d1', rq1'.stp SA Lsts.nil⟩, ⟨d2', rq2'.stp SA Lsts.nil⟩, SC.trans SA.nil⟩
    clear hD bD' ak rq2 rq1
    rintro σ H9 ⟨v1', D', r, rfl, hD, ak, ⟨d1, rq1⟩, ⟨d2, rq2⟩, S9⟩
    have oj := ak.okJ
    have T9 : Stp [b, p] H H9 := T15.trans (S9.sub sub)
    -- held
    refine ⟨_, rfl, _, rfl, len2, fun q nq => ?_⟩
    have SA : Stp [] H9 (upd H9 q (.lst [v1', v2'])) := Stp.new nq _
    have hq : (upd H9 q (.lst [v1', v2'])) q = some (.lst [v1', v2']) := upd_same
    have akA := ak.up SA
    have r1A := rq1.stp SA Lsts.nil
    have r2A := rq2.stp SA Lsts.nil
    have hDA := SA.kp _ _ nn hD
    generalize upd H9 q (.lst [v1', v2']) = HA at *
    refine ⟨q, rfl, ⟨_, SqL.of hq⟩, fun L nL => ?_⟩
    refine lc_list (K := K) (a := q) (xs := [v1', v2']) (fun i H' => Stp [] HA H' ∧ match i with
      | 0 => H' L = some (.lst [])
      | 1 => ∃ q1, q1 ≠ L ∧ H' L = some (.lst [.ref q1]) ∧ (isL d1 = true → ∀ a xs, v1' = .ref a → HA a = some (.lst xs) → H' q1 = some (.lst xs))
      | _ => ∃ q1 q2, H' L = some (.lst [.ref q1, .ref q2]) ∧ (isL d1 = true → ∀ a xs, v1' = .ref a → HA a = some (.lst xs) → H' q1 = some (.lst xs)) ∧ (isL d2 = true → ∀ a xs, v2' = .ref a → HA a = some (.lst xs) → H' q2 = some (.lst xs)))
      ⟨Stp.new nL _, upd_same⟩ (fun i H' _ ⟨S', _⟩ => SqL.of (S'.kp _ _ nn hq)) ?_ ?_
    · have elt : ∀ {H' H2 : Hp} {y : Addr} {acc : List V}, Stp [] HA H' → H' L = some (.lst acc) → H' y = none → Stp [] H' H2 → y ≠ L ∧ H2 L = some (.lst acc) ∧ Stp [] HA (upd H2 L (.lst (acc ++ [.ref y]))) := fun S' hL ny S2 =>
        ⟨(ne_of_none hL ny).symm, S2.kp _ _ nn hL, (S'.trans S2).mut nL⟩
      rintro i x H' hx ⟨S', st⟩
      match i, hx, st with
      | 0, hx, hL =>
        cases hx
        have rq := r1A.stp S' Lsts.nil
        refine ⟨rfl, _, rfl, v1', d1, rfl, rq, _, rfl, ite2 (fun h => ?_) (fun h => ?_)⟩
        · obtain ⟨a, xs, rfl, ha, sc⟩ := r1A.ls (isL_iff h)
          refine ⟨_, rfl, a, xs, rfl, .inl (SqL.of (S'.kp _ _ nn ha)), fun y ny => ?_⟩
          obtain ⟨yL, hL2, S2⟩ := elt S' hL ny (Stp.new (o := .lst xs) ny [])
          refine ⟨_, hL2, by decide, S2, y, yL, upd_same, fun _ a' xs' e1 e2 => ?_⟩
          cases e1
          rw [ha] at e2
          cases e2
          rw [upd_ne yL]
          exact upd_same
        · refine ⟨Nat.zero_le _, fun y ny => ?_⟩
          obtain ⟨yL, hL2, S2⟩ := elt S' hL ny (Stp.new (o := .lst []) ny [])
          exact ⟨_, hL2, by decide, S2, y, yL, upd_same, fun e => absurd e h⟩
      | 1, hx, ⟨q1, n1, hL, h1⟩ =>
        cases hx
        have rq := r2A.stp S' Lsts.nil
        have old : ∀ {y : Addr} {xs : List V}, H' y = none → isL d1 = true → ∀ a xs', v1' = .ref a → HA a = some (.lst xs') → (upd (upd H' y (.lst xs)) L (.lst [.ref q1, .ref y])) q1 = some (.lst xs') := fun ny e a xs' e1 e2 => by
          have := h1 e a xs' e1 e2
          rw [upd_ne n1, upd_ne (ne_of_none this ny)]
          exact this
        refine ⟨rfl, _, rfl, v2', d2, rfl, rq, _, rfl, ite2 (fun h => ?_) (fun h => ?_)⟩
        · obtain ⟨a, xs, rfl, ha, sc⟩ := r2A.ls (isL_iff h)
          refine ⟨_, rfl, a, xs, rfl, .inl (SqL.of (S'.kp _ _ nn ha)), fun y ny => ?_⟩
          obtain ⟨yL, hL2, S2⟩ := elt S' hL ny (Stp.new (o := .lst xs) ny [])
          refine ⟨_, hL2, (by show 1 < sizeLine; decide), S2, q1, y, upd_same, old ny, fun _ a' xs' e1 e2 => ?_⟩
          cases e1
          rw [ha] at e2
          cases e2
          rw [upd_ne yL]
          exact upd_same
        · refine ⟨Nat.zero_le _, fun y ny => ?_⟩
          obtain ⟨yL, hL2, S2⟩ := elt S' hL ny (Stp.new (o := .lst []) ny [])
          exact ⟨_, hL2, (by show 1 < sizeLine; decide), S2, q1, y, upd_same, old ny, fun e => absurd e h⟩
      | n + 2, hx, _ => simp at hx
    rintro HB ⟨SB, q1, q2, hL, h1, h2⟩
    -- told
    refine ⟨_, rfl, _, rfl, _, rfl, _, rfl, g, bn, v1', v2', r, rfl, akA.up SB, fun M HC SC hM => ?_⟩
    have SAC := SB.trans SC
    have hLC := SC.kp _ _ nn hL
    have r1C := r1A.stp SAC Lsts.nil
    have r2C := r2A.stp SAC Lsts.nil
    dsimp only [tNext]
    refine tt_join (t := tOr _ _) (fun c H' => c = false ∧ H' = HC) (fun fin => ?_) ?_
    · refine tt_join (t := tAnd _ _) (fun c H' => c = false ∧ H' = HC) (fun fin1 => ?_) ?_
      · refine ⟨_, rfl, v1', d1, rfl, r1C, _, rfl, ite2 (fun h => ?_) (fun h => fin1 _ _ ⟨by simpa using h, rfl⟩)⟩
        obtain ⟨a, xs, rfl, ha, sc⟩ := r1A.ls (isL_iff h)
        refine ⟨_, rfl, _, rfl, L, _, 0, .ref q1, rfl, rfl, SqL.of hLC, at0, a, q1, xs, rfl, rfl, SqL.of (SAC.kp _ _ nn ha), SqL.of (SC.kp _ _ nn (h1 h a xs rfl ha)), sc, _, rfl, fin1 _ _ ⟨rfl, rfl⟩⟩
      rintro c H' ⟨rfl, rfl⟩
      refine ite2 (fun h => nomatch h) (fun _ => ?_)
      refine tt_join (t := tAnd _ _) (fun c H'' => c = false ∧ H'' = H') (fun fin1 => ?_) ?_
      · refine ⟨_, rfl, v2', d2, rfl, r2C, _, rfl, ite2 (fun h => ?_) (fun h => fin1 _ _ ⟨by simpa using h, rfl⟩)⟩
        obtain ⟨a, xs, rfl, ha, sc⟩ := r2A.ls (isL_iff h)
        refine ⟨_, rfl, _, rfl, L, _, 1, .ref q2, rfl, rfl, SqL.of hLC, at1, a, q2, xs, rfl, rfl, SqL.of (SAC.kp _ _ nn ha), SqL.of (SC.kp _ _ nn (h2 h a xs rfl ha)), sc, _, rfl, fin1 _ _ ⟨rfl, rfl⟩⟩
      rintro c H'' ⟨rfl, rfl⟩
      exact fin _ _ ⟨rfl, rfl⟩
    rintro c H' ⟨rfl, rfl⟩
    refine ite2 (fun h => nomatch h) (fun _ => ?_)
    refine ⟨_, rfl, _, rfl, told_eq oj (SqL.of hM) (SqL.of (SAC.kp _ _ nn hDA)) ?_⟩
    exact k _ (Stp.loc pH ((T9.trans ((SA.trans SAC).nil)).sub fun x m => by simp at m ⊢; rcases m with m | m; exact .inr m; exact .inl m))
abbrev s_law : Stmt := topS 64
abbrev N_law : List Str := ["script", "cell"]
theorem sc_law : FnScope ["script", "cell"] ["script"] (defScope s_law) := ⟨rfl, rfl, rfl, by decide +kernel, rfl, by decide +kernel, by decide +kernel⟩

/-! ### the law -/
def spLaw (K : PySem.W.Frag) : Sp := fun vs H Q _ => ∃ (a : Addr) (ns : List Int), vs = [.ref a] ∧ SqL K H a (ns.map V.int) ∧ ns.length ≤ 63 ∧ ∀ H', Q (.bl true) H'
theorem cl_law {f : Addr} {fd : FuncData} (D : Df K mg "law" s_law ["script"] f fd) (T : Nm mg) (c__law_bag : Cl P w K mg base 1 "_law_bag" s__law_bag ["cell"] spBag) (c__law_made : ClG P w K mg base 3 "_law_made" s__law_made ["word"] spMade) (c__law_right : Cl P w K mg base 9 "_law_right" s__law_right ["bag"] (spRight K)) :
    FnG P w K mg base 10 f fd ["script"] (spLaw K) := by
  refine D.g sc_law (fun vs H Q E h => ?_) (fun cdv A outer s H vs Q E hG hr h => ?_)
  · obtain ⟨a, ns, rfl, _⟩ := h
    rfl
  · obtain ⟨a, ns, rfl, hS, hlen, k⟩ := h
    refine ⟨_, (pss_cons (ps_if (pt_not (pt_val (pe_clG c__law_made hG hr (by omega) (pa_cons pe_str pa_nil)))) (pss_one (ps_ret pe_bl)) pss_nil)
      (pss_cons (ps_for PassesOwn.never rfl (pi_list (pe_op op_cat (pe_slice sl_list (pv 0) po_none (po_some pe_int)) (pe_lst (pa_cons (pe_op op_add (pe_op op_pow pe_int pe_int) pe_int) pa_nil)))) (pg_name (i := 1) sc_law.nd rfl (by first | exact Or.inl rfl | exact Or.inr rfl)) (pss_one (ps_if (pt_not (pt_val (pe_cl c__law_right hr (by omega) (pa_cons (pe_cl c__law_bag hr (by omega) (pa_cons (pv 1) pa_nil)) pa_nil)))) (pss_one (ps_ret pe_bl)) pss_nil)))
      (pss_one (ps_ret pe_bl)))), ?_⟩
    have nn : ∀ {x : Addr}, x ∉ ([] : List Addr) := fun m => nomatch m
    refine ⟨rfl, fun H0 S0 => ⟨_, rfl, ite2 (fun h => nomatch h) (fun _ => ?_)⟩⟩
    have hS := sql_up S0 hS
    refine ⟨_, rfl, 30, rfl, a, _, rfl, hS, fun p1 np1 => ?_⟩
    refine ⟨_, _, rfl, rfl, ⟨by decide, by decide, by decide⟩, _, _, rfl, rfl, (by show 1 ≤ sizeLine; decide), fun p2 np2 => ?_⟩
    have n12 : p1 ≠ p2 := ne_of_none upd_same np2
    have hcut : cutV (ns.map V.int) none (some 30) = (ns.take 30).map V.int := by
      rw [show cutV (ns.map V.int) none (some 30) = _ from cut_upto 30, List.map_take]
    rw [hcut]
    refine ⟨p1, p2, _, _, rfl, rfl, by rw [upd_ne n12]; exact upd_same, upd_same, ?_, fun p3 np3 => ?_⟩
    · rw [List.length_map, List.length_take]
      exact sz (by simp; omega)
    obtain ⟨cs, ecs⟩ : ∃ cs : List Int, (ns.take 30).map V.int ++ [V.int (10 ^ (18 : Int).toNat + 2)] = cs.map V.int := ⟨ns.take 30 ++ [10 ^ (18 : Int).toNat + 2], by rw [List.map_append]; rfl⟩
    rw [ecs]
    refine ⟨p3, rfl, ⟨_, SqL.of upd_same⟩, for_list (K := K) (a := p3) (xs := cs.map V.int) (fun i σ H1 => ∃ x1 : Option V, σ = [some (.ref a), x1] ∧ H1 p3 = some (.lst (cs.map V.int)))
      ⟨none, rfl, upd_same⟩ (fun i σ H1 _ ⟨_, _, h⟩ => SqL.of h) ?_ (fun σ H1 ⟨x1, e, _⟩ => by rw [e]; exact k _)⟩
    rintro i y σ H4 hi ⟨x1, rfl, h4⟩
    obtain ⟨c, rfl⟩ : ∃ c, y = V.int c := by
      rw [List.getElem?_map] at hi
      cases e : cs[i]? with
      | none =>
        rw [e] at hi
        cases hi
      | some u =>
        rw [e] at hi
        exact ⟨u, (Option.some.inj hi).symm⟩
    refine ⟨_, rfl, c, rfl, fun b H5 nb S5 B5 => ?_⟩
    have h5 := S5.kp _ _ nn h4
    have nb5 : p3 ≠ b := ne_of_none h4 nb
    refine ⟨b, 0, rfl, B5, by decide, fun H6 S6 => ⟨_, rfl, ite2 (fun h => nomatch h) (fun _ => ?_)⟩⟩
    exact ⟨_, rfl, S6.kp _ _ (fun m => nb5 (List.mem_singleton.mp m)) h5⟩
/-! ### what the top has written, the head -/
theorem all_mk {l : PySem.W.OpenLaw} {w : World} {K : PySem.W.Frag} {h : Heap} {mg : Str → Option Value} {fa : Addr} (X : K.In h) (G : h.Ns mainGlobals mg) (hfa : mg "law" = some (.ref fa))
    {f0 : Addr} {od0 an0 : Option Addr} {sl0 : Array (Option Value)} {oc0 kV0 dc0 pm0 cd0 ct0 : Value}
    (a0 : PySem.W.nsIn K mainGlobals "is_text" = some (some (.ref f0))) (l0 : K.lookup f0 = some ⟨oc0, od0, .func (PySem.W.fnOf "is_text" "is_text" (defArgs s_is_text) (defBody s_is_text) (defScope s_is_text) .none kV0 dc0 pm0 an0 cd0 ct0), sl0⟩) (c0 : PySem.W.codeIn K cd0 "is_text" = true) (k0 : PySem.W.keepIn K (.ref f0) = true)
    {f1 : Addr} {od1 an1 : Option Addr} {sl1 : Array (Option Value)} {oc1 kV1 dc1 pm1 cd1 ct1 : Value}
    (a1 : PySem.W.nsIn K mainGlobals "is_range" = some (some (.ref f1))) (l1 : K.lookup f1 = some ⟨oc1, od1, .func (PySem.W.fnOf "is_range" "is_range" (defArgs s_is_range) (defBody s_is_range) (defScope s_is_range) .none kV1 dc1 pm1 an1 cd1 ct1), sl1⟩) (c1 : PySem.W.codeIn K cd1 "is_range" = true) (k1 : PySem.W.keepIn K (.ref f1) = true)
    {f2 : Addr} {od2 an2 : Option Addr} {sl2 : Array (Option Value)} {oc2 kV2 dc2 pm2 cd2 ct2 : Value}
    (a2 : PySem.W.nsIn K mainGlobals "is_span" = some (some (.ref f2))) (l2 : K.lookup f2 = some ⟨oc2, od2, .func (PySem.W.fnOf "is_span" "is_span" (defArgs s_is_span) (defBody s_is_span) (defScope s_is_span) .none kV2 dc2 pm2 an2 cd2 ct2), sl2⟩) (c2 : PySem.W.codeIn K cd2 "is_span" = true) (k2 : PySem.W.keepIn K (.ref f2) = true)
    {f3 : Addr} {od3 an3 : Option Addr} {sl3 : Array (Option Value)} {oc3 kV3 dc3 pm3 cd3 ct3 : Value}
    (a3 : PySem.W.nsIn K mainGlobals "reaches" = some (some (.ref f3))) (l3 : K.lookup f3 = some ⟨oc3, od3, .func (PySem.W.fnOf "reaches" "reaches" (defArgs s_reaches) (defBody s_reaches) (defScope s_reaches) .none kV3 dc3 pm3 an3 cd3 ct3), sl3⟩) (c3 : PySem.W.codeIn K cd3 "reaches" = true) (k3 : PySem.W.keepIn K (.ref f3) = true)
    {f4 : Addr} {od4 an4 : Option Addr} {sl4 : Array (Option Value)} {oc4 kV4 dc4 pm4 cd4 ct4 : Value}
    (a4 : PySem.W.nsIn K mainGlobals "check_text" = some (some (.ref f4))) (l4 : K.lookup f4 = some ⟨oc4, od4, .func (PySem.W.fnOf "check_text" "check_text" (defArgs s_check_text) (defBody s_check_text) (defScope s_check_text) .none kV4 dc4 pm4 an4 cd4 ct4), sl4⟩) (c4 : PySem.W.codeIn K cd4 "check_text" = true) (k4 : PySem.W.keepIn K (.ref f4) = true)
    {f5 : Addr} {od5 an5 : Option Addr} {sl5 : Array (Option Value)} {oc5 kV5 dc5 pm5 cd5 ct5 : Value}
    (a5 : PySem.W.nsIn K mainGlobals "check_span" = some (some (.ref f5))) (l5 : K.lookup f5 = some ⟨oc5, od5, .func (PySem.W.fnOf "check_span" "check_span" (defArgs s_check_span) (defBody s_check_span) (defScope s_check_span) .none kV5 dc5 pm5 an5 cd5 ct5), sl5⟩) (c5 : PySem.W.codeIn K cd5 "check_span" = true) (k5 : PySem.W.keepIn K (.ref f5) = true)
    {f6 : Addr} {od6 an6 : Option Addr} {sl6 : Array (Option Value)} {oc6 kV6 dc6 pm6 cd6 ct6 : Value}
    (a6 : PySem.W.nsIn K mainGlobals "check_ranges" = some (some (.ref f6))) (l6 : K.lookup f6 = some ⟨oc6, od6, .func (PySem.W.fnOf "check_ranges" "check_ranges" (defArgs s_check_ranges) (defBody s_check_ranges) (defScope s_check_ranges) .none kV6 dc6 pm6 an6 cd6 ct6), sl6⟩) (c6 : PySem.W.codeIn K cd6 "check_ranges" = true) (k6 : PySem.W.keepIn K (.ref f6) = true)
    {f7 : Addr} {od7 an7 : Option Addr} {sl7 : Array (Option Value)} {oc7 kV7 dc7 pm7 cd7 ct7 : Value}
    (a7 : PySem.W.nsIn K mainGlobals "check_most" = some (some (.ref f7))) (l7 : K.lookup f7 = some ⟨oc7, od7, .func (PySem.W.fnOf "check_most" "check_most" (defArgs s_check_most) (defBody s_check_most) (defScope s_check_most) .none kV7 dc7 pm7 an7 cd7 ct7), sl7⟩) (c7 : PySem.W.codeIn K cd7 "check_most" = true) (k7 : PySem.W.keepIn K (.ref f7) = true)
    {f8 : Addr} {od8 an8 : Option Addr} {sl8 : Array (Option Value)} {oc8 kV8 dc8 pm8 cd8 ct8 : Value}
    (a8 : PySem.W.nsIn K mainGlobals "behind" = some (some (.ref f8))) (l8 : K.lookup f8 = some ⟨oc8, od8, .func (PySem.W.fnOf "behind" "behind" (defArgs s_behind) (defBody s_behind) (defScope s_behind) .none kV8 dc8 pm8 an8 cd8 ct8), sl8⟩) (c8 : PySem.W.codeIn K cd8 "behind" = true) (k8 : PySem.W.keepIn K (.ref f8) = true)
    {f9 : Addr} {od9 an9 : Option Addr} {sl9 : Array (Option Value)} {oc9 kV9 dc9 pm9 cd9 ct9 : Value}
    (a9 : PySem.W.nsIn K mainGlobals "later_end" = some (some (.ref f9))) (l9 : K.lookup f9 = some ⟨oc9, od9, .func (PySem.W.fnOf "later_end" "later_end" (defArgs s_later_end) (defBody s_later_end) (defScope s_later_end) .none kV9 dc9 pm9 an9 cd9 ct9), sl9⟩) (c9 : PySem.W.codeIn K cd9 "later_end" = true) (k9 : PySem.W.keepIn K (.ref f9) = true)
    {f10 : Addr} {od10 an10 : Option Addr} {sl10 : Array (Option Value)} {oc10 kV10 dc10 pm10 cd10 ct10 : Value}
    (a10 : PySem.W.nsIn K mainGlobals "ascending" = some (some (.ref f10))) (l10 : K.lookup f10 = some ⟨oc10, od10, .func (PySem.W.fnOf "ascending" "ascending" (defArgs s_ascending) (defBody s_ascending) (defScope s_ascending) .none kV10 dc10 pm10 an10 cd10 ct10), sl10⟩) (c10 : PySem.W.codeIn K cd10 "ascending" = true) (k10 : PySem.W.keepIn K (.ref f10) = true)
    {f11 : Addr} {od11 an11 : Option Addr} {sl11 : Array (Option Value)} {oc11 kV11 dc11 pm11 cd11 ct11 : Value}
    (a11 : PySem.W.nsIn K mainGlobals "span_of" = some (some (.ref f11))) (l11 : K.lookup f11 = some ⟨oc11, od11, .func (PySem.W.fnOf "span_of" "span_of" (defArgs s_span_of) (defBody s_span_of) (defScope s_span_of) .none kV11 dc11 pm11 an11 cd11 ct11), sl11⟩) (c11 : PySem.W.codeIn K cd11 "span_of" = true) (k11 : PySem.W.keepIn K (.ref f11) = true)
    {f12 : Addr} {od12 an12 : Option Addr} {sl12 : Array (Option Value)} {oc12 kV12 dc12 pm12 cd12 ct12 : Value}
    (a12 : PySem.W.nsIn K mainGlobals "has" = some (some (.ref f12))) (l12 : K.lookup f12 = some ⟨oc12, od12, .func (PySem.W.fnOf "has" "has" (defArgs s_has) (defBody s_has) (defScope s_has) .none kV12 dc12 pm12 an12 cd12 ct12), sl12⟩) (c12 : PySem.W.codeIn K cd12 "has" = true) (k12 : PySem.W.keepIn K (.ref f12) = true)
    {f13 : Addr} {od13 an13 : Option Addr} {sl13 : Array (Option Value)} {oc13 kV13 dc13 pm13 cd13 ct13 : Value}
    (a13 : PySem.W.nsIn K mainGlobals "opposite" = some (some (.ref f13))) (l13 : K.lookup f13 = some ⟨oc13, od13, .func (PySem.W.fnOf "opposite" "opposite" (defArgs s_opposite) (defBody s_opposite) (defScope s_opposite) .none kV13 dc13 pm13 an13 cd13 ct13), sl13⟩) (c13 : PySem.W.codeIn K cd13 "opposite" = true) (k13 : PySem.W.keepIn K (.ref f13) = true)
    {f14 : Addr} {od14 an14 : Option Addr} {sl14 : Array (Option Value)} {oc14 kV14 dc14 pm14 cd14 ct14 : Value}
    (a14 : PySem.W.nsIn K mainGlobals "joined" = some (some (.ref f14))) (l14 : K.lookup f14 = some ⟨oc14, od14, .func (PySem.W.fnOf "joined" "joined" (defArgs s_joined) (defBody s_joined) (defScope s_joined) .none kV14 dc14 pm14 an14 cd14 ct14), sl14⟩) (c14 : PySem.W.codeIn K cd14 "joined" = true) (k14 : PySem.W.keepIn K (.ref f14) = true)
    {f15 : Addr} {od15 an15 : Option Addr} {sl15 : Array (Option Value)} {oc15 kV15 dc15 pm15 cd15 ct15 : Value}
    (a15 : PySem.W.nsIn K mainGlobals "shared" = some (some (.ref f15))) (l15 : K.lookup f15 = some ⟨oc15, od15, .func (PySem.W.fnOf "shared" "shared" (defArgs s_shared) (defBody s_shared) (defScope s_shared) .none kV15 dc15 pm15 an15 cd15 ct15), sl15⟩) (c15 : PySem.W.codeIn K cd15 "shared" = true) (k15 : PySem.W.keepIn K (.ref f15) = true)
    {f16 : Addr} {od16 an16 : Option Addr} {sl16 : Array (Option Value)} {oc16 kV16 dc16 pm16 cd16 ct16 : Value}
    (a16 : PySem.W.nsIn K mainGlobals "least_text" = some (some (.ref f16))) (l16 : K.lookup f16 = some ⟨oc16, od16, .func (PySem.W.fnOf "least_text" "least_text" (defArgs s_least_text) (defBody s_least_text) (defScope s_least_text) .none kV16 dc16 pm16 an16 cd16 ct16), sl16⟩) (c16 : PySem.W.codeIn K cd16 "least_text" = true) (k16 : PySem.W.keepIn K (.ref f16) = true)
    {f17 : Addr} {od17 an17 : Option Addr} {sl17 : Array (Option Value)} {oc17 kV17 dc17 pm17 cd17 ct17 : Value}
    (a17 : PySem.W.nsIn K mainGlobals "texts_in" = some (some (.ref f17))) (l17 : K.lookup f17 = some ⟨oc17, od17, .func (PySem.W.fnOf "texts_in" "texts_in" (defArgs s_texts_in) (defBody s_texts_in) (defScope s_texts_in) .none kV17 dc17 pm17 an17 cd17 ct17), sl17⟩) (c17 : PySem.W.codeIn K cd17 "texts_in" = true) (k17 : PySem.W.keepIn K (.ref f17) = true)
    {f18 : Addr} {od18 an18 : Option Addr} {sl18 : Array (Option Value)} {oc18 kV18 dc18 pm18 cd18 ct18 : Value}
    (a18 : PySem.W.nsIn K mainGlobals "is_finite" = some (some (.ref f18))) (l18 : K.lookup f18 = some ⟨oc18, od18, .func (PySem.W.fnOf "is_finite" "is_finite" (defArgs s_is_finite) (defBody s_is_finite) (defScope s_is_finite) .none kV18 dc18 pm18 an18 cd18 ct18), sl18⟩) (c18 : PySem.W.codeIn K cd18 "is_finite" = true) (k18 : PySem.W.keepIn K (.ref f18) = true)
    {f19 : Addr} {od19 an19 : Option Addr} {sl19 : Array (Option Value)} {oc19 kV19 dc19 pm19 cd19 ct19 : Value}
    (a19 : PySem.W.nsIn K mainGlobals "ends_soon" = some (some (.ref f19))) (l19 : K.lookup f19 = some ⟨oc19, od19, .func (PySem.W.fnOf "ends_soon" "ends_soon" (defArgs s_ends_soon) (defBody s_ends_soon) (defScope s_ends_soon) .none kV19 dc19 pm19 an19 cd19 ct19), sl19⟩) (c19 : PySem.W.codeIn K cd19 "ends_soon" = true) (k19 : PySem.W.keepIn K (.ref f19) = true)
    {f20 : Addr} {od20 an20 : Option Addr} {sl20 : Array (Option Value)} {oc20 kV20 dc20 pm20 cd20 ct20 : Value}
    (a20 : PySem.W.nsIn K mainGlobals "_law_bag" = some (some (.ref f20))) (l20 : K.lookup f20 = some ⟨oc20, od20, .func (PySem.W.fnOf "_law_bag" "_law_bag" (defArgs s__law_bag) (defBody s__law_bag) (defScope s__law_bag) .none kV20 dc20 pm20 an20 cd20 ct20), sl20⟩) (c20 : PySem.W.codeIn K cd20 "_law_bag" = true) (k20 : PySem.W.keepIn K (.ref f20) = true)
    {f21 : Addr} {od21 an21 : Option Addr} {sl21 : Array (Option Value)} {oc21 kV21 dc21 pm21 cd21 ct21 : Value}
    (a21 : PySem.W.nsIn K mainGlobals "_law_draw" = some (some (.ref f21))) (l21 : K.lookup f21 = some ⟨oc21, od21, .func (PySem.W.fnOf "_law_draw" "_law_draw" (defArgs s__law_draw) (defBody s__law_draw) (defScope s__law_draw) .none kV21 dc21 pm21 an21 cd21 ct21), sl21⟩) (c21 : PySem.W.codeIn K cd21 "_law_draw" = true) (k21 : PySem.W.keepIn K (.ref f21) = true)
    {f22 : Addr} {od22 an22 : Option Addr} {sl22 : Array (Option Value)} {oc22 kV22 dc22 pm22 cd22 ct22 : Value}
    (a22 : PySem.W.nsIn K mainGlobals "_law_text" = some (some (.ref f22))) (l22 : K.lookup f22 = some ⟨oc22, od22, .func (PySem.W.fnOf "_law_text" "_law_text" (defArgs s__law_text) (defBody s__law_text) (defScope s__law_text) .none kV22 dc22 pm22 an22 cd22 ct22), sl22⟩) (c22 : PySem.W.codeIn K cd22 "_law_text" = true) (k22 : PySem.W.keepIn K (.ref f22) = true)
    {f23 : Addr} {od23 an23 : Option Addr} {sl23 : Array (Option Value)} {oc23 kV23 dc23 pm23 cd23 ct23 : Value}
    (a23 : PySem.W.nsIn K mainGlobals "_law_near" = some (some (.ref f23))) (l23 : K.lookup f23 = some ⟨oc23, od23, .func (PySem.W.fnOf "_law_near" "_law_near" (defArgs s__law_near) (defBody s__law_near) (defScope s__law_near) .none kV23 dc23 pm23 an23 cd23 ct23), sl23⟩) (c23 : PySem.W.codeIn K cd23 "_law_near" = true) (k23 : PySem.W.keepIn K (.ref f23) = true)
    {f24 : Addr} {od24 an24 : Option Addr} {sl24 : Array (Option Value)} {oc24 kV24 dc24 pm24 cd24 ct24 : Value}
    (a24 : PySem.W.nsIn K mainGlobals "_law_past" = some (some (.ref f24))) (l24 : K.lookup f24 = some ⟨oc24, od24, .func (PySem.W.fnOf "_law_past" "_law_past" (defArgs s__law_past) (defBody s__law_past) (defScope s__law_past) .none kV24 dc24 pm24 an24 cd24 ct24), sl24⟩) (c24 : PySem.W.codeIn K cd24 "_law_past" = true) (k24 : PySem.W.keepIn K (.ref f24) = true)
    {f25 : Addr} {od25 an25 : Option Addr} {sl25 : Array (Option Value)} {oc25 kV25 dc25 pm25 cd25 ct25 : Value}
    (a25 : PySem.W.nsIn K mainGlobals "_law_some" = some (some (.ref f25))) (l25 : K.lookup f25 = some ⟨oc25, od25, .func (PySem.W.fnOf "_law_some" "_law_some" (defArgs s__law_some) (defBody s__law_some) (defScope s__law_some) .none kV25 dc25 pm25 an25 cd25 ct25), sl25⟩) (c25 : PySem.W.codeIn K cd25 "_law_some" = true) (k25 : PySem.W.keepIn K (.ref f25) = true)
    {f26 : Addr} {od26 an26 : Option Addr} {sl26 : Array (Option Value)} {oc26 kV26 dc26 pm26 cd26 ct26 : Value}
    (a26 : PySem.W.nsIn K mainGlobals "_law_pair" = some (some (.ref f26))) (l26 : K.lookup f26 = some ⟨oc26, od26, .func (PySem.W.fnOf "_law_pair" "_law_pair" (defArgs s__law_pair) (defBody s__law_pair) (defScope s__law_pair) .none kV26 dc26 pm26 an26 cd26 ct26), sl26⟩) (c26 : PySem.W.codeIn K cd26 "_law_pair" = true) (k26 : PySem.W.keepIn K (.ref f26) = true)
    {f27 : Addr} {od27 an27 : Option Addr} {sl27 : Array (Option Value)} {oc27 kV27 dc27 pm27 cd27 ct27 : Value}
    (a27 : PySem.W.nsIn K mainGlobals "_law_in" = some (some (.ref f27))) (l27 : K.lookup f27 = some ⟨oc27, od27, .func (PySem.W.fnOf "_law_in" "_law_in" (defArgs s__law_in) (defBody s__law_in) (defScope s__law_in) .none kV27 dc27 pm27 an27 cd27 ct27), sl27⟩) (c27 : PySem.W.codeIn K cd27 "_law_in" = true) (k27 : PySem.W.keepIn K (.ref f27) = true)
    {f28 : Addr} {od28 an28 : Option Addr} {sl28 : Array (Option Value)} {oc28 kV28 dc28 pm28 cd28 ct28 : Value}
    (a28 : PySem.W.nsIn K mainGlobals "_law_points" = some (some (.ref f28))) (l28 : K.lookup f28 = some ⟨oc28, od28, .func (PySem.W.fnOf "_law_points" "_law_points" (defArgs s__law_points) (defBody s__law_points) (defScope s__law_points) .none kV28 dc28 pm28 an28 cd28 ct28), sl28⟩) (c28 : PySem.W.codeIn K cd28 "_law_points" = true) (k28 : PySem.W.keepIn K (.ref f28) = true)
    {f29 : Addr} {od29 an29 : Option Addr} {sl29 : Array (Option Value)} {oc29 kV29 dc29 pm29 cd29 ct29 : Value}
    (a29 : PySem.W.nsIn K mainGlobals "_law_pieces" = some (some (.ref f29))) (l29 : K.lookup f29 = some ⟨oc29, od29, .func (PySem.W.fnOf "_law_pieces" "_law_pieces" (defArgs s__law_pieces) (defBody s__law_pieces) (defScope s__law_pieces) .none kV29 dc29 pm29 an29 cd29 ct29), sl29⟩) (c29 : PySem.W.codeIn K cd29 "_law_pieces" = true) (k29 : PySem.W.keepIn K (.ref f29) = true)
    {f30 : Addr} {od30 an30 : Option Addr} {sl30 : Array (Option Value)} {oc30 kV30 dc30 pm30 cd30 ct30 : Value}
    (a30 : PySem.W.nsIn K mainGlobals "_law_due" = some (some (.ref f30))) (l30 : K.lookup f30 = some ⟨oc30, od30, .func (PySem.W.fnOf "_law_due" "_law_due" (defArgs s__law_due) (defBody s__law_due) (defScope s__law_due) .none kV30 dc30 pm30 an30 cd30 ct30), sl30⟩) (c30 : PySem.W.codeIn K cd30 "_law_due" = true) (k30 : PySem.W.keepIn K (.ref f30) = true)
    {f31 : Addr} {od31 an31 : Option Addr} {sl31 : Array (Option Value)} {oc31 kV31 dc31 pm31 cd31 ct31 : Value}
    (a31 : PySem.W.nsIn K mainGlobals "_law_span" = some (some (.ref f31))) (l31 : K.lookup f31 = some ⟨oc31, od31, .func (PySem.W.fnOf "_law_span" "_law_span" (defArgs s__law_span) (defBody s__law_span) (defScope s__law_span) .none kV31 dc31 pm31 an31 cd31 ct31), sl31⟩) (c31 : PySem.W.codeIn K cd31 "_law_span" = true) (k31 : PySem.W.keepIn K (.ref f31) = true)
    {f32 : Addr} {od32 an32 : Option Addr} {sl32 : Array (Option Value)} {oc32 kV32 dc32 pm32 cd32 ct32 : Value}
    (a32 : PySem.W.nsIn K mainGlobals "_law_odd_text" = some (some (.ref f32))) (l32 : K.lookup f32 = some ⟨oc32, od32, .func (PySem.W.fnOf "_law_odd_text" "_law_odd_text" (defArgs s__law_odd_text) (defBody s__law_odd_text) (defScope s__law_odd_text) .none kV32 dc32 pm32 an32 cd32 ct32), sl32⟩) (c32 : PySem.W.codeIn K cd32 "_law_odd_text" = true) (k32 : PySem.W.keepIn K (.ref f32) = true)
    {f33 : Addr} {od33 an33 : Option Addr} {sl33 : Array (Option Value)} {oc33 kV33 dc33 pm33 cd33 ct33 : Value}
    (a33 : PySem.W.nsIn K mainGlobals "_law_odd_pair" = some (some (.ref f33))) (l33 : K.lookup f33 = some ⟨oc33, od33, .func (PySem.W.fnOf "_law_odd_pair" "_law_odd_pair" (defArgs s__law_odd_pair) (defBody s__law_odd_pair) (defScope s__law_odd_pair) .none kV33 dc33 pm33 an33 cd33 ct33), sl33⟩) (c33 : PySem.W.codeIn K cd33 "_law_odd_pair" = true) (k33 : PySem.W.keepIn K (.ref f33) = true)
    {f34 : Addr} {od34 an34 : Option Addr} {sl34 : Array (Option Value)} {oc34 kV34 dc34 pm34 cd34 ct34 : Value}
    (a34 : PySem.W.nsIn K mainGlobals "_law_bent_span" = some (some (.ref f34))) (l34 : K.lookup f34 = some ⟨oc34, od34, .func (PySem.W.fnOf "_law_bent_span" "_law_bent_span" (defArgs s__law_bent_span) (defBody s__law_bent_span) (defScope s__law_bent_span) .none kV34 dc34 pm34 an34 cd34 ct34), sl34⟩) (c34 : PySem.W.codeIn K cd34 "_law_bent_span" = true) (k34 : PySem.W.keepIn K (.ref f34) = true)
    {f35 : Addr} {od35 an35 : Option Addr} {sl35 : Array (Option Value)} {oc35 kV35 dc35 pm35 cd35 ct35 : Value}
    (a35 : PySem.W.nsIn K mainGlobals "_law_odd_span" = some (some (.ref f35))) (l35 : K.lookup f35 = some ⟨oc35, od35, .func (PySem.W.fnOf "_law_odd_span" "_law_odd_span" (defArgs s__law_odd_span) (defBody s__law_odd_span) (defScope s__law_odd_span) .none kV35 dc35 pm35 an35 cd35 ct35), sl35⟩) (c35 : PySem.W.codeIn K cd35 "_law_odd_span" = true) (k35 : PySem.W.keepIn K (.ref f35) = true)
    {f36 : Addr} {od36 an36 : Option Addr} {sl36 : Array (Option Value)} {oc36 kV36 dc36 pm36 cd36 ct36 : Value}
    (a36 : PySem.W.nsIn K mainGlobals "_law_names" = some (some (.ref f36))) (l36 : K.lookup f36 = some ⟨oc36, od36, .func (PySem.W.fnOf "_law_names" "_law_names" (defArgs s__law_names) (defBody s__law_names) (defScope s__law_names) .none kV36 dc36 pm36 an36 cd36 ct36), sl36⟩) (c36 : PySem.W.codeIn K cd36 "_law_names" = true) (k36 : PySem.W.keepIn K (.ref f36) = true)
    {f37 : Addr} {od37 an37 : Option Addr} {sl37 : Array (Option Value)} {oc37 kV37 dc37 pm37 cd37 ct37 : Value}
    (a37 : PySem.W.nsIn K mainGlobals "_law_odd_pairs" = some (some (.ref f37))) (l37 : K.lookup f37 = some ⟨oc37, od37, .func (PySem.W.fnOf "_law_odd_pairs" "_law_odd_pairs" (defArgs s__law_odd_pairs) (defBody s__law_odd_pairs) (defScope s__law_odd_pairs) .none kV37 dc37 pm37 an37 cd37 ct37), sl37⟩) (c37 : PySem.W.codeIn K cd37 "_law_odd_pairs" = true) (k37 : PySem.W.keepIn K (.ref f37) = true)
    {f38 : Addr} {od38 an38 : Option Addr} {sl38 : Array (Option Value)} {oc38 kV38 dc38 pm38 cd38 ct38 : Value}
    (a38 : PySem.W.nsIn K mainGlobals "_law_odd_number" = some (some (.ref f38))) (l38 : K.lookup f38 = some ⟨oc38, od38, .func (PySem.W.fnOf "_law_odd_number" "_law_odd_number" (defArgs s__law_odd_number) (defBody s__law_odd_number) (defScope s__law_odd_number) .none kV38 dc38 pm38 an38 cd38 ct38), sl38⟩) (c38 : PySem.W.codeIn K cd38 "_law_odd_number" = true) (k38 : PySem.W.keepIn K (.ref f38) = true)
    {f39 : Addr} {od39 an39 : Option Addr} {sl39 : Array (Option Value)} {oc39 kV39 dc39 pm39 cd39 ct39 : Value}
    (a39 : PySem.W.nsIn K mainGlobals "_law_one" = some (some (.ref f39))) (l39 : K.lookup f39 = some ⟨oc39, od39, .func (PySem.W.fnOf "_law_one" "_law_one" (defArgs s__law_one) (defBody s__law_one) (defScope s__law_one) .none kV39 dc39 pm39 an39 cd39 ct39), sl39⟩) (c39 : PySem.W.codeIn K cd39 "_law_one" = true) (k39 : PySem.W.keepIn K (.ref f39) = true)
    {f40 : Addr} {od40 an40 : Option Addr} {sl40 : Array (Option Value)} {oc40 kV40 dc40 pm40 cd40 ct40 : Value}
    (a40 : PySem.W.nsIn K mainGlobals "_law_two" = some (some (.ref f40))) (l40 : K.lookup f40 = some ⟨oc40, od40, .func (PySem.W.fnOf "_law_two" "_law_two" (defArgs s__law_two) (defBody s__law_two) (defScope s__law_two) .none kV40 dc40 pm40 an40 cd40 ct40), sl40⟩) (c40 : PySem.W.codeIn K cd40 "_law_two" = true) (k40 : PySem.W.keepIn K (.ref f40) = true)
    {f41 : Addr} {od41 an41 : Option Addr} {sl41 : Array (Option Value)} {oc41 kV41 dc41 pm41 cd41 ct41 : Value}
    (a41 : PySem.W.nsIn K mainGlobals "_law_told" = some (some (.ref f41))) (l41 : K.lookup f41 = some ⟨oc41, od41, .func (PySem.W.fnOf "_law_told" "_law_told" (defArgs s__law_told) (defBody s__law_told) (defScope s__law_told) .none kV41 dc41 pm41 an41 cd41 ct41), sl41⟩) (c41 : PySem.W.codeIn K cd41 "_law_told" = true) (k41 : PySem.W.keepIn K (.ref f41) = true)
    {f42 : Addr} {od42 an42 : Option Addr} {sl42 : Array (Option Value)} {oc42 kV42 dc42 pm42 cd42 ct42 : Value}
    (a42 : PySem.W.nsIn K mainGlobals "_law_made" = some (some (.ref f42))) (l42 : K.lookup f42 = some ⟨oc42, od42, .func (PySem.W.fnOf "_law_made" "_law_made" (defArgs s__law_made) (defBody s__law_made) (defScope s__law_made) .none kV42 dc42 pm42 an42 cd42 ct42), sl42⟩) (c42 : PySem.W.codeIn K cd42 "_law_made" = true) (k42 : PySem.W.keepIn K (.ref f42) = true)
    {f43 : Addr} {od43 an43 : Option Addr} {sl43 : Array (Option Value)} {oc43 kV43 dc43 pm43 cd43 ct43 : Value}
    (a43 : PySem.W.nsIn K mainGlobals "_law_right" = some (some (.ref f43))) (l43 : K.lookup f43 = some ⟨oc43, od43, .func (PySem.W.fnOf "_law_right" "_law_right" (defArgs s__law_right) (defBody s__law_right) (defScope s__law_right) .none kV43 dc43 pm43 an43 cd43 ct43), sl43⟩) (c43 : PySem.W.codeIn K cd43 "_law_right" = true) (k43 : PySem.W.keepIn K (.ref f43) = true)
    {f44 : Addr} {od44 an44 : Option Addr} {sl44 : Array (Option Value)} {oc44 kV44 dc44 pm44 cd44 ct44 : Value}
    (a44 : PySem.W.nsIn K mainGlobals "law" = some (some (.ref f44))) (l44 : K.lookup f44 = some ⟨oc44, od44, .func (PySem.W.fnOf "law" "law" (defArgs s_law) (defBody s_law) (defScope s_law) .none kV44 dc44 pm44 an44 cd44 ct44), sl44⟩) (c44 : PySem.W.codeIn K cd44 "law" = true) (k44 : PySem.W.keepIn K (.ref f44) = true)
    {E0 : Addr}
    (aE0 : PySem.W.nsIn K mainGlobals "InvalidText" = some (some (.ref E0)))
    {E1 : Addr}
    (aE1 : PySem.W.nsIn K mainGlobals "InvalidValue" = some (some (.ref E1)))
    {E2 : Addr}
    (aE2 : PySem.W.nsIn K mainGlobals "InvalidSpan" = some (some (.ref E2)))
    {E3 : Addr}
    (aE3 : PySem.W.nsIn K mainGlobals "InvalidFilter" = some (some (.ref E3)))
    {E4 : Addr}
    (aE4 : PySem.W.nsIn K mainGlobals "InvalidRule" = some (some (.ref E4)))
    {E5 : Addr}
    (aE5 : PySem.W.nsIn K mainGlobals "InvalidPage" = some (some (.ref E5)))
    {E6 : Addr}
    (aE6 : PySem.W.nsIn K mainGlobals "InvalidNote" = some (some (.ref E6)))
    {E7 : Addr}
    (aE7 : PySem.W.nsIn K mainGlobals "InvalidColumn" = some (some (.ref E7)))
    {E8 : Addr}
    (aE8 : PySem.W.nsIn K mainGlobals "InvalidIndex" = some (some (.ref E8)))
    {E9 : Addr}
    (aE9 : PySem.W.nsIn K mainGlobals "InvalidNumber" = some (some (.ref E9)))
    {E10 : Addr}
    (aE10 : PySem.W.nsIn K mainGlobals "InvalidCode" = some (some (.ref E10)))
    {E11 : Addr}
    (aE11 : PySem.W.nsIn K mainGlobals "NoBlock" = some (some (.ref E11)))
    {E12 : Addr}
    (aE12 : PySem.W.nsIn K mainGlobals "NothingToUndo" = some (some (.ref E12)))
    {E13 : Addr}
    (aE13 : PySem.W.nsIn K mainGlobals "Full" = some (some (.ref E13)))
    {E14 : Addr}
    (aE14 : PySem.W.nsIn K mainGlobals "InvalidCommand" = some (some (.ref E14)))
    {E15 : Addr}
    (aE15 : PySem.W.nsIn K mainGlobals "InvalidWords" = some (some (.ref E15)))
    {E16 : Addr}
    (aE16 : PySem.W.nsIn K mainGlobals "SkipError" = some (some (.ref E16)))
    (eon : PySem.W.specialIn K (.builtin "object.__class__") "__get__" = some (some (.builtin "getset_descriptor.__get__")))
    (eot : PySem.W.takesIn K (.builtin "object.__class__") = some true)
    (ebS : PySem.W.subIn K (.ref E16) (.type "BaseException") = some true)
    (edS : PySem.W.hasDictIn K E16 = true)
    (etS : PySem.W.typeIn K (.ref E16) = some (.type "type"))
    (xT0 : PySem.W.excIn K E0 [.type "ValueError", .type "Exception", .type "BaseException", .type "object"] "ValueError.__new__" = true)
    (kT0 : PySem.W.keepIn K (.ref E0) = true)
    (bT0 : PySem.W.subIn K (.ref E0) (.type "BaseException") = some true)
    (tT0 : PySem.W.typeIn K (.ref E0) = some (.type "type"))
    (gT0 : PySem.W.findIn K (.ref E0) "__getattribute__" = some (some (.builtin "BaseException.__getattribute__")))
    (hT0 : PySem.W.findIn K (.ref E0) "__getattr__" = some none)
    (dT0 : PySem.W.hasDictIn K E0 = true)
    (cT0 : PySem.W.findIn K (.ref E0) "__class__" = some (some (.builtin "object.__class__")))
    (oT0 : PySem.W.mroIn K E0 (.type "object") = some true)
    (isstr0 : PySem.W.kitOne K (.ref E0) (.type "str") = some false)
    (isint0 : PySem.W.kitOne K (.ref E0) (.type "int") = some false)
    (isbool0 : PySem.W.kitOne K (.ref E0) (.type "bool") = some false)
    (istuple0 : PySem.W.kitOne K (.ref E0) (.type "tuple") = some false)
    (islist0 : PySem.W.kitOne K (.ref E0) (.type "list") = some false)
    (xT1 : PySem.W.excIn K E1 [.type "ValueError", .type "Exception", .type "BaseException", .type "object"] "ValueError.__new__" = true)
    (kT1 : PySem.W.keepIn K (.ref E1) = true)
    (bT1 : PySem.W.subIn K (.ref E1) (.type "BaseException") = some true)
    (tT1 : PySem.W.typeIn K (.ref E1) = some (.type "type"))
    (gT1 : PySem.W.findIn K (.ref E1) "__getattribute__" = some (some (.builtin "BaseException.__getattribute__")))
    (hT1 : PySem.W.findIn K (.ref E1) "__getattr__" = some none)
    (dT1 : PySem.W.hasDictIn K E1 = true)
    (cT1 : PySem.W.findIn K (.ref E1) "__class__" = some (some (.builtin "object.__class__")))
    (oT1 : PySem.W.mroIn K E1 (.type "object") = some true)
    (isstr1 : PySem.W.kitOne K (.ref E1) (.type "str") = some false)
    (isint1 : PySem.W.kitOne K (.ref E1) (.type "int") = some false)
    (isbool1 : PySem.W.kitOne K (.ref E1) (.type "bool") = some false)
    (istuple1 : PySem.W.kitOne K (.ref E1) (.type "tuple") = some false)
    (islist1 : PySem.W.kitOne K (.ref E1) (.type "list") = some false)
    (xT2 : PySem.W.excIn K E2 [.type "ValueError", .type "Exception", .type "BaseException", .type "object"] "ValueError.__new__" = true)
    (kT2 : PySem.W.keepIn K (.ref E2) = true)
    (bT2 : PySem.W.subIn K (.ref E2) (.type "BaseException") = some true)
    (tT2 : PySem.W.typeIn K (.ref E2) = some (.type "type"))
    (gT2 : PySem.W.findIn K (.ref E2) "__getattribute__" = some (some (.builtin "BaseException.__getattribute__")))
    (hT2 : PySem.W.findIn K (.ref E2) "__getattr__" = some none)
    (dT2 : PySem.W.hasDictIn K E2 = true)
    (cT2 : PySem.W.findIn K (.ref E2) "__class__" = some (some (.builtin "object.__class__")))
    (oT2 : PySem.W.mroIn K E2 (.type "object") = some true)
    (isstr2 : PySem.W.kitOne K (.ref E2) (.type "str") = some false)
    (isint2 : PySem.W.kitOne K (.ref E2) (.type "int") = some false)
    (isbool2 : PySem.W.kitOne K (.ref E2) (.type "bool") = some false)
    (istuple2 : PySem.W.kitOne K (.ref E2) (.type "tuple") = some false)
    (islist2 : PySem.W.kitOne K (.ref E2) (.type "list") = some false)
    (xT3 : PySem.W.excIn K E3 [.type "ValueError", .type "Exception", .type "BaseException", .type "object"] "ValueError.__new__" = true)
    (kT3 : PySem.W.keepIn K (.ref E3) = true)
    (bT3 : PySem.W.subIn K (.ref E3) (.type "BaseException") = some true)
    (tT3 : PySem.W.typeIn K (.ref E3) = some (.type "type"))
    (gT3 : PySem.W.findIn K (.ref E3) "__getattribute__" = some (some (.builtin "BaseException.__getattribute__")))
    (hT3 : PySem.W.findIn K (.ref E3) "__getattr__" = some none)
    (dT3 : PySem.W.hasDictIn K E3 = true)
    (cT3 : PySem.W.findIn K (.ref E3) "__class__" = some (some (.builtin "object.__class__")))
    (oT3 : PySem.W.mroIn K E3 (.type "object") = some true)
    (isstr3 : PySem.W.kitOne K (.ref E3) (.type "str") = some false)
    (isint3 : PySem.W.kitOne K (.ref E3) (.type "int") = some false)
    (isbool3 : PySem.W.kitOne K (.ref E3) (.type "bool") = some false)
    (istuple3 : PySem.W.kitOne K (.ref E3) (.type "tuple") = some false)
    (islist3 : PySem.W.kitOne K (.ref E3) (.type "list") = some false)
    (xT4 : PySem.W.excIn K E4 [.type "ValueError", .type "Exception", .type "BaseException", .type "object"] "ValueError.__new__" = true)
    (kT4 : PySem.W.keepIn K (.ref E4) = true)
    (bT4 : PySem.W.subIn K (.ref E4) (.type "BaseException") = some true)
    (tT4 : PySem.W.typeIn K (.ref E4) = some (.type "type"))
    (gT4 : PySem.W.findIn K (.ref E4) "__getattribute__" = some (some (.builtin "BaseException.__getattribute__")))
    (hT4 : PySem.W.findIn K (.ref E4) "__getattr__" = some none)
    (dT4 : PySem.W.hasDictIn K E4 = true)
    (cT4 : PySem.W.findIn K (.ref E4) "__class__" = some (some (.builtin "object.__class__")))
    (oT4 : PySem.W.mroIn K E4 (.type "object") = some true)
    (isstr4 : PySem.W.kitOne K (.ref E4) (.type "str") = some false)
    (isint4 : PySem.W.kitOne K (.ref E4) (.type "int") = some false)
    (isbool4 : PySem.W.kitOne K (.ref E4) (.type "bool") = some false)
    (istuple4 : PySem.W.kitOne K (.ref E4) (.type "tuple") = some false)
    (islist4 : PySem.W.kitOne K (.ref E4) (.type "list") = some false)
    (xT5 : PySem.W.excIn K E5 [.type "ValueError", .type "Exception", .type "BaseException", .type "object"] "ValueError.__new__" = true)
    (kT5 : PySem.W.keepIn K (.ref E5) = true)
    (bT5 : PySem.W.subIn K (.ref E5) (.type "BaseException") = some true)
    (tT5 : PySem.W.typeIn K (.ref E5) = some (.type "type"))
    (gT5 : PySem.W.findIn K (.ref E5) "__getattribute__" = some (some (.builtin "BaseException.__getattribute__")))
    (hT5 : PySem.W.findIn K (.ref E5) "__getattr__" = some none)
    (dT5 : PySem.W.hasDictIn K E5 = true)
    (cT5 : PySem.W.findIn K (.ref E5) "__class__" = some (some (.builtin "object.__class__")))
    (oT5 : PySem.W.mroIn K E5 (.type "object") = some true)
    (isstr5 : PySem.W.kitOne K (.ref E5) (.type "str") = some false)
    (isint5 : PySem.W.kitOne K (.ref E5) (.type "int") = some false)
    (isbool5 : PySem.W.kitOne K (.ref E5) (.type "bool") = some false)
    (istuple5 : PySem.W.kitOne K (.ref E5) (.type "tuple") = some false)
    (islist5 : PySem.W.kitOne K (.ref E5) (.type "list") = some false)
    (xT6 : PySem.W.excIn K E6 [.type "ValueError", .type "Exception", .type "BaseException", .type "object"] "ValueError.__new__" = true)
    (kT6 : PySem.W.keepIn K (.ref E6) = true)
    (bT6 : PySem.W.subIn K (.ref E6) (.type "BaseException") = some true)
    (tT6 : PySem.W.typeIn K (.ref E6) = some (.type "type"))
    (gT6 : PySem.W.findIn K (.ref E6) "__getattribute__" = some (some (.builtin "BaseException.__getattribute__")))
    (hT6 : PySem.W.findIn K (.ref E6) "__getattr__" = some none)
    (dT6 : PySem.W.hasDictIn K E6 = true)
    (cT6 : PySem.W.findIn K (.ref E6) "__class__" = some (some (.builtin "object.__class__")))
    (oT6 : PySem.W.mroIn K E6 (.type "object") = some true)
    (isstr6 : PySem.W.kitOne K (.ref E6) (.type "str") = some false)
    (isint6 : PySem.W.kitOne K (.ref E6) (.type "int") = some false)
    (isbool6 : PySem.W.kitOne K (.ref E6) (.type "bool") = some false)
    (istuple6 : PySem.W.kitOne K (.ref E6) (.type "tuple") = some false)
    (islist6 : PySem.W.kitOne K (.ref E6) (.type "list") = some false)
    (xT7 : PySem.W.excIn K E7 [.type "ValueError", .type "Exception", .type "BaseException", .type "object"] "ValueError.__new__" = true)
    (kT7 : PySem.W.keepIn K (.ref E7) = true)
    (bT7 : PySem.W.subIn K (.ref E7) (.type "BaseException") = some true)
    (tT7 : PySem.W.typeIn K (.ref E7) = some (.type "type"))
    (gT7 : PySem.W.findIn K (.ref E7) "__getattribute__" = some (some (.builtin "BaseException.__getattribute__")))
    (hT7 : PySem.W.findIn K (.ref E7) "__getattr__" = some none)
    (dT7 : PySem.W.hasDictIn K E7 = true)
    (cT7 : PySem.W.findIn K (.ref E7) "__class__" = some (some (.builtin "object.__class__")))
    (oT7 : PySem.W.mroIn K E7 (.type "object") = some true)
    (isstr7 : PySem.W.kitOne K (.ref E7) (.type "str") = some false)
    (isint7 : PySem.W.kitOne K (.ref E7) (.type "int") = some false)
    (isbool7 : PySem.W.kitOne K (.ref E7) (.type "bool") = some false)
    (istuple7 : PySem.W.kitOne K (.ref E7) (.type "tuple") = some false)
    (islist7 : PySem.W.kitOne K (.ref E7) (.type "list") = some false)
    (xT8 : PySem.W.excIn K E8 [.type "ValueError", .type "Exception", .type "BaseException", .type "object"] "ValueError.__new__" = true)
    (kT8 : PySem.W.keepIn K (.ref E8) = true)
    (bT8 : PySem.W.subIn K (.ref E8) (.type "BaseException") = some true)
    (tT8 : PySem.W.typeIn K (.ref E8) = some (.type "type"))
    (gT8 : PySem.W.findIn K (.ref E8) "__getattribute__" = some (some (.builtin "BaseException.__getattribute__")))
    (hT8 : PySem.W.findIn K (.ref E8) "__getattr__" = some none)
    (dT8 : PySem.W.hasDictIn K E8 = true)
    (cT8 : PySem.W.findIn K (.ref E8) "__class__" = some (some (.builtin "object.__class__")))
    (oT8 : PySem.W.mroIn K E8 (.type "object") = some true)
    (isstr8 : PySem.W.kitOne K (.ref E8) (.type "str") = some false)
    (isint8 : PySem.W.kitOne K (.ref E8) (.type "int") = some false)
    (isbool8 : PySem.W.kitOne K (.ref E8) (.type "bool") = some false)
    (istuple8 : PySem.W.kitOne K (.ref E8) (.type "tuple") = some false)
    (islist8 : PySem.W.kitOne K (.ref E8) (.type "list") = some false)
    (xT9 : PySem.W.excIn K E9 [.type "ValueError", .type "Exception", .type "BaseException", .type "object"] "ValueError.__new__" = true)
    (kT9 : PySem.W.keepIn K (.ref E9) = true)
    (bT9 : PySem.W.subIn K (.ref E9) (.type "BaseException") = some true)
    (tT9 : PySem.W.typeIn K (.ref E9) = some (.type "type"))
    (gT9 : PySem.W.findIn K (.ref E9) "__getattribute__" = some (some (.builtin "BaseException.__getattribute__")))
    (hT9 : PySem.W.findIn K (.ref E9) "__getattr__" = some none)
    (dT9 : PySem.W.hasDictIn K E9 = true)
    (cT9 : PySem.W.findIn K (.ref E9) "__class__" = some (some (.builtin "object.__class__")))
    (oT9 : PySem.W.mroIn K E9 (.type "object") = some true)
    (isstr9 : PySem.W.kitOne K (.ref E9) (.type "str") = some false)
    (isint9 : PySem.W.kitOne K (.ref E9) (.type "int") = some false)
    (isbool9 : PySem.W.kitOne K (.ref E9) (.type "bool") = some false)
    (istuple9 : PySem.W.kitOne K (.ref E9) (.type "tuple") = some false)
    (islist9 : PySem.W.kitOne K (.ref E9) (.type "list") = some false)
    (xT10 : PySem.W.excIn K E10 [.type "ValueError", .type "Exception", .type "BaseException", .type "object"] "ValueError.__new__" = true)
    (kT10 : PySem.W.keepIn K (.ref E10) = true)
    (bT10 : PySem.W.subIn K (.ref E10) (.type "BaseException") = some true)
    (tT10 : PySem.W.typeIn K (.ref E10) = some (.type "type"))
    (gT10 : PySem.W.findIn K (.ref E10) "__getattribute__" = some (some (.builtin "BaseException.__getattribute__")))
    (hT10 : PySem.W.findIn K (.ref E10) "__getattr__" = some none)
    (dT10 : PySem.W.hasDictIn K E10 = true)
    (cT10 : PySem.W.findIn K (.ref E10) "__class__" = some (some (.builtin "object.__class__")))
    (oT10 : PySem.W.mroIn K E10 (.type "object") = some true)
    (isstr10 : PySem.W.kitOne K (.ref E10) (.type "str") = some false)
    (isint10 : PySem.W.kitOne K (.ref E10) (.type "int") = some false)
    (isbool10 : PySem.W.kitOne K (.ref E10) (.type "bool") = some false)
    (istuple10 : PySem.W.kitOne K (.ref E10) (.type "tuple") = some false)
    (islist10 : PySem.W.kitOne K (.ref E10) (.type "list") = some false)
    (xT11 : PySem.W.excIn K E11 [.type "ValueError", .type "Exception", .type "BaseException", .type "object"] "ValueError.__new__" = true)
    (kT11 : PySem.W.keepIn K (.ref E11) = true)
    (bT11 : PySem.W.subIn K (.ref E11) (.type "BaseException") = some true)
    (tT11 : PySem.W.typeIn K (.ref E11) = some (.type "type"))
    (gT11 : PySem.W.findIn K (.ref E11) "__getattribute__" = some (some (.builtin "BaseException.__getattribute__")))
    (hT11 : PySem.W.findIn K (.ref E11) "__getattr__" = some none)
    (dT11 : PySem.W.hasDictIn K E11 = true)
    (cT11 : PySem.W.findIn K (.ref E11) "__class__" = some (some (.builtin "object.__class__")))
    (oT11 : PySem.W.mroIn K E11 (.type "object") = some true)
    (isstr11 : PySem.W.kitOne K (.ref E11) (.type "str") = some false)
    (isint11 : PySem.W.kitOne K (.ref E11) (.type "int") = some false)
    (isbool11 : PySem.W.kitOne K (.ref E11) (.type "bool") = some false)
    (istuple11 : PySem.W.kitOne K (.ref E11) (.type "tuple") = some false)
    (islist11 : PySem.W.kitOne K (.ref E11) (.type "list") = some false)
    (xT12 : PySem.W.excIn K E12 [.type "ValueError", .type "Exception", .type "BaseException", .type "object"] "ValueError.__new__" = true)
    (kT12 : PySem.W.keepIn K (.ref E12) = true)
    (bT12 : PySem.W.subIn K (.ref E12) (.type "BaseException") = some true)
    (tT12 : PySem.W.typeIn K (.ref E12) = some (.type "type"))
    (gT12 : PySem.W.findIn K (.ref E12) "__getattribute__" = some (some (.builtin "BaseException.__getattribute__")))
    (hT12 : PySem.W.findIn K (.ref E12) "__getattr__" = some none)
    (dT12 : PySem.W.hasDictIn K E12 = true)
    (cT12 : PySem.W.findIn K (.ref E12) "__class__" = some (some (.builtin "object.__class__")))
    (oT12 : PySem.W.mroIn K E12 (.type "object") = some true)
    (isstr12 : PySem.W.kitOne K (.ref E12) (.type "str") = some false)
    (isint12 : PySem.W.kitOne K (.ref E12) (.type "int") = some false)
    (isbool12 : PySem.W.kitOne K (.ref E12) (.type "bool") = some false)
    (istuple12 : PySem.W.kitOne K (.ref E12) (.type "tuple") = some false)
    (islist12 : PySem.W.kitOne K (.ref E12) (.type "list") = some false)
    (xT13 : PySem.W.excIn K E13 [.type "ValueError", .type "Exception", .type "BaseException", .type "object"] "ValueError.__new__" = true)
    (kT13 : PySem.W.keepIn K (.ref E13) = true)
    (bT13 : PySem.W.subIn K (.ref E13) (.type "BaseException") = some true)
    (tT13 : PySem.W.typeIn K (.ref E13) = some (.type "type"))
    (gT13 : PySem.W.findIn K (.ref E13) "__getattribute__" = some (some (.builtin "BaseException.__getattribute__")))
    (hT13 : PySem.W.findIn K (.ref E13) "__getattr__" = some none)
    (dT13 : PySem.W.hasDictIn K E13 = true)
    (cT13 : PySem.W.findIn K (.ref E13) "__class__" = some (some (.builtin "object.__class__")))
    (oT13 : PySem.W.mroIn K E13 (.type "object") = some true)
    (isstr13 : PySem.W.kitOne K (.ref E13) (.type "str") = some false)
    (isint13 : PySem.W.kitOne K (.ref E13) (.type "int") = some false)
    (isbool13 : PySem.W.kitOne K (.ref E13) (.type "bool") = some false)
    (istuple13 : PySem.W.kitOne K (.ref E13) (.type "tuple") = some false)
    (islist13 : PySem.W.kitOne K (.ref E13) (.type "list") = some false)
    (xT14 : PySem.W.excIn K E14 [.type "ValueError", .type "Exception", .type "BaseException", .type "object"] "ValueError.__new__" = true)
    (kT14 : PySem.W.keepIn K (.ref E14) = true)
    (bT14 : PySem.W.subIn K (.ref E14) (.type "BaseException") = some true)
    (tT14 : PySem.W.typeIn K (.ref E14) = some (.type "type"))
    (gT14 : PySem.W.findIn K (.ref E14) "__getattribute__" = some (some (.builtin "BaseException.__getattribute__")))
    (hT14 : PySem.W.findIn K (.ref E14) "__getattr__" = some none)
    (dT14 : PySem.W.hasDictIn K E14 = true)
    (cT14 : PySem.W.findIn K (.ref E14) "__class__" = some (some (.builtin "object.__class__")))
    (oT14 : PySem.W.mroIn K E14 (.type "object") = some true)
    (isstr14 : PySem.W.kitOne K (.ref E14) (.type "str") = some false)
    (isint14 : PySem.W.kitOne K (.ref E14) (.type "int") = some false)
    (isbool14 : PySem.W.kitOne K (.ref E14) (.type "bool") = some false)
    (istuple14 : PySem.W.kitOne K (.ref E14) (.type "tuple") = some false)
    (islist14 : PySem.W.kitOne K (.ref E14) (.type "list") = some false)
    (sS0 : PySem.W.subIn K (.ref E0) (.ref E16) = some true)
    (iV0 : PySem.W.kitOne K (.ref E0) (.type "ValueError") = some true)
    (iK0_0 : PySem.W.kitOne K (.ref E0) (.ref E0) = some true)
    (iK0_1 : PySem.W.kitOne K (.ref E0) (.ref E1) = some false)
    (iK0_2 : PySem.W.kitOne K (.ref E0) (.ref E2) = some false)
    (iK0_3 : PySem.W.kitOne K (.ref E0) (.ref E3) = some false)
    (iK0_4 : PySem.W.kitOne K (.ref E0) (.ref E4) = some false)
    (iK0_5 : PySem.W.kitOne K (.ref E0) (.ref E5) = some false)
    (iK0_6 : PySem.W.kitOne K (.ref E0) (.ref E6) = some false)
    (iK0_7 : PySem.W.kitOne K (.ref E0) (.ref E7) = some false)
    (iK0_8 : PySem.W.kitOne K (.ref E0) (.ref E8) = some false)
    (iK0_9 : PySem.W.kitOne K (.ref E0) (.ref E9) = some false)
    (iK0_10 : PySem.W.kitOne K (.ref E0) (.ref E10) = some false)
    (iK0_11 : PySem.W.kitOne K (.ref E0) (.ref E11) = some false)
    (iK0_12 : PySem.W.kitOne K (.ref E0) (.ref E12) = some false)
    (iK0_13 : PySem.W.kitOne K (.ref E0) (.ref E13) = some false)
    (iK0_14 : PySem.W.kitOne K (.ref E0) (.ref E14) = some false)
    (iK0_15 : PySem.W.kitOne K (.ref E0) (.ref E15) = some false)
    (sS2 : PySem.W.subIn K (.ref E2) (.ref E16) = some true)
    (iV2 : PySem.W.kitOne K (.ref E2) (.type "ValueError") = some true)
    (iK2_0 : PySem.W.kitOne K (.ref E2) (.ref E0) = some false)
    (iK2_1 : PySem.W.kitOne K (.ref E2) (.ref E1) = some false)
    (iK2_2 : PySem.W.kitOne K (.ref E2) (.ref E2) = some true)
    (iK2_3 : PySem.W.kitOne K (.ref E2) (.ref E3) = some false)
    (iK2_4 : PySem.W.kitOne K (.ref E2) (.ref E4) = some false)
    (iK2_5 : PySem.W.kitOne K (.ref E2) (.ref E5) = some false)
    (iK2_6 : PySem.W.kitOne K (.ref E2) (.ref E6) = some false)
    (iK2_7 : PySem.W.kitOne K (.ref E2) (.ref E7) = some false)
    (iK2_8 : PySem.W.kitOne K (.ref E2) (.ref E8) = some false)
    (iK2_9 : PySem.W.kitOne K (.ref E2) (.ref E9) = some false)
    (iK2_10 : PySem.W.kitOne K (.ref E2) (.ref E10) = some false)
    (iK2_11 : PySem.W.kitOne K (.ref E2) (.ref E11) = some false)
    (iK2_12 : PySem.W.kitOne K (.ref E2) (.ref E12) = some false)
    (iK2_13 : PySem.W.kitOne K (.ref E2) (.ref E13) = some false)
    (iK2_14 : PySem.W.kitOne K (.ref E2) (.ref E14) = some false)
    (iK2_15 : PySem.W.kitOne K (.ref E2) (.ref E15) = some false)
    (sS9 : PySem.W.subIn K (.ref E9) (.ref E16) = some true)
    (iV9 : PySem.W.kitOne K (.ref E9) (.type "ValueError") = some true)
    (iK9_0 : PySem.W.kitOne K (.ref E9) (.ref E0) = some false)
    (iK9_1 : PySem.W.kitOne K (.ref E9) (.ref E1) = some false)
    (iK9_2 : PySem.W.kitOne K (.ref E9) (.ref E2) = some false)
    (iK9_3 : PySem.W.kitOne K (.ref E9) (.ref E3) = some false)
    (iK9_4 : PySem.W.kitOne K (.ref E9) (.ref E4) = some false)
    (iK9_5 : PySem.W.kitOne K (.ref E9) (.ref E5) = some false)
    (iK9_6 : PySem.W.kitOne K (.ref E9) (.ref E6) = some false)
    (iK9_7 : PySem.W.kitOne K (.ref E9) (.ref E7) = some false)
    (iK9_8 : PySem.W.kitOne K (.ref E9) (.ref E8) = some false)
    (iK9_9 : PySem.W.kitOne K (.ref E9) (.ref E9) = some true)
    (iK9_10 : PySem.W.kitOne K (.ref E9) (.ref E10) = some false)
    (iK9_11 : PySem.W.kitOne K (.ref E9) (.ref E11) = some false)
    (iK9_12 : PySem.W.kitOne K (.ref E9) (.ref E12) = some false)
    (iK9_13 : PySem.W.kitOne K (.ref E9) (.ref E13) = some false)
    (iK9_14 : PySem.W.kitOne K (.ref E9) (.ref E14) = some false)
    (iK9_15 : PySem.W.kitOne K (.ref E9) (.ref E15) = some false)
    (iS0 : PySem.W.kitOne K (.ref E0) (.ref E16) = some true)
    (iV1 : PySem.W.kitOne K (.ref E1) (.type "ValueError") = some true)
    (iK1_0 : PySem.W.kitOne K (.ref E1) (.ref E0) = some false)
    (iK1_1 : PySem.W.kitOne K (.ref E1) (.ref E1) = some true)
    (iK1_2 : PySem.W.kitOne K (.ref E1) (.ref E2) = some false)
    (iK1_3 : PySem.W.kitOne K (.ref E1) (.ref E3) = some false)
    (iK1_4 : PySem.W.kitOne K (.ref E1) (.ref E4) = some false)
    (iK1_5 : PySem.W.kitOne K (.ref E1) (.ref E5) = some false)
    (iK1_6 : PySem.W.kitOne K (.ref E1) (.ref E6) = some false)
    (iK1_7 : PySem.W.kitOne K (.ref E1) (.ref E7) = some false)
    (iK1_8 : PySem.W.kitOne K (.ref E1) (.ref E8) = some false)
    (iK1_9 : PySem.W.kitOne K (.ref E1) (.ref E9) = some false)
    (iK1_10 : PySem.W.kitOne K (.ref E1) (.ref E10) = some false)
    (iK1_11 : PySem.W.kitOne K (.ref E1) (.ref E11) = some false)
    (iK1_12 : PySem.W.kitOne K (.ref E1) (.ref E12) = some false)
    (iK1_13 : PySem.W.kitOne K (.ref E1) (.ref E13) = some false)
    (iK1_14 : PySem.W.kitOne K (.ref E1) (.ref E14) = some false)
    (iK1_15 : PySem.W.kitOne K (.ref E1) (.ref E15) = some false)
    (iS1 : PySem.W.kitOne K (.ref E1) (.ref E16) = some true)
    (iS2 : PySem.W.kitOne K (.ref E2) (.ref E16) = some true)
    (iV3 : PySem.W.kitOne K (.ref E3) (.type "ValueError") = some true)
    (iK3_0 : PySem.W.kitOne K (.ref E3) (.ref E0) = some false)
    (iK3_1 : PySem.W.kitOne K (.ref E3) (.ref E1) = some false)
    (iK3_2 : PySem.W.kitOne K (.ref E3) (.ref E2) = some false)
    (iK3_3 : PySem.W.kitOne K (.ref E3) (.ref E3) = some true)
    (iK3_4 : PySem.W.kitOne K (.ref E3) (.ref E4) = some false)
    (iK3_5 : PySem.W.kitOne K (.ref E3) (.ref E5) = some false)
    (iK3_6 : PySem.W.kitOne K (.ref E3) (.ref E6) = some false)
    (iK3_7 : PySem.W.kitOne K (.ref E3) (.ref E7) = some false)
    (iK3_8 : PySem.W.kitOne K (.ref E3) (.ref E8) = some false)
    (iK3_9 : PySem.W.kitOne K (.ref E3) (.ref E9) = some false)
    (iK3_10 : PySem.W.kitOne K (.ref E3) (.ref E10) = some false)
    (iK3_11 : PySem.W.kitOne K (.ref E3) (.ref E11) = some false)
    (iK3_12 : PySem.W.kitOne K (.ref E3) (.ref E12) = some false)
    (iK3_13 : PySem.W.kitOne K (.ref E3) (.ref E13) = some false)
    (iK3_14 : PySem.W.kitOne K (.ref E3) (.ref E14) = some false)
    (iK3_15 : PySem.W.kitOne K (.ref E3) (.ref E15) = some false)
    (iS3 : PySem.W.kitOne K (.ref E3) (.ref E16) = some true)
    (iV4 : PySem.W.kitOne K (.ref E4) (.type "ValueError") = some true)
    (iK4_0 : PySem.W.kitOne K (.ref E4) (.ref E0) = some false)
    (iK4_1 : PySem.W.kitOne K (.ref E4) (.ref E1) = some false)
    (iK4_2 : PySem.W.kitOne K (.ref E4) (.ref E2) = some false)
    (iK4_3 : PySem.W.kitOne K (.ref E4) (.ref E3) = some false)
    (iK4_4 : PySem.W.kitOne K (.ref E4) (.ref E4) = some true)
    (iK4_5 : PySem.W.kitOne K (.ref E4) (.ref E5) = some false)
    (iK4_6 : PySem.W.kitOne K (.ref E4) (.ref E6) = some false)
    (iK4_7 : PySem.W.kitOne K (.ref E4) (.ref E7) = some false)
    (iK4_8 : PySem.W.kitOne K (.ref E4) (.ref E8) = some false)
    (iK4_9 : PySem.W.kitOne K (.ref E4) (.ref E9) = some false)
    (iK4_10 : PySem.W.kitOne K (.ref E4) (.ref E10) = some false)
    (iK4_11 : PySem.W.kitOne K (.ref E4) (.ref E11) = some false)
    (iK4_12 : PySem.W.kitOne K (.ref E4) (.ref E12) = some false)
    (iK4_13 : PySem.W.kitOne K (.ref E4) (.ref E13) = some false)
    (iK4_14 : PySem.W.kitOne K (.ref E4) (.ref E14) = some false)
    (iK4_15 : PySem.W.kitOne K (.ref E4) (.ref E15) = some false)
    (iS4 : PySem.W.kitOne K (.ref E4) (.ref E16) = some true)
    (iV5 : PySem.W.kitOne K (.ref E5) (.type "ValueError") = some true)
    (iK5_0 : PySem.W.kitOne K (.ref E5) (.ref E0) = some false)
    (iK5_1 : PySem.W.kitOne K (.ref E5) (.ref E1) = some false)
    (iK5_2 : PySem.W.kitOne K (.ref E5) (.ref E2) = some false)
    (iK5_3 : PySem.W.kitOne K (.ref E5) (.ref E3) = some false)
    (iK5_4 : PySem.W.kitOne K (.ref E5) (.ref E4) = some false)
    (iK5_5 : PySem.W.kitOne K (.ref E5) (.ref E5) = some true)
    (iK5_6 : PySem.W.kitOne K (.ref E5) (.ref E6) = some false)
    (iK5_7 : PySem.W.kitOne K (.ref E5) (.ref E7) = some false)
    (iK5_8 : PySem.W.kitOne K (.ref E5) (.ref E8) = some false)
    (iK5_9 : PySem.W.kitOne K (.ref E5) (.ref E9) = some false)
    (iK5_10 : PySem.W.kitOne K (.ref E5) (.ref E10) = some false)
    (iK5_11 : PySem.W.kitOne K (.ref E5) (.ref E11) = some false)
    (iK5_12 : PySem.W.kitOne K (.ref E5) (.ref E12) = some false)
    (iK5_13 : PySem.W.kitOne K (.ref E5) (.ref E13) = some false)
    (iK5_14 : PySem.W.kitOne K (.ref E5) (.ref E14) = some false)
    (iK5_15 : PySem.W.kitOne K (.ref E5) (.ref E15) = some false)
    (iS5 : PySem.W.kitOne K (.ref E5) (.ref E16) = some true)
    (iV6 : PySem.W.kitOne K (.ref E6) (.type "ValueError") = some true)
    (iK6_0 : PySem.W.kitOne K (.ref E6) (.ref E0) = some false)
    (iK6_1 : PySem.W.kitOne K (.ref E6) (.ref E1) = some false)
    (iK6_2 : PySem.W.kitOne K (.ref E6) (.ref E2) = some false)
    (iK6_3 : PySem.W.kitOne K (.ref E6) (.ref E3) = some false)
    (iK6_4 : PySem.W.kitOne K (.ref E6) (.ref E4) = some false)
    (iK6_5 : PySem.W.kitOne K (.ref E6) (.ref E5) = some false)
    (iK6_6 : PySem.W.kitOne K (.ref E6) (.ref E6) = some true)
    (iK6_7 : PySem.W.kitOne K (.ref E6) (.ref E7) = some false)
    (iK6_8 : PySem.W.kitOne K (.ref E6) (.ref E8) = some false)
    (iK6_9 : PySem.W.kitOne K (.ref E6) (.ref E9) = some false)
    (iK6_10 : PySem.W.kitOne K (.ref E6) (.ref E10) = some false)
    (iK6_11 : PySem.W.kitOne K (.ref E6) (.ref E11) = some false)
    (iK6_12 : PySem.W.kitOne K (.ref E6) (.ref E12) = some false)
    (iK6_13 : PySem.W.kitOne K (.ref E6) (.ref E13) = some false)
    (iK6_14 : PySem.W.kitOne K (.ref E6) (.ref E14) = some false)
    (iK6_15 : PySem.W.kitOne K (.ref E6) (.ref E15) = some false)
    (iS6 : PySem.W.kitOne K (.ref E6) (.ref E16) = some true)
    (iV7 : PySem.W.kitOne K (.ref E7) (.type "ValueError") = some true)
    (iK7_0 : PySem.W.kitOne K (.ref E7) (.ref E0) = some false)
    (iK7_1 : PySem.W.kitOne K (.ref E7) (.ref E1) = some false)
    (iK7_2 : PySem.W.kitOne K (.ref E7) (.ref E2) = some false)
    (iK7_3 : PySem.W.kitOne K (.ref E7) (.ref E3) = some false)
    (iK7_4 : PySem.W.kitOne K (.ref E7) (.ref E4) = some false)
    (iK7_5 : PySem.W.kitOne K (.ref E7) (.ref E5) = some false)
    (iK7_6 : PySem.W.kitOne K (.ref E7) (.ref E6) = some false)
    (iK7_7 : PySem.W.kitOne K (.ref E7) (.ref E7) = some true)
    (iK7_8 : PySem.W.kitOne K (.ref E7) (.ref E8) = some false)
    (iK7_9 : PySem.W.kitOne K (.ref E7) (.ref E9) = some false)
    (iK7_10 : PySem.W.kitOne K (.ref E7) (.ref E10) = some false)
    (iK7_11 : PySem.W.kitOne K (.ref E7) (.ref E11) = some false)
    (iK7_12 : PySem.W.kitOne K (.ref E7) (.ref E12) = some false)
    (iK7_13 : PySem.W.kitOne K (.ref E7) (.ref E13) = some false)
    (iK7_14 : PySem.W.kitOne K (.ref E7) (.ref E14) = some false)
    (iK7_15 : PySem.W.kitOne K (.ref E7) (.ref E15) = some false)
    (iS7 : PySem.W.kitOne K (.ref E7) (.ref E16) = some true)
    (iV8 : PySem.W.kitOne K (.ref E8) (.type "ValueError") = some true)
    (iK8_0 : PySem.W.kitOne K (.ref E8) (.ref E0) = some false)
    (iK8_1 : PySem.W.kitOne K (.ref E8) (.ref E1) = some false)
    (iK8_2 : PySem.W.kitOne K (.ref E8) (.ref E2) = some false)
    (iK8_3 : PySem.W.kitOne K (.ref E8) (.ref E3) = some false)
    (iK8_4 : PySem.W.kitOne K (.ref E8) (.ref E4) = some false)
    (iK8_5 : PySem.W.kitOne K (.ref E8) (.ref E5) = some false)
    (iK8_6 : PySem.W.kitOne K (.ref E8) (.ref E6) = some false)
    (iK8_7 : PySem.W.kitOne K (.ref E8) (.ref E7) = some false)
    (iK8_8 : PySem.W.kitOne K (.ref E8) (.ref E8) = some true)
    (iK8_9 : PySem.W.kitOne K (.ref E8) (.ref E9) = some false)
    (iK8_10 : PySem.W.kitOne K (.ref E8) (.ref E10) = some false)
    (iK8_11 : PySem.W.kitOne K (.ref E8) (.ref E11) = some false)
    (iK8_12 : PySem.W.kitOne K (.ref E8) (.ref E12) = some false)
    (iK8_13 : PySem.W.kitOne K (.ref E8) (.ref E13) = some false)
    (iK8_14 : PySem.W.kitOne K (.ref E8) (.ref E14) = some false)
    (iK8_15 : PySem.W.kitOne K (.ref E8) (.ref E15) = some false)
    (iS8 : PySem.W.kitOne K (.ref E8) (.ref E16) = some true)
    (iS9 : PySem.W.kitOne K (.ref E9) (.ref E16) = some true)
    (iV10 : PySem.W.kitOne K (.ref E10) (.type "ValueError") = some true)
    (iK10_0 : PySem.W.kitOne K (.ref E10) (.ref E0) = some false)
    (iK10_1 : PySem.W.kitOne K (.ref E10) (.ref E1) = some false)
    (iK10_2 : PySem.W.kitOne K (.ref E10) (.ref E2) = some false)
    (iK10_3 : PySem.W.kitOne K (.ref E10) (.ref E3) = some false)
    (iK10_4 : PySem.W.kitOne K (.ref E10) (.ref E4) = some false)
    (iK10_5 : PySem.W.kitOne K (.ref E10) (.ref E5) = some false)
    (iK10_6 : PySem.W.kitOne K (.ref E10) (.ref E6) = some false)
    (iK10_7 : PySem.W.kitOne K (.ref E10) (.ref E7) = some false)
    (iK10_8 : PySem.W.kitOne K (.ref E10) (.ref E8) = some false)
    (iK10_9 : PySem.W.kitOne K (.ref E10) (.ref E9) = some false)
    (iK10_10 : PySem.W.kitOne K (.ref E10) (.ref E10) = some true)
    (iK10_11 : PySem.W.kitOne K (.ref E10) (.ref E11) = some false)
    (iK10_12 : PySem.W.kitOne K (.ref E10) (.ref E12) = some false)
    (iK10_13 : PySem.W.kitOne K (.ref E10) (.ref E13) = some false)
    (iK10_14 : PySem.W.kitOne K (.ref E10) (.ref E14) = some false)
    (iK10_15 : PySem.W.kitOne K (.ref E10) (.ref E15) = some false)
    (iS10 : PySem.W.kitOne K (.ref E10) (.ref E16) = some true)
    (iV11 : PySem.W.kitOne K (.ref E11) (.type "ValueError") = some true)
    (iK11_0 : PySem.W.kitOne K (.ref E11) (.ref E0) = some false)
    (iK11_1 : PySem.W.kitOne K (.ref E11) (.ref E1) = some false)
    (iK11_2 : PySem.W.kitOne K (.ref E11) (.ref E2) = some false)
    (iK11_3 : PySem.W.kitOne K (.ref E11) (.ref E3) = some false)
    (iK11_4 : PySem.W.kitOne K (.ref E11) (.ref E4) = some false)
    (iK11_5 : PySem.W.kitOne K (.ref E11) (.ref E5) = some false)
    (iK11_6 : PySem.W.kitOne K (.ref E11) (.ref E6) = some false)
    (iK11_7 : PySem.W.kitOne K (.ref E11) (.ref E7) = some false)
    (iK11_8 : PySem.W.kitOne K (.ref E11) (.ref E8) = some false)
    (iK11_9 : PySem.W.kitOne K (.ref E11) (.ref E9) = some false)
    (iK11_10 : PySem.W.kitOne K (.ref E11) (.ref E10) = some false)
    (iK11_11 : PySem.W.kitOne K (.ref E11) (.ref E11) = some true)
    (iK11_12 : PySem.W.kitOne K (.ref E11) (.ref E12) = some false)
    (iK11_13 : PySem.W.kitOne K (.ref E11) (.ref E13) = some false)
    (iK11_14 : PySem.W.kitOne K (.ref E11) (.ref E14) = some false)
    (iK11_15 : PySem.W.kitOne K (.ref E11) (.ref E15) = some false)
    (iS11 : PySem.W.kitOne K (.ref E11) (.ref E16) = some true)
    (iV12 : PySem.W.kitOne K (.ref E12) (.type "ValueError") = some true)
    (iK12_0 : PySem.W.kitOne K (.ref E12) (.ref E0) = some false)
    (iK12_1 : PySem.W.kitOne K (.ref E12) (.ref E1) = some false)
    (iK12_2 : PySem.W.kitOne K (.ref E12) (.ref E2) = some false)
    (iK12_3 : PySem.W.kitOne K (.ref E12) (.ref E3) = some false)
    (iK12_4 : PySem.W.kitOne K (.ref E12) (.ref E4) = some false)
    (iK12_5 : PySem.W.kitOne K (.ref E12) (.ref E5) = some false)
    (iK12_6 : PySem.W.kitOne K (.ref E12) (.ref E6) = some false)
    (iK12_7 : PySem.W.kitOne K (.ref E12) (.ref E7) = some false)
    (iK12_8 : PySem.W.kitOne K (.ref E12) (.ref E8) = some false)
    (iK12_9 : PySem.W.kitOne K (.ref E12) (.ref E9) = some false)
    (iK12_10 : PySem.W.kitOne K (.ref E12) (.ref E10) = some false)
    (iK12_11 : PySem.W.kitOne K (.ref E12) (.ref E11) = some false)
    (iK12_12 : PySem.W.kitOne K (.ref E12) (.ref E12) = some true)
    (iK12_13 : PySem.W.kitOne K (.ref E12) (.ref E13) = some false)
    (iK12_14 : PySem.W.kitOne K (.ref E12) (.ref E14) = some false)
    (iK12_15 : PySem.W.kitOne K (.ref E12) (.ref E15) = some false)
    (iS12 : PySem.W.kitOne K (.ref E12) (.ref E16) = some true)
    (iV13 : PySem.W.kitOne K (.ref E13) (.type "ValueError") = some true)
    (iK13_0 : PySem.W.kitOne K (.ref E13) (.ref E0) = some false)
    (iK13_1 : PySem.W.kitOne K (.ref E13) (.ref E1) = some false)
    (iK13_2 : PySem.W.kitOne K (.ref E13) (.ref E2) = some false)
    (iK13_3 : PySem.W.kitOne K (.ref E13) (.ref E3) = some false)
    (iK13_4 : PySem.W.kitOne K (.ref E13) (.ref E4) = some false)
    (iK13_5 : PySem.W.kitOne K (.ref E13) (.ref E5) = some false)
    (iK13_6 : PySem.W.kitOne K (.ref E13) (.ref E6) = some false)
    (iK13_7 : PySem.W.kitOne K (.ref E13) (.ref E7) = some false)
    (iK13_8 : PySem.W.kitOne K (.ref E13) (.ref E8) = some false)
    (iK13_9 : PySem.W.kitOne K (.ref E13) (.ref E9) = some false)
    (iK13_10 : PySem.W.kitOne K (.ref E13) (.ref E10) = some false)
    (iK13_11 : PySem.W.kitOne K (.ref E13) (.ref E11) = some false)
    (iK13_12 : PySem.W.kitOne K (.ref E13) (.ref E12) = some false)
    (iK13_13 : PySem.W.kitOne K (.ref E13) (.ref E13) = some true)
    (iK13_14 : PySem.W.kitOne K (.ref E13) (.ref E14) = some false)
    (iK13_15 : PySem.W.kitOne K (.ref E13) (.ref E15) = some false)
    (iS13 : PySem.W.kitOne K (.ref E13) (.ref E16) = some true)
    (iV14 : PySem.W.kitOne K (.ref E14) (.type "ValueError") = some true)
    (iK14_0 : PySem.W.kitOne K (.ref E14) (.ref E0) = some false)
    (iK14_1 : PySem.W.kitOne K (.ref E14) (.ref E1) = some false)
    (iK14_2 : PySem.W.kitOne K (.ref E14) (.ref E2) = some false)
    (iK14_3 : PySem.W.kitOne K (.ref E14) (.ref E3) = some false)
    (iK14_4 : PySem.W.kitOne K (.ref E14) (.ref E4) = some false)
    (iK14_5 : PySem.W.kitOne K (.ref E14) (.ref E5) = some false)
    (iK14_6 : PySem.W.kitOne K (.ref E14) (.ref E6) = some false)
    (iK14_7 : PySem.W.kitOne K (.ref E14) (.ref E7) = some false)
    (iK14_8 : PySem.W.kitOne K (.ref E14) (.ref E8) = some false)
    (iK14_9 : PySem.W.kitOne K (.ref E14) (.ref E9) = some false)
    (iK14_10 : PySem.W.kitOne K (.ref E14) (.ref E10) = some false)
    (iK14_11 : PySem.W.kitOne K (.ref E14) (.ref E11) = some false)
    (iK14_12 : PySem.W.kitOne K (.ref E14) (.ref E12) = some false)
    (iK14_13 : PySem.W.kitOne K (.ref E14) (.ref E13) = some false)
    (iK14_14 : PySem.W.kitOne K (.ref E14) (.ref E14) = some true)
    (iK14_15 : PySem.W.kitOne K (.ref E14) (.ref E15) = some false)
    (iS14 : PySem.W.kitOne K (.ref E14) (.ref E16) = some true)
    (bT15 : PySem.W.subIn K (.ref E15) (.type "BaseException") = some true)
    (tT15 : PySem.W.typeIn K (.ref E15) = some (.type "type"))
    (kT15 : PySem.W.keepIn K (.ref E15) = true)
    (gT15 : PySem.W.findIn K (.ref E15) "__getattribute__" = some (some (.builtin "BaseException.__getattribute__")))
    (hT15 : PySem.W.findIn K (.ref E15) "__getattr__" = some none)
    (dT15 : PySem.W.hasDictIn K E15 = true)
    (cT15 : PySem.W.findIn K (.ref E15) "__class__" = some (some (.builtin "object.__class__")))
    (oT15 : PySem.W.mroIn K E15 (.type "object") = some true)
    (iV15 : PySem.W.kitOne K (.ref E15) (.type "ValueError") = some true)
    (iK15_0 : PySem.W.kitOne K (.ref E15) (.ref E0) = some false)
    (iK15_1 : PySem.W.kitOne K (.ref E15) (.ref E1) = some false)
    (iK15_2 : PySem.W.kitOne K (.ref E15) (.ref E2) = some false)
    (iK15_3 : PySem.W.kitOne K (.ref E15) (.ref E3) = some false)
    (iK15_4 : PySem.W.kitOne K (.ref E15) (.ref E4) = some false)
    (iK15_5 : PySem.W.kitOne K (.ref E15) (.ref E5) = some false)
    (iK15_6 : PySem.W.kitOne K (.ref E15) (.ref E6) = some false)
    (iK15_7 : PySem.W.kitOne K (.ref E15) (.ref E7) = some false)
    (iK15_8 : PySem.W.kitOne K (.ref E15) (.ref E8) = some false)
    (iK15_9 : PySem.W.kitOne K (.ref E15) (.ref E9) = some false)
    (iK15_10 : PySem.W.kitOne K (.ref E15) (.ref E10) = some false)
    (iK15_11 : PySem.W.kitOne K (.ref E15) (.ref E11) = some false)
    (iK15_12 : PySem.W.kitOne K (.ref E15) (.ref E12) = some false)
    (iK15_13 : PySem.W.kitOne K (.ref E15) (.ref E13) = some false)
    (iK15_14 : PySem.W.kitOne K (.ref E15) (.ref E14) = some false)
    (iK15_15 : PySem.W.kitOne K (.ref E15) (.ref E15) = some true)
    (iS15 : PySem.W.kitOne K (.ref E15) (.ref E16) = some true)
    {nmW qW : Str} {NW : Addr} {bsW : List Value} {snW : List Str} {subW : List Value} {abW : Bool} {colW : Option Bool} {ddW : Option Addr} {w0 w1 w2 w3 w5 : Option Value}
    (wL : K.lookup E15 = some (excClassObj nmW qW E15 NW bsW [.ref E16, .type "ValueError", .type "Exception", .type "BaseException", .type "object"] true snW subW abW colW ddW w0 w1 w2 w3 w5 "ValueError.__new__"))
    (wS : PySem.W.findIn K (.ref E15) "__setattr__" = some (some (.builtin "object.__setattr__")))
    {fW : Addr} {odW anW : Option Addr} {slW : Array (Option Value)} {ocW kVW dcW pmW cdW ctW : Value}
    (wI : PySem.W.findIn K (.ref E15) "__init__" = some (some (.ref fW)))
    (wT : PySem.W.typeIn K (.ref fW) = some (.type "function"))
    (wF : K.lookup fW = some ⟨ocW, odW, .func (PySem.W.fnOf "__init__" "InvalidWords.__init__" (defArgs s_init) (defBody s_init) (defScope s_init) .none kVW dcW pmW anW cdW ctW), slW⟩)
    (wC : PySem.W.codeIn K cdW "InvalidWords.__init__" = true)
    (wK : PySem.W.keepIn K (.ref fW) = true)
    (wP : PySem.W.findIn K (.ref E15) "place" = some none)
    (wG : PySem.W.specialIn K (.ref E16) "__getattribute__" = some (some (.builtin "type.__getattribute__")))
    (wR : PySem.W.readsIn (mc := .type "type") K E16 = true)
    (wV : PySem.W.findCls K (.ref E16) (.type "type") "__init__" = some (.val (.builtin "ValueError.__init__")))
    (iN0 : PySem.W.kitOne K (.type "NoneType") (.ref E0) = some false)
    (iN1 : PySem.W.kitOne K (.type "NoneType") (.ref E1) = some false)
    (iN2 : PySem.W.kitOne K (.type "NoneType") (.ref E2) = some false)
    (iN3 : PySem.W.kitOne K (.type "NoneType") (.ref E3) = some false)
    (iN4 : PySem.W.kitOne K (.type "NoneType") (.ref E4) = some false)
    (iN5 : PySem.W.kitOne K (.type "NoneType") (.ref E5) = some false)
    (iN6 : PySem.W.kitOne K (.type "NoneType") (.ref E6) = some false)
    (iN7 : PySem.W.kitOne K (.type "NoneType") (.ref E7) = some false)
    (iN8 : PySem.W.kitOne K (.type "NoneType") (.ref E8) = some false)
    (iN9 : PySem.W.kitOne K (.type "NoneType") (.ref E9) = some false)
    (iN10 : PySem.W.kitOne K (.type "NoneType") (.ref E10) = some false)
    (iN11 : PySem.W.kitOne K (.type "NoneType") (.ref E11) = some false)
    (iN12 : PySem.W.kitOne K (.type "NoneType") (.ref E12) = some false)
    (iN13 : PySem.W.kitOne K (.type "NoneType") (.ref E13) = some false)
    (iN14 : PySem.W.kitOne K (.type "NoneType") (.ref E14) = some false)
    (iN15 : PySem.W.kitOne K (.type "NoneType") (.ref E15) = some false)
    (z0 : PySem.W.nsIn K mainGlobals "int" = some none)
    (z1 : PySem.W.nsIn K mainGlobals "len" = some none)
    (z2 : PySem.W.nsIn K mainGlobals "max" = some none)
    (z3 : PySem.W.nsIn K mainGlobals "min" = some none)
    (z4 : PySem.W.nsIn K mainGlobals "range" = some none)
    (z5 : PySem.W.nsIn K mainGlobals "type" = some none)
    (z6 : PySem.W.nsIn K mainGlobals "tuple" = some none)
    (z7 : PySem.W.nsIn K mainGlobals "list" = some none)
    (z8 : PySem.W.nsIn K mainGlobals "str" = some none)
    (z9 : PySem.W.nsIn K mainGlobals "bool" = some none)
    (z10 : PySem.W.nsIn K mainGlobals "all" = some none)
    (z11 : PySem.W.nsIn K mainGlobals "any" = some none)
    (z12 : PySem.W.nsIn K mainGlobals "zip" = some none)
    (z13 : PySem.W.nsIn K mainGlobals "sorted" = some none)
    (z14 : PySem.W.nsIn K mainGlobals "set" = some none)
    (z15 : PySem.W.nsIn K mainGlobals "isinstance" = some none)
    (z16 : PySem.W.nsIn K mainGlobals "ValueError" = some none)
    (z17 : PySem.W.nsIn K mainGlobals "repr" = some none)
    : ∃ fd : FuncData, (∀ (s : Shared) (v : Value), BindsTo s fd ⟨[v], []⟩ [("script", v)]) ∧ ∀ base : Heap, K.In base → base.Ns mainGlobals mg → FnG l.prog w K mg base 10 fa fd ["script"] (spLaw K) := by
  have e := hfa.symm.trans (PySem.W.mg_of X G a44)
  cases e
  have F_is_text := fun_mk (st := s_is_text) l0 c0 k0
  have D_is_text : Df K mg "is_text" s_is_text ["value"] f0 _ := ⟨F_is_text, PySem.W.mg_of X G a0, F_is_text.binds (ps := ["value"]) fun _ _ _ _ _ _ us hl => match us, hl with | [_], _ => rfl⟩
  have F_is_range := fun_mk (st := s_is_range) l1 c1 k1
  have D_is_range : Df K mg "is_range" s_is_range ["value"] f1 _ := ⟨F_is_range, PySem.W.mg_of X G a1, F_is_range.binds (ps := ["value"]) fun _ _ _ _ _ _ us hl => match us, hl with | [_], _ => rfl⟩
  have F_is_span := fun_mk (st := s_is_span) l2 c2 k2
  have D_is_span : Df K mg "is_span" s_is_span ["value"] f2 _ := ⟨F_is_span, PySem.W.mg_of X G a2, F_is_span.binds (ps := ["value"]) fun _ _ _ _ _ _ us hl => match us, hl with | [_], _ => rfl⟩
  have F_reaches := fun_mk (st := s_reaches) l3 c3 k3
  have D_reaches : Df K mg "reaches" s_reaches ["end", "first"] f3 _ := ⟨F_reaches, PySem.W.mg_of X G a3, F_reaches.binds (ps := ["end", "first"]) fun _ _ _ _ _ _ us hl => match us, hl with | [_, _], _ => rfl⟩
  have F_check_text := fun_mk (st := s_check_text) l4 c4 k4
  have D_check_text : Df K mg "check_text" s_check_text ["text"] f4 _ := ⟨F_check_text, PySem.W.mg_of X G a4, F_check_text.binds (ps := ["text"]) fun _ _ _ _ _ _ us hl => match us, hl with | [_], _ => rfl⟩
  have F_check_span := fun_mk (st := s_check_span) l5 c5 k5
  have D_check_span : Df K mg "check_span" s_check_span ["span"] f5 _ := ⟨F_check_span, PySem.W.mg_of X G a5, F_check_span.binds (ps := ["span"]) fun _ _ _ _ _ _ us hl => match us, hl with | [_], _ => rfl⟩
  have F_check_ranges := fun_mk (st := s_check_ranges) l6 c6 k6
  have D_check_ranges : Df K mg "check_ranges" s_check_ranges ["ranges"] f6 _ := ⟨F_check_ranges, PySem.W.mg_of X G a6, F_check_ranges.binds (ps := ["ranges"]) fun _ _ _ _ _ _ us hl => match us, hl with | [_], _ => rfl⟩
  have F_check_most := fun_mk (st := s_check_most) l7 c7 k7
  have D_check_most : Df K mg "check_most" s_check_most ["most"] f7 _ := ⟨F_check_most, PySem.W.mg_of X G a7, F_check_most.binds (ps := ["most"]) fun _ _ _ _ _ _ us hl => match us, hl with | [_], _ => rfl⟩
  have F_behind := fun_mk (st := s_behind) l8 c8 k8
  have D_behind : Df K mg "behind" s_behind ["text"] f8 _ := ⟨F_behind, PySem.W.mg_of X G a8, F_behind.binds (ps := ["text"]) fun _ _ _ _ _ _ us hl => match us, hl with | [_], _ => rfl⟩
  have F_later_end := fun_mk (st := s_later_end) l9 c9 k9
  have D_later_end : Df K mg "later_end" s_later_end ["end", "other_end"] f9 _ := ⟨F_later_end, PySem.W.mg_of X G a9, F_later_end.binds (ps := ["end", "other_end"]) fun _ _ _ _ _ _ us hl => match us, hl with | [_, _], _ => rfl⟩
  have F_ascending := fun_mk (st := s_ascending) l10 c10 k10
  have D_ascending : Df K mg "ascending" s_ascending ["texts"] f10 _ := ⟨F_ascending, PySem.W.mg_of X G a10, F_ascending.binds (ps := ["texts"]) fun _ _ _ _ _ _ us hl => match us, hl with | [_], _ => rfl⟩
  have F_span_of := fun_mk (st := s_span_of) l11 c11 k11
  have D_span_of : Df K mg "span_of" s_span_of ["ranges"] f11 _ := ⟨F_span_of, PySem.W.mg_of X G a11, F_span_of.binds (ps := ["ranges"]) fun _ _ _ _ _ _ us hl => match us, hl with | [_], _ => rfl⟩
  have F_has := fun_mk (st := s_has) l12 c12 k12
  have D_has : Df K mg "has" s_has ["span", "text"] f12 _ := ⟨F_has, PySem.W.mg_of X G a12, F_has.binds (ps := ["span", "text"]) fun _ _ _ _ _ _ us hl => match us, hl with | [_, _], _ => rfl⟩
  have F_opposite := fun_mk (st := s_opposite) l13 c13 k13
  have D_opposite : Df K mg "opposite" s_opposite ["span"] f13 _ := ⟨F_opposite, PySem.W.mg_of X G a13, F_opposite.binds (ps := ["span"]) fun _ _ _ _ _ _ us hl => match us, hl with | [_], _ => rfl⟩
  have F_joined := fun_mk (st := s_joined) l14 c14 k14
  have D_joined : Df K mg "joined" s_joined ["span", "other_span"] f14 _ := ⟨F_joined, PySem.W.mg_of X G a14, F_joined.binds (ps := ["span", "other_span"]) fun _ _ _ _ _ _ us hl => match us, hl with | [_, _], _ => rfl⟩
  have F_shared := fun_mk (st := s_shared) l15 c15 k15
  have D_shared : Df K mg "shared" s_shared ["span", "other_span"] f15 _ := ⟨F_shared, PySem.W.mg_of X G a15, F_shared.binds (ps := ["span", "other_span"]) fun _ _ _ _ _ _ us hl => match us, hl with | [_, _], _ => rfl⟩
  have F_least_text := fun_mk (st := s_least_text) l16 c16 k16
  have D_least_text : Df K mg "least_text" s_least_text ["span"] f16 _ := ⟨F_least_text, PySem.W.mg_of X G a16, F_least_text.binds (ps := ["span"]) fun _ _ _ _ _ _ us hl => match us, hl with | [_], _ => rfl⟩
  have F_texts_in := fun_mk (st := s_texts_in) l17 c17 k17
  have D_texts_in : Df K mg "texts_in" s_texts_in ["span", "most"] f17 _ := ⟨F_texts_in, PySem.W.mg_of X G a17, F_texts_in.binds (ps := ["span", "most"]) fun _ _ _ _ _ _ us hl => match us, hl with | [_, _], _ => rfl⟩
  have F_is_finite := fun_mk (st := s_is_finite) l18 c18 k18
  have D_is_finite : Df K mg "is_finite" s_is_finite ["span"] f18 _ := ⟨F_is_finite, PySem.W.mg_of X G a18, F_is_finite.binds (ps := ["span"]) fun _ _ _ _ _ _ us hl => match us, hl with | [_], _ => rfl⟩
  have F_ends_soon := fun_mk (st := s_ends_soon) l19 c19 k19
  have D_ends_soon : Df K mg "ends_soon" s_ends_soon ["first", "end"] f19 _ := ⟨F_ends_soon, PySem.W.mg_of X G a19, F_ends_soon.binds (ps := ["first", "end"]) fun _ _ _ _ _ _ us hl => match us, hl with | [_, _], _ => rfl⟩
  have F__law_bag := fun_mk (st := s__law_bag) l20 c20 k20
  have D__law_bag : Df K mg "_law_bag" s__law_bag ["cell"] f20 _ := ⟨F__law_bag, PySem.W.mg_of X G a20, F__law_bag.binds (ps := ["cell"]) fun _ _ _ _ _ _ us hl => match us, hl with | [_], _ => rfl⟩
  have F__law_draw := fun_mk (st := s__law_draw) l21 c21 k21
  have D__law_draw : Df K mg "_law_draw" s__law_draw ["bag", "upto"] f21 _ := ⟨F__law_draw, PySem.W.mg_of X G a21, F__law_draw.binds (ps := ["bag", "upto"]) fun _ _ _ _ _ _ us hl => match us, hl with | [_, _], _ => rfl⟩
  have F__law_text := fun_mk (st := s__law_text) l22 c22 k22
  have D__law_text : Df K mg "_law_text" s__law_text ["bag"] f22 _ := ⟨F__law_text, PySem.W.mg_of X G a22, F__law_text.binds (ps := ["bag"]) fun _ _ _ _ _ _ us hl => match us, hl with | [_], _ => rfl⟩
  have F__law_near := fun_mk (st := s__law_near) l23 c23 k23
  have D__law_near : Df K mg "_law_near" s__law_near ["bag", "word"] f23 _ := ⟨F__law_near, PySem.W.mg_of X G a23, F__law_near.binds (ps := ["bag", "word"]) fun _ _ _ _ _ _ us hl => match us, hl with | [_, _], _ => rfl⟩
  have F__law_past := fun_mk (st := s__law_past) l24 c24 k24
  have D__law_past : Df K mg "_law_past" s__law_past ["word"] f24 _ := ⟨F__law_past, PySem.W.mg_of X G a24, F__law_past.binds (ps := ["word"]) fun _ _ _ _ _ _ us hl => match us, hl with | [_], _ => rfl⟩
  have F__law_some := fun_mk (st := s__law_some) l25 c25 k25
  have D__law_some : Df K mg "_law_some" s__law_some ["bag", "pool"] f25 _ := ⟨F__law_some, PySem.W.mg_of X G a25, F__law_some.binds (ps := ["bag", "pool"]) fun _ _ _ _ _ _ us hl => match us, hl with | [_, _], _ => rfl⟩
  have F__law_pair := fun_mk (st := s__law_pair) l26 c26 k26
  have D__law_pair : Df K mg "_law_pair" s__law_pair ["bag", "pool"] f26 _ := ⟨F__law_pair, PySem.W.mg_of X G a26, F__law_pair.binds (ps := ["bag", "pool"]) fun _ _ _ _ _ _ us hl => match us, hl with | [_, _], _ => rfl⟩
  have F__law_in := fun_mk (st := s__law_in) l27 c27 k27
  have D__law_in : Df K mg "_law_in" s__law_in ["pairs", "word"] f27 _ := ⟨F__law_in, PySem.W.mg_of X G a27, F__law_in.binds (ps := ["pairs", "word"]) fun _ _ _ _ _ _ us hl => match us, hl with | [_, _], _ => rfl⟩
  have F__law_points := fun_mk (st := s__law_points) l28 c28 k28
  have D__law_points : Df K mg "_law_points" s__law_points ["pairs"] f28 _ := ⟨F__law_points, PySem.W.mg_of X G a28, F__law_points.binds (ps := ["pairs"]) fun _ _ _ _ _ _ us hl => match us, hl with | [_], _ => rfl⟩
  have F__law_pieces := fun_mk (st := s__law_pieces) l29 c29 k29
  have D__law_pieces : Df K mg "_law_pieces" s__law_pieces ["points", "marks"] f29 _ := ⟨F__law_pieces, PySem.W.mg_of X G a29, F__law_pieces.binds (ps := ["points", "marks"]) fun _ _ _ _ _ _ us hl => match us, hl with | [_, _], _ => rfl⟩
  have F__law_due := fun_mk (st := s__law_due) l30 c30 k30
  have D__law_due : Df K mg "_law_due" s__law_due ["pairs"] f30 _ := ⟨F__law_due, PySem.W.mg_of X G a30, F__law_due.binds (ps := ["pairs"]) fun _ _ _ _ _ _ us hl => match us, hl with | [_], _ => rfl⟩
  have F__law_span := fun_mk (st := s__law_span) l31 c31 k31
  have D__law_span : Df K mg "_law_span" s__law_span ["bag", "pool", "upto"] f31 _ := ⟨F__law_span, PySem.W.mg_of X G a31, F__law_span.binds (ps := ["bag", "pool", "upto"]) fun _ _ _ _ _ _ us hl => match us, hl with | [_, _, _], _ => rfl⟩
  have F__law_odd_text := fun_mk (st := s__law_odd_text) l32 c32 k32
  have D__law_odd_text : Df K mg "_law_odd_text" s__law_odd_text ["bag", "word"] f32 _ := ⟨F__law_odd_text, PySem.W.mg_of X G a32, F__law_odd_text.binds (ps := ["bag", "word"]) fun _ _ _ _ _ _ us hl => match us, hl with | [_, _], _ => rfl⟩
  have F__law_odd_pair := fun_mk (st := s__law_odd_pair) l33 c33 k33
  have D__law_odd_pair : Df K mg "_law_odd_pair" s__law_odd_pair ["bag", "word"] f33 _ := ⟨F__law_odd_pair, PySem.W.mg_of X G a33, F__law_odd_pair.binds (ps := ["bag", "word"]) fun _ _ _ _ _ _ us hl => match us, hl with | [_, _], _ => rfl⟩
  have F__law_bent_span := fun_mk (st := s__law_bent_span) l34 c34 k34
  have D__law_bent_span : Df K mg "_law_bent_span" s__law_bent_span ["bag", "whole"] f34 _ := ⟨F__law_bent_span, PySem.W.mg_of X G a34, F__law_bent_span.binds (ps := ["bag", "whole"]) fun _ _ _ _ _ _ us hl => match us, hl with | [_, _], _ => rfl⟩
  have F__law_odd_span := fun_mk (st := s__law_odd_span) l35 c35 k35
  have D__law_odd_span : Df K mg "_law_odd_span" s__law_odd_span ["bag", "whole", "word"] f35 _ := ⟨F__law_odd_span, PySem.W.mg_of X G a35, F__law_odd_span.binds (ps := ["bag", "whole", "word"]) fun _ _ _ _ _ _ us hl => match us, hl with | [_, _, _], _ => rfl⟩
  have F__law_names := fun_mk (st := s__law_names) l36 c36 k36
  have D__law_names : Df K mg "_law_names" s__law_names ["caught"] f36 _ := ⟨F__law_names, PySem.W.mg_of X G a36, F__law_names.binds (ps := ["caught"]) fun _ _ _ _ _ _ us hl => match us, hl with | [_], _ => rfl⟩
  have F__law_odd_pairs := fun_mk (st := s__law_odd_pairs) l37 c37 k37
  have D__law_odd_pairs : Df K mg "_law_odd_pairs" s__law_odd_pairs ["bag", "pairs", "word"] f37 _ := ⟨F__law_odd_pairs, PySem.W.mg_of X G a37, F__law_odd_pairs.binds (ps := ["bag", "pairs", "word"]) fun _ _ _ _ _ _ us hl => match us, hl with | [_, _, _], _ => rfl⟩
  have F__law_odd_number := fun_mk (st := s__law_odd_number) l38 c38 k38
  have D__law_odd_number : Df K mg "_law_odd_number" s__law_odd_number ["bag"] f38 _ := ⟨F__law_odd_number, PySem.W.mg_of X G a38, F__law_odd_number.binds (ps := ["bag"]) fun _ _ _ _ _ _ us hl => match us, hl with | [_], _ => rfl⟩
  have F__law_one := fun_mk (st := s__law_one) l39 c39 k39
  have D__law_one : Df K mg "_law_one" s__law_one ["door", "by_name", "mine"] f39 _ := ⟨F__law_one, PySem.W.mg_of X G a39, F__law_one.binds (ps := ["door", "by_name", "mine"]) fun _ _ _ _ _ _ us hl => match us, hl with | [_, _, _], _ => rfl⟩
  have F__law_two := fun_mk (st := s__law_two) l40 c40 k40
  have D__law_two : Df K mg "_law_two" s__law_two ["door", "by_name", "mine", "yours"] f40 _ := ⟨F__law_two, PySem.W.mg_of X G a40, F__law_two.binds (ps := ["door", "by_name", "mine", "yours"]) fun _ _ _ _ _ _ us hl => match us, hl with | [_, _, _, _], _ => rfl⟩
  have F__law_told := fun_mk (st := s__law_told) l41 c41 k41
  have D__law_told : Df K mg "_law_told" s__law_told ["door", "by_name", "mine", "yours"] f41 _ := ⟨F__law_told, PySem.W.mg_of X G a41, F__law_told.binds (ps := ["door", "by_name", "mine", "yours"]) fun _ _ _ _ _ _ us hl => match us, hl with | [_, _, _, _], _ => rfl⟩
  have F__law_made := fun_mk (st := s__law_made) l42 c42 k42
  have D__law_made : Df K mg "_law_made" s__law_made ["word"] f42 _ := ⟨F__law_made, PySem.W.mg_of X G a42, F__law_made.binds (ps := ["word"]) fun _ _ _ _ _ _ us hl => match us, hl with | [_], _ => rfl⟩
  have F__law_right := fun_mk (st := s__law_right) l43 c43 k43
  have D__law_right : Df K mg "_law_right" s__law_right ["bag"] f43 _ := ⟨F__law_right, PySem.W.mg_of X G a43, F__law_right.binds (ps := ["bag"]) fun _ _ _ _ _ _ us hl => match us, hl with | [_], _ => rfl⟩
  have F_law := fun_mk (st := s_law) l44 c44 k44
  have D_law : Df K mg "law" s_law ["script"] fa _ := ⟨F_law, PySem.W.mg_of X G a44, F_law.binds (ps := ["script"]) fun _ _ _ _ _ _ us hl => match us, hl with | [_], _ => rfl⟩
  have T : Nm mg := ⟨PySem.W.mg_none_of X G z0, PySem.W.mg_none_of X G z1, PySem.W.mg_none_of X G z2, PySem.W.mg_none_of X G z3, PySem.W.mg_none_of X G z4, PySem.W.mg_none_of X G z5, PySem.W.mg_none_of X G z6, PySem.W.mg_none_of X G z7, PySem.W.mg_none_of X G z8, PySem.W.mg_none_of X G z9, PySem.W.mg_none_of X G z10, PySem.W.mg_none_of X G z11, PySem.W.mg_none_of X G z12, PySem.W.mg_none_of X G z13, PySem.W.mg_none_of X G z14, PySem.W.mg_none_of X G z15, PySem.W.mg_none_of X G z16, PySem.W.mg_none_of X G z17⟩
  obtain ⟨TX, KT, KN, SK, IW⟩ : ∃ TX : Er K mg, Kits K TX ∧ KitN K TX ∧ Skp K TX ∧ ∃ (fI : Addr) (fdI : FuncData), Iw K TX fI fdI := ⟨⟨E0, PySem.W.mg_of X G aE0, E1, PySem.W.mg_of X G aE1, E2, PySem.W.mg_of X G aE2, E3, PySem.W.mg_of X G aE3, E4, PySem.W.mg_of X G aE4, E5, PySem.W.mg_of X G aE5, E6, PySem.W.mg_of X G aE6, E7, PySem.W.mg_of X G aE7, E8, PySem.W.mg_of X G aE8, E9, PySem.W.mg_of X G aE9, E10, PySem.W.mg_of X G aE10, E11, PySem.W.mg_of X G aE11, E12, PySem.W.mg_of X G aE12, E13, PySem.W.mg_of X G aE13, E14, PySem.W.mg_of X G aE14, E15, PySem.W.mg_of X G aE15, E16, PySem.W.mg_of X G aE16, ⟨⟨PySem.W.mg_of X G aE0, xT0, kT0, bT0, tT0⟩, ⟨⟨gT0, hT0, bT0, dT0, cT0, eon, eot, oT0⟩, isstr0, isint0, isbool0, istuple0, islist0⟩⟩, ⟨⟨PySem.W.mg_of X G aE1, xT1, kT1, bT1, tT1⟩, ⟨⟨gT1, hT1, bT1, dT1, cT1, eon, eot, oT1⟩, isstr1, isint1, isbool1, istuple1, islist1⟩⟩, ⟨⟨PySem.W.mg_of X G aE2, xT2, kT2, bT2, tT2⟩, ⟨⟨gT2, hT2, bT2, dT2, cT2, eon, eot, oT2⟩, isstr2, isint2, isbool2, istuple2, islist2⟩⟩, ⟨⟨PySem.W.mg_of X G aE3, xT3, kT3, bT3, tT3⟩, ⟨⟨gT3, hT3, bT3, dT3, cT3, eon, eot, oT3⟩, isstr3, isint3, isbool3, istuple3, islist3⟩⟩, ⟨⟨PySem.W.mg_of X G aE4, xT4, kT4, bT4, tT4⟩, ⟨⟨gT4, hT4, bT4, dT4, cT4, eon, eot, oT4⟩, isstr4, isint4, isbool4, istuple4, islist4⟩⟩, ⟨⟨PySem.W.mg_of X G aE5, xT5, kT5, bT5, tT5⟩, ⟨⟨gT5, hT5, bT5, dT5, cT5, eon, eot, oT5⟩, isstr5, isint5, isbool5, istuple5, islist5⟩⟩, ⟨⟨PySem.W.mg_of X G aE6, xT6, kT6, bT6, tT6⟩, ⟨⟨gT6, hT6, bT6, dT6, cT6, eon, eot, oT6⟩, isstr6, isint6, isbool6, istuple6, islist6⟩⟩, ⟨⟨PySem.W.mg_of X G aE7, xT7, kT7, bT7, tT7⟩, ⟨⟨gT7, hT7, bT7, dT7, cT7, eon, eot, oT7⟩, isstr7, isint7, isbool7, istuple7, islist7⟩⟩, ⟨⟨PySem.W.mg_of X G aE8, xT8, kT8, bT8, tT8⟩, ⟨⟨gT8, hT8, bT8, dT8, cT8, eon, eot, oT8⟩, isstr8, isint8, isbool8, istuple8, islist8⟩⟩, ⟨⟨PySem.W.mg_of X G aE9, xT9, kT9, bT9, tT9⟩, ⟨⟨gT9, hT9, bT9, dT9, cT9, eon, eot, oT9⟩, isstr9, isint9, isbool9, istuple9, islist9⟩⟩, ⟨⟨PySem.W.mg_of X G aE10, xT10, kT10, bT10, tT10⟩, ⟨⟨gT10, hT10, bT10, dT10, cT10, eon, eot, oT10⟩, isstr10, isint10, isbool10, istuple10, islist10⟩⟩, ⟨⟨PySem.W.mg_of X G aE11, xT11, kT11, bT11, tT11⟩, ⟨⟨gT11, hT11, bT11, dT11, cT11, eon, eot, oT11⟩, isstr11, isint11, isbool11, istuple11, islist11⟩⟩, ⟨⟨PySem.W.mg_of X G aE12, xT12, kT12, bT12, tT12⟩, ⟨⟨gT12, hT12, bT12, dT12, cT12, eon, eot, oT12⟩, isstr12, isint12, isbool12, istuple12, islist12⟩⟩, ⟨⟨PySem.W.mg_of X G aE13, xT13, kT13, bT13, tT13⟩, ⟨⟨gT13, hT13, bT13, dT13, cT13, eon, eot, oT13⟩, isstr13, isint13, isbool13, istuple13, islist13⟩⟩, ⟨⟨PySem.W.mg_of X G aE14, xT14, kT14, bT14, tT14⟩, ⟨⟨gT14, hT14, bT14, dT14, cT14, eon, eot, oT14⟩, isstr14, isint14, isbool14, istuple14, islist14⟩⟩, PySem.W.exm_ref ebS edS etS sS0, PySem.W.exm_ref ebS edS etS sS2, PySem.W.exm_ref ebS edS etS sS9⟩, ⟨⟨by decide, ⟨gT0, hT0, bT0, dT0, cT0, eon, eot, oT0⟩, iV0, iK0_0, iK0_1, iK0_2, iK0_3, iK0_4, iK0_5, iK0_6, iK0_7, iK0_8, iK0_9, iK0_10, iK0_11, iK0_12, iK0_13, iK0_14, iK0_15⟩, ⟨by decide, ⟨gT1, hT1, bT1, dT1, cT1, eon, eot, oT1⟩, iV1, iK1_0, iK1_1, iK1_2, iK1_3, iK1_4, iK1_5, iK1_6, iK1_7, iK1_8, iK1_9, iK1_10, iK1_11, iK1_12, iK1_13, iK1_14, iK1_15⟩, ⟨by decide, ⟨gT2, hT2, bT2, dT2, cT2, eon, eot, oT2⟩, iV2, iK2_0, iK2_1, iK2_2, iK2_3, iK2_4, iK2_5, iK2_6, iK2_7, iK2_8, iK2_9, iK2_10, iK2_11, iK2_12, iK2_13, iK2_14, iK2_15⟩, ⟨by decide, ⟨gT3, hT3, bT3, dT3, cT3, eon, eot, oT3⟩, iV3, iK3_0, iK3_1, iK3_2, iK3_3, iK3_4, iK3_5, iK3_6, iK3_7, iK3_8, iK3_9, iK3_10, iK3_11, iK3_12, iK3_13, iK3_14, iK3_15⟩, ⟨by decide, ⟨gT4, hT4, bT4, dT4, cT4, eon, eot, oT4⟩, iV4, iK4_0, iK4_1, iK4_2, iK4_3, iK4_4, iK4_5, iK4_6, iK4_7, iK4_8, iK4_9, iK4_10, iK4_11, iK4_12, iK4_13, iK4_14, iK4_15⟩, ⟨by decide, ⟨gT5, hT5, bT5, dT5, cT5, eon, eot, oT5⟩, iV5, iK5_0, iK5_1, iK5_2, iK5_3, iK5_4, iK5_5, iK5_6, iK5_7, iK5_8, iK5_9, iK5_10, iK5_11, iK5_12, iK5_13, iK5_14, iK5_15⟩, ⟨by decide, ⟨gT6, hT6, bT6, dT6, cT6, eon, eot, oT6⟩, iV6, iK6_0, iK6_1, iK6_2, iK6_3, iK6_4, iK6_5, iK6_6, iK6_7, iK6_8, iK6_9, iK6_10, iK6_11, iK6_12, iK6_13, iK6_14, iK6_15⟩, ⟨by decide, ⟨gT7, hT7, bT7, dT7, cT7, eon, eot, oT7⟩, iV7, iK7_0, iK7_1, iK7_2, iK7_3, iK7_4, iK7_5, iK7_6, iK7_7, iK7_8, iK7_9, iK7_10, iK7_11, iK7_12, iK7_13, iK7_14, iK7_15⟩, ⟨by decide, ⟨gT8, hT8, bT8, dT8, cT8, eon, eot, oT8⟩, iV8, iK8_0, iK8_1, iK8_2, iK8_3, iK8_4, iK8_5, iK8_6, iK8_7, iK8_8, iK8_9, iK8_10, iK8_11, iK8_12, iK8_13, iK8_14, iK8_15⟩, ⟨by decide, ⟨gT9, hT9, bT9, dT9, cT9, eon, eot, oT9⟩, iV9, iK9_0, iK9_1, iK9_2, iK9_3, iK9_4, iK9_5, iK9_6, iK9_7, iK9_8, iK9_9, iK9_10, iK9_11, iK9_12, iK9_13, iK9_14, iK9_15⟩, ⟨by decide, ⟨gT10, hT10, bT10, dT10, cT10, eon, eot, oT10⟩, iV10, iK10_0, iK10_1, iK10_2, iK10_3, iK10_4, iK10_5, iK10_6, iK10_7, iK10_8, iK10_9, iK10_10, iK10_11, iK10_12, iK10_13, iK10_14, iK10_15⟩, ⟨by decide, ⟨gT11, hT11, bT11, dT11, cT11, eon, eot, oT11⟩, iV11, iK11_0, iK11_1, iK11_2, iK11_3, iK11_4, iK11_5, iK11_6, iK11_7, iK11_8, iK11_9, iK11_10, iK11_11, iK11_12, iK11_13, iK11_14, iK11_15⟩, ⟨by decide, ⟨gT12, hT12, bT12, dT12, cT12, eon, eot, oT12⟩, iV12, iK12_0, iK12_1, iK12_2, iK12_3, iK12_4, iK12_5, iK12_6, iK12_7, iK12_8, iK12_9, iK12_10, iK12_11, iK12_12, iK12_13, iK12_14, iK12_15⟩, ⟨by decide, ⟨gT13, hT13, bT13, dT13, cT13, eon, eot, oT13⟩, iV13, iK13_0, iK13_1, iK13_2, iK13_3, iK13_4, iK13_5, iK13_6, iK13_7, iK13_8, iK13_9, iK13_10, iK13_11, iK13_12, iK13_13, iK13_14, iK13_15⟩, ⟨by decide, ⟨gT14, hT14, bT14, dT14, cT14, eon, eot, oT14⟩, iV14, iK14_0, iK14_1, iK14_2, iK14_3, iK14_4, iK14_5, iK14_6, iK14_7, iK14_8, iK14_9, iK14_10, iK14_11, iK14_12, iK14_13, iK14_14, iK14_15⟩, ⟨by decide, ⟨gT15, hT15, bT15, dT15, cT15, eon, eot, oT15⟩, iV15, iK15_0, iK15_1, iK15_2, iK15_3, iK15_4, iK15_5, iK15_6, iK15_7, iK15_8, iK15_9, iK15_10, iK15_11, iK15_12, iK15_13, iK15_14, iK15_15⟩⟩, ⟨iN0, iN1, iN2, iN3, iN4, iN5, iN6, iN7, iN8, iN9, iN10, iN11, iN12, iN13, iN14, iN15⟩, ⟨iS0, iS1, iS2, iS3, iS4, iS5, iS6, iS7, iS8, iS9, iS10, iS11, iS12, iS13, iS14, iS15⟩, fW, _, ⟨⟨⟨⟨nmW, qW, NW, bsW, _, snW, subW, abW, colW, ddW, w0, w1, w2, w3, w5, wL, rfl⟩, wS, bT15, tT15, kT15⟩, wI, wT⟩, fun_mk (st := s_init) wF wC wK, ⟨gT15, hT15, bT15, dT15⟩, wP, wG, wR, wV⟩⟩
  refine ⟨PySem.W.fnOf "law" "law" (defArgs s_law) (defBody s_law) (defScope s_law) .none kV44 dc44 pm44 an44 cd44 ct44, fun s v => .of_eq rfl, fun base _ _ => ?_⟩
  have c_bag := cl__law_bag (P := l.prog) (w := w) (base := base) D__law_bag T
  have c_draw := cl__law_draw (P := l.prog) (w := w) (base := base) D__law_draw T
  have c_text := cl__law_text D__law_text T c_draw
  have c_near := cl__law_near D__law_near T c_draw
  have c_some := cl__law_some D__law_some T c_draw c_near c_text
  have c_ist := cl_is_text (P := l.prog) (w := w) (base := base) D_is_text T
  have c_isr := cl_is_range D_is_range T c_ist
  have c_reach := cl_reaches (P := l.prog) (w := w) (base := base) D_reaches T
  have c_reachG := cl_reachesG (P := l.prog) (w := w) (base := base) D_reaches T
  have c_iss := cl_is_span D_is_span T c_isr c_reach
  have c_cks := cl_check_span D_check_span T c_iss
  have c_opp := cl_opposite D_opposite T c_cks
  have c_ckr := cl_check_ranges D_check_ranges T c_isr
  have c_later := cl_later_end (P := l.prog) (w := w) (base := base) D_later_end T
  have c_asc := cl_ascending (P := l.prog) (w := w) (base := base) D_ascending T
  have c_spanof := cl_span_of D_span_of T c_ckr c_later c_asc c_reachG
  have c_ckt := cl_check_text D_check_text T c_ist
  have c_beh := cl_behind D_behind T c_ckt
  have c_jn := cl_joined D_joined T c_cks c_spanof
  have c_sh := cl_shared D_shared T c_opp c_jn
  have c_least := cl_least_text D_least_text T c_cks
  have c_ckm := cl_check_most (P := l.prog) (w := w) (base := base) D_check_most T
  have c_tin := cl_texts_in D_texts_in T c_cks c_ckm c_beh
  have c_has := cl_has D_has T c_cks c_ckt
  have c_ends := cl_ends_soon (P := l.prog) (w := w) (base := base) D_ends_soon T
  have c_fin := cl_is_finite D_is_finite T c_cks c_ends
  have c_past := cl__law_past (P := l.prog) (w := w) (base := base) D__law_past T
  have c_pair := cl__law_pair D__law_pair T c_draw c_some c_past
  have c_points := cl__law_points (P := l.prog) (w := w) (base := base) D__law_points T
  have c_inL := cl__law_inL (P := l.prog) (w := w) (base := base) D__law_in T
  have c_pieces := cl__law_pieces (P := l.prog) (w := w) (base := base) D__law_pieces T
  have c_due := cl__law_due D__law_due T c_points c_inL c_pieces
  have c_span := cl__law_span D__law_span T c_draw c_pair c_due
  have c_istS := Sx.cl_is_text (P := l.prog) (w := w) (base := base) D_is_text T
  have c_isrS := Sx.cl_is_range D_is_range T c_istS
  have c_reaS := Sx.cl_reachesG (P := l.prog) (w := w) (base := base) D_reaches T
  have c_issS := Sx.cl_is_span D_is_span T c_isrS c_reaS
  have c_odp := Sx.cl__law_odd_pair D__law_odd_pair T TX c_draw
  have c_benS := Sx.cl__law_bent_span D__law_bent_span T c_draw
  have c_ods := Sx.cl__law_odd_span D__law_odd_span T TX c_draw c_odp c_benS
  have c_odt := cl__law_odd_text D__law_odd_text T TX c_draw
  have c_ckrB := cl_check_rangesB D_check_ranges T TX c_isrS
  have c_cktB := cl_check_textB D_check_text T TX c_ist
  have c_ckmB := cl_check_mostB (P := l.prog) (w := w) (base := base) D_check_most T TX
  have c_cksB := cl_check_spanB D_check_span T TX c_issS
  have c_cksX := ClX.or c_cks.lx c_cksB
  have c_oppX := ClX.or c_opp.lx (cl_oppositeB D_opposite T TX c_cksX)
  have c_leastX := ClX.or c_least.lx (cl_least_textB D_least_text T TX c_cksX)
  have c_finX := ClX.or c_fin.lx (cl_is_finiteB D_is_finite T TX c_cksX c_ends)
  have c_sofX := ClX.or c_spanof.lx (cl_span_ofB D_span_of T TX c_ckrB c_later c_asc c_reachG)
  have c_jnX := ClX.or c_jn.lx (cl_joinedB D_joined T TX c_cksX c_spanof)
  have c_shX := ClX.or c_sh.lx (cl_sharedB D_shared T TX c_oppX c_jn)
  have c_hasX := ClX.or c_has.lx (cl_hasB D_has T TX c_cksX c_cktB)
  have c_tinX := ClX.or c_tin.lx (cl_texts_inB D_texts_in T TX c_cksX c_ckmB c_beh)
  have c_one := cl__law_one D__law_one T TX c_oppX c_leastX c_finX c_sofX
  have c_two := cl__law_two D__law_two T TX c_jnX c_shX c_hasX c_tinX
  have c_nam := Cl.orr (cl__law_names (P := l.prog) (w := w) (base := base) D__law_names T TX) (cl__law_namesN D__law_names T TX KN)
  have c_told := cl__law_told D__law_told T TX KT c_one c_two c_nam
  have c_odl := cl__law_odd_pairs D__law_odd_pairs T TX c_draw c_odp
  have c_odn := cl__law_odd_number D__law_odd_number T TX c_draw
  obtain ⟨fI, fdI, IW⟩ := IW
  have c_init := ini_words (P := l.prog) (w := w) (base := base) IW
  have c_made := cl__law_made D__law_made T TX KT SK IW c_init (cl__law_namesE D__law_names T TX)
  have c_rig := cl__law_right D__law_right T TX c_draw c_pair c_due c_some c_span c_odt c_ods c_odn c_odl c_told
  exact cl_law D_law T c_bag c_made c_rig
end
end Kq
open PySem PySem.W PyProof.Rows in
set_option maxRecDepth 100000 in
set_option maxHeartbeats 0 in
theorem PySem.Challenge.cw_pageskips_k08_errors_of_spans_holds : PySem.Challenge.rw_pageskips_k08_errors_of_spans.Holds := by
  w_on; o_law; k_head; (case hw => w_witness2)
  k_fill
  refine Pg.walk_g (l := PySem.Challenge.rw_pageskips_k08_errors_of_spans) (n := 63) (k := 10) (x := "script") (sp := fun w => Kq.spLaw _) rfl (by decide) rfl ⟨rfl, by decide, by decide⟩ (fun w h Y => PySem.W.kIn_of Y) ?F (fun _ _ a ns hl _ hS => ⟨a, ns, rfl, hS, hl, fun _ => rfl⟩)
  case F =>
    intro w mg fa h KX G hmg
    refine' Kq.all_mk KX G hmg ?a0 ?l0 ?c0 ?k0 ?a1 ?l1 ?c1 ?k1 ?a2 ?l2 ?c2 ?k2 ?a3 ?l3 ?c3 ?k3 ?a4 ?l4 ?c4 ?k4 ?a5 ?l5 ?c5 ?k5 ?a6 ?l6 ?c6 ?k6 ?a7 ?l7 ?c7 ?k7 ?a8 ?l8 ?c8 ?k8 ?a9 ?l9 ?c9 ?k9 ?a10 ?l10 ?c10 ?k10 ?a11 ?l11 ?c11 ?k11 ?a12 ?l12 ?c12 ?k12 ?a13 ?l13 ?c13 ?k13 ?a14 ?l14 ?c14 ?k14 ?a15 ?l15 ?c15 ?k15 ?a16 ?l16 ?c16 ?k16 ?a17 ?l17 ?c17 ?k17 ?a18 ?l18 ?c18 ?k18 ?a19 ?l19 ?c19 ?k19 ?a20 ?l20 ?c20 ?k20 ?a21 ?l21 ?c21 ?k21 ?a22 ?l22 ?c22 ?k22 ?a23 ?l23 ?c23 ?k23 ?a24 ?l24 ?c24 ?k24 ?a25 ?l25 ?c25 ?k25 ?a26 ?l26 ?c26 ?k26 ?a27 ?l27 ?c27 ?k27 ?a28 ?l28 ?c28 ?k28 ?a29 ?l29 ?c29 ?k29 ?a30 ?l30 ?c30 ?k30 ?a31 ?l31 ?c31 ?k31 ?a32 ?l32 ?c32 ?k32 ?a33 ?l33 ?c33 ?k33 ?a34 ?l34 ?c34 ?k34 ?a35 ?l35 ?c35 ?k35 ?a36 ?l36 ?c36 ?k36 ?a37 ?l37 ?c37 ?k37 ?a38 ?l38 ?c38 ?k38 ?a39 ?l39 ?c39 ?k39 ?a40 ?l40 ?c40 ?k40 ?a41 ?l41 ?c41 ?k41 ?a42 ?l42 ?c42 ?k42 ?a43 ?l43 ?c43 ?k43 ?a44 ?l44 ?c44 ?k44 ?aE0 ?aE1 ?aE2 ?aE3 ?aE4 ?aE5 ?aE6 ?aE7 ?aE8 ?aE9 ?aE10 ?aE11 ?aE12 ?aE13 ?aE14 ?aE15 ?aE16 ?eon ?eot ?ebS ?edS ?etS ?xT0 ?kT0 ?bT0 ?tT0 ?gT0 ?hT0 ?dT0 ?cT0 ?oT0 ?isstr0 ?isint0 ?isbool0 ?istuple0 ?islist0 ?xT1 ?kT1 ?bT1 ?tT1 ?gT1 ?hT1 ?dT1 ?cT1 ?oT1 ?isstr1 ?isint1 ?isbool1 ?istuple1 ?islist1 ?xT2 ?kT2 ?bT2 ?tT2 ?gT2 ?hT2 ?dT2 ?cT2 ?oT2 ?isstr2 ?isint2 ?isbool2 ?istuple2 ?islist2 ?xT3 ?kT3 ?bT3 ?tT3 ?gT3 ?hT3 ?dT3 ?cT3 ?oT3 ?isstr3 ?isint3 ?isbool3 ?istuple3 ?islist3 ?xT4 ?kT4 ?bT4 ?tT4 ?gT4 ?hT4 ?dT4 ?cT4 ?oT4 ?isstr4 ?isint4 ?isbool4 ?istuple4 ?islist4 ?xT5 ?kT5 ?bT5 ?tT5 ?gT5 ?hT5 ?dT5 ?cT5 ?oT5 ?isstr5 ?isint5 ?isbool5 ?istuple5 ?islist5 ?xT6 ?kT6 ?bT6 ?tT6 ?gT6 ?hT6 ?dT6 ?cT6 ?oT6 ?isstr6 ?isint6 ?isbool6 ?istuple6 ?islist6 ?xT7 ?kT7 ?bT7 ?tT7 ?gT7 ?hT7 ?dT7 ?cT7 ?oT7 ?isstr7 ?isint7 ?isbool7 ?istuple7 ?islist7 ?xT8 ?kT8 ?bT8 ?tT8 ?gT8 ?hT8 ?dT8 ?cT8 ?oT8 ?isstr8 ?isint8 ?isbool8 ?istuple8 ?islist8 ?xT9 ?kT9 ?bT9 ?tT9 ?gT9 ?hT9 ?dT9 ?cT9 ?oT9 ?isstr9 ?isint9 ?isbool9 ?istuple9 ?islist9 ?xT10 ?kT10 ?bT10 ?tT10 ?gT10 ?hT10 ?dT10 ?cT10 ?oT10 ?isstr10 ?isint10 ?isbool10 ?istuple10 ?islist10 ?xT11 ?kT11 ?bT11 ?tT11 ?gT11 ?hT11 ?dT11 ?cT11 ?oT11 ?isstr11 ?isint11 ?isbool11 ?istuple11 ?islist11 ?xT12 ?kT12 ?bT12 ?tT12 ?gT12 ?hT12 ?dT12 ?cT12 ?oT12 ?isstr12 ?isint12 ?isbool12 ?istuple12 ?islist12 ?xT13 ?kT13 ?bT13 ?tT13 ?gT13 ?hT13 ?dT13 ?cT13 ?oT13 ?isstr13 ?isint13 ?isbool13 ?istuple13 ?islist13 ?xT14 ?kT14 ?bT14 ?tT14 ?gT14 ?hT14 ?dT14 ?cT14 ?oT14 ?isstr14 ?isint14 ?isbool14 ?istuple14 ?islist14 ?sS0 ?iV0 ?iK0_0 ?iK0_1 ?iK0_2 ?iK0_3 ?iK0_4 ?iK0_5 ?iK0_6 ?iK0_7 ?iK0_8 ?iK0_9 ?iK0_10 ?iK0_11 ?iK0_12 ?iK0_13 ?iK0_14 ?iK0_15 ?sS2 ?iV2 ?iK2_0 ?iK2_1 ?iK2_2 ?iK2_3 ?iK2_4 ?iK2_5 ?iK2_6 ?iK2_7 ?iK2_8 ?iK2_9 ?iK2_10 ?iK2_11 ?iK2_12 ?iK2_13 ?iK2_14 ?iK2_15 ?sS9 ?iV9 ?iK9_0 ?iK9_1 ?iK9_2 ?iK9_3 ?iK9_4 ?iK9_5 ?iK9_6 ?iK9_7 ?iK9_8 ?iK9_9 ?iK9_10 ?iK9_11 ?iK9_12 ?iK9_13 ?iK9_14 ?iK9_15 ?iS0 ?iV1 ?iK1_0 ?iK1_1 ?iK1_2 ?iK1_3 ?iK1_4 ?iK1_5 ?iK1_6 ?iK1_7 ?iK1_8 ?iK1_9 ?iK1_10 ?iK1_11 ?iK1_12 ?iK1_13 ?iK1_14 ?iK1_15 ?iS1 ?iS2 ?iV3 ?iK3_0 ?iK3_1 ?iK3_2 ?iK3_3 ?iK3_4 ?iK3_5 ?iK3_6 ?iK3_7 ?iK3_8 ?iK3_9 ?iK3_10 ?iK3_11 ?iK3_12 ?iK3_13 ?iK3_14 ?iK3_15 ?iS3 ?iV4 ?iK4_0 ?iK4_1 ?iK4_2 ?iK4_3 ?iK4_4 ?iK4_5 ?iK4_6 ?iK4_7 ?iK4_8 ?iK4_9 ?iK4_10 ?iK4_11 ?iK4_12 ?iK4_13 ?iK4_14 ?iK4_15 ?iS4 ?iV5 ?iK5_0 ?iK5_1 ?iK5_2 ?iK5_3 ?iK5_4 ?iK5_5 ?iK5_6 ?iK5_7 ?iK5_8 ?iK5_9 ?iK5_10 ?iK5_11 ?iK5_12 ?iK5_13 ?iK5_14 ?iK5_15 ?iS5 ?iV6 ?iK6_0 ?iK6_1 ?iK6_2 ?iK6_3 ?iK6_4 ?iK6_5 ?iK6_6 ?iK6_7 ?iK6_8 ?iK6_9 ?iK6_10 ?iK6_11 ?iK6_12 ?iK6_13 ?iK6_14 ?iK6_15 ?iS6 ?iV7 ?iK7_0 ?iK7_1 ?iK7_2 ?iK7_3 ?iK7_4 ?iK7_5 ?iK7_6 ?iK7_7 ?iK7_8 ?iK7_9 ?iK7_10 ?iK7_11 ?iK7_12 ?iK7_13 ?iK7_14 ?iK7_15 ?iS7 ?iV8 ?iK8_0 ?iK8_1 ?iK8_2 ?iK8_3 ?iK8_4 ?iK8_5 ?iK8_6 ?iK8_7 ?iK8_8 ?iK8_9 ?iK8_10 ?iK8_11 ?iK8_12 ?iK8_13 ?iK8_14 ?iK8_15 ?iS8 ?iS9 ?iV10 ?iK10_0 ?iK10_1 ?iK10_2 ?iK10_3 ?iK10_4 ?iK10_5 ?iK10_6 ?iK10_7 ?iK10_8 ?iK10_9 ?iK10_10 ?iK10_11 ?iK10_12 ?iK10_13 ?iK10_14 ?iK10_15 ?iS10 ?iV11 ?iK11_0 ?iK11_1 ?iK11_2 ?iK11_3 ?iK11_4 ?iK11_5 ?iK11_6 ?iK11_7 ?iK11_8 ?iK11_9 ?iK11_10 ?iK11_11 ?iK11_12 ?iK11_13 ?iK11_14 ?iK11_15 ?iS11 ?iV12 ?iK12_0 ?iK12_1 ?iK12_2 ?iK12_3 ?iK12_4 ?iK12_5 ?iK12_6 ?iK12_7 ?iK12_8 ?iK12_9 ?iK12_10 ?iK12_11 ?iK12_12 ?iK12_13 ?iK12_14 ?iK12_15 ?iS12 ?iV13 ?iK13_0 ?iK13_1 ?iK13_2 ?iK13_3 ?iK13_4 ?iK13_5 ?iK13_6 ?iK13_7 ?iK13_8 ?iK13_9 ?iK13_10 ?iK13_11 ?iK13_12 ?iK13_13 ?iK13_14 ?iK13_15 ?iS13 ?iV14 ?iK14_0 ?iK14_1 ?iK14_2 ?iK14_3 ?iK14_4 ?iK14_5 ?iK14_6 ?iK14_7 ?iK14_8 ?iK14_9 ?iK14_10 ?iK14_11 ?iK14_12 ?iK14_13 ?iK14_14 ?iK14_15 ?iS14 ?bT15 ?tT15 ?kT15 ?gT15 ?hT15 ?dT15 ?cT15 ?oT15 ?iV15 ?iK15_0 ?iK15_1 ?iK15_2 ?iK15_3 ?iK15_4 ?iK15_5 ?iK15_6 ?iK15_7 ?iK15_8 ?iK15_9 ?iK15_10 ?iK15_11 ?iK15_12 ?iK15_13 ?iK15_14 ?iK15_15 ?iS15 ?wL ?wS ?wI ?wT ?wF ?wC ?wK ?wP ?wG ?wR ?wV ?iN0 ?iN1 ?iN2 ?iN3 ?iN4 ?iN5 ?iN6 ?iN7 ?iN8 ?iN9 ?iN10 ?iN11 ?iN12 ?iN13 ?iN14 ?iN15 ?z0 ?z1 ?z2 ?z3 ?z4 ?z5 ?z6 ?z7 ?z8 ?z9 ?z10 ?z11 ?z12 ?z13 ?z14 ?z15 ?z16 ?z17
    (case a0 => k_is)
    (case l0 => k_is)
    (case c0 => k_is)
    (case k0 => k_is)
    (case a1 => k_is)
    (case l1 => k_is)
    (case c1 => k_is)
    (case k1 => k_is)
    (case a2 => k_is)
    (case l2 => k_is)
    (case c2 => k_is)
    (case k2 => k_is)
    (case a3 => k_is)
    (case l3 => k_is)
    (case c3 => k_is)
    (case k3 => k_is)
    (case a4 => k_is)
    (case l4 => k_is)
    (case c4 => k_is)
    (case k4 => k_is)
    (case a5 => k_is)
    (case l5 => k_is)
    (case c5 => k_is)
    (case k5 => k_is)
    (case a6 => k_is)
    (case l6 => k_is)
    (case c6 => k_is)
    (case k6 => k_is)
    (case a7 => k_is)
    (case l7 => k_is)
    (case c7 => k_is)
    (case k7 => k_is)
    (case a8 => k_is)
    (case l8 => k_is)
    (case c8 => k_is)
    (case k8 => k_is)
    (case a9 => k_is)
    (case l9 => k_is)
    (case c9 => k_is)
    (case k9 => k_is)
    (case a10 => k_is)
    (case l10 => k_is)
    (case c10 => k_is)
    (case k10 => k_is)
    (case a11 => k_is)
    (case l11 => k_is)
    (case c11 => k_is)
    (case k11 => k_is)
    (case a12 => k_is)
    (case l12 => k_is)
    (case c12 => k_is)
    (case k12 => k_is)
    (case a13 => k_is)
    (case l13 => k_is)
    (case c13 => k_is)
    (case k13 => k_is)
    (case a14 => k_is)
    (case l14 => k_is)
    (case c14 => k_is)
    (case k14 => k_is)
    (case a15 => k_is)
    (case l15 => k_is)
    (case c15 => k_is)
    (case k15 => k_is)
    (case a16 => k_is)
    (case l16 => k_is)
    (case c16 => k_is)
    (case k16 => k_is)
    (case a17 => k_is)
    (case l17 => k_is)
    (case c17 => k_is)
    (case k17 => k_is)
    (case a18 => k_is)
    (case l18 => k_is)
    (case c18 => k_is)
    (case k18 => k_is)
    (case a19 => k_is)
    (case l19 => k_is)
    (case c19 => k_is)
    (case k19 => k_is)
    (case a20 => k_is)
    (case l20 => k_is)
    (case c20 => k_is)
    (case k20 => k_is)
    (case a21 => k_is)
    (case l21 => k_is)
    (case c21 => k_is)
    (case k21 => k_is)
    (case a22 => k_is)
    (case l22 => k_is)
    (case c22 => k_is)
    (case k22 => k_is)
    (case a23 => k_is)
    (case l23 => k_is)
    (case c23 => k_is)
    (case k23 => k_is)
    (case a24 => k_is)
    (case l24 => k_is)
    (case c24 => k_is)
    (case k24 => k_is)
    (case a25 => k_is)
    (case l25 => k_is)
    (case c25 => k_is)
    (case k25 => k_is)
    (case a26 => k_is)
    (case l26 => k_is)
    (case c26 => k_is)
    (case k26 => k_is)
    (case a27 => k_is)
    (case l27 => k_is)
    (case c27 => k_is)
    (case k27 => k_is)
    (case a28 => k_is)
    (case l28 => k_is)
    (case c28 => k_is)
    (case k28 => k_is)
    (case a29 => k_is)
    (case l29 => k_is)
    (case c29 => k_is)
    (case k29 => k_is)
    (case a30 => k_is)
    (case l30 => k_is)
    (case c30 => k_is)
    (case k30 => k_is)
    (case a31 => k_is)
    (case l31 => k_is)
    (case c31 => k_is)
    (case k31 => k_is)
    (case a32 => k_is)
    (case l32 => k_is)
    (case c32 => k_is)
    (case k32 => k_is)
    (case a33 => k_is)
    (case l33 => k_is)
    (case c33 => k_is)
    (case k33 => k_is)
    (case a34 => k_is)
    (case l34 => k_is)
    (case c34 => k_is)
    (case k34 => k_is)
    (case a35 => k_is)
    (case l35 => k_is)
    (case c35 => k_is)
    (case k35 => k_is)
    (case a36 => k_is)
    (case l36 => k_is)
    (case c36 => k_is)
    (case k36 => k_is)
    (case a37 => k_is)
    (case l37 => k_is)
    (case c37 => k_is)
    (case k37 => k_is)
    (case a38 => k_is)
    (case l38 => k_is)
    (case c38 => k_is)
    (case k38 => k_is)
    (case a39 => k_is)
    (case l39 => k_is)
    (case c39 => k_is)
    (case k39 => k_is)
    (case a40 => k_is)
    (case l40 => k_is)
    (case c40 => k_is)
    (case k40 => k_is)
    (case a41 => k_is)
    (case l41 => k_is)
    (case c41 => k_is)
    (case k41 => k_is)
    (case a42 => k_is)
    (case l42 => k_is)
    (case c42 => k_is)
    (case k42 => k_is)
    (case a43 => k_is)
    (case l43 => k_is)
    (case c43 => k_is)
    (case k43 => k_is)
    (case a44 => k_is)
    (case l44 => k_is)
    (case c44 => k_is)
    (case k44 => k_is)
    (case aE0 => k_is)
    (case aE1 => k_is)
    (case aE2 => k_is)
    (case aE3 => k_is)
    (case aE4 => k_is)
    (case aE5 => k_is)
    (case aE6 => k_is)
    (case aE7 => k_is)
    (case aE8 => k_is)
    (case aE9 => k_is)
    (case aE10 => k_is)
    (case aE11 => k_is)
    (case aE12 => k_is)
    (case aE13 => k_is)
    (case aE14 => k_is)
    (case aE15 => k_is)
    (case aE16 => k_is)
    (case eon => k_is)
    (case eot => k_is)
    (case ebS => k_is)
    (case edS => k_is)
    (case etS => k_is)
    (case xT0 => k_exc)
    (case kT0 => k_is)
    (case bT0 => k_is)
    (case tT0 => k_is)
    (case gT0 => k_is)
    (case hT0 => k_is)
    (case dT0 => k_is)
    (case cT0 => k_is)
    (case oT0 => k_is)
    (case isstr0 => first | k_is | kit_is)
    (case isint0 => first | k_is | kit_is)
    (case isbool0 => first | k_is | kit_is)
    (case istuple0 => first | k_is | kit_is)
    (case islist0 => first | k_is | kit_is)
    (case xT1 => k_exc)
    (case kT1 => k_is)
    (case bT1 => k_is)
    (case tT1 => k_is)
    (case gT1 => k_is)
    (case hT1 => k_is)
    (case dT1 => k_is)
    (case cT1 => k_is)
    (case oT1 => k_is)
    (case isstr1 => first | k_is | kit_is)
    (case isint1 => first | k_is | kit_is)
    (case isbool1 => first | k_is | kit_is)
    (case istuple1 => first | k_is | kit_is)
    (case islist1 => first | k_is | kit_is)
    (case xT2 => k_exc)
    (case kT2 => k_is)
    (case bT2 => k_is)
    (case tT2 => k_is)
    (case gT2 => k_is)
    (case hT2 => k_is)
    (case dT2 => k_is)
    (case cT2 => k_is)
    (case oT2 => k_is)
    (case isstr2 => first | k_is | kit_is)
    (case isint2 => first | k_is | kit_is)
    (case isbool2 => first | k_is | kit_is)
    (case istuple2 => first | k_is | kit_is)
    (case islist2 => first | k_is | kit_is)
    (case xT3 => k_exc)
    (case kT3 => k_is)
    (case bT3 => k_is)
    (case tT3 => k_is)
    (case gT3 => k_is)
    (case hT3 => k_is)
    (case dT3 => k_is)
    (case cT3 => k_is)
    (case oT3 => k_is)
    (case isstr3 => first | k_is | kit_is)
    (case isint3 => first | k_is | kit_is)
    (case isbool3 => first | k_is | kit_is)
    (case istuple3 => first | k_is | kit_is)
    (case islist3 => first | k_is | kit_is)
    (case xT4 => k_exc)
    (case kT4 => k_is)
    (case bT4 => k_is)
    (case tT4 => k_is)
    (case gT4 => k_is)
    (case hT4 => k_is)
    (case dT4 => k_is)
    (case cT4 => k_is)
    (case oT4 => k_is)
    (case isstr4 => first | k_is | kit_is)
    (case isint4 => first | k_is | kit_is)
    (case isbool4 => first | k_is | kit_is)
    (case istuple4 => first | k_is | kit_is)
    (case islist4 => first | k_is | kit_is)
    (case xT5 => k_exc)
    (case kT5 => k_is)
    (case bT5 => k_is)
    (case tT5 => k_is)
    (case gT5 => k_is)
    (case hT5 => k_is)
    (case dT5 => k_is)
    (case cT5 => k_is)
    (case oT5 => k_is)
    (case isstr5 => first | k_is | kit_is)
    (case isint5 => first | k_is | kit_is)
    (case isbool5 => first | k_is | kit_is)
    (case istuple5 => first | k_is | kit_is)
    (case islist5 => first | k_is | kit_is)
    (case xT6 => k_exc)
    (case kT6 => k_is)
    (case bT6 => k_is)
    (case tT6 => k_is)
    (case gT6 => k_is)
    (case hT6 => k_is)
    (case dT6 => k_is)
    (case cT6 => k_is)
    (case oT6 => k_is)
    (case isstr6 => first | k_is | kit_is)
    (case isint6 => first | k_is | kit_is)
    (case isbool6 => first | k_is | kit_is)
    (case istuple6 => first | k_is | kit_is)
    (case islist6 => first | k_is | kit_is)
    (case xT7 => k_exc)
    (case kT7 => k_is)
    (case bT7 => k_is)
    (case tT7 => k_is)
    (case gT7 => k_is)
    (case hT7 => k_is)
    (case dT7 => k_is)
    (case cT7 => k_is)
    (case oT7 => k_is)
    (case isstr7 => first | k_is | kit_is)
    (case isint7 => first | k_is | kit_is)
    (case isbool7 => first | k_is | kit_is)
    (case istuple7 => first | k_is | kit_is)
    (case islist7 => first | k_is | kit_is)
    (case xT8 => k_exc)
    (case kT8 => k_is)
    (case bT8 => k_is)
    (case tT8 => k_is)
    (case gT8 => k_is)
    (case hT8 => k_is)
    (case dT8 => k_is)
    (case cT8 => k_is)
    (case oT8 => k_is)
    (case isstr8 => first | k_is | kit_is)
    (case isint8 => first | k_is | kit_is)
    (case isbool8 => first | k_is | kit_is)
    (case istuple8 => first | k_is | kit_is)
    (case islist8 => first | k_is | kit_is)
    (case xT9 => k_exc)
    (case kT9 => k_is)
    (case bT9 => k_is)
    (case tT9 => k_is)
    (case gT9 => k_is)
    (case hT9 => k_is)
    (case dT9 => k_is)
    (case cT9 => k_is)
    (case oT9 => k_is)
    (case isstr9 => first | k_is | kit_is)
    (case isint9 => first | k_is | kit_is)
    (case isbool9 => first | k_is | kit_is)
    (case istuple9 => first | k_is | kit_is)
    (case islist9 => first | k_is | kit_is)
    (case xT10 => k_exc)
    (case kT10 => k_is)
    (case bT10 => k_is)
    (case tT10 => k_is)
    (case gT10 => k_is)
    (case hT10 => k_is)
    (case dT10 => k_is)
    (case cT10 => k_is)
    (case oT10 => k_is)
    (case isstr10 => first | k_is | kit_is)
    (case isint10 => first | k_is | kit_is)
    (case isbool10 => first | k_is | kit_is)
    (case istuple10 => first | k_is | kit_is)
    (case islist10 => first | k_is | kit_is)
    (case xT11 => k_exc)
    (case kT11 => k_is)
    (case bT11 => k_is)
    (case tT11 => k_is)
    (case gT11 => k_is)
    (case hT11 => k_is)
    (case dT11 => k_is)
    (case cT11 => k_is)
    (case oT11 => k_is)
    (case isstr11 => first | k_is | kit_is)
    (case isint11 => first | k_is | kit_is)
    (case isbool11 => first | k_is | kit_is)
    (case istuple11 => first | k_is | kit_is)
    (case islist11 => first | k_is | kit_is)
    (case xT12 => k_exc)
    (case kT12 => k_is)
    (case bT12 => k_is)
    (case tT12 => k_is)
    (case gT12 => k_is)
    (case hT12 => k_is)
    (case dT12 => k_is)
    (case cT12 => k_is)
    (case oT12 => k_is)
    (case isstr12 => first | k_is | kit_is)
    (case isint12 => first | k_is | kit_is)
    (case isbool12 => first | k_is | kit_is)
    (case istuple12 => first | k_is | kit_is)
    (case islist12 => first | k_is | kit_is)
    (case xT13 => k_exc)
    (case kT13 => k_is)
    (case bT13 => k_is)
    (case tT13 => k_is)
    (case gT13 => k_is)
    (case hT13 => k_is)
    (case dT13 => k_is)
    (case cT13 => k_is)
    (case oT13 => k_is)
    (case isstr13 => first | k_is | kit_is)
    (case isint13 => first | k_is | kit_is)
    (case isbool13 => first | k_is | kit_is)
    (case istuple13 => first | k_is | kit_is)
    (case islist13 => first | k_is | kit_is)
    (case xT14 => k_exc)
    (case kT14 => k_is)
    (case bT14 => k_is)
    (case tT14 => k_is)
    (case gT14 => k_is)
    (case hT14 => k_is)
    (case dT14 => k_is)
    (case cT14 => k_is)
    (case oT14 => k_is)
    (case isstr14 => first | k_is | kit_is)
    (case isint14 => first | k_is | kit_is)
    (case isbool14 => first | k_is | kit_is)
    (case istuple14 => first | k_is | kit_is)
    (case islist14 => first | k_is | kit_is)
    (case sS0 => k_is)
    (case iV0 => first | k_is | kit_is)
    (case iK0_0 => first | k_is | kit_is)
    (case iK0_1 => first | k_is | kit_is)
    (case iK0_2 => first | k_is | kit_is)
    (case iK0_3 => first | k_is | kit_is)
    (case iK0_4 => first | k_is | kit_is)
    (case iK0_5 => first | k_is | kit_is)
    (case iK0_6 => first | k_is | kit_is)
    (case iK0_7 => first | k_is | kit_is)
    (case iK0_8 => first | k_is | kit_is)
    (case iK0_9 => first | k_is | kit_is)
    (case iK0_10 => first | k_is | kit_is)
    (case iK0_11 => first | k_is | kit_is)
    (case iK0_12 => first | k_is | kit_is)
    (case iK0_13 => first | k_is | kit_is)
    (case iK0_14 => first | k_is | kit_is)
    (case iK0_15 => first | k_is | kit_is)
    (case sS2 => k_is)
    (case iV2 => first | k_is | kit_is)
    (case iK2_0 => first | k_is | kit_is)
    (case iK2_1 => first | k_is | kit_is)
    (case iK2_2 => first | k_is | kit_is)
    (case iK2_3 => first | k_is | kit_is)
    (case iK2_4 => first | k_is | kit_is)
    (case iK2_5 => first | k_is | kit_is)
    (case iK2_6 => first | k_is | kit_is)
    (case iK2_7 => first | k_is | kit_is)
    (case iK2_8 => first | k_is | kit_is)
    (case iK2_9 => first | k_is | kit_is)
    (case iK2_10 => first | k_is | kit_is)
    (case iK2_11 => first | k_is | kit_is)
    (case iK2_12 => first | k_is | kit_is)
    (case iK2_13 => first | k_is | kit_is)
    (case iK2_14 => first | k_is | kit_is)
    (case iK2_15 => first | k_is | kit_is)
    (case sS9 => k_is)
    (case iV9 => first | k_is | kit_is)
    (case iK9_0 => first | k_is | kit_is)
    (case iK9_1 => first | k_is | kit_is)
    (case iK9_2 => first | k_is | kit_is)
    (case iK9_3 => first | k_is | kit_is)
    (case iK9_4 => first | k_is | kit_is)
    (case iK9_5 => first | k_is | kit_is)
    (case iK9_6 => first | k_is | kit_is)
    (case iK9_7 => first | k_is | kit_is)
    (case iK9_8 => first | k_is | kit_is)
    (case iK9_9 => first | k_is | kit_is)
    (case iK9_10 => first | k_is | kit_is)
    (case iK9_11 => first | k_is | kit_is)
    (case iK9_12 => first | k_is | kit_is)
    (case iK9_13 => first | k_is | kit_is)
    (case iK9_14 => first | k_is | kit_is)
    (case iK9_15 => first | k_is | kit_is)
    (case iS0 => first | k_is | kit_is)
    (case iV1 => first | k_is | kit_is)
    (case iK1_0 => first | k_is | kit_is)
    (case iK1_1 => first | k_is | kit_is)
    (case iK1_2 => first | k_is | kit_is)
    (case iK1_3 => first | k_is | kit_is)
    (case iK1_4 => first | k_is | kit_is)
    (case iK1_5 => first | k_is | kit_is)
    (case iK1_6 => first | k_is | kit_is)
    (case iK1_7 => first | k_is | kit_is)
    (case iK1_8 => first | k_is | kit_is)
    (case iK1_9 => first | k_is | kit_is)
    (case iK1_10 => first | k_is | kit_is)
    (case iK1_11 => first | k_is | kit_is)
    (case iK1_12 => first | k_is | kit_is)
    (case iK1_13 => first | k_is | kit_is)
    (case iK1_14 => first | k_is | kit_is)
    (case iK1_15 => first | k_is | kit_is)
    (case iS1 => first | k_is | kit_is)
    (case iS2 => first | k_is | kit_is)
    (case iV3 => first | k_is | kit_is)
    (case iK3_0 => first | k_is | kit_is)
    (case iK3_1 => first | k_is | kit_is)
    (case iK3_2 => first | k_is | kit_is)
    (case iK3_3 => first | k_is | kit_is)
    (case iK3_4 => first | k_is | kit_is)
    (case iK3_5 => first | k_is | kit_is)
    (case iK3_6 => first | k_is | kit_is)
    (case iK3_7 => first | k_is | kit_is)
    (case iK3_8 => first | k_is | kit_is)
    (case iK3_9 => first | k_is | kit_is)
    (case iK3_10 => first | k_is | kit_is)
    (case iK3_11 => first | k_is | kit_is)
    (case iK3_12 => first | k_is | kit_is)
    (case iK3_13 => first | k_is | kit_is)
    (case iK3_14 => first | k_is | kit_is)
    (case iK3_15 => first | k_is | kit_is)
    (case iS3 => first | k_is | kit_is)
    (case iV4 => first | k_is | kit_is)
    (case iK4_0 => first | k_is | kit_is)
    (case iK4_1 => first | k_is | kit_is)
    (case iK4_2 => first | k_is | kit_is)
    (case iK4_3 => first | k_is | kit_is)
    (case iK4_4 => first | k_is | kit_is)
    (case iK4_5 => first | k_is | kit_is)
    (case iK4_6 => first | k_is | kit_is)
    (case iK4_7 => first | k_is | kit_is)
    (case iK4_8 => first | k_is | kit_is)
    (case iK4_9 => first | k_is | kit_is)
    (case iK4_10 => first | k_is | kit_is)
    (case iK4_11 => first | k_is | kit_is)
    (case iK4_12 => first | k_is | kit_is)
    (case iK4_13 => first | k_is | kit_is)
    (case iK4_14 => first | k_is | kit_is)
    (case iK4_15 => first | k_is | kit_is)
    (case iS4 => first | k_is | kit_is)
    (case iV5 => first | k_is | kit_is)
    (case iK5_0 => first | k_is | kit_is)
    (case iK5_1 => first | k_is | kit_is)
    (case iK5_2 => first | k_is | kit_is)
    (case iK5_3 => first | k_is | kit_is)
    (case iK5_4 => first | k_is | kit_is)
    (case iK5_5 => first | k_is | kit_is)
    (case iK5_6 => first | k_is | kit_is)
    (case iK5_7 => first | k_is | kit_is)
    (case iK5_8 => first | k_is | kit_is)
    (case iK5_9 => first | k_is | kit_is)
    (case iK5_10 => first | k_is | kit_is)
    (case iK5_11 => first | k_is | kit_is)
    (case iK5_12 => first | k_is | kit_is)
    (case iK5_13 => first | k_is | kit_is)
    (case iK5_14 => first | k_is | kit_is)
    (case iK5_15 => first | k_is | kit_is)
    (case iS5 => first | k_is | kit_is)
    (case iV6 => first | k_is | kit_is)
    (case iK6_0 => first | k_is | kit_is)
    (case iK6_1 => first | k_is | kit_is)
    (case iK6_2 => first | k_is | kit_is)
    (case iK6_3 => first | k_is | kit_is)
    (case iK6_4 => first | k_is | kit_is)
    (case iK6_5 => first | k_is | kit_is)
    (case iK6_6 => first | k_is | kit_is)
    (case iK6_7 => first | k_is | kit_is)
    (case iK6_8 => first | k_is | kit_is)
    (case iK6_9 => first | k_is | kit_is)
    (case iK6_10 => first | k_is | kit_is)
    (case iK6_11 => first | k_is | kit_is)
    (case iK6_12 => first | k_is | kit_is)
    (case iK6_13 => first | k_is | kit_is)
    (case iK6_14 => first | k_is | kit_is)
    (case iK6_15 => first | k_is | kit_is)
    (case iS6 => first | k_is | kit_is)
    (case iV7 => first | k_is | kit_is)
    (case iK7_0 => first | k_is | kit_is)
    (case iK7_1 => first | k_is | kit_is)
    (case iK7_2 => first | k_is | kit_is)
    (case iK7_3 => first | k_is | kit_is)
    (case iK7_4 => first | k_is | kit_is)
    (case iK7_5 => first | k_is | kit_is)
    (case iK7_6 => first | k_is | kit_is)
    (case iK7_7 => first | k_is | kit_is)
    (case iK7_8 => first | k_is | kit_is)
    (case iK7_9 => first | k_is | kit_is)
    (case iK7_10 => first | k_is | kit_is)
    (case iK7_11 => first | k_is | kit_is)
    (case iK7_12 => first | k_is | kit_is)
    (case iK7_13 => first | k_is | kit_is)
    (case iK7_14 => first | k_is | kit_is)
    (case iK7_15 => first | k_is | kit_is)
    (case iS7 => first | k_is | kit_is)
    (case iV8 => first | k_is | kit_is)
    (case iK8_0 => first | k_is | kit_is)
    (case iK8_1 => first | k_is | kit_is)
    (case iK8_2 => first | k_is | kit_is)
    (case iK8_3 => first | k_is | kit_is)
    (case iK8_4 => first | k_is | kit_is)
    (case iK8_5 => first | k_is | kit_is)
    (case iK8_6 => first | k_is | kit_is)
    (case iK8_7 => first | k_is | kit_is)
    (case iK8_8 => first | k_is | kit_is)
    (case iK8_9 => first | k_is | kit_is)
    (case iK8_10 => first | k_is | kit_is)
    (case iK8_11 => first | k_is | kit_is)
    (case iK8_12 => first | k_is | kit_is)
    (case iK8_13 => first | k_is | kit_is)
    (case iK8_14 => first | k_is | kit_is)
    (case iK8_15 => first | k_is | kit_is)
    (case iS8 => first | k_is | kit_is)
    (case iS9 => first | k_is | kit_is)
    (case iV10 => first | k_is | kit_is)
    (case iK10_0 => first | k_is | kit_is)
    (case iK10_1 => first | k_is | kit_is)
    (case iK10_2 => first | k_is | kit_is)
    (case iK10_3 => first | k_is | kit_is)
    (case iK10_4 => first | k_is | kit_is)
    (case iK10_5 => first | k_is | kit_is)
    (case iK10_6 => first | k_is | kit_is)
    (case iK10_7 => first | k_is | kit_is)
    (case iK10_8 => first | k_is | kit_is)
    (case iK10_9 => first | k_is | kit_is)
    (case iK10_10 => first | k_is | kit_is)
    (case iK10_11 => first | k_is | kit_is)
    (case iK10_12 => first | k_is | kit_is)
    (case iK10_13 => first | k_is | kit_is)
    (case iK10_14 => first | k_is | kit_is)
    (case iK10_15 => first | k_is | kit_is)
    (case iS10 => first | k_is | kit_is)
    (case iV11 => first | k_is | kit_is)
    (case iK11_0 => first | k_is | kit_is)
    (case iK11_1 => first | k_is | kit_is)
    (case iK11_2 => first | k_is | kit_is)
    (case iK11_3 => first | k_is | kit_is)
    (case iK11_4 => first | k_is | kit_is)
    (case iK11_5 => first | k_is | kit_is)
    (case iK11_6 => first | k_is | kit_is)
    (case iK11_7 => first | k_is | kit_is)
    (case iK11_8 => first | k_is | kit_is)
    (case iK11_9 => first | k_is | kit_is)
    (case iK11_10 => first | k_is | kit_is)
    (case iK11_11 => first | k_is | kit_is)
    (case iK11_12 => first | k_is | kit_is)
    (case iK11_13 => first | k_is | kit_is)
    (case iK11_14 => first | k_is | kit_is)
    (case iK11_15 => first | k_is | kit_is)
    (case iS11 => first | k_is | kit_is)
    (case iV12 => first | k_is | kit_is)
    (case iK12_0 => first | k_is | kit_is)
    (case iK12_1 => first | k_is | kit_is)
    (case iK12_2 => first | k_is | kit_is)
    (case iK12_3 => first | k_is | kit_is)
    (case iK12_4 => first | k_is | kit_is)
    (case iK12_5 => first | k_is | kit_is)
    (case iK12_6 => first | k_is | kit_is)
    (case iK12_7 => first | k_is | kit_is)
    (case iK12_8 => first | k_is | kit_is)
    (case iK12_9 => first | k_is | kit_is)
    (case iK12_10 => first | k_is | kit_is)
    (case iK12_11 => first | k_is | kit_is)
    (case iK12_12 => first | k_is | kit_is)
    (case iK12_13 => first | k_is | kit_is)
    (case iK12_14 => first | k_is | kit_is)
    (case iK12_15 => first | k_is | kit_is)
    (case iS12 => first | k_is | kit_is)
    (case iV13 => first | k_is | kit_is)
    (case iK13_0 => first | k_is | kit_is)
    (case iK13_1 => first | k_is | kit_is)
    (case iK13_2 => first | k_is | kit_is)
    (case iK13_3 => first | k_is | kit_is)
    (case iK13_4 => first | k_is | kit_is)
    (case iK13_5 => first | k_is | kit_is)
    (case iK13_6 => first | k_is | kit_is)
    (case iK13_7 => first | k_is | kit_is)
    (case iK13_8 => first | k_is | kit_is)
    (case iK13_9 => first | k_is | kit_is)
    (case iK13_10 => first | k_is | kit_is)
    (case iK13_11 => first | k_is | kit_is)
    (case iK13_12 => first | k_is | kit_is)
    (case iK13_13 => first | k_is | kit_is)
    (case iK13_14 => first | k_is | kit_is)
    (case iK13_15 => first | k_is | kit_is)
    (case iS13 => first | k_is | kit_is)
    (case iV14 => first | k_is | kit_is)
    (case iK14_0 => first | k_is | kit_is)
    (case iK14_1 => first | k_is | kit_is)
    (case iK14_2 => first | k_is | kit_is)
    (case iK14_3 => first | k_is | kit_is)
    (case iK14_4 => first | k_is | kit_is)
    (case iK14_5 => first | k_is | kit_is)
    (case iK14_6 => first | k_is | kit_is)
    (case iK14_7 => first | k_is | kit_is)
    (case iK14_8 => first | k_is | kit_is)
    (case iK14_9 => first | k_is | kit_is)
    (case iK14_10 => first | k_is | kit_is)
    (case iK14_11 => first | k_is | kit_is)
    (case iK14_12 => first | k_is | kit_is)
    (case iK14_13 => first | k_is | kit_is)
    (case iK14_14 => first | k_is | kit_is)
    (case iK14_15 => first | k_is | kit_is)
    (case iS14 => first | k_is | kit_is)
    (case bT15 => k_is)
    (case tT15 => k_is)
    (case kT15 => k_is)
    (case gT15 => k_is)
    (case hT15 => k_is)
    (case dT15 => k_is)
    (case cT15 => k_is)
    (case oT15 => k_is)
    (case iV15 => first | k_is | kit_is)
    (case iK15_0 => first | k_is | kit_is)
    (case iK15_1 => first | k_is | kit_is)
    (case iK15_2 => first | k_is | kit_is)
    (case iK15_3 => first | k_is | kit_is)
    (case iK15_4 => first | k_is | kit_is)
    (case iK15_5 => first | k_is | kit_is)
    (case iK15_6 => first | k_is | kit_is)
    (case iK15_7 => first | k_is | kit_is)
    (case iK15_8 => first | k_is | kit_is)
    (case iK15_9 => first | k_is | kit_is)
    (case iK15_10 => first | k_is | kit_is)
    (case iK15_11 => first | k_is | kit_is)
    (case iK15_12 => first | k_is | kit_is)
    (case iK15_13 => first | k_is | kit_is)
    (case iK15_14 => first | k_is | kit_is)
    (case iK15_15 => first | k_is | kit_is)
    (case iS15 => first | k_is | kit_is)
    (case wL => k_is)
    (case wS => k_is)
    (case wI => k_is)
    (case wT => k_is)
    (case wF => k_is)
    (case wC => k_is)
    (case wK => k_is)
    (case wP => k_is)
    (case wG => k_is)
    (case wR => k_is)
    (case wV => k_is)
    (case iN0 => first | k_is | kit_is)
    (case iN1 => first | k_is | kit_is)
    (case iN2 => first | k_is | kit_is)
    (case iN3 => first | k_is | kit_is)
    (case iN4 => first | k_is | kit_is)
    (case iN5 => first | k_is | kit_is)
    (case iN6 => first | k_is | kit_is)
    (case iN7 => first | k_is | kit_is)
    (case iN8 => first | k_is | kit_is)
    (case iN9 => first | k_is | kit_is)
    (case iN10 => first | k_is | kit_is)
    (case iN11 => first | k_is | kit_is)
    (case iN12 => first | k_is | kit_is)
    (case iN13 => first | k_is | kit_is)
    (case iN14 => first | k_is | kit_is)
    (case iN15 => first | k_is | kit_is)
    (case z0 => k_is)
    (case z1 => k_is)
    (case z2 => k_is)
    (case z3 => k_is)
    (case z4 => k_is)
    (case z5 => k_is)
    (case z6 => k_is)
    (case z7 => k_is)
    (case z8 => k_is)
    (case z9 => k_is)
    (case z10 => k_is)
    (case z11 => k_is)
    (case z12 => k_is)
    (case z13 => k_is)
    (case z14 => k_is)
    (case z15 => k_is)
    (case z16 => k_is)
    (case z17 => k_is)

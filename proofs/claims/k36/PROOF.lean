import PyProof.Rows.All
import Wide.All
import OpenK.AllK
import Wide.FinOn
import HandS.ForMost
import HandS.Wide
import HandS.TupAny
import HandS.ExcValue
import HandS.Style
import HandS.More
import HandS.Defaults
import HandS.EndBits
import HandS.Flow
import HandS.Zip
import HandS.Star
import HandS.StrMore
import HandS.Set
import HandS.SetTxt0
import HandS.IsInst
import HandS.ExcIs
import KE.KRevSl
import PyProof.Rows.SortShellAny
import HandS.RaiseMore
import HandS.Conv
import HandS.IsInst
import HandS.ExcIs
import KE.KRevSl
import PyProof.InstEq
import PySem.Challenge.RW_pageskips_k36_signs_of_notes
set_option Elab.async false
set_option linter.all false
set_option maxRecDepth 100000
set_option maxHeartbeats 2000000
namespace Pg
open PySem PySem.Spec PyProof.Rows L2
/-! ### heaps: what a piece of the program keeps -/
/-- all that was tracked outside of S stands as it was; in S lists stay lists -/
structure Stp (S : List Addr) (H H' : Hp) : Prop where
  kp : ∀ a o, a ∉ S → H a = some o → H' a = some o
  ls : ∀ a xs, H a = some (.lst xs) → ∃ ys, H' a = some (.lst ys)
theorem Stp.refl (S : List Addr) (H : Hp) : Stp S H H := ⟨fun _ _ _ h => h, fun _ xs h => ⟨xs, h⟩⟩
theorem Stp.trans {S : List Addr} {H H1 H2 : Hp} (a : Stp S H H1) (b : Stp S H1 H2) : Stp S H H2 :=
  ⟨fun x o n h => b.kp x o n (a.kp x o n h), fun x xs h => by
    obtain ⟨ys, h1⟩ := a.ls x xs h
    exact b.ls x ys h1⟩
theorem Stp.sub {S S' : List Addr} {H H' : Hp} (a : Stp S H H') (h : ∀ x ∈ S, x ∈ S') : Stp S' H H' :=
  ⟨fun x o n q => a.kp x o (fun m => n (h x m)) q, a.ls⟩
theorem Stp.nil {S : List Addr} {H H' : Hp} (a : Stp [] H H') : Stp S H H' := a.sub fun _ h => nomatch h
theorem Stp.new {H : Hp} {p : Addr} {o : HO} (h : H p = none) (S : List Addr) : Stp S H (upd H p o) :=
  ⟨fun x u _ q => by rw [upd_ne (ne_of_none q h)]; exact q, fun x xs q => ⟨xs, by rw [upd_ne (ne_of_none q h)]; exact q⟩⟩
theorem Stp.put {S : List Addr} {H : Hp} {p : Addr} {ys : List V} (m : p ∈ S) : Stp S H (upd H p (.lst ys)) :=
  ⟨fun x u n q => by
    rw [upd_ne (fun e => n (by rw [e]; exact m))]
    exact q, fun x xs q => by
    by_cases e : x = p
    · subst e
      exact ⟨ys, upd_same⟩
    · exact ⟨xs, by rw [upd_ne e]; exact q⟩⟩
/-- a local object: it was not there -/
theorem Stp.loc {S : List Addr} {H H' : Hp} {p : Addr} (h : H p = none) (a : Stp (p :: S) H H') : Stp S H H' :=
  ⟨fun x o n q => a.kp x o (fun m => by
    rcases List.mem_cons.mp m with e | m
    · exact ne_of_none q h e
    · exact n m) q, a.ls⟩
theorem Stp.fresh {S : List Addr} {H H' : Hp} {p : Addr} (a : Stp S H H') (n : p ∉ S) (h : H' p = none) : H p = none := by
  cases e : H p with
  | none => rfl
  | some o =>
    rw [a.kp p o n e] at h
    cases h
/-- a list that was not there is changed -/
theorem Stp.mut {S : List Addr} {H H' : Hp} {p : Addr} {ys : List V} (a : Stp S H H') (h : H p = none) : Stp S H (upd H' p (.lst ys)) :=
  ⟨fun x o n q => by
    rw [upd_ne (ne_of_none q h)]
    exact a.kp x o n q, fun x xs q => by
    rw [upd_ne (ne_of_none q h)]
    exact a.ls x xs q⟩
theorem Stp.put' {S : List Addr} {H H' : Hp} {p : Addr} {ys : List V} (a : Stp S H H') (m : p ∈ S) : Stp S H (upd H' p (.lst ys)) := a.trans (Stp.put m)
theorem Stp.new' {S : List Addr} {H H' : Hp} {p : Addr} {o : HO} (a : Stp S H H') (h : H' p = none) : Stp S H (upd H' p o) := a.trans (Stp.new h S)
/-- only the list at p may differ -/
def Only (p : Addr) (H H' : Hp) : Prop := ∃ ys, H' = upd H p (.lst ys)
theorem Only.at {p q : Addr} {H H' : Hp} {o : HO} (h : Only p H H') (e : H q = some o) (n : q ≠ p) : H' q = some o := by
  obtain ⟨ys, rfl⟩ := h
  rw [upd_ne n]
  exact e
theorem Only.stp {p : Addr} {H H' : Hp} {S : List Addr} (h : Only p H H') (m : p ∈ S) : Stp S H H' := by
  obtain ⟨ys, rfl⟩ := h
  exact Stp.put m

/-! ### the draws -/
def BagV (x y z : Int) (n : Nat) : Prop := 0 ≤ x ∧ 0 ≤ y ∧ y < 2 ^ 40 ∧ 0 ≤ z ∧ z ≤ (n : Int)
/-- a bag stands at b, from which at most n draws have been made -/
def Bag (H : Hp) (b : Addr) (n : Nat) : Prop := ∃ x y z, H b = some (.lst [.int x, .int y, .int z]) ∧ BagV x y z n
theorem Bag.mono {H : Hp} {b : Addr} {n m : Nat} (h : Bag H b n) (e : n ≤ m) : Bag H b m := by
  obtain ⟨x, y, z, h1, h2, h3, h4, h5, h6⟩ := h
  exact ⟨x, y, z, h1, h2, h3, h4, h5, by omega⟩
theorem Bag.kp {H H' : Hp} {b : Addr} {n : Nat} {S : List Addr} (h : Bag H b n) (s : Stp S H H') (m : b ∉ S) : Bag H' b n := by
  obtain ⟨x, y, z, h1, h2⟩ := h
  exact ⟨x, y, z, s.kp _ _ m h1, h2⟩
theorem Bag.upd {H : Hp} {b p : Addr} {n : Nat} {o : HO} (h : Bag H b n) (e : b ≠ p) : Bag (L2.upd H p o) b n := by
  obtain ⟨x, y, z, h1, h2⟩ := h
  exact ⟨x, y, z, by rw [upd_ne e]; exact h1, h2⟩
theorem Bag.ne {H : Hp} {b p : Addr} {n : Nat} (h : Bag H b n) (q : H p = none) : b ≠ p := by
  obtain ⟨x, y, z, h1, h2⟩ := h
  exact ne_of_none h1 q
theorem cmul {i j : Int} (a b : Nat) (h1 : 0 ≤ i) (h2 : i < 2 ^ a) (h3 : 0 ≤ j) (h4 : j < 2 ^ b) (ha : 0 < a) (hb : 0 < b) (h : a + b ≤ 1000000) : CMulW i j := by
  refine wide_mul (a := a) (b := b) ?_ ?_ ha hb h
  · have e : ((i.natAbs : Nat) : Int) < ((2 ^ a : Nat) : Int) := by
      rw [Int.natAbs_of_nonneg h1, Int.natCast_pow]
      exact h2
    exact Int.ofNat_lt.mp e
  · have e : ((j.natAbs : Nat) : Int) < ((2 ^ b : Nat) : Int) := by
      rw [Int.natAbs_of_nonneg h3, Int.natCast_pow]
      exact h4
    exact Int.ofNat_lt.mp e
theorem cdiv {i j : Int} (b : Nat) (h1 : 0 < j) (h2 : j < 2 ^ b) (hb : 0 < b) (h9 : b ≤ 9000) : CDivW i j := by
  refine wide_div (b := b) h1 ?_ hb h9
  have e : ((j.natAbs : Nat) : Int) < ((2 ^ b : Nat) : Int) := by
    rw [Int.natAbs_of_nonneg (by omega), Int.natCast_pow]
    exact h2
  exact Int.ofNat_lt.mp e
theorem mul_lt {i j : Int} {a b : Nat} (h1 : 0 ≤ i) (h2 : i < 2 ^ a) (h3 : 0 ≤ j) (h4 : j < 2 ^ b) : 0 ≤ i * j ∧ i * j < 2 ^ (a + b) := by
  refine ⟨Int.mul_nonneg h1 h3, ?_⟩
  have e1 : i * j ≤ i * 2 ^ b := Int.mul_le_mul_of_nonneg_left (Int.le_of_lt h4) h1
  have hp : (0 : Int) < 2 ^ b := Int.pow_pos (by omega)
  have e2 : i * 2 ^ b < 2 ^ a * 2 ^ b := Int.mul_lt_mul_of_pos_right h2 hp
  rw [Int.pow_add]
  omega
/-- a letter for a number -/
theorem genQ {Q : V → Hp → Prop} {H : Hp} {i : Int} (h : ∀ t, t = i → Q (.int t) H) : Q (.int i) H := h i rfl
/-! ### rules of my own -/
section
variable {X : Cx}
/-- 'a' * n -/
theorem op_mul_str : OpR X (binaryOp .Mult) (fun x y H Q => ∃ i j, x = .str i ∧ y = .int j ∧ MulOk i j ∧ Q (.str (Txt.mul i j)) H) := by
  intro pins s σ H x y v u Q I rx ry h
  obtain ⟨i, j, rfl, rfl, hz, q⟩ := h
  obtain ⟨t, rfl⟩ := rx
  obtain ⟨t', rfl⟩ := ry
  exact SB.mul hz (fun t' k => ⟨.str (Txt.mul i j), H, I.tok _, ⟨_, rfl⟩, q⟩)
end
end Pg
namespace Pg
open PySem PySem.Spec PyProof.Rows L2
/-! ### a def of the text: where it stands, what it keeps -/
/-- a def of the text, found by its name -/
structure Df (K : PySem.W.Frag) (mg : Str → Option Value) (x : Str) (st : Stmt) (ps : List Str) (f : Addr) (fd : FuncData) : Prop where
  fn : Fun K x x st f fd
  at_ : mg x = some (.ref f)
  bd : Binds K fd ps []
/-- .. with its promise -/
structure Cl (P : Program) (w : World) (K : PySem.W.Frag) (mg : Str → Option Value) (base : Heap) (k : Nat) (x : Str) (st : Stmt) (ps : List Str) (sp : Sp) : Prop where
  ex : ∃ f fd, Df K mg x st ps f fd ∧ FnOk P w K mg base CX0 k f fd ps sp
theorem Cl.mono {P : Program} {w : World} {K : PySem.W.Frag} {mg : Str → Option Value} {base : Heap} {j k : Nat} {x : Str} {st : Stmt} {ps : List Str} {sp : Sp} (c : Cl P w K mg base j x st ps sp) (h : j ≤ k) : Cl P w K mg base k x st ps sp := by
  obtain ⟨f, fd, D, F⟩ := c.ex
  exact ⟨f, fd, D, F.mono h⟩
theorem Df.cl {P : Program} {w : World} {K : PySem.W.Frag} {mg : Str → Option Value} {base : Heap} {x : Str} {st : Stmt} {f : Addr} {fd : FuncData} {N ps : List Str} {k : Nat} {sp : Sp} (D : Df K mg x st ps f fd) (S : FnScope N ps (defScope st)) (len : ∀ vs H Q E, sp vs H Q E → vs.length = ps.length)
    (hbody : ∀ (cdv : Value) (A : Around) (outer : List Env) (s : Shared) (H : Hp) (vs : List V) (Q : VK) (E : XK), Room k (A.deeper (envOfC x (defScope st) s.heap.objs.size f cdv)) → sp vs H Q E →
      ∃ t, PSs (cxOf CX0 P w K mg base N x (defScope st) f cdv A outer s H E).nox (defBody st) t ∧ t { nx := fun _ H' => Q .non H', rt := Q } (start N vs) H) : Cl P w K mg base (k + 1) x st ps sp :=
  ⟨f, fd, D, D.fn.ok S len hbody⟩
def tCl (sp : Sp) (t : TA) : TE := fun σ H Q => t σ H fun vs H1 => sp vs H1 Q E0
section
variable {X : Cx} {j k : Nat} {st : Stmt} {ps : List Str} {sp : Sp} {x : Str} {p pos : Pos} {e : Expr} {es : List Expr} {t : TA}
theorem pe_cl (c : Cl X.prog X.w X.K X.mg X.base k x st ps sp) (hr : Room j X.A) (hk : k ≤ j) (ha : PA X (e :: es) t) (hg : Gl X x := by rfl) (hdb : (x == ("__debug__" : Str)) = false := by decide)
    (he : starEach (e :: es) X.env = (false, eval e X.env) :: starEach es X.env := by rfl) (hpl : (backTo pos (starEach es X.env)).any (·.1) = false := by rfl) :
    PE X (.Call (.Name x p) (e :: es) [] pos) (tCl sp t) := by
  obtain ⟨f, fd, D, F⟩ := c.ex
  refine ⟨fun pins s σ H Q I h => ?_⟩
  have q := (pe_call (E := E0) (p := p) (F.mono hk) hr hg D.at_ D.fn.kp D.bd .nil pass0 ha hdb he hpl).run pins s σ H Q I
  refine q ?_
  have h' : t σ H (fun vs H1 => sp vs H1 Q E0) := h
  show t σ H fun vs H1 => sp (vs ++ []) H1 Q E0
  simp only [List.append_nil]
  exact h'
theorem pe_cl0 (c : Cl X.prog X.w X.K X.mg X.base k x st ps sp) (hr : Room j X.A) (hk : k ≤ j) (hg : Gl X x := by rfl) (hdb : (x == ("__debug__" : Str)) = false := by decide) :
    PE X (.Call (.Name x p) [] [] pos) (tCl sp tNil) := by
  obtain ⟨f, fd, D, F⟩ := c.ex
  exact pe_call0 (E := E0) (F.mono hk) hr hg D.at_ D.fn.kp D.bd .nil pass0 hdb
/-- f(k = v, ..) -/
def tClK (sp : Sp) (gV : List V → List V → List V) (tk : TA) : TE := fun σ H Q => tk σ H fun zs H1 => sp (gV [] zs) H1 Q E0
theorem pe_clK {ks : List Str} {g : List Value → List Value → List Value} {gV : List V → List V → List V} {kws : List Keyword} {tk : TA} (c : Cl X.prog X.w X.K X.mg X.base k x st ps sp) (hr : Room j X.A) (hk : k ≤ j)
    (hb : ∀ f fd, Fun X.K x x st f fd → KBinds X.K fd ps ks g gV) (hkw : PK X kws tk)
    (hg : Gl X x := by rfl) (hall : (backToKw pos (keywordEach kws X.env)).all (·.1.isSome) = true := by rfl) (hks : (backToKw pos (keywordEach kws X.env)).filterMap (·.1) = ks := by rfl) (hdb : (x == ("__debug__" : Str)) = false := by decide)
    (hpl : ((backTo pos (starEach [] X.env)).any (·.1) || (backToKw pos (keywordEach kws X.env)).any (·.1.isNone)) = false := by rfl) :
    PE X (.Call (.Name x p) [] kws pos) (tClK sp gV tk) := by
  obtain ⟨f, fd, D, F⟩ := c.ex
  refine ⟨fun pins s σ H Q I h => ?_⟩
  refine wpAny_Call_Name_kw (ld_glob I hg D.at_ ?_ hdb)
  refine PySem.W.callWith_KW0 (h₀ := X.base) I.ok.mod.kin D.fn.kp hall ?_ hpl
  refine thn (hkw.run pos pins s σ H _ I h) fun ws s2 ⟨zs, H2, I2, rz, q2⟩ => ⟨I2.kIn, ?_⟩
  rw [hks]
  exact run_fnk (E := E0) (us := []) (vs := []) (F.mono hk) hr (hb f fd D.fn) pass0 I2 .nil rz q2
end
/-- keywords alone, in an order of their own -/
theorem kb_of {K : PySem.W.Frag} {x : Str} {st : Stmt} {f : Addr} {fd : FuncData} {ps ks : List Str} {g : List Value → List Value} {gV : List V → List V} (F : Fun K x x st f fd) (hne : ps ≠ [])
    (h : ∀ (kV doc pm : Value) (an : Option Addr) (cdv ct : Value) (ws : List Value), (g ws).length = ps.length → bindArgs (PySem.W.fnOf x x (defArgs st) (defBody st) (defScope st) .none kV doc pm an cdv ct) ⟨[], ks.zip ws⟩ = pure (ps.zip (g ws)))
    (r : ∀ {zs : List V} {ws : List Value}, Vals zs ws → Vals (gV zs) (g ws)) : KBinds K fd ps ks (fun us ws => match us with | [] => g ws | _ :: _ => []) (fun vs zs => match vs with | [] => gV zs | _ :: _ => []) := by
  obtain ⟨oc, od, kV, doc, pm, an, cdv, ct, osl, rfl, lk, hcd⟩ := F.ex
  refine ⟨fun s us ws _ hl => ?_, fun {vs us zs ws} r1 r2 => ?_⟩
  · cases us with
    | nil => exact .of_eq (h kV doc pm an cdv ct ws hl)
    | cons u us => exact absurd (List.length_eq_zero_iff.mp hl.symm) hne
  · cases r1 with
    | nil => exact r r2
    | cons _ _ => exact .nil
end Pg
namespace Pg
open PySem PySem.Spec PyProof.Rows L2
open Builtin Builtin.Str
/-! ### texts as lists of letters -/
/-- the text of these signs -/
abbrev tx (l : List Nat) : Str := ⟨l.toArray⟩
abbrev Tx (l : List Nat) : V := .str (tx l)
/-- letters a, b, c alone -/
def Abc (l : List Nat) : Prop := ∀ c ∈ l, c = 97 ∨ c = 98 ∨ c = 99
theorem tx_inj {a b : List Nat} (h : tx a = tx b) : a = b := by
  have q : (tx a).cps.toList = (tx b).cps.toList := by rw [h]
  simpa using q
theorem tx_of (s : Str) : ∃ l, s = tx l := ⟨s.cps.toList, by cases s; simp [tx]⟩
theorem tx_len (l : List Nat) : (tx l).length = l.length := by simp [Str.length]
theorem tx_app (a b : List Nat) : tx a ++ tx b = tx (a ++ b) := by
  show (⟨a.toArray ++ b.toArray⟩ : Str) = _
  simp [tx]
theorem tx_cut (l : List Nat) (lo hi : Option Int) : cutS (tx l) lo hi = tx ((l.drop (HT.sIx l.length 0 lo)).take (HT.sIx l.length l.length hi - HT.sIx l.length 0 lo)) := by
  unfold cutS
  rw [tx_len]
theorem tx_upto (l : List Nat) (k : Nat) : cutS (tx l) none (some (k : Int)) = tx (l.take k) := by
  rw [tx_cut, HT.sIx_none, HT.sIx_nat]
  rw [List.drop_zero, Nat.sub_zero]
  rcases Nat.le_total k l.length with h | h
  · rw [Nat.min_eq_left h]
  · rw [Nat.min_eq_right h, List.take_of_length_le (Nat.le_refl _), List.take_of_length_le h]
theorem tx_init (l : List Nat) : cutS (tx l) none (some (-1)) = tx l.dropLast := by
  rw [tx_cut, HT.sIx_none]
  have e : HT.sIx l.length l.length (some (-1)) = l.length - 1 := by
    show (if (-1 : Int) < 0 then ((-1 : Int) + (l.length : Int)).toNat else min (-1 : Int).toNat l.length) = _
    rw [if_pos (by decide)]
    omega
  rw [e, List.drop_zero, Nat.sub_zero, ← List.dropLast_eq_take]
theorem tx_last (l : List Nat) : cutS (tx l) (some (-1)) none = tx (l.drop (l.length - 1)) := by
  rw [tx_cut, HT.sIx_none]
  have e : HT.sIx l.length 0 (some (-1)) = l.length - 1 := by
    show (if (-1 : Int) < 0 then ((-1 : Int) + (l.length : Int)).toNat else min (-1 : Int).toNat l.length) = _
    rw [if_pos (by decide)]
    omega
  rw [e]
  congr 2
  rw [List.take_of_length_le]
  rw [List.length_drop]
  exact Nat.le_refl _
theorem foldl_app_rep {α : Type} (c : α) : ∀ (n : Nat) (acc : Array α), (List.replicate n #[c]).foldl (· ++ ·) acc = acc ++ (List.replicate n c).toArray
  | 0, acc => by simp
  | n + 1, acc => by
    rw [List.replicate_succ, List.foldl_cons, foldl_app_rep c n, List.replicate_succ]
    apply Array.ext'
    simp
theorem tx_mul (c : Nat) (n : Int) : Txt.mul (tx [c]) n = tx (List.replicate n.toNat c) := by
  unfold Txt.mul
  by_cases h : n < 1
  · rw [if_pos h, show n.toNat = 0 by omega]
    rfl
  · rw [if_neg h]
    by_cases h1 : n = 1
    · subst h1
      rfl
    · rw [if_neg (by simp [h1, Str.length])]
      show (⟨(List.replicate n.toNat #[c]).foldl (· ++ ·) #[]⟩ : Str) = _
      rw [foldl_app_rep]
      simp [tx]
theorem mulOk (c : Nat) {n : Int} (h0 : -1000 ≤ n) (h1 : n ≤ 100000) : MulOk (tx [c]) n := by
  refine ⟨by simp; omega, fun a b q => ?_, fun a b => ?_⟩
  · rw [tx_len] at q
    have e : (1 : Int) ≤ (2 ^ 63 - 1) / n := by
      have hp : 0 < n := by omega
      exact (Int.le_ediv_iff_mul_le hp).mpr (by omega)
    have q' : (([c].length : Nat) : Int) = 1 := rfl
    rw [q'] at q
    have e2 : (1 : Int) > (2 ^ 63 - 1) / n := q
    exact absurd e (by omega)
  · rw [tx_len]
    have e : ([c].length * n.toNat) ≤ sizeLine := Nat.le_trans (show [c].length * n.toNat ≤ 100000 by simp; omega) (by decide)
    unfold tooLong
    simpa using e
theorem foldl_app {α : Type} : ∀ (ps : List (List α)) (acc : Array α), (ps.map List.toArray).foldl (fun a p => a ++ p) acc = acc ++ ps.flatten.toArray
  | [], acc => by simp
  | p :: ps, acc => by
    rw [List.map_cons, List.foldl_cons, foldl_app ps, List.flatten_cons]
    apply Array.ext'
    simp
theorem join_abc (cs : List Nat) : Txt.join (tx []) (cs.map fun c => tx [c]) = tx cs := by
  cases cs with
  | nil => rfl
  | cons c cs =>
    show (⟨((cs.map fun c => tx [c])).foldl (fun acc p => acc ++ (tx []).cps ++ p.cps) (tx [c]).cps⟩ : Str) = _
    have e : ∀ (l : List Nat) (acc : Array Nat), (l.map fun c => tx [c]).foldl (fun acc p => acc ++ (tx []).cps ++ p.cps) acc = acc ++ l.toArray := by
      intro l
      induction l with
      | nil => intro acc; simp
      | cons x l ih =>
        intro acc
        rw [List.map_cons, List.foldl_cons, ih]
        apply Array.ext'
        simp
    rw [e]
    simp [tx]
theorem Abc.nil : Abc [] := fun _ h => nomatch h
theorem Abc.app {a b : List Nat} (h : Abc a) (g : Abc b) : Abc (a ++ b) := fun c m => (List.mem_append.mp m).elim (h c) (g c)
theorem Abc.take {a : List Nat} (h : Abc a) (n : Nat) : Abc (a.take n) := fun c m => h c (List.mem_of_mem_take m)
theorem Abc.drop {a : List Nat} (h : Abc a) (n : Nat) : Abc (a.drop n) := fun c m => h c (List.mem_of_mem_drop m)
theorem Abc.init {a : List Nat} (h : Abc a) : Abc a.dropLast := fun c m => h c (List.dropLast_subset _ m)
theorem Abc.rep (n : Nat) {c : Nat} (h : c = 97 ∨ c = 98 ∨ c = 99) : Abc (List.replicate n c) := fun x m => by
  rw [(List.mem_replicate.mp m).2]
  exact h
theorem Abc.one {c : Nat} (h : c = 97 ∨ c = 98 ∨ c = 99) : Abc [c] := fun x m => by
  rw [List.mem_singleton.mp m]
  exact h
theorem abc_lit : ("abc" : Str) = tx [97, 98, 99] := by decide +kernel
theorem nil_lit : ("" : Str) = tx [] := by decide +kernel
theorem goes_abc (c : Nat) : (tx [97, 98, 99]).cps.contains c = true ↔ (c = 97 ∨ c = 98 ∨ c = 99) := by
  simp [tx]
/-- strip('abc') leaves nothing just of letters alone -/
theorem strip_abc (l : List Nat) : (Txt.stripChars (tx l) (tx [97, 98, 99]) = tx []) ↔ Abc l := by
  unfold Txt.stripChars
  rw [stripBy_eq]
  obtain ⟨a1, a2, a3⟩ := lo_facts (tx [97, 98, 99]).cps.contains (tx l)
  obtain ⟨b1, b2, b3, b4⟩ := hi_facts (tx [97, 98, 99]).cps.contains (tx l) _ a1
  generalize stripLo (tx [97, 98, 99]).cps.contains true (tx l) = lo at *
  generalize stripHi (tx [97, 98, 99]).cps.contains true (tx l) lo = hi at *
  have gd : ∀ k, (tx l).cps.getD k 0 = l.getD k 0 := fun k => by rw [← getD_list]
  have hlen : (tx l).length = l.length := tx_len l
  rw [hlen] at a1 a3 b2 b3
  have size : (strSub (tx l) lo hi).length = hi - lo := by
    unfold strSub Str.length
    simp
    omega
  constructor
  · intro h
    have e : hi - lo = 0 := by rw [← size, h]; rfl
    have e2 : hi = lo := by omega
    subst e2
    have all : ∀ k, k < l.length → (tx [97, 98, 99]).cps.contains (l.getD k 0) = true := fun k hk => by
      rw [← gd]
      by_cases q : k < hi
      · exact a2 k q
      · exact b3 k (by omega) hk
    intro c m
    obtain ⟨k, hk, rfl⟩ := List.mem_iff_getElem.mp m
    have := all k hk
    rw [List.getD_eq_getElem?_getD, List.getElem?_eq_getElem hk] at this
    exact (goes_abc _).mp this
  · intro h
    have e : lo = l.length := by
      rcases a3 with e | e
      · exact e
      · by_cases q : lo < l.length
        · rw [gd, List.getD_eq_getElem?_getD, List.getElem?_eq_getElem q] at e
          have := (goes_abc _).mpr (h _ (List.getElem_mem q))
          rw [Option.getD_some] at e
          rw [e] at this
          cases this
        · omega
    have z : (strSub (tx l) lo hi).length = 0 := by omega
    have : (strSub (tx l) lo hi).cps = #[] := Array.eq_empty_of_size_eq_zero z
    cases hh : strSub (tx l) lo hi with
    | mk c =>
      rw [hh] at this
      show (⟨c⟩ : Str) = ⟨#[]⟩
      rw [show c = #[] from this]
/-! ### picking -/
theorem pick {α : Type} {xs : List α} {d : Int} (h0 : 0 ≤ d) (h1 : d < (xs.length : Int)) : ∃ v, v ∈ xs ∧ atI xs d = some v := by
  obtain ⟨k, rfl⟩ := Int.eq_ofNat_of_zero_le h0
  have hk : k < xs.length := by omega
  exact ⟨xs[k], List.getElem_mem hk, atI_nat (List.getElem?_eq_getElem hk)⟩
theorem pick_int {ns : List Int} {d : Int} (h0 : 0 ≤ d) (h1 : d < (ns.length : Int)) : ∃ v, v ∈ ns ∧ atI (ns.map V.int) d = some (.int v) := by
  obtain ⟨v, m, e⟩ := pick (xs := ns.map V.int) h0 (by rw [List.length_map]; exact h1)
  obtain ⟨n, hn, rfl⟩ := List.mem_map.mp m
  exact ⟨n, hn, e⟩
theorem at0 {α : Type} {a : α} {l : List α} : atI (a :: l) 0 = some a := atI_nat (j := 0) rfl
theorem at1 {α : Type} {a b : α} {l : List α} : atI (a :: b :: l) 1 = some b := atI_nat (j := 1) rfl
theorem sz {n : Nat} (h : n ≤ 100000) : n ≤ sizeLine := Nat.le_trans h (by decide)
theorem szt {l : List Nat} (h : l.length ≤ 100000) : (tx l).length ≤ sizeLine := by
  rw [tx_len]
  exact sz h
theorem inV_str (s : Str) : ∀ ws : List Str, inV (.str s) (ws.map V.str) = decide (s ∈ ws)
  | [] => rfl
  | x :: ws => by
    have ih := inV_str s ws
    unfold inV at ih ⊢
    rw [List.map_cons, List.any_cons, ih]
    show ((x == s) || decide (s ∈ ws)) = _
    by_cases e : x = s
    · subst e
      simp
    · have : (x == s) = false := beq_eq_false_iff_ne.mpr e
      rw [this]
      simp
      exact fun q => absurd q.symm e
end Pg
namespace Pg
open PySem PySem.Spec PyProof.Rows L2
/-! ### lists of texts, compared -/
theorem strOk_abc {l : List Nat} (h : Abc l) : PyData.canLay0 (.str (tx l)) = true := by
  unfold PyData.canLay0 PyData.strOk
  simp
  intro c m
  rcases h c m with e | e | e <;> subst e <;> decide
theorem canLay_strs : ∀ {ls : List (List Nat)}, (∀ l ∈ ls, Abc l) → PyData.canLayAll0 (ls.map fun l => .str (tx l)) = true
  | [], _ => rfl
  | l :: ls, h => by
    show (PyData.canLay0 (.str (tx l)) && PyData.canLayAll0 (ls.map fun l => .str (tx l))) = true
    rw [strOk_abc (h l List.mem_cons_self), canLay_strs fun m q => h m (List.mem_cons_of_mem _ q)]
    rfl
theorem depth_strs : ∀ (ls : List (List Nat)), PyData.depthAll (ls.map fun l => .str (tx l)) = 0
  | [] => rfl
  | l :: ls => by
    show max 0 (PyData.depthAll (ls.map fun l => .str (tx l))) = 0
    rw [depth_strs ls]
    rfl
theorem shaped_strs {ls : List (List Nat)} (h : ∀ l ∈ ls, Abc l) : SeqAt.shaped (.list (ls.map fun l => .str (tx l))) = true := by
  unfold SeqAt.shaped
  rw [show PyData.canLay0 (.list (ls.map fun l => .str (tx l))) = true from canLay_strs h]
  rw [show PyData.depth (.list (ls.map fun l => .str (tx l))) = 0 + 1 by show PyData.depthAll _ + 1 = _; rw [depth_strs]]
  rfl
theorem dp_strs {K : PySem.W.Frag} {H : Hp} : ∀ (ls : List (List Nat)), DpAll K H (ls.map Tx) (ls.map fun l => .str (tx l))
  | [] => .nil
  | l :: ls => .cons (.str _) (dp_strs ls)
theorem ne_nil_strs {K : PySem.W.Frag} {H : Hp} {p q : Addr} {ls : List (List Nat)} {Q : VK} (hp : SqL K H p (ls.map Tx)) (h : ∀ l ∈ ls, Abc l) (hq : H q = some (.lst [])) (k : Q (.bl (!ls.isEmpty)) H) : rNeD K (.ref p) (.ref q) H Q := by
  refine ⟨.list (ls.map fun l => .str (tx l)), .list [], .lst hp (dp_strs ls), .lst (SqL.of hq) .nil, shaped_strs h, rfl, ?_⟩
  have e : PyData.eqv (.list (ls.map fun l => .str (tx l))) (.list []) = ls.isEmpty := by
    cases ls with
    | nil => rfl
    | cons l ls => rfl
  rw [e]
  exact k
end Pg
namespace Pg
open PySem PySem.Spec PyProof.Rows L2
/-! ### any values: what they are, as far as the program looks -/
inductive Dt where
  | non | bl (b : Bool) | int (i : Int) | str (l : List Nat) | tup (ds : List Dt) | lst | obj
mutual
def Dt.dep : Dt → Nat
  | .tup ds => Dt.depL ds + 1
  | _ => 0
def Dt.depL : List Dt → Nat
  | [] => 0
  | d :: ds => max d.dep (Dt.depL ds)
end
theorem Dt.dep_mem : ∀ {ds : List Dt} {d : Dt}, d ∈ ds → d.dep ≤ Dt.depL ds
  | e :: ds, d, m => by
    rcases List.mem_cons.mp m with rfl | m
    · exact Nat.le_max_left _ _
    · exact Nat.le_trans (Dt.dep_mem m) (Nat.le_max_right _ _)
theorem Dt.depL_le : ∀ {ds : List Dt} {n : Nat}, (∀ d ∈ ds, d.dep ≤ n) → Dt.depL ds ≤ n
  | [], _, _ => Nat.zero_le _
  | d :: ds, n, h => Nat.max_le.mpr ⟨h d List.mem_cons_self, Dt.depL_le fun e m => h e (List.mem_cons_of_mem _ m)⟩
mutual
inductive Rp (K : PySem.W.Frag) (H : Hp) : V → Dt → Prop
  | non : Rp K H .non .non
  | bl (b : Bool) : Rp K H (.bl b) (.bl b)
  | int (i : Int) : Rp K H (.int i) (.int i)
  | str (l : List Nat) (h : l.length ≤ 100000) : Rp K H (Tx l) (.str l)
  | tup {a : Addr} {vs : List V} {ds : List Dt} : SqT K H a vs → vs.length ≤ 100000 → RpL K H vs ds → Rp K H (.ref a) (.tup ds)
  | lst {a : Addr} {vs : List V} : H a = some (.lst vs) → Rp K H (.ref a) .lst
  | obj {a C : Addr} : H a = some (ExO (.ref C) a) → Rp K H (.ref a) .obj
inductive RpL (K : PySem.W.Frag) (H : Hp) : List V → List Dt → Prop
  | nil : RpL K H [] []
  | cons {v : V} {vs : List V} {d : Dt} {ds : List Dt} : Rp K H v d → RpL K H vs ds → RpL K H (v :: vs) (d :: ds)
end
/-- S has nothing but lists -/
def Lsts (H : Hp) (S : List Addr) : Prop := ∀ p ∈ S, ∃ xs, H p = some (.lst xs)
theorem Lsts.nil {H : Hp} : Lsts H [] := fun _ m => nomatch m
theorem Lsts.one {H : Hp} {p : Addr} {xs : List V} (h : H p = some (.lst xs)) : Lsts H [p] := fun q m => by
  rw [List.mem_singleton.mp m]
  exact ⟨xs, h⟩
theorem Lsts.cons {H : Hp} {p : Addr} {S : List Addr} {xs : List V} (h : H p = some (.lst xs)) (t : Lsts H S) : Lsts H (p :: S) := fun q m => by
  rcases List.mem_cons.mp m with rfl | m
  · exact ⟨xs, h⟩
  · exact t q m
theorem Lsts.stp {H H' : Hp} {S S' : List Addr} (h : Lsts H S) (s : Stp S' H H') : Lsts H' S := fun p m => by
  obtain ⟨xs, e⟩ := h p m
  exact s.ls p xs e
theorem sqt_stp {K : PySem.W.Frag} {H H' : Hp} {S : List Addr} {a : Addr} {vs : List V} (s : Stp S H H') (l : Lsts H S) (h : SqT K H a vs) : SqT K H' a vs := by
  rcases h with (h | ⟨o, h⟩) | h
  · refine .inl (.inl (s.kp a _ (fun m => ?_) h))
    obtain ⟨xs, e⟩ := l a m
    rw [h] at e
    cases e
  · refine .inl (.inr ⟨o, s.kp a _ (fun m => ?_) h⟩)
    obtain ⟨xs, e⟩ := l a m
    rw [h] at e
    cases e
  · exact .inr h
mutual
theorem Rp.stp {K : PySem.W.Frag} {H H' : Hp} {S : List Addr} (s : Stp S H H') (l : Lsts H S) : ∀ {v : V} {d : Dt}, Rp K H v d → Rp K H' v d
  | _, .non, .non => .non
  | _, .bl _, .bl b => .bl b
  | _, .int _, .int i => .int i
  | _, .str _, .str x h => .str x h
  | _, .tup ds, .tup h n r => .tup (sqt_stp s l h) n (RpL.stp s l r)
  | _, .lst, .lst (a := a) (vs := vs) h => by
    obtain ⟨ys, e⟩ := s.ls a vs h
    exact .lst e
  | _, .obj, .obj (a := a) (C := C) h => by
    refine .obj (C := C) (s.kp a _ (fun m => ?_) h)
    obtain ⟨xs, e⟩ := l a m
    rw [h] at e
    cases e
theorem RpL.stp {K : PySem.W.Frag} {H H' : Hp} {S : List Addr} (s : Stp S H H') (l : Lsts H S) : ∀ {vs : List V} {ds : List Dt}, RpL K H vs ds → RpL K H' vs ds
  | _, [], .nil => .nil
  | _, _ :: _, .cons h r => .cons (Rp.stp s l h) (RpL.stp s l r)
end
theorem RpL.len {K : PySem.W.Frag} {H : Hp} : ∀ {vs : List V} {ds : List Dt}, RpL K H vs ds → vs.length = ds.length
  | _, [], .nil => rfl
  | _, _ :: _, .cons _ r => by rw [List.length_cons, List.length_cons, RpL.len r]
theorem RpL.get {K : PySem.W.Frag} {H : Hp} : ∀ {vs : List V} {ds : List Dt} {i : Nat} {v : V}, RpL K H vs ds → vs[i]? = some v → ∃ d, ds[i]? = some d ∧ Rp K H v d
  | _, [], _, _, .nil, e => by simp at e
  | _, d :: _, 0, _, .cons h _, e => by
    simp at e
    subst e
    exact ⟨d, rfl, h⟩
  | _, _ :: _, i + 1, v, .cons _ r, e => RpL.get (i := i) (v := v) r (by simpa using e)
theorem RpL.app {K : PySem.W.Frag} {H : Hp} : ∀ {vs ws : List V} {ds es : List Dt}, RpL K H vs ds → RpL K H ws es → RpL K H (vs ++ ws) (ds ++ es)
  | _, _, [], _, .nil, q => q
  | _, _, _ :: _, _, .cons h r, q => .cons h (RpL.app r q)
theorem RpL.one {K : PySem.W.Frag} {H : Hp} : ∀ {vs : List V} {ds : List Dt}, RpL K H vs ds → vs.length = 1 → ∃ v d, vs = [v] ∧ ds = [d] ∧ Rp K H v d
  | _, [], .nil, h => by simp at h
  | _, [d], .cons h .nil, _ => ⟨_, d, rfl, rfl, h⟩
  | _, _ :: _ :: _, .cons _ (.cons _ _), h => by simp at h
/-! ### type(x), is -/
/-- the name of a value's built-in class; none for an object of the package -/
def Dt.ty : Dt → Option String
  | .non => some "NoneType"
  | .bl _ => some "bool"
  | .int _ => some "int"
  | .str _ => some "str"
  | .tup _ => some "tuple"
  | .lst => some "list"
  | .obj => none
def rTy (K : PySem.W.Frag) : List V → Hp → VK → Prop := fun xs H Q => ∃ x d, xs = [x] ∧ Rp K H x d ∧ ∀ y, (∀ T, d.ty = some T → y = .ty T) → (d.ty = none → ∃ C, y = .ref C) → Q y H
section
variable {X : Cx}
theorem call_type : CallR X (.type "type") (rTy X.K) := by
  intro pins s σ H xs us Q I r h
  obtain ⟨x, d, rfl, rp, q⟩ := h
  have old : ∀ T, TyB X.K H x T → d.ty = some T → wpAny (model X.prog X.w) X.A (call (.type "type") us) (EP X pins σ Q) X.xe s := fun T t e => by
    refine call_type1 pins s σ H [x] us Q I r ⟨x, T, rfl, t, q _ (fun T' e' => ?_) (fun n => ?_)⟩
    · rw [e] at e'
      cases e'
      rfl
    · rw [e] at n
      cases n
  cases rp with
  | non => exact old _ .non rfl
  | bl b => exact old _ (.bl b) rfl
  | int i => exact old _ (.int i) rfl
  | str l hl => exact old _ (.str _) rfl
  | tup hs hn ha => exact old _ (.tup hs) rfl
  | lst hs => exact old _ (.lst (SqL.of hs)) rfl
  | obj ho =>
    rename_i a C
    obtain ⟨u, rfl, rx⟩ := vals1 r
    cases rx
    obtain ⟨⟨oe, vs, e1, ⟨e2, e3⟩, e4, _⟩, _⟩ := I.hok _ _ ho
    obtain ⟨hh, g, dd, t, os⟩ := s
    exact call_type_obj e1 (by rw [e2]; rfl) (by rw [e2]; exact ⟨.ref C, H, I, rfl, q _ (fun T e => nomatch e) (fun _ => ⟨C, rfl⟩)⟩)
def rTyIs (neg : Bool) : R2 := fun x y H Q => ∃ T, y = .ty T ∧ ((∃ T', x = .ty T' ∧ Q (.bl (neg ^^ decide (T' = T))) H) ∨ ∃ C, x = .ref C ∧ Q (.bl neg) H)
theorem op_isTy : OpR X (compareOp .Is) (rTyIs false) := by
  intro pins s σ H x y v u Q I rx ry h
  obtain ⟨T, rfl, ⟨T', rfl, q⟩ | ⟨C, rfl, q⟩⟩ := h
  · exact op_isTyB pins s σ H _ _ _ _ _ I rx ry ⟨T', T, rfl, rfl, by rwa [Bool.false_xor] at q⟩
  · cases (show v = Value.ref C from rx)
    cases (show u = Value.type T from ry)
    exact wpAny_is_other rfl (by intro e; cases e) ⟨.bl false, H, I, rfl, q⟩
theorem op_notTy : OpR X (compareOp .IsNot) (rTyIs true) := by
  intro pins s σ H x y v u Q I rx ry h
  obtain ⟨T, rfl, ⟨T', rfl, q⟩ | ⟨C, rfl, q⟩⟩ := h
  · exact op_notTyB pins s σ H _ _ _ _ _ I rx ry ⟨T', T, rfl, rfl, by rwa [Bool.true_xor] at q⟩
  · cases (show v = Value.ref C from rx)
    cases (show u = Value.type T from ry)
    exact wpAny_isNot_other rfl (by intro e; cases e) ⟨.bl true, H, I, rfl, q⟩
end
/-- type(x) is T, type(x) is not T -/
theorem ty_is {K : PySem.W.Frag} {H : Hp} {x : V} {d : Dt} {T : String} {neg : Bool} {Q : VK} (r : Rp K H x d) (k : Q (.bl (neg ^^ decide (d.ty = some T))) H) : rTy K [x] H fun y H1 => rTyIs neg y (.ty T) H1 Q := by
  refine ⟨x, d, rfl, r, fun y h1 h2 => ⟨T, rfl, ?_⟩⟩
  cases e : d.ty with
  | none =>
    obtain ⟨C, rfl⟩ := h2 e
    refine .inr ⟨C, rfl, ?_⟩
    rw [e] at k
    simpa using k
  | some T' =>
    rw [h1 T' e]
    refine .inl ⟨T', rfl, ?_⟩
    rw [e] at k
    simpa using k
/-! ### type(e) is T as one piece -/
def Mono (te : TE) : Prop := ∀ σ H (Q Q' : VK), (∀ v H', Q v H' → Q' v H') → te σ H Q → te σ H Q'
theorem Mono.var {i : Nat} : Mono (tVar i) := fun σ H Q Q' h ⟨v, e, q⟩ => ⟨v, e, h _ _ q⟩
theorem Mono.c {v : V} : Mono (tC v) := fun σ H Q Q' h q => h _ _ q
theorem Mono.op {r : R2} {ta tb : TE} (ha : Mono ta) (hb : Mono tb) (hr : ∀ x y H (Q Q' : VK), (∀ v H', Q v H' → Q' v H') → r x y H Q → r x y H Q') : Mono (tOp r ta tb) := fun σ H Q Q' h q =>
  ha σ H _ _ (fun x H1 q1 => hb σ H1 _ _ (fun y H2 q2 => hr x y H2 _ _ h q2) q1) q
theorem Mono.ixT {K : PySem.W.Frag} {ta tb : TE} (ha : Mono ta) (hb : Mono tb) : Mono (tOp (rIxT K) ta tb) := Mono.op ha hb fun _ _ _ _ _ h ⟨p, xs, i, v, e1, e2, e3, e4, q⟩ => ⟨p, xs, i, v, e1, e2, e3, e4, h _ _ q⟩
theorem Mono.ixL {K : PySem.W.Frag} {ta tb : TE} (ha : Mono ta) (hb : Mono tb) : Mono (tOp (rIxL K) ta tb) := Mono.op ha hb fun _ _ _ _ _ h ⟨p, xs, i, v, e1, e2, e3, e4, q⟩ => ⟨p, xs, i, v, e1, e2, e3, e4, h _ _ q⟩
def tTyIs (K : PySem.W.Frag) (neg : Bool) (T : String) (te : TE) : TE := fun σ H Q => te σ H fun x H1 => ∃ d, Rp K H1 x d ∧ Q (.bl (neg ^^ decide (d.ty = some T))) H1
def tTTyIs (K : PySem.W.Frag) (neg : Bool) (T : String) (te : TE) : TT := fun σ H Q => te σ H fun x H1 => ∃ d, Rp K H1 x d ∧ Q (neg ^^ decide (d.ty = some T)) H1
section
variable {X : Cx} {e : Expr} {te : TE} {T : String} {x : Str} {p pos q pos2 : Pos}
theorem pe_tyIs (hm : Mono te) (he : PE X e te) (hn : X.mg "type" = none) (hT : X.mg x = none) (hv : bootBuiltins x = some (Value.type T)) (hg : Gl X "type" := by rfl) (hgT : Gl X x := by rfl) (hnn : x ≠ "__name__" := by decide) (hd : (x == ("__debug__" : Str)) = false := by decide)
    (hs : starEach [e] X.env = (false, eval e X.env) :: starEach [] X.env := by rfl) (hpl : (backTo pos (starEach [] X.env)).any (·.1) = false := by rfl) :
    PE X (.Compare (.Call (.Name "type" p) [e] [] pos) [.Is] [.Name x q] pos2) (tTyIs X.K false T te) := by
  have h := pe_cmpR (X := X) (pos := pos2) op_isTy (pe_callTy (p := p) (pos := pos) call_type hg hn (by decide +kernel) (pa_cons he pa_nil (hs := hs)) (he := hs) (hpl := hpl)) (pe_bltn (v := .ty T) (pos := q) hgT hT hv rfl hnn hd) (nomark _)
  refine ⟨fun pins s σ H Q I hw => h.run pins s σ H Q I ?_⟩
  exact hm σ H _ _ (fun v H1 ⟨d, r, k⟩ => ty_is (neg := false) r k) hw
theorem pe_tyNot (hm : Mono te) (he : PE X e te) (hn : X.mg "type" = none) (hT : X.mg x = none) (hv : bootBuiltins x = some (Value.type T)) (hg : Gl X "type" := by rfl) (hgT : Gl X x := by rfl) (hnn : x ≠ "__name__" := by decide) (hd : (x == ("__debug__" : Str)) = false := by decide)
    (hs : starEach [e] X.env = (false, eval e X.env) :: starEach [] X.env := by rfl) (hpl : (backTo pos (starEach [] X.env)).any (·.1) = false := by rfl) :
    PE X (.Compare (.Call (.Name "type" p) [e] [] pos) [.IsNot] [.Name x q] pos2) (tTyIs X.K true T te) := by
  have h := pe_cmpR (X := X) (pos := pos2) op_notTy (pe_callTy (p := p) (pos := pos) call_type hg hn (by decide +kernel) (pa_cons he pa_nil (hs := hs)) (he := hs) (hpl := hpl)) (pe_bltn (v := .ty T) (pos := q) hgT hT hv rfl hnn hd) (nomark _)
  refine ⟨fun pins s σ H Q I hw => h.run pins s σ H Q I ?_⟩
  exact hm σ H _ _ (fun v H1 ⟨d, r, k⟩ => ty_is (neg := true) r k) hw
theorem pt_tyIs (hm : Mono te) (he : PE X e te) (hn : X.mg "type" = none) (hT : X.mg x = none) (hv : bootBuiltins x = some (Value.type T)) (hg : Gl X "type" := by rfl) (hgT : Gl X x := by rfl) (hnn : x ≠ "__name__" := by decide) (hd : (x == ("__debug__" : Str)) = false := by decide)
    (hs : starEach [e] X.env = (false, eval e X.env) :: starEach [] X.env := by rfl) (hpl : (backTo pos (starEach [] X.env)).any (·.1) = false := by rfl) :
    PT X (.Compare (.Call (.Name "type" p) [e] [] pos) [.Is] [.Name x q] pos2) (tTTyIs X.K false T te) := by
  have h := pt_cmpR (X := X) (pos := pos2) op_isTy (pe_callTy (p := p) (pos := pos) call_type hg hn (by decide +kernel) (pa_cons he pa_nil (hs := hs)) (he := hs) (hpl := hpl)) (pe_bltn (v := .ty T) (pos := q) hgT hT hv rfl hnn hd) (nomark _)
  refine ⟨fun pins s σ H Q I hw => h.run pins s σ H Q I ?_⟩
  exact hm σ H _ _ (fun v H1 ⟨d, r, k⟩ => ty_is (neg := false) (Q := fun x H' => ∃ k, x = .bl k ∧ Q k H') r ⟨_, rfl, k⟩) hw
theorem pt_tyNot (hm : Mono te) (he : PE X e te) (hn : X.mg "type" = none) (hT : X.mg x = none) (hv : bootBuiltins x = some (Value.type T)) (hg : Gl X "type" := by rfl) (hgT : Gl X x := by rfl) (hnn : x ≠ "__name__" := by decide) (hd : (x == ("__debug__" : Str)) = false := by decide)
    (hs : starEach [e] X.env = (false, eval e X.env) :: starEach [] X.env := by rfl) (hpl : (backTo pos (starEach [] X.env)).any (·.1) = false := by rfl) :
    PT X (.Compare (.Call (.Name "type" p) [e] [] pos) [.IsNot] [.Name x q] pos2) (tTTyIs X.K true T te) := by
  have h := pt_cmpR (X := X) (pos := pos2) op_notTy (pe_callTy (p := p) (pos := pos) call_type hg hn (by decide +kernel) (pa_cons he pa_nil (hs := hs)) (he := hs) (hpl := hpl)) (pe_bltn (v := .ty T) (pos := q) hgT hT hv rfl hnn hd) (nomark _)
  refine ⟨fun pins s σ H Q I hw => h.run pins s σ H Q I ?_⟩
  exact hm σ H _ _ (fun v H1 ⟨d, r, k⟩ => ty_is (neg := true) (Q := fun x H' => ∃ k, x = .bl k ∧ Q k H') r ⟨_, rfl, k⟩) hw
end
end Pg
namespace Pg
open PySem PySem.Spec PyProof.Rows L2
/-! ### readings are monotone: a piece may be cut off by what it leaves -/
def MonoT (t : TT) : Prop := ∀ σ H (Q Q' : Bool → Hp → Prop), (∀ b H', Q b H' → Q' b H') → t σ H Q → t σ H Q'
def MonoA (t : TA) : Prop := ∀ σ H (Q Q' : List V → Hp → Prop), (∀ vs H', Q vs H' → Q' vs H') → t σ H Q → t σ H Q'
def MonoS (sp : Sp) : Prop := ∀ vs H (Q Q' : VK) E, (∀ v H', Q v H' → Q' v H') → sp vs H Q E → sp vs H Q' E
def MonoR (r : R2) : Prop := ∀ x y H (Q Q' : VK), (∀ v H', Q v H' → Q' v H') → r x y H Q → r x y H Q'
def MonoC (r : List V → Hp → VK → Prop) : Prop := ∀ vs H (Q Q' : VK), (∀ v H', Q v H' → Q' v H') → r vs H Q → r vs H Q'
theorem Mono.cut {te : TE} (m : Mono te) {σ : L2.St} {H : Hp} {Q : VK} (P : V → Hp → Prop) (h : te σ H P) (k : ∀ v H', P v H' → Q v H') : te σ H Q := m σ H P Q k h
theorem MonoT.cut {t : TT} (m : MonoT t) {σ : L2.St} {H : Hp} {Q : Bool → Hp → Prop} (P : Bool → Hp → Prop) (h : t σ H P) (k : ∀ b H', P b H' → Q b H') : t σ H Q := m σ H P Q k h
theorem MonoR.i0 {g : Int → Int → V} : MonoR (rI0 g) := fun _ _ _ _ _ h ⟨i, j, e1, e2, q⟩ => ⟨i, j, e1, e2, h _ _ q⟩
theorem MonoR.i {C : Int → Int → Prop} {g : Int → Int → V} : MonoR (rI C g) := fun _ _ _ _ _ h ⟨i, j, e1, e2, c, q⟩ => ⟨i, j, e1, e2, c, h _ _ q⟩
theorem MonoR.eq : MonoR rEq := fun _ _ _ _ _ h ⟨s, q⟩ => ⟨s, h _ _ q⟩
theorem MonoR.ne : MonoR rNe := fun _ _ _ _ _ h ⟨s, q⟩ => ⟨s, h _ _ q⟩
theorem MonoR.ixL {K : PySem.W.Frag} : MonoR (rIxL K) := fun _ _ _ _ _ h ⟨p, xs, i, v, e1, e2, e3, e4, q⟩ => ⟨p, xs, i, v, e1, e2, e3, e4, h _ _ q⟩
theorem MonoR.ixT {K : PySem.W.Frag} : MonoR (rIxT K) := fun _ _ _ _ _ h ⟨p, xs, i, v, e1, e2, e3, e4, q⟩ => ⟨p, xs, i, v, e1, e2, e3, e4, h _ _ q⟩
theorem MonoR.ixS : MonoR rIxS := fun _ _ _ _ _ h ⟨z, i, c, e1, e2, e3, e4, q⟩ => ⟨z, i, c, e1, e2, e3, e4, h _ _ q⟩
theorem MonoR.inn {K : PySem.W.Frag} {neg : Bool} : MonoR (rIn K neg) := fun _ _ _ _ _ h ⟨p, xs, e1, e2, e3, e4, q⟩ => ⟨p, xs, e1, e2, e3, e4, h _ _ q⟩
theorem MonoR.neD {K : PySem.W.Frag} : MonoR (rNeD K) := fun _ _ _ _ _ h ⟨d, e, a, b, c, f, q⟩ => ⟨d, e, a, b, c, f, h _ _ q⟩
theorem MonoR.eqD {K : PySem.W.Frag} : MonoR (rEqD K) := fun _ _ _ _ _ h ⟨d, e, a, b, c, f, q⟩ => ⟨d, e, a, b, c, f, h _ _ q⟩
theorem MonoR.str {C : Str → Str → Prop} {g : Str → Str → V} : MonoR (fun x y H Q => ∃ i j, x = .str i ∧ y = .str j ∧ C i j ∧ Q (g i j) H) := fun _ _ _ _ _ h ⟨i, j, a, b, c, q⟩ => ⟨i, j, a, b, c, h _ _ q⟩
theorem MonoR.str0 {g : Str → Str → V} : MonoR (fun x y H Q => ∃ i j, x = .str i ∧ y = .str j ∧ Q (g i j) H) := fun _ _ _ _ _ h ⟨i, j, a, b, q⟩ => ⟨i, j, a, b, h _ _ q⟩
theorem Mono.op' {r : R2} {ta tb : TE} (hr : MonoR r) (ha : Mono ta) (hb : Mono tb) : Mono (tOp r ta tb) := Mono.op ha hb hr
theorem Mono.tif {t : TT} {ta tb : TE} (ht : MonoT t) (ha : Mono ta) (hb : Mono tb) : Mono (tIf t ta tb) := fun σ H Q Q' h q => ht σ H _ _ (fun b H1 q1 => by
  cases b with
  | true => exact ha σ H1 _ _ h q1
  | false => exact hb σ H1 _ _ h q1) q
theorem MonoT.test {te : TE} (h : Mono te) : MonoT (tTest te) := fun σ H Q Q' k q => h σ H _ _ (fun x H1 ⟨c, e, q1⟩ => ⟨c, e, k _ _ q1⟩) q
theorem MonoT.b {te : TE} (h : Mono te) : MonoT (tB te) := fun σ H Q Q' k q => h σ H _ _ (fun x H1 ⟨c, e, q1⟩ => ⟨c, e, k _ _ q1⟩) q
theorem MonoT.not {t : TT} (h : MonoT t) : MonoT (tNot t) := fun σ H Q Q' k q => h σ H _ _ (fun b H1 q1 => k _ _ q1) q
theorem MonoT.and {t u : TT} (h : MonoT t) (g : MonoT u) : MonoT (tAnd t u) := fun σ H Q Q' k q => h σ H _ _ (fun b H1 q1 => by
  cases b with
  | true => exact g σ H1 _ _ k q1
  | false => exact k _ _ q1) q
theorem MonoT.or {t u : TT} (h : MonoT t) (g : MonoT u) : MonoT (tOr t u) := fun σ H Q Q' k q => h σ H _ _ (fun b H1 q1 => by
  cases b with
  | true => exact k _ _ q1
  | false => exact g σ H1 _ _ k q1) q
theorem MonoA.nil : MonoA tNil := fun _ _ _ _ h q => h _ _ q
theorem MonoA.cons {te : TE} {ta : TA} (h : Mono te) (g : MonoA ta) : MonoA (tCons te ta) := fun σ H Q Q' k q => h σ H _ _ (fun x H1 q1 => g σ H1 _ _ (fun vs H2 q2 => k _ _ q2) q1) q
theorem Mono.cl {sp : Sp} {ta : TA} (hs : MonoS sp) (ha : MonoA ta) : Mono (tCl sp ta) := fun σ H Q Q' k q => ha σ H _ _ (fun vs H1 q1 => hs vs H1 _ _ E0 k q1) q
theorem Mono.cb {r : List V → Hp → VK → Prop} {ta : TA} (hs : MonoC r) (ha : MonoA ta) : Mono (tCB r ta) := fun σ H Q Q' k q => ha σ H _ _ (fun vs H1 q1 => hs vs H1 _ _ k q1) q
theorem Mono.tup {ta : TA} (ha : MonoA ta) : Mono (tTup ta) := fun σ H Q Q' k q => ha σ H _ _ (fun vs H1 ⟨l, q1⟩ => ⟨l, fun p hp => k _ _ (q1 p hp)⟩) q
theorem Mono.lst {ta : TA} (ha : MonoA ta) : Mono (tLst ta) := fun σ H Q Q' k q => ha σ H _ _ (fun vs H1 ⟨l, q1⟩ => ⟨l, fun p hp => k _ _ (q1 p hp)⟩) q
/-- one of two constants -/
theorem ite_tC {c : Prop} [Decidable c] {a b : V} {σ : L2.St} {H : Hp} {Q : VK} (h : ∀ v, v = a ∨ v = b → Q v H) : if c then tC a σ H Q else tC b σ H Q := by
  split
  · exact h a (.inl rfl)
  · exact h b (.inr rfl)
theorem MonoC.two {g : Int → Int → V} : MonoC (fun xs H Q => ∃ i j, xs = [.int i, .int j] ∧ Q (g i j) H) := fun _ _ _ _ h ⟨i, j, e, q⟩ => ⟨i, j, e, h _ _ q⟩
theorem MonoC.int1 : MonoC (fun xs H Q => (∃ i, xs = [.int i] ∧ Q (.int i) H) ∨ ∃ k : Bool, xs = [.bl k] ∧ Q (.int (if k then 1 else 0)) H) := fun _ _ _ _ h q => by
  rcases q with ⟨i, e, q⟩ | ⟨i, e, q⟩
  · exact .inl ⟨i, e, h _ _ q⟩
  · exact .inr ⟨i, e, h _ _ q⟩
theorem RpL.strs {K : PySem.W.Frag} {H : Hp} : ∀ {ws : List (List Nat)}, (∀ l ∈ ws, l.length ≤ 100000) → RpL K H (ws.map Tx) (ws.map Dt.str)
  | [], _ => .nil
  | l :: ws, h => .cons (.str l (h l List.mem_cons_self)) (RpL.strs fun m q => h m (List.mem_cons_of_mem _ q))
theorem dep_strs : ∀ (ws : List (List Nat)), Dt.depL (ws.map Dt.str) = 0
  | [] => rfl
  | l :: ws => by
    show max 0 (Dt.depL (ws.map Dt.str)) = 0
    rw [dep_strs ws]
    rfl
/-- a text of the program's own as a value -/
theorem Rp.lit {K : PySem.W.Frag} {H : Hp} (s : Str) (h : s.cps.toList.length ≤ 100000 := by decide +kernel) : Rp K H (.str s) (.str s.cps.toList) := by
  have := Rp.str (K := K) (H := H) s.cps.toList h
  have e : tx s.cps.toList = s := by cases s <;> simp [tx]
  rwa [Tx, e] at this
end Pg
namespace Pg
open PySem PySem.Spec PyProof.Rows L2
/-! ### expressions that build data: what they evaluate to -/
def EvD (K : PySem.W.Frag) (te : TE) (σ : L2.St) (H : Hp) (d : Dt) : Prop := ∀ H1, Stp [] H H1 → ∀ Q : VK, (∀ v H2, Stp [] H1 H2 → Rp K H2 v d → Q v H2) → te σ H1 Q
def EvDA (K : PySem.W.Frag) (ta : TA) (σ : L2.St) (H : Hp) (ds : List Dt) : Prop := ∀ H1, Stp [] H H1 → ∀ Q : List V → Hp → Prop, (∀ vs H2, Stp [] H1 H2 → RpL K H2 vs ds → Q vs H2) → ta σ H1 Q
section
variable {K : PySem.W.Frag} {te : TE} {ta : TA} {σ : L2.St} {H : Hp} {d : Dt} {ds : List Dt}
theorem EvD.bl {b : Bool} : EvD K (tC (.bl b)) σ H (.bl b) := fun H1 _ _ k => k _ H1 (Stp.refl _ _) (.bl b)
theorem EvD.int {i : Int} : EvD K (tC (.int i)) σ H (.int i) := fun H1 _ _ k => k _ H1 (Stp.refl _ _) (.int i)
theorem EvD.non : EvD K (tC .non) σ H .non := fun H1 _ _ k => k _ H1 (Stp.refl _ _) .non
theorem EvD.str {s : Str} (h : s.cps.toList.length ≤ 100000 := by decide +kernel) : EvD K (tC (.str s)) σ H (.str s.cps.toList) := fun H1 _ _ k => k _ H1 (Stp.refl _ _) (Rp.lit s h)
theorem EvD.var {i : Nat} {v : V} (r : Rp K H v d) (e : σ[i]? = some (some v) := by rfl) : EvD K (tVar i) σ H d := fun H1 s _ k => ⟨v, e, k v H1 (Stp.refl _ _) (r.stp s Lsts.nil)⟩
theorem EvDA.nil : EvDA K tNil σ H [] := fun H1 _ _ k => k [] H1 (Stp.refl _ _) .nil
theorem EvDA.cons (h : EvD K te σ H d) (g : EvDA K ta σ H ds) : EvDA K (tCons te ta) σ H (d :: ds) := fun H1 s Q k =>
  h H1 s _ fun v H2 s2 r => g H2 (s.trans s2) _ fun vs H3 s3 rs => k (v :: vs) H3 (s2.trans s3) (.cons (r.stp s3 Lsts.nil) rs)
theorem EvD.tup (h : EvDA K ta σ H ds) (hl : ds.length ≤ 1000) : EvD K (tTup ta) σ H (.tup ds) := fun H1 s Q k =>
  h H1 s _ fun vs H2 s2 rs => ⟨sz (by rw [rs.len]; omega), fun p np => k _ _ (s2.new' np) (.tup (SqT.of upd_same) (by rw [rs.len]; omega) (rs.stp (Stp.new np []) Lsts.nil))⟩
theorem EvD.lst (h : EvDA K ta σ H ds) (hl : ds.length ≤ 1000) : EvD K (tLst ta) σ H .lst := fun H1 s Q k =>
  h H1 s _ fun vs H2 s2 rs => ⟨sz (by rw [rs.len]; omega), fun p np => k _ _ (s2.new' np) (.lst upd_same)⟩
theorem EvD.exc {C : Addr} (h : EvD K te σ H d) : EvD K (fun σ H Q => te σ H fun _ H1 => ∀ a, H1 a = none → Q (.ref a) (upd H1 a (ExO (.ref C) a))) σ H .obj := fun H1 s Q k =>
  h H1 s _ fun v H2 s2 _ => fun a na => k _ _ (s2.new' na) (.obj upd_same)
theorem EvD.cat {tb : TE} {a b : List Nat} (h : EvD K te σ H (.str a)) (g : EvD K tb σ H (.str b)) (hl : a.length + b.length ≤ 100000) : EvD K (tOp (fun x y H Q => ∃ i j, x = .str i ∧ y = .str j ∧ i.length + j.length ≤ sizeLine ∧ Q (.str (i ++ j)) H) te tb) σ H (.str (a ++ b)) := fun H1 s Q k =>
  h H1 s _ fun v H2 s2 r => g H2 (s.trans s2) _ fun u H3 s3 q => by
    cases r with
    | str _ h1 =>
      cases q with
      | str _ h2 =>
        refine ⟨tx a, tx b, rfl, rfl, by rw [tx_len, tx_len]; exact sz hl, ?_⟩
        rw [tx_app]
        exact k _ _ (s2.trans s3) (.str _ (by rw [List.length_append]; exact hl))
theorem EvD.pow {i j : Int} (h : CPow i j) : EvD K (tOp (rI CPow fun i j => .int (i ^ j.toNat)) (tC (.int i)) (tC (.int j))) σ H (.int (i ^ j.toNat)) := fun H1 s Q k =>
  ⟨i, j, rfl, rfl, h, k _ _ (Stp.refl _ _) (.int _)⟩
theorem EvD.neg {i : Int} : EvD K (tUn (rU fun i => .int (-i)) (tC (.int i))) σ H (.int (-i)) := fun H1 s Q k => ⟨i, rfl, k _ _ (Stp.refl _ _) (.int _)⟩
/-- list(t) of a tuple -/
theorem EvD.list (h : EvD K te σ H (.tup ds)) : EvD K (tCB (fun xs H Q => ∃ p ys, xs = [.ref p] ∧ (SqL K H p ys ∨ SqT K H p ys) ∧ ∀ l, H l = none → Q (.ref l) (upd H l (.lst ys))) (tCons te tNil)) σ H .lst := fun H1 s Q k =>
  h H1 s _ fun v H2 s2 r => by
    cases r with
    | tup hs hn rl => exact ⟨_, _, rfl, .inr hs, fun l nl => k _ _ (s2.new' nl) (.lst upd_same)⟩
theorem EvDA.use (h : EvDA K ta σ H ds) {Q : List V → Hp → Prop} (k : ∀ vs H2, Stp [] H H2 → RpL K H2 vs ds → Q vs H2) : ta σ H Q := h H (Stp.refl _ _) Q k
theorem EvD.use (h : EvD K te σ H d) {Q : VK} (k : ∀ v H2, Stp [] H H2 → Rp K H2 v d → Q v H2) : te σ H Q := h H (Stp.refl _ _) Q k
/-- a new list of data -/
theorem EvDA.newl (h : EvDA K ta σ H ds) (hl : ds.length ≤ 1000) {Q : VK} (k : ∀ p vs H2, Stp [] H H2 → H p = none → H2 p = some (.lst vs) → RpL K H2 vs ds → Q (.ref p) H2) : tLst ta σ H Q :=
  h.use fun vs H2 s rs => ⟨sz (by rw [rs.len]; omega), fun p np => k p vs _ (s.new' np) (s.fresh (fun m => nomatch m) np) upd_same (rs.stp (Stp.new np []) Lsts.nil)⟩
end
/-! ### tuples put together, cut -/
theorem catA_use {K : PySem.W.Frag} {H : Hp} {a b : Addr} {xs ys : List V} {Q : VK} (ha : SqT K H a xs) (hb : SqT K H b ys) (hl : xs.length + ys.length ≤ 100000) (k : ∀ p H', Stp [] H H' → SqT K H' p (xs ++ ys) → Q (.ref p) H') : rCatA K (.ref a) (.ref b) H Q := by
  refine ⟨a, b, xs, ys, rfl, rfl, ha, hb, sz hl, fun e => ?_, fun _ e => ?_, fun _ _ p np => ?_⟩
  · subst e
    exact k b H (Stp.refl _ _) hb
  · subst e
    refine k a H (Stp.refl _ _) ?_
    rw [List.append_nil]
    exact ha
  · exact k p _ (Stp.new np _) (SqT.of upd_same)
theorem slA_use {K : PySem.W.Frag} {H : Hp} {a : Addr} {xs : List V} {lo hi : Option Int} {Q : VK} (ha : SqT K H a xs) (k : ∀ p H', Stp [] H H' → SqT K H' p (cutV xs lo hi) → Q (.ref p) H') : rSlA K (.ref a) lo hi H Q := by
  refine ⟨a, xs, rfl, ha, fun ⟨e1, e2⟩ => ?_, fun _ p np => ?_⟩
  · refine k a H (Stp.refl _ _) ?_
    have e : cutV xs lo hi = xs := by
      unfold cutV
      rw [e1, e2, List.drop_zero, Nat.sub_zero, List.take_length]
    rw [e]
    exact ha
  · exact k p _ (Stp.new np _) (SqT.of upd_same)
theorem cut_upto {xs : List V} (k : Nat) : cutV xs none (some (k : Int)) = xs.take k := by
  unfold cutV
  rw [HT.sIx_none, HT.sIx_nat, List.drop_zero, Nat.sub_zero]
  rcases Nat.le_total k xs.length with h | h
  · rw [Nat.min_eq_left h]
  · rw [Nat.min_eq_right h, List.take_of_length_le (Nat.le_refl _), List.take_of_length_le h]
theorem cut_from {xs : List V} (k : Nat) : cutV xs (some (k : Int)) none = xs.drop k := by
  unfold cutV
  rw [HT.sIx_none, HT.sIx_nat]
  rcases Nat.le_total k xs.length with h | h
  · rw [Nat.min_eq_left h, List.take_of_length_le (by rw [List.length_drop]; exact Nat.le_refl _)]
  · rw [Nat.min_eq_right h, List.drop_length, List.drop_of_length_le h, List.take_nil]
theorem RpL.take {K : PySem.W.Frag} {H : Hp} : ∀ {vs : List V} {ds : List Dt} (n : Nat), RpL K H vs ds → RpL K H (vs.take n) (ds.take n)
  | _, _, 0, _ => by rw [List.take_zero, List.take_zero]; exact .nil
  | _, [], _ + 1, .nil => .nil
  | _, _ :: _, n + 1, .cons h r => .cons h (RpL.take n r)
theorem RpL.drop {K : PySem.W.Frag} {H : Hp} : ∀ {vs : List V} {ds : List Dt} (n : Nat), RpL K H vs ds → RpL K H (vs.drop n) (ds.drop n)
  | _, _, 0, r => r
  | _, [], _ + 1, .nil => .nil
  | _, _ :: _, n + 1, .cons _ r => RpL.drop n r
/-! ### heads of statements -/
theorem asg_name {te : TE} {i : Nat} {u : TS} {D : Ends} {σ : L2.St} {H : Hp} (h : te σ H fun x H1 => u D (σ.set i (some x)) H1) : tSeq (tAsg te (gName i)) u D σ H := h
theorem op_var {r : R2} {i : Nat} {tb : TE} {σ : L2.St} {H : Hp} {Q : VK} {v : V} (e : σ[i]? = some (some v)) (h : tb σ H fun y H2 => r v y H2 Q) : tOp r (tVar i) tb σ H Q := ⟨v, e, h⟩
theorem nopart {σ : L2.St} {H : Hp} {Q : Option Int → Hp → Prop} (h : Q none H) : tNoPart σ H Q := h
end Pg
namespace Pv
open PySem PySem.Spec PyProof.Rows L2 Pg
/-! ### values with all that is in them -/
inductive D where
  | non | bl (b : Bool) | int (i : Int) | str (l : List Nat) | tup (ds : List D) | lst (ds : List D) | obj (C : Addr)
mutual
def D.old : D → Dt
  | .non => .non
  | .bl b => .bl b
  | .int i => .int i
  | .str l => .str l
  | .tup ds => .tup (D.olds ds)
  | .lst _ => .lst
  | .obj _ => .obj
def D.olds : List D → List Dt
  | [] => []
  | d :: ds => d.old :: D.olds ds
end
def D.ty (d : D) : Option String := d.old.ty
/-- isinstance(d, T) -/
def D.isi (T : String) : D → Bool
  | .bl _ => T == "bool" || T == "int"
  | .int _ => T == "int"
  | .str _ => T == "str"
  | .tup _ => T == "tuple"
  | .lst _ => T == "list"
  | _ => false
/-- what the class of an object says -/
structure OkC (K : PySem.W.Frag) (C : Addr) : Prop where
  exc : ExcC K C
  is_str : PySem.W.kitOne K (.ref C) (.type "str") = some false
  is_int : PySem.W.kitOne K (.ref C) (.type "int") = some false
  is_bool : PySem.W.kitOne K (.ref C) (.type "bool") = some false
  is_tuple : PySem.W.kitOne K (.ref C) (.type "tuple") = some false
  is_list : PySem.W.kitOne K (.ref C) (.type "list") = some false
mutual
/-- v is d; no list in it stands at an address of S -/
inductive Rv (K : PySem.W.Frag) (S : List Addr) (H : Hp) : V → D → Prop
  | non : Rv K S H .non .non
  | bl (b : Bool) : Rv K S H (.bl b) (.bl b)
  | int (i : Int) : Rv K S H (.int i) (.int i)
  | str (l : List Nat) (h : l.length ≤ 100000) : Rv K S H (Tx l) (.str l)
  | tup {a : Addr} {vs : List V} {ds : List D} : SqT K H a vs → vs.length ≤ 100000 → RvL K S H vs ds → Rv K S H (.ref a) (.tup ds)
  | lst {a : Addr} {vs : List V} {ds : List D} : H a = some (.lst vs) → a ∉ S → vs.length ≤ 100000 → RvL K S H vs ds → Rv K S H (.ref a) (.lst ds)
  | obj {a C : Addr} : H a = some (ExO (.ref C) a) → OkC K C → Rv K S H (.ref a) (.obj C)
inductive RvL (K : PySem.W.Frag) (S : List Addr) (H : Hp) : List V → List D → Prop
  | nil : RvL K S H [] []
  | cons {v : V} {vs : List V} {d : D} {ds : List D} : Rv K S H v d → RvL K S H vs ds → RvL K S H (v :: vs) (d :: ds)
end
section
variable {K : PySem.W.Frag} {S : List Addr} {H H' : Hp}
mutual
theorem Rv.old : ∀ {v : V} {d : D}, Rv K S H v d → Rp K H v d.old
  | _, .non, .non => .non
  | _, .bl _, .bl b => .bl b
  | _, .int _, .int i => .int i
  | _, .str _, .str x h => .str x h
  | _, .tup ds, .tup h n r => .tup h n (RvL.old r)
  | _, .lst _, .lst h _ _ _ => .lst h
  | _, .obj _, .obj h _ => .obj h
theorem RvL.old : ∀ {vs : List V} {ds : List D}, RvL K S H vs ds → RpL K H vs (D.olds ds)
  | _, [], .nil => .nil
  | _, _ :: _, .cons h r => .cons (Rv.old h) (RvL.old r)
end
mutual
theorem Rv.fr {S' : List Addr} (s : Stp S' H H') (l : Lsts H S') (sub : ∀ x ∈ S', x ∈ S) : ∀ {v : V} {d : D}, Rv K S H v d → Rv K S H' v d
  | _, .non, .non => .non
  | _, .bl _, .bl b => .bl b
  | _, .int _, .int i => .int i
  | _, .str _, .str x h => .str x h
  | _, .tup ds, .tup h n r => .tup (sqt_stp s l h) n (RvL.fr s l sub r)
  | _, .lst ds, .lst h o n r => .lst (s.kp _ _ (fun m => o (sub _ m)) h) o n (RvL.fr s l sub r)
  | _, .obj _, .obj (a := a) (C := C) h k => by
    refine .obj (C := C) (s.kp a _ (fun m => ?_) h) k
    obtain ⟨xs, e⟩ := l a m
    rw [h] at e
    cases e
theorem RvL.fr {S' : List Addr} (s : Stp S' H H') (l : Lsts H S') (sub : ∀ x ∈ S', x ∈ S) : ∀ {vs : List V} {ds : List D}, RvL K S H vs ds → RvL K S H' vs ds
  | _, [], .nil => .nil
  | _, _ :: _, .cons h r => .cons (Rv.fr s l sub h) (RvL.fr s l sub r)
end
theorem Rv.stp {v : V} {d : D} (r : Rv K S H v d) (s : Stp S H H') (l : Lsts H S) : Rv K S H' v d := Rv.fr s l (fun _ m => m) r
theorem RvL.stp {vs : List V} {ds : List D} (r : RvL K S H vs ds) (s : Stp S H H') (l : Lsts H S) : RvL K S H' vs ds := RvL.fr s l (fun _ m => m) r
theorem Rv.up {v : V} {d : D} (r : Rv K S H v d) (s : Stp [] H H') : Rv K S H' v d := Rv.fr s Lsts.nil (fun _ m => nomatch m) r
theorem RvL.up {vs : List V} {ds : List D} (r : RvL K S H vs ds) (s : Stp [] H H') : RvL K S H' vs ds := RvL.fr s Lsts.nil (fun _ m => nomatch m) r
mutual
theorem Rv.sub {S' : List Addr} (h : ∀ x ∈ S', x ∈ S) : ∀ {v : V} {d : D}, Rv K S H v d → Rv K S' H v d
  | _, .non, .non => .non
  | _, .bl _, .bl b => .bl b
  | _, .int _, .int i => .int i
  | _, .str _, .str x h => .str x h
  | _, .tup ds, .tup q n r => .tup q n (RvL.sub h r)
  | _, .lst ds, .lst q o n r => .lst q (fun m => o (h _ m)) n (RvL.sub h r)
  | _, .obj _, .obj q k => .obj q k
theorem RvL.sub {S' : List Addr} (h : ∀ x ∈ S', x ∈ S) : ∀ {vs : List V} {ds : List D}, RvL K S H vs ds → RvL K S' H vs ds
  | _, [], .nil => .nil
  | _, _ :: _, .cons q r => .cons (Rv.sub h q) (RvL.sub h r)
end
theorem RvL.len : ∀ {vs : List V} {ds : List D}, RvL K S H vs ds → vs.length = ds.length
  | _, [], .nil => rfl
  | _, _ :: _, .cons _ r => by rw [List.length_cons, List.length_cons, RvL.len r]
theorem RvL.get : ∀ {vs : List V} {ds : List D} {i : Nat} {v : V}, RvL K S H vs ds → vs[i]? = some v → ∃ d, ds[i]? = some d ∧ Rv K S H v d
  | _, [], _, _, .nil, e => by simp at e
  | _, d :: _, 0, _, .cons h _, e => by
    simp at e
    subst e
    exact ⟨d, rfl, h⟩
  | _, _ :: _, i + 1, v, .cons _ r, e => RvL.get (i := i) (v := v) r (by simpa using e)
theorem RvL.app : ∀ {vs ws : List V} {ds es : List D}, RvL K S H vs ds → RvL K S H ws es → RvL K S H (vs ++ ws) (ds ++ es)
  | _, _, [], _, .nil, q => q
  | _, _, _ :: _, _, .cons h r, q => .cons h (RvL.app r q)
theorem RvL.take : ∀ {vs : List V} {ds : List D} (n : Nat), RvL K S H vs ds → RvL K S H (vs.take n) (ds.take n)
  | _, _, 0, _ => by rw [List.take_zero, List.take_zero]; exact .nil
  | _, [], _ + 1, .nil => .nil
  | _, _ :: _, n + 1, .cons h r => .cons h (RvL.take n r)
theorem RvL.drop : ∀ {vs : List V} {ds : List D} (n : Nat), RvL K S H vs ds → RvL K S H (vs.drop n) (ds.drop n)
  | _, _, 0, r => r
  | _, [], _ + 1, .nil => .nil
  | _, _ :: _, n + 1, .cons _ r => RvL.drop n r
theorem RvL.rev : ∀ {vs : List V} {ds : List D}, RvL K S H vs ds → RvL K S H vs.reverse ds.reverse
  | _, [], .nil => .nil
  | _, _ :: _, .cons h r => by
    rw [List.reverse_cons, List.reverse_cons]
    exact RvL.app (RvL.rev r) (.cons h .nil)
theorem RvL.pick {vs : List V} {ds : List D} {i : Int} (r : RvL K S H vs ds) (h0 : 0 ≤ i) (h1 : i < (ds.length : Int)) : ∃ v d, d ∈ ds ∧ Rv K S H v d ∧ atI vs i = some v := by
  obtain ⟨k, rfl⟩ := Int.eq_ofNat_of_zero_le h0
  have hk : k < vs.length := by rw [r.len]; omega
  obtain ⟨d, hd, rd⟩ := r.get (List.getElem?_eq_getElem hk)
  exact ⟨vs[k], d, List.mem_of_getElem? hd, rd, atI_nat (List.getElem?_eq_getElem hk)⟩
/-- a text of the program's own -/
def wd (s : Str) : D := .str s.cps.toList
theorem tx_cps (s : Str) : tx s.cps.toList = s := by cases s <;> simp [tx]
theorem Rv.lit (s : Str) (h : s.cps.toList.length ≤ 100000 := by decide +kernel) : Rv K S H (.str s) (wd s) := by
  have := Rv.str (K := K) (S := S) (H := H) s.cps.toList h
  rwa [Tx, tx_cps] at this
theorem out_new {p : Addr} (l : Lsts H S) (h : H p = none) : p ∉ S := fun m => by
  obtain ⟨xs, e⟩ := l p m
  rw [h] at e
  cases e
/-- a new tuple, a new list -/
theorem Rv.newT {p : Addr} {vs : List V} {ds : List D} (np : H p = none) (r : RvL K S H vs ds) (h : ds.length ≤ 100000) : Rv K S (upd H p (.tup vs)) (.ref p) (.tup ds) := .tup (SqT.of upd_same) (by rw [r.len]; exact h) (r.up (Stp.new np []))
theorem Rv.newL {p : Addr} {vs : List V} {ds : List D} (l : Lsts H S) (np : H p = none) (r : RvL K S H vs ds) (h : ds.length ≤ 100000) : Rv K S (upd H p (.lst vs)) (.ref p) (.lst ds) := .lst upd_same (out_new l np) (by rw [r.len]; exact h) (r.up (Stp.new np []))
theorem Lsts.up {H H' : Hp} (l : Lsts H S) (s : Stp [] H H') : Lsts H' S := l.stp s
end
/-! ### type(x) is T -/
theorem D.ty_old (d : D) : d.old.ty = d.ty := rfl
theorem ty_non : D.non.ty = some "NoneType" := rfl
theorem ty_bl {b : Bool} : (D.bl b).ty = some "bool" := rfl
theorem ty_int {i : Int} : (D.int i).ty = some "int" := rfl
theorem ty_str {l : List Nat} : (D.str l).ty = some "str" := rfl
theorem ty_tup {ds : List D} : (D.tup ds).ty = some "tuple" := by unfold D.ty D.old; rfl
theorem ty_lst {ds : List D} : (D.lst ds).ty = some "list" := by unfold D.ty D.old; rfl
theorem ty_obj {C : Addr} : (D.obj C).ty = none := rfl
theorem D.lst_of {d : D} (h : d.ty = some "list") : ∃ ds, d = .lst ds := by
  cases d with
  | lst ds => exact ⟨ds, rfl⟩
  | tup ds => rw [ty_tup] at h; exact absurd h (by decide)
  | obj C => rw [ty_obj] at h; cases h
  | non => exact absurd h (by rw [ty_non]; decide)
  | bl b => exact absurd h (by rw [ty_bl]; decide)
  | int i => exact absurd h (by rw [ty_int]; decide)
  | str l => exact absurd h (by rw [ty_str]; decide)
theorem D.tup_of {d : D} (h : d.ty = some "tuple") : ∃ ds, d = .tup ds := by
  cases d with
  | tup ds => exact ⟨ds, rfl⟩
  | lst ds => rw [ty_lst] at h; exact absurd h (by decide)
  | obj C => rw [ty_obj] at h; cases h
  | non => exact absurd h (by rw [ty_non]; decide)
  | bl b => exact absurd h (by rw [ty_bl]; decide)
  | int i => exact absurd h (by rw [ty_int]; decide)
  | str l => exact absurd h (by rw [ty_str]; decide)
theorem D.str_of {d : D} (h : d.ty = some "str") : ∃ l, d = .str l := by
  cases d with
  | str ds => exact ⟨ds, rfl⟩
  | lst ds => rw [ty_lst] at h; exact absurd h (by decide)
  | tup ds => rw [ty_tup] at h; exact absurd h (by decide)
  | obj C => rw [ty_obj] at h; cases h
  | non => exact absurd h (by rw [ty_non]; decide)
  | bl b => exact absurd h (by rw [ty_bl]; decide)
  | int i => exact absurd h (by rw [ty_int]; decide)
theorem D.int_of {d : D} (h : d.ty = some "int") : ∃ i, d = .int i := by
  cases d with
  | int i => exact ⟨i, rfl⟩
  | lst ds => rw [ty_lst] at h; exact absurd h (by decide)
  | tup ds => rw [ty_tup] at h; exact absurd h (by decide)
  | obj C => rw [ty_obj] at h; cases h
  | non => exact absurd h (by rw [ty_non]; decide)
  | bl b => exact absurd h (by rw [ty_bl]; decide)
  | str l => exact absurd h (by rw [ty_str]; decide)
/-! ### isinstance -/
def rIsD (K : PySem.W.Frag) (T : String) : List V → Hp → VK → Prop := fun xs H Q => ∃ (S : List Addr) (x : V) (d : D), xs = [x, .ty T] ∧ Rv K S H x d ∧ Q (.bl (d.isi T)) H
section
variable {X : Cx} {T : String}
theorem tyx_of {K : PySem.W.Frag} {S : List Addr} {H : Hp} {x : V} {d : D} (r : Rv K S H x d) (t : String) (h : d.ty = some t) : TyX K H x (.type t) := by
  cases r with
  | non => rw [ty_non] at h; cases h; exact .base .non
  | bl b => rw [ty_bl] at h; cases h; exact .base (.bl b)
  | int i => rw [ty_int] at h; cases h; exact .base (.int i)
  | str l hl => rw [ty_str] at h; cases h; exact .base (.str _)
  | lst hs _ _ _ => rw [ty_lst] at h; cases h; exact .base (.lst hs)
  | obj ho _ => rw [ty_obj] at h; cases h
  | tup hs _ _ =>
    rw [ty_tup] at h
    cases h
    rcases hs with (hs | ⟨o, hs⟩) | ⟨o, its, n, e, c, _⟩
    · exact .base (.tup hs)
    · exact .fTuple hs
    · exact .kTuple e c
theorem kit_str : ∀ t : String, t ∈ ["NoneType", "bool", "int", "str", "tuple", "list"] → kitB t "str" = some (t == "str") := by decide +kernel
theorem kit_int : ∀ t : String, t ∈ ["NoneType", "bool", "int", "str", "tuple", "list"] → kitB t "int" = some (t == "bool" || t == "int") := by decide +kernel
theorem kit_bool : ∀ t : String, t ∈ ["NoneType", "bool", "int", "str", "tuple", "list"] → kitB t "bool" = some (t == "bool") := by decide +kernel
theorem kit_tuple : ∀ t : String, t ∈ ["NoneType", "bool", "int", "str", "tuple", "list"] → kitB t "tuple" = some (t == "tuple") := by decide +kernel
theorem kit_list : ∀ t : String, t ∈ ["NoneType", "bool", "int", "str", "tuple", "list"] → kitB t "list" = some (t == "list") := by decide +kernel
theorem kit_d {d : D} {t : String} (h : d.ty = some t) (hT : T ∈ ["str", "int", "bool", "tuple", "list"]) : kitB t T = some (d.isi T) := by
  simp only [List.mem_cons, List.not_mem_nil, or_false] at hT
  have go : ∀ u, d.ty = some u → u = t := fun u e => by rw [h] at e; exact (Option.some.inj e).symm
  rcases hT with rfl | rfl | rfl | rfl | rfl <;> cases d
  all_goals first
    | (have q := go _ ty_non; subst q; first | exact kit_str _ (by decide) | exact kit_int _ (by decide) | exact kit_bool _ (by decide) | exact kit_tuple _ (by decide) | exact kit_list _ (by decide))
    | (have q := go _ ty_bl; subst q; first | exact kit_str _ (by decide) | exact kit_int _ (by decide) | exact kit_bool _ (by decide) | exact kit_tuple _ (by decide) | exact kit_list _ (by decide))
    | (have q := go _ ty_int; subst q; first | exact kit_str _ (by decide) | exact kit_int _ (by decide) | exact kit_bool _ (by decide) | exact kit_tuple _ (by decide) | exact kit_list _ (by decide))
    | (have q := go _ ty_str; subst q; first | exact kit_str _ (by decide) | exact kit_int _ (by decide) | exact kit_bool _ (by decide) | exact kit_tuple _ (by decide) | exact kit_list _ (by decide))
    | (have q := go _ ty_tup; subst q; first | exact kit_str _ (by decide) | exact kit_int _ (by decide) | exact kit_bool _ (by decide) | exact kit_tuple _ (by decide) | exact kit_list _ (by decide))
    | (have q := go _ ty_lst; subst q; first | exact kit_str _ (by decide) | exact kit_int _ (by decide) | exact kit_bool _ (by decide) | exact kit_tuple _ (by decide) | exact kit_list _ (by decide))
    | (rw [ty_obj] at h; cases h)
theorem D.has_ty (d : D) : (∃ t, d.ty = some t) ∨ ∃ C, d = .obj C := by
  cases d with
  | obj C => exact .inr ⟨C, rfl⟩
  | non => exact .inl ⟨_, ty_non⟩
  | bl b => exact .inl ⟨_, ty_bl⟩
  | int i => exact .inl ⟨_, ty_int⟩
  | str l => exact .inl ⟨_, ty_str⟩
  | tup ds => exact .inl ⟨_, ty_tup⟩
  | lst ds => exact .inl ⟨_, ty_lst⟩
theorem call_isiD (hT : T ∈ ["str", "int", "bool", "tuple", "list"]) : CallR X (.builtin "isinstance") (rIsD X.K T) := by
  intro pins s σ H xs us Q I r h
  obtain ⟨S, x, d, rfl, rv, q⟩ := h
  rcases d.has_ty with ⟨t, ht⟩ | ⟨C, rfl⟩
  · exact call_isi pins s σ H _ us Q I r ⟨x, .ty T, _, _, d.isi T, rfl, .ty T, tyx_of rv t ht, kit_ty (kit_d ht hT), q⟩
  · cases rv with
    | obj ho ok =>
      rename_i a
      obtain ⟨u1, u2, rfl, r1, r2⟩ := vals2 r
      cases r1
      cases (show u2 = Value.type T from r2)
      obtain ⟨⟨oe, vs, e1, ⟨e2, e3⟩, e4, _⟩, _⟩ := I.hok _ _ ho
      have J : PySem.W.InstAt s.heap a oe C none := by
        obtain ⟨oc, od, oda, osl⟩ := oe
        dsimp only at e2 e3 e4
        subst e2 e3 e4
        exact ⟨e1, rfl, rfl, trivial⟩
      have kit : PySem.W.kitOne X.K (.ref C) (.type T) = some ((D.obj C).isi T) := by
        simp only [List.mem_cons, List.not_mem_nil, or_false] at hT
        rcases hT with rfl | rfl | rfl | rfl | rfl
        · exact ok.is_str
        · exact ok.is_int
        · exact ok.is_bool
        · exact ok.is_tuple
        · exact ok.is_list
      exact PySem.W.kia_one (PySem.W.handS_kitx_exc ok.exc.hg ok.exc.hk ok.exc.hs ok.exc.hd ok.exc.ha ok.exc.hn ok.exc.ht ok.exc.hm) I.kIn J kit (fun z => nomatch z) fun tk => ⟨.bl ((D.obj C).isi T), H, I.kept (t' := tk) fun _ _ z => z, rfl, q⟩
end
theorem call_isiDK {X : Cx} {T : String} {K : PySem.W.Frag} (hK : X.K = K) (hT : T ∈ ["str", "int", "bool", "tuple", "list"]) : CallR X (.builtin "isinstance") (rIsD K T) := by
  subst hK
  exact call_isiD hT
/-! ### t[::-1] -/
section
variable {prog : Program} {w : World} {A : Around} {E : Value → Shared → Prop} {s : Shared}
open HT
theorem sliceApplied_rev {sl : Addr} {vl vu vs : Value} {n : Nat} {Q : Int × Int × Nat → Shared → Prop} (hs : s.heap.IsSliceOf sl vl vu vs) (pl : IsPart vl none) (pu : IsPart vu none) (ps : IsPart vs (some (-1)))
    (h : Q ((n : Int) - 1, -1, n) s) : wpAny (model prog w) A (Builtin.Slice.sliceApplied (.ref sl) (pure (n : Int))) Q E s := by
  obtain ⟨os, hos, hcs, hds⟩ := id hs
  unfold Builtin.Slice.sliceApplied Builtin.Slice.sliceFields
  refine wpAny_bind (wpAny_bind (wpAny_field hos hds (x := vl) rfl (wpAny_bind (wpAny_field hos hds (x := vu) rfl (wpAny_bind (wpAny_field hos hds (x := vs) rfl (wpAny_pure ?_)))))))
  refine wpAny_bind (slicePart_ ps ?_)
  show wpAny _ _ (if ((-1 : Int) == 0) = true then _ else _) _ _ s
  rw [if_neg (by decide)]
  refine wpAny_bind (slicePart_ pl (wpAny_bind (slicePart_ pu (wpAny_bind (wpAny_pure ?_)))))
  show wpAny _ _ (pure ((n : Int) - 1, (-1 : Int), Builtin.Slice.slicePlaces ((n : Int) - 1) (-1) (-1))) _ _ s
  have e : Builtin.Slice.slicePlaces ((n : Int) - 1) (-1) (-1) = n := by
    unfold Builtin.Slice.slicePlaces
    rw [if_neg (by decide)]
    by_cases c : (n : Int) - 1 > -1
    · rw [if_pos c, show (- -1 : Int) = 1 by decide, Int.ediv_one]
      omega
    · rw [if_neg c]
      omega
  rw [e]
  exact wpAny_pure h
theorem pick_rev (xs : Array Value) : ((List.range xs.size).filterMap fun (k : Nat) => xs[((xs.size : Int) - 1 + (k : Int) * (-1)).toNat]?).toArray = xs.toList.reverse.toArray := by
  have e : (fun (k : Nat) => xs[((xs.size : Int) - 1 + (k : Int) * (-1)).toNat]?) = (fun k => xs[xs.size - 1 - k]?) := by
    funext k
    have : ((xs.size : Int) - 1 + (k : Int) * (-1)).toNat = xs.size - 1 - k := by omega
    rw [this]
  rw [e]
  have e2 : (fun k => xs[xs.size - 1 - k]?) = (fun k => xs[k]?) ∘ fun k => xs.size - 1 - k := rfl
  rw [e2, ← List.filterMap_map, PySem.W.krv_range, List.filterMap_reverse, PySem.W.krv_all]
theorem getItem_tuple_rev {t sl : Addr} {items : Array Value} {vl vu vs : Value} {Q : Value → Shared → Prop} (ht : IsTup s.heap t items) (hs : s.heap.IsSliceOf sl vl vu vs) (pl : IsPart vl none) (pu : IsPart vu none) (ps : IsPart vs (some (-1)))
    (h : Q (.ref s.heap.objs.size) { s with heap := s.heap.push { cls := .type "tuple", data := .seq items.toList.reverse.toArray } })
    (hsz : items.size ≤ sizeLine) : wpAny (model prog w) A (getItem (.ref t) (.ref sl)) Q E s := by
  have htake : sizeOk (.seq items.toList.reverse.toArray) := by
    show items.toList.reverse.toArray.size ≤ sizeLine
    rw [List.size_toArray, List.length_reverse, Array.length_toList]
    exact hsz
  obtain ⟨os, hos, hcs, hds⟩ := id hs
  have hTs : s.TypeIs (.ref sl) "slice" := ⟨os, hos, hcs⟩
  unfold getItem
  try with_reducible refine wpAny_holding ?_
  first | refine wpAny_bind (wpAny_pure ?_) | skip
  refine wpAny_bind (wpAny_sequenceKey ht.typeIs (by decide) ?_)
  refine wpAny_bind (wpAny_callSpecial?_slot (name := Str.ofString "__getitem__") ht.typeIs PyProof.Rows.slot_tuple_getitem
    (wpAny_call_entry PyProof.Rows.slot_tuple_getitem ht.typeIs entry_tuple_getitem ?_ (args_tuple_getitem _ _)))
  show wpAny _ _ (Builtin.Tuple.tupleItemsOf (.ref t) >>= _) _ _ s
  refine wpAny_bind (tupleItemsOf_ ht ?_)
  refine wpAny_bind (wpAny_typeOf hTs ?_)
  rw [if_pos (by decide)]
  refine wpAny_bind (sliceApplied_rev hs pl pu ps ?_)
  have hno : ¬ ((((items.size : Int) - 1) == 0 && (-1 : Int) == 1 && items.size == items.size) = true) := by
    intro q
    rw [Bool.and_eq_true, Bool.and_eq_true] at q
    exact absurd q.1.2 (by decide)
  show wpAny _ _ (if (((items.size : Int) - 1) == 0 && (-1 : Int) == 1 && items.size == items.size) = true then _ else _) _ _ s
  rw [if_neg hno, pick_rev]
  first
    | exact wpAny_bind (m := Builtin.Tuple.tupleExact _) (wpAny_newObj_type (wpAny_pure ⟨_, rfl, wpAny_pure h⟩) htake)
    | exact wpAny_bind (m := Builtin.Tuple.tupleExact _) (wpAny_newObj_type (wpAny_bind (wpAny_pure (wpAny_pure ⟨_, rfl, wpAny_pure h⟩))) htake)
    | exact wpAny_bind (wpAny_bind (m := Builtin.Tuple.tupleExact _) (wpAny_newObj_type (wpAny_pure (wpAny_pure ⟨_, rfl, wpAny_pure h⟩)) htake))
    | exact wpAny_bind (wpAny_bind (m := Builtin.Tuple.tupleExact _) (wpAny_newObj_type (wpAny_pure ⟨_, rfl, wpAny_pure h⟩) htake))
end
section
variable {X : Cx}
def tRevT (K : PySem.W.Frag) (te : TE) : TE := fun σ H Q => te σ H fun x H1 => ∃ a xs, x = .ref a ∧ SqT K H1 a xs ∧ ∀ p, H1 p = none → Q (.ref p) (upd H1 p (.tup xs.reverse))
theorem pe_revT {e : Expr} {te : TE} {k : Nat} {p1 p2 p3 pos : Pos} (he : PE X e te) : PE X (.Subscript e (.Slice none none (some (.UnaryOp .USub (.Constant (.int 1) k p1) p2)) p3) pos) (tRevT X.K te) := by
  refine ⟨fun pins s σ H Q I h => ?_⟩
  refine Subscript_ (thn (he.run pins s σ H _ I h) fun v s1 ⟨x, H1, I1, r1, q1⟩ => ?_)
  obtain ⟨a, xs, ex, hx, q⟩ := q1
  subst ex
  cases r1
  have hst : PO X (some (.UnaryOp .USub (.Constant (.int 1) k p1) p2)) (tPart (tUn (rU fun i => .int (-i)) (tC (.int 1)))) := po_some (pe_un un_neg pe_int)
  refine wpAny_Slice (thn (po_none.run pins s1 σ H1 (fun o H2 => o = none ∧ H2 = H1) I1 ⟨rfl, rfl⟩) fun vl s2 ⟨l, H2, I2, pl, el, e2⟩ => ?_)
  subst el e2
  refine thn (po_none.run pins s2 σ H2 (fun o H3 => o = none ∧ H3 = H2) I2 ⟨rfl, rfl⟩) fun vu s3 ⟨u, H3, I3, pu, eu, e3⟩ => ?_
  subst eu e3
  refine thn (hst.run pins s3 σ H3 (fun o H4 => o = some (-1) ∧ H4 = H3) I3 ⟨1, rfl, -1, rfl, rfl, rfl⟩) fun vs s4 ⟨o, H4, I4, ps, eo, e4⟩ => ?_
  subst eo e4
  have I5 : Inv X pins σ H4 { s4 with heap := s4.heap.push { cls := .type "slice", data := .fields #[vl, vu, vs] } } := I4.kept (t' := s4.toks) fun b ob q => Heap.get?_push_of_some _ q
  obtain ⟨its, r, ht, hz⟩ := I5.tuple hx
  have hlen := r.length
  show wpAny (model X.prog X.w) X.A (subscriptTail e (.Slice none none (some (.UnaryOp .USub (.Constant (.int 1) k p1) p2)) p3) (.ref a) (.ref s4.heap.objs.size)) (EP X pins σ Q) X.xe { s4 with heap := s4.heap.push { cls := .type "slice", data := .fields #[vl, vu, vs] } }
  refine tail_any (ops := [.ref a, .ref s4.heap.objs.size]) ht.typeIs (PyProof.Rows.slot_tuple_getitem.lookup) ?_ (by with_unfolding_all rfl)
  refine getItem_tuple_rev ht (Heap.IsSliceOf.new _ vl vu vs) pl pu ps ?_ (by rw [List.size_toArray]; omega)
  refine ⟨.ref _, _, I5.laid (t' := s4.toks) (o := .tup xs.reverse) (fun b ob q => Heap.get?_push_of_some _ q) (Nat.le_refl _) ?_, rfl, q _ (I5.hok.fresh (Nat.le_refl _))⟩
  exact ⟨by rw [List.length_reverse]; exact hz, _, r.reverse, IsTup.new _ _⟩
end
/-! ### expressions that build values -/
def EvD (K : PySem.W.Frag) (S : List Addr) (te : TE) (σ : L2.St) (H : Hp) (d : D) : Prop := ∀ H1, Stp [] H H1 → ∀ Q : VK, (∀ v H2, Stp [] H1 H2 → Rv K S H2 v d → Q v H2) → te σ H1 Q
def EvDA (K : PySem.W.Frag) (S : List Addr) (ta : TA) (σ : L2.St) (H : Hp) (ds : List D) : Prop := ∀ H1, Stp [] H H1 → ∀ Q : List V → Hp → Prop, (∀ vs H2, Stp [] H1 H2 → RvL K S H2 vs ds → Q vs H2) → ta σ H1 Q
section
variable {K : PySem.W.Frag} {S : List Addr} {te : TE} {ta : TA} {σ : L2.St} {H : Hp} {d : D} {ds : List D}
theorem EvD.bl {b : Bool} : EvD K S (tC (.bl b)) σ H (.bl b) := fun H1 _ _ k => k _ H1 (Stp.refl _ _) (.bl b)
theorem EvD.int {i : Int} : EvD K S (tC (.int i)) σ H (.int i) := fun H1 _ _ k => k _ H1 (Stp.refl _ _) (.int i)
theorem EvD.non : EvD K S (tC .non) σ H .non := fun H1 _ _ k => k _ H1 (Stp.refl _ _) .non
theorem EvD.str {s : Str} (h : s.cps.toList.length ≤ 100000 := by decide +kernel) : EvD K S (tC (.str s)) σ H (wd s) := fun H1 _ _ k => k _ H1 (Stp.refl _ _) (Rv.lit s h)
theorem EvD.var {i : Nat} {v : V} (r : Rv K S H v d) (e : σ[i]? = some (some v) := by rfl) : EvD K S (tVar i) σ H d := fun H1 s _ k => ⟨v, e, k v H1 (Stp.refl _ _) (r.up s)⟩
theorem EvDA.nil : EvDA K S tNil σ H [] := fun H1 _ _ k => k [] H1 (Stp.refl _ _) .nil
theorem EvDA.cons (h : EvD K S te σ H d) (g : EvDA K S ta σ H ds) : EvDA K S (tCons te ta) σ H (d :: ds) := fun H1 s Q k =>
  h H1 s _ fun v H2 s2 r => g H2 (s.trans s2) _ fun vs H3 s3 rs => k (v :: vs) H3 (s2.trans s3) (.cons (r.up s3) rs)
theorem EvD.tup (h : EvDA K S ta σ H ds) (hl : ds.length ≤ 1000) : EvD K S (tTup ta) σ H (.tup ds) := fun H1 s Q k =>
  h H1 s _ fun vs H2 s2 rs => ⟨sz (by rw [rs.len]; omega), fun p np => k _ _ (s2.new' np) (Rv.newT np rs (by omega))⟩
theorem EvD.lst (L : Lsts H S) (h : EvDA K S ta σ H ds) (hl : ds.length ≤ 1000) : EvD K S (tLst ta) σ H (.lst ds) := fun H1 s Q k =>
  h H1 s _ fun vs H2 s2 rs => ⟨sz (by rw [rs.len]; omega), fun p np => k _ _ (s2.new' np) (Rv.newL (Pv.Lsts.up L (s.trans s2)) np rs (by omega))⟩
theorem EvD.exc {C : Addr} (ok : OkC K C) (h : EvD K S te σ H d) : EvD K S (fun σ H Q => te σ H fun _ H1 => ∀ a, H1 a = none → Q (.ref a) (upd H1 a (ExO (.ref C) a))) σ H (.obj C) := fun H1 s Q k =>
  h H1 s _ fun v H2 s2 _ => fun a na => k _ _ (s2.new' na) (.obj upd_same ok)
theorem EvD.pow {i j : Int} (h : CPow i j) : EvD K S (tOp (rI CPow fun i j => .int (i ^ j.toNat)) (tC (.int i)) (tC (.int j))) σ H (.int (i ^ j.toNat)) := fun H1 s Q k =>
  ⟨i, j, rfl, rfl, h, k _ _ (Stp.refl _ _) (.int _)⟩
theorem EvD.neg {i : Int} : EvD K S (tUn (rU fun i => .int (-i)) (tC (.int i))) σ H (.int (-i)) := fun H1 s Q k => ⟨i, rfl, k _ _ (Stp.refl _ _) (.int _)⟩
theorem EvDA.use (h : EvDA K S ta σ H ds) {Q : List V → Hp → Prop} (k : ∀ vs H2, Stp [] H H2 → RvL K S H2 vs ds → Q vs H2) : ta σ H Q := h H (Stp.refl _ _) Q k
theorem EvD.use (h : EvD K S te σ H d) {Q : VK} (k : ∀ v H2, Stp [] H H2 → Rv K S H2 v d → Q v H2) : te σ H Q := h H (Stp.refl _ _) Q k
theorem EvDA.newl (h : EvDA K S ta σ H ds) (hl : ds.length ≤ 1000) {Q : VK} (k : ∀ p vs H2, Stp [] H H2 → H p = none → H2 p = some (.lst vs) → RvL K S H2 vs ds → Q (.ref p) H2) : tLst ta σ H Q :=
  h.use fun vs H2 s rs => ⟨sz (by rw [rs.len]; omega), fun p np => k p vs _ (s.new' np) (s.fresh (fun m => nomatch m) np) upd_same (rs.up (Stp.new np []))⟩
end
/-! ### lists of truths, compared -/
theorem dp_bools {K : PySem.W.Frag} {H : Hp} : ∀ (bs : List Bool), DpAll K H (bs.map V.bl) (bs.map PyData.bool)
  | [] => .nil
  | b :: bs => .cons (.bl b) (dp_bools bs)
theorem lay_bools : ∀ (bs : List Bool), PyData.canLayAll0 (bs.map PyData.bool) = true
  | [] => rfl
  | b :: bs => by
    show (PyData.canLay0 (.bool b) && PyData.canLayAll0 (bs.map PyData.bool)) = true
    rw [lay_bools bs]
    rfl
theorem dep_bools : ∀ (bs : List Bool), PyData.depthAll (bs.map PyData.bool) = 0
  | [] => rfl
  | b :: bs => by
    show max 0 (PyData.depthAll (bs.map PyData.bool)) = 0
    rw [dep_bools bs]
    rfl
theorem shaped_bools (bs : List Bool) : SeqAt.shaped (.list (bs.map PyData.bool)) = true := by
  unfold SeqAt.shaped
  rw [show PyData.canLay0 (.list (bs.map PyData.bool)) = true from lay_bools bs]
  rw [show PyData.depth (.list (bs.map PyData.bool)) = 0 + 1 by show PyData.depthAll _ + 1 = _; rw [dep_bools]]
  rfl
/-- the same list of truths twice: != says no -/
theorem ne_bools {K : PySem.W.Frag} {H : Hp} {p q : Addr} {bs : List Bool} {Q : VK} (hp : SqL K H p (bs.map V.bl)) (hq : SqL K H q (bs.map V.bl)) (k : Q (.bl false) H) : rNeD K (.ref p) (.ref q) H Q := by
  refine ⟨.list (bs.map PyData.bool), .list (bs.map PyData.bool), .lst hp (dp_bools bs), .lst hq (dp_bools bs), shaped_bools bs, shaped_bools bs, ?_⟩
  rw [SeqAt.eqv_refl _ (show PyData.canLay0 (.list (bs.map PyData.bool)) = true from lay_bools bs)]
  exact k
end Pv
namespace Pv
open PySem PySem.Spec PyProof.Rows L2 Pg
/-- the ways of an expression, joined by what they leave -/
theorem te_join {te : TE} {σ : L2.St} {H : Hp} {Q : VK} (I : V → Hp → Prop) (h : (∀ v H', I v H' → Q v H') → te σ H Q) (k : ∀ v H', I v H' → Q v H') : te σ H Q := h k
/-- xs + ys, new lists of values -/
theorem cat_use {K : PySem.W.Frag} {S : List Addr} {H : Hp} {a b : Addr} {xs ys : List V} {ds es : List D} {Q : VK} (ha : H a = some (.lst xs)) (hb : H b = some (.lst ys)) (ra : RvL K S H xs ds) (rb : RvL K S H ys es) (hl : ds.length + es.length ≤ 100000)
    (k : ∀ p, H p = none → ∀ H' zs, Stp [] H H' → H' p = some (.lst zs) → RvL K S H' zs (ds ++ es) → Q (.ref p) H') : rCat (.ref a) (.ref b) H Q :=
  ⟨a, b, xs, ys, rfl, rfl, ha, hb, by rw [ra.len, rb.len]; exact sz hl, fun p np => k p np _ _ (Stp.new np _) upd_same ((ra.app rb).up (Stp.new np _))⟩
/-- xs + ys, also of a list that is locked -/
def rCatS (K : PySem.W.Frag) : R2 := fun x y H Q => ∃ l b xs zs, x = .ref l ∧ y = .ref b ∧ SqL K H l xs ∧ SqL K H b zs ∧ xs.length + zs.length ≤ sizeLine ∧ ∀ p, H p = none → Q (.ref p) (upd H p (.lst (xs ++ zs)))
theorem op_catS {X : Cx} : OpR X (binaryOp .Add) (rCatS X.K) := by
  intro pins s σ H x y v u Q I rx ry h
  obtain ⟨l, b, xs, zs, rfl, rfl, hH, hB, hz, q⟩ := h
  cases rx
  cases ry
  obtain ⟨its, r, pl, _⟩ := I.list hH
  obtain ⟨its2, r2, pl2, _⟩ := I.list hB
  have hl := r.length
  have hl2 := r2.length
  have ea : its.toArray ++ its2.toArray = (its ++ its2).toArray := by simp
  obtain ⟨⟨cls, dd, data, sl⟩, ho, hc, n, hd⟩ := pl.isList
  obtain ⟨⟨cls2, dd2, data2, sl2⟩, ho2, hc2, n2, hd2⟩ := pl2.isList
  simp only at hc hd hc2 hd2
  subst hc hd hc2 hd2
  refine concat_meets ⟨_, ho, rfl⟩ ⟨_, ho2, rfl⟩ noFill_list_add seq_list_add PySem.F.slot_list_add PySem.F.entry_list_add (PySem.F.args_list_add_2 _ _) (list_addW l b its.toArray its2.toArray n n2 dd dd2 sl sl2 (by rw [List.size_toArray, List.size_toArray]; omega)) ⟨ho, ho2, ?_⟩
  rw [ea]
  exact ⟨.ref _, _, I.lnew (t' := s.toks) (r.append r2) (by rw [List.length_append]; omega), rfl, q _ I.fresh⟩
theorem out_of {b p : Addr} {H : Hp} {o : HO} (h : H b = some o) (np : H p = none) : p ∉ [b] := fun m => by
  rw [List.mem_singleton.mp m, h] at np
  cases np
end Pv
namespace Pv
open PySem PySem.Spec PyProof.Rows L2 Pg
section
variable {K : PySem.W.Frag} {S : List Addr} {te : TE} {ta : TA} {σ : L2.St} {H : Hp} {d : D} {ds es : List D}
theorem catT {a b : Addr} {xs ys : List V} {Q : VK} (ha : SqT K H a xs) (hb : SqT K H b ys) (ra : RvL K S H xs ds) (rb : RvL K S H ys es) (hl : ds.length + es.length ≤ 100000)
    (k : ∀ p zs H', Stp [] H H' → SqT K H' p zs → RvL K S H' zs (ds ++ es) → Q (.ref p) H') : rCatA K (.ref a) (.ref b) H Q :=
  catA_use ha hb (by rw [ra.len, rb.len]; exact hl) fun p H' s h => k p _ H' s h ((ra.app rb).up s)
theorem upT {a : Addr} {xs : List V} {n : Nat} {Q : VK} (ha : SqT K H a xs) (ra : RvL K S H xs ds) (k : ∀ p zs H', Stp [] H H' → SqT K H' p zs → RvL K S H' zs (ds.take n) → Q (.ref p) H') : rSlA K (.ref a) none (some (n : Int)) H Q :=
  slA_use ha fun p H' s h => k p _ H' s (by rwa [cut_upto] at h) ((ra.take n).up s)
theorem fromT {a : Addr} {xs : List V} {n : Nat} {Q : VK} (ha : SqT K H a xs) (ra : RvL K S H xs ds) (k : ∀ p zs H', Stp [] H H' → SqT K H' p zs → RvL K S H' zs (ds.drop n) → Q (.ref p) H') : rSlA K (.ref a) (some (n : Int)) none H Q :=
  slA_use ha fun p H' s h => k p _ H' s (by rwa [cut_from] at h) ((ra.drop n).up s)
theorem fromT1 {a : Addr} {xs : List V} {n : Nat} {Q : VK} (ha : SqT K H a xs) (ra : RvL K S H xs ds) (k : ∀ p zs H', Stp [] H H' → SqT K H' p zs → RvL K S H' zs (ds.drop (n + 1)) → Q (.ref p) H') : rSlA K (.ref a) (some ((n : Int) + 1)) none H Q :=
  Pv.fromT (n := n + 1) ha ra k
/-! more expressions -/
theorem Rv.tupE {a : V} (r : Rv K S H a (.tup ds)) : ∃ p vs, a = .ref p ∧ SqT K H p vs ∧ vs.length ≤ 100000 ∧ RvL K S H vs ds := by
  cases r with
  | tup h n r => exact ⟨_, _, rfl, h, n, r⟩
theorem EvD.list (L : Lsts H S) (h : EvD K S te σ H (.tup ds)) : EvD K S (tCB (fun xs H Q => ∃ p ys, xs = [.ref p] ∧ (SqL K H p ys ∨ SqT K H p ys) ∧ ∀ l, H l = none → Q (.ref l) (upd H l (.lst ys))) (tCons te tNil)) σ H (.lst ds) := fun H1 s Q k =>
  h H1 s _ fun v H2 s2 r => by
    obtain ⟨p, vs, rfl, hs, n, rl⟩ := r.tupE
    exact ⟨_, _, rfl, .inr hs, fun l nl => k _ _ (s2.new' nl) (Rv.newL (Pg.Lsts.stp L (s.trans s2)) nl rl (by rw [← rl.len]; exact n))⟩
theorem EvD.upT {n : Nat} (h : EvD K S te σ H (.tup ds)) : EvD K S (tSl (rSlA K) te tNoPart (tPart (tC (.int (n : Int))))) σ H (.tup (ds.take n)) := fun H1 s Q k =>
  h H1 s _ fun v H2 s2 r => by
    obtain ⟨p, vs, rfl, hs, n, rl⟩ := r.tupE
    exact ⟨_, rfl, Pv.upT hs rl fun p zs H' s3 h2 r2 => k _ _ (s2.trans s3) (.tup h2 (by rw [r2.len, List.length_take, ← rl.len]; omega) r2)⟩
theorem EvD.fromT {n : Nat} (h : EvD K S te σ H (.tup ds)) : EvD K S (tSl (rSlA K) te (tPart (tC (.int (n : Int)))) tNoPart) σ H (.tup (ds.drop n)) := fun H1 s Q k =>
  h H1 s _ fun v H2 s2 r => by
    obtain ⟨p, vs, rfl, hs, n, rl⟩ := r.tupE
    exact ⟨_, rfl, Pv.fromT hs rl fun p zs H' s3 h2 r2 => k _ _ (s2.trans s3) (.tup h2 (by rw [r2.len, List.length_drop, ← rl.len]; omega) r2)⟩
theorem EvD.catT {tb : TE} (h : EvD K S te σ H (.tup ds)) (g : EvD K S tb σ H (.tup es)) (hl : ds.length + es.length ≤ 100000) : EvD K S (tOp (rCatA K) te tb) σ H (.tup (ds ++ es)) := fun H1 s Q k =>
  h H1 s _ fun v H2 s2 r => g H2 (s.trans s2) _ fun u H3 s3 q => by
    obtain ⟨p, vs, rfl, hs, n, rl⟩ := (r.up s3).tupE
    obtain ⟨p2, vs2, rfl, hs2, n2, rl2⟩ := q.tupE
    exact Pv.catT hs hs2 rl rl2 hl fun p zs H' s4 h2 r2 => k _ _ ((s2.trans s3).trans s4) (.tup h2 (by rw [r2.len, List.length_append]; exact hl) r2)
theorem EvD.ixT {i : Nat} (h : EvD K S te σ H (.tup ds)) (e : ds[i]? = some d) : EvD K S (tOp (rIxT K) te (tC (.int (i : Int)))) σ H d := fun H1 s Q k =>
  h H1 s _ fun v H2 s2 r => by
    obtain ⟨p, vs, rfl, hs, n, rl⟩ := r.tupE
    have hi : i < vs.length := by
      rw [rl.len]
      exact (List.getElem?_eq_some_iff.mp e).1
    obtain ⟨d', e', r'⟩ := rl.get (List.getElem?_eq_getElem hi)
    rw [e] at e'
    cases e'
    exact ⟨p, vs, _, _, rfl, rfl, hs, atI_nat (List.getElem?_eq_getElem hi), k _ _ s2 r'⟩
theorem EvD.revT (h : EvD K S te σ H (.tup ds)) : EvD K S (tRevT K te) σ H (.tup ds.reverse) := fun H1 s Q k =>
  h H1 s _ fun v H2 s2 r => by
    obtain ⟨p, vs, rfl, hs, n, rl⟩ := r.tupE
    exact ⟨p, vs, rfl, hs, fun p np => k _ _ (s2.new' np) (Rv.newT np rl.rev (by rw [List.length_reverse, ← rl.len]; exact n))⟩
theorem op_newl {r : R2} {tb : TE} {Q : VK} (h : EvDA K S ta σ H ds) (hl : ds.length ≤ 1000) (k : ∀ p vs H2, Stp [] H H2 → H p = none → H2 p = some (.lst vs) → RvL K S H2 vs ds → tb σ H2 fun y H3 => r (.ref p) y H3 Q) : tOp r (tLst ta) tb σ H Q := h.newl hl k
theorem EvDA.one (h : EvD K S te σ H d) : EvDA K S (tCons te tNil) σ H [d] := .cons h .nil
end
end Pv
namespace Pv
open PySem PySem.Spec PyProof.Rows L2 Pg
/-! ### xs == [], xs any values -/
def rEqNil (K : PySem.W.Frag) : R2 := fun x y H Q => ∃ a b xs, x = .ref a ∧ y = .ref b ∧ a ≠ b ∧ SqL K H a xs ∧ SqL K H b [] ∧ Q (.bl xs.isEmpty) H
def rNeNil (K : PySem.W.Frag) : R2 := fun x y H Q => ∃ a b xs, x = .ref a ∧ y = .ref b ∧ a ≠ b ∧ SqL K H a xs ∧ SqL K H b [] ∧ Q (.bl (!xs.isEmpty)) H
theorem op_eqNil {X : Cx} (hu : X.A.units + 64 < cLine) : OpR X (compareOp .Eq) (rEqNil X.K) := by
  intro pins s σ H x y v u Q I rx ry h
  obtain ⟨a, b, xs, rfl, rfl, ne, hH, hB, q⟩ := h
  cases rx
  cases ry
  obtain ⟨its, r, pl, _⟩ := I.list hH
  obtain ⟨its2, r2, pl2, _⟩ := I.list hB
  cases r2
  cases xs with
  | nil =>
    cases r
    refine SeqAt.RcAt.lists (e := fun _ => true) pl.isList pl2.isList rfl (by omega) (fun j h1 h2 => absurd h1 (by simp)) _ _ _ _ ?_
    exact ⟨.bl true, H, I, rfl, q⟩
  | cons x xs =>
    cases r with
    | cons r1 r =>
      refine SeqAt.RcAt.lists_lengths pl.isList pl2.isList (by simp) (by omega) _ _ _ _ ?_
      exact ⟨.bl false, H, I, rfl, q⟩
theorem op_neNil {X : Cx} (hu : X.A.units + 64 < cLine) : OpR X (compareOp .NotEq) (rNeNil X.K) := by
  intro pins s σ H x y v u Q I rx ry h
  obtain ⟨a, b, xs, rfl, rfl, ne, hH, hB, q⟩ := h
  cases rx
  cases ry
  obtain ⟨its, r, pl, _⟩ := I.list hH
  obtain ⟨its2, r2, pl2, _⟩ := I.list hB
  cases r2
  cases xs with
  | nil =>
    cases r
    refine SeqAt.RcNeAt.lists (e := fun _ => true) pl.isList pl2.isList rfl (by omega) (fun j h1 h2 => absurd h1 (by simp)) _ _ _ _ ?_
    exact ⟨.bl false, H, I, rfl, q⟩
  | cons x xs =>
    cases r with
    | cons r1 r =>
      refine SeqAt.RcNeAt.lists_lengths pl.isList pl2.isList (by simp) (by omega) _ _ _ _ ?_
      exact ⟨.bl true, H, I, rfl, q⟩
/-- one value told twice -/
theorem eq_rel {v : V} {d : D} {K : PySem.W.Frag} {S : List Addr} {H : Hp} {u u' : Value} (h : Rv K S H v d) (r : RelV v u) (r' : RelV v u') (A : Around) (s : Shared) : SeqAt.EqAt A s u u' true := by
  cases h with
  | non => cases r; cases r'; exact SeqAt.EqAt.same _
  | bl b => cases r; cases r'; exact SeqAt.EqAt.same _
  | int i =>
    obtain ⟨t, rfl⟩ := r
    obtain ⟨t', rfl⟩ := r'
    have := (MeetsSeq.EqGives.int i i t t').at A s
    rwa [show (i == i) = true from beq_self_eq_true i] at this
  | str l hl =>
    obtain ⟨t, rfl⟩ := r
    obtain ⟨t', rfl⟩ := r'
    have := (SeqRoads2.EqGives.str (tx l) (tx l) t t').at A s
    rwa [show ((tx l).cps.toList == (tx l).cps.toList) = true from beq_self_eq_true _] at this
  | tup _ _ _ => cases r; cases r'; exact SeqAt.EqAt.same _
  | lst _ _ _ _ => cases r; cases r'; exact SeqAt.EqAt.same _
  | obj _ _ => cases r; cases r'; exact SeqAt.EqAt.same _
theorem vals_at : ∀ {vs : List V} {us us' : List Value} {ds : List D} {K : PySem.W.Frag} {S : List Addr} {H : Hp}, RvL K S H vs ds → Vals vs us → Vals vs us' → ∀ (A : Around) (s : Shared) (j : Nat) (h1 : j < us.length) (h2 : j < us'.length), SeqAt.EqAt A s us[j] us'[j] true
  | _, _, _, _, _, _, _, .nil, .nil, .nil, _, _, _, h1, _ => absurd h1 (Nat.not_lt_zero _)
  | _, _, _, _, _, _, _, .cons h _, .cons r _, .cons r' _, A, s, 0, _, _ => eq_rel h r r' A s
  | _, _, _, _, _, _, _, .cons _ h, .cons _ r, .cons _ r', A, s, j + 1, h1, h2 => vals_at h r r' A s j (Nat.lt_of_succ_lt_succ h1) (Nat.lt_of_succ_lt_succ h2)
/-- xs != ys, both hold the same values -/
def rNeL (K : PySem.W.Frag) : R2 := fun x y H Q => ∃ (S : List Addr) (a b : Addr) (xs : List V) (ds : List D), x = .ref a ∧ y = .ref b ∧ SqL K H a xs ∧ SqL K H b xs ∧ RvL K S H xs ds ∧ Q (.bl false) H
theorem op_neL {X : Cx} (hu : X.A.units + 64 < cLine) : OpR X (compareOp .NotEq) (rNeL X.K) := by
  intro pins s σ H x y v u Q I rx ry h
  obtain ⟨S, a, b, xs, ds, rfl, rfl, hH, hB, rv, q⟩ := h
  cases rx
  cases ry
  obtain ⟨its, r, pl, _⟩ := I.list hH
  obtain ⟨its2, r2, pl2, _⟩ := I.list hB
  have e1 := Vals.length r
  have e2 := Vals.length r2
  refine SeqAt.RcNeAt.lists (e := fun _ => true) pl.isList pl2.isList (by simp; omega) (by omega) (fun j h1 h2 => ?_) _ _ _ _ ?_
  · have := vals_at rv r r2 X.A.in1 s j (by simpa using h1) (by simpa using h2)
    simpa using this
  · refine ⟨.bl _, H, I, rfl, ?_⟩
    rw [show ((List.range its.toArray.size).all fun _ => true) = true from by simp]
    exact q
end Pv
namespace PySem.W
open PySem PySem.Spec PySem.Calls PyProof.Rows Sem
/-- what a class says of == and != : no own ones -/
structure SameC (K : Frag) (D : Addr) : Prop where
  eq : findIn K (.ref D) "__eq__" = some (some (.builtin "object.__eq__"))
  ne : findIn K (.ref D) "__ne__" = some (some (.builtin "object.__ne__"))
  sub : subIn K (.ref D) (.type "object") = some true
section
variable {prog : Program} {w : World} {A : Around} {E : Value → Shared → Prop} {K : Frag} {x D : Addr} {ox : Obj} {h : Heap} {g : Array GenState} {d : Drawn} {t : Nat} {os : OsState}
theorem sp_same {name : Str} {id : String} {args : List Value} {Q : Option Value → Shared → Prop} (LS : Looks (model prog w) h (specialOf (.ref x) name) (some (.builtin id))) (S : PySem.Slot "object" name id)
    (hcall : wpAny (model prog w) A (call (.builtin id) (.ref x :: args)) (fun v => Q (some v)) E ⟨h, g, d, t, os⟩) : wpAny (model prog w) A (callSpecialIfBound? (.ref x) name args) Q E ⟨h, g, d, t, os⟩ := by
  simp only [callSpecialIfBound?, bindSpecialIfBound?]
  refine wpAny_holding (wpAny_bind (wpAny_bind (LS.at ?_)))
  simp only [S.bind]
  refine wpAny_bind (wpAny_askSetting (wpAny_ite ?_))
  have fin : wpAny (model prog w) A (call (.builtin id) ([.ref x] ++ args) >>= fun v => Pure.pure (some v)) Q E ⟨h, g, d, t, os⟩ :=
    wpAny_bind (wpAny_mono hcall (fun v s' h' => wpAny_pure h') fun _ _ h' => h')
  split
  · exact wpAny_bind (wpAny_pure (wpAny_pure fin))
  · exact wpAny_tryCatch (wpAny_bind (wpAny_pure (wpAny_pure fin)))
theorem eq_same (C : SameC K D) (X : K.In h) (I : InstAt h x ox D none) {Q : Option Value → Shared → Prop} (hq : Q (some (.bool true)) ⟨h, g, d, t, os⟩) :
    wpAny (model prog w) A (callSpecialIfBound? (.ref x) "__eq__" [.ref x]) Q E ⟨h, g, d, t, os⟩ := by
  have L0 := I.type (M := model prog w)
  have sub : Looks (model prog w) h (isInstance (.ref x) (.type "object")) true := L0.andThen (looks_subIn X C.sub)
  refine sp_same (L0.andThen (looks_findIn X C.eq)) PySem.F.cmp_object.eq ?_
  refine wpAny_call (codeAny_call_builtin PySem.F.cmp_object.eq.plain PySem.F.cmpEntry_eq ?_)
  exact @check_slot (model prog w) _ _ ⟨h, g, d, t, os⟩ "object.__eq__" "object" "__eq__" (.ref x) [.ref x] [] _ PySem.F.cmpKind_eq PySem.F.cmpSplit_eq sub (PySem.F.cmpArgs_eq _ _) (objEq_entry_same hq)
theorem ne_same (C : SameC K D) (X : K.In h) (I : InstAt h x ox D none) (hu : A.units + 1 < cLine) {Q : Option Value → Shared → Prop} (hq : Q (some (.bool false)) ⟨h, g, d, t, os⟩) :
    wpAny (model prog w) A (callSpecialIfBound? (.ref x) "__ne__" [.ref x]) Q E ⟨h, g, d, t, os⟩ := by
  have L0 := I.type (M := model prog w)
  have sub : Looks (model prog w) h (isInstance (.ref x) (.type "object")) true := L0.andThen (looks_subIn X C.sub)
  refine sp_same (L0.andThen (looks_findIn X C.ne)) PySem.F.cmp_object.ne ?_
  refine wpAny_call (codeAny_call_builtin PySem.F.cmp_object.ne.plain PySem.F.cmpEntry_ne ?_)
  refine @check_slot (model prog w) _ _ ⟨h, g, d, t, os⟩ "object.__ne__" "object" "__ne__" (.ref x) [.ref x] [] _ PySem.F.cmpKind_ne PySem.F.cmpSplit_ne sub (PySem.F.cmpArgs_ne _ _) ?_
  unfold Builtin.«object.__ne__»
  repeat (first | with_reducible refine wpAny_cRoomFor hu ?_ | with_reducible refine eq_same C X I ?_ | wp_step)
  exact hq
theorem compare_ne_same (C : SameC K D) (X : K.In h) (I : InstAt h x ox D none) (hu : A.units + 1 < cLine) {Q : Value → Shared → Prop} (hq : Q (.bool false) ⟨h, g, d, t, os⟩) :
    wpAny (model prog w) A (compareOp .NotEq (.ref x) (.ref x)) Q E ⟨h, g, d, t, os⟩ := by
  have hu0 : A.units < cLine := Nat.lt_of_succ_lt hu
  show wpAny (model prog w) A (richCompare .NotEq (.ref x) (.ref x)) Q E ⟨h, g, d, t, os⟩
  simp only [richCompare, cmpInfo_NotEq, oneThing_ref]
  have L0 := I.type (M := model prog w)
  have tc : ∀ {Q : Option Value → Shared → Prop}, Q (some (.bool false)) ⟨h, g, d, t, os⟩ → wpAny (model prog w) A (tryCompare (.ref x) "__ne__" (.ref x)) Q E ⟨h, g, d, t, os⟩ := fun hq => by
    simp only [tryCompare]
    exact wpAny_bind (ne_same C X I hu (wpAny_pure hq))
  repeat (first | with_reducible refine wpAny_cRoomFor hu0 ?_ | with_reducible refine L0.at ?_ | with_reducible refine tc ?_ | wp_step)
  exact hq
end
end PySem.W
namespace Pv
open PySem PySem.Spec PyProof.Rows L2 Pg
/-- x != x, any value -/
def rNeV (K : PySem.W.Frag) : R2 := fun x y H Q => x = y ∧ ∃ (S : List Addr) (d : D), Rv K S H x d ∧ (∀ C, d = .obj C → PySem.W.SameC K C) ∧ Q (.bl false) H
/-- kept != due: lists of the same values, or one value -/
def rNeK (K : PySem.W.Frag) : R2 := fun x y H Q => rNeL K x y H Q ∨ rNeV K x y H Q
theorem op_neK {X : Cx} (hu : X.A.units + 64 < cLine) : OpR X (compareOp .NotEq) (rNeK X.K) := by
  intro pins s σ H x y v u Q I rx ry h
  rcases h with h | ⟨rfl, S, d, rv, ob, q⟩
  · exact op_neL hu pins s σ H x y v u Q I rx ry h
  · have sc := fun e => op_ne pins s σ H x x v u Q I rx ry ⟨e, by rw [decide_eq_true rfl]; exact q⟩
    cases rv with
    | non => exact sc rfl
    | bl b => exact sc rfl
    | int i => exact sc rfl
    | str l hl => exact sc rfl
    | lst ha hn hl rl => exact op_neL hu pins s σ H _ _ v u Q I rx ry ⟨S, _, _, _, _, rfl, rfl, SqL.of ha, SqL.of ha, rl, q⟩
    | tup hs hl rl =>
      cases rx
      cases ry
      obtain ⟨its, r, pl, _⟩ := I.tuple hs
      refine SeqAt.RcNeAt.tuples (e := fun _ => true) pl pl (by omega) (fun j h1 h2 => SeqAt.EqAt.same _) _ _ _ _ ?_
      refine ⟨.bl _, H, I, rfl, ?_⟩
      have e : ∀ n : Nat, ((List.range n).all fun _ => true) = true := fun n => List.all_eq_true.mpr fun _ _ => rfl
      rw [e]
      simpa using q
    | obj ho ok =>
      rename_i a C
      cases rx
      cases ry
      obtain ⟨⟨oe, vs, e1, ⟨e2, e3⟩, e4, _⟩, _⟩ := I.hok _ _ ho
      have J : PySem.W.InstAt s.heap a oe C none := by
        obtain ⟨oc, od, oda, osl⟩ := oe
        dsimp only at e2 e3 e4
        subst e2 e3 e4
        exact ⟨e1, rfl, rfl, trivial⟩
      obtain ⟨hp, g, d, t, os⟩ := s
      refine PySem.W.compare_ne_same (ob C rfl) I.kIn J (by omega) ⟨.bl false, H, I, rfl, q⟩
end Pv
namespace Pg
open PySem PySem.Spec PyProof.Rows L2 PySem.Froz
/-! ### sets of texts, with what their order leans on -/
/-- the payload D holds the texts l; its table rises, and its order is to be told -/
structure TxR (P : Program) (w : World) (D : SD) (l : List Str) : Prop where
  ok : TxOk P w D l
  all : ∃ us : List Tok, us.length = l.length ∧ D.1.toList.Perm ((l.zip us).map fun p => (hashStr w p.1, Value.str p.1 p.2))
  nd : l.Nodup
  ris : Ris D.2.2.place.toList
  led : w.params.followText "set-order" = true ∨ D.2.2.led = true
section
variable {P : Program} {w : World} {A : Around} {E : Value → Shared → Prop} {s : Shared}
theorem tail_ris {ep : Nat} {xs : Array (Int × Value)} {t : SetTable} {b : Bool} (h : Ris t.place.toList) : Ris (tailTx ep xs t b).2.2.place.toList := by
  unfold tailTx
  by_cases c : (!b && t.tooFull) = true
  · rw [if_pos c]; exact relayAll_ris _ _ _
  · rw [if_neg c]; exact h
theorem tail_led {ep : Nat} {xs : Array (Int × Value)} {t : SetTable} {b : Bool} : (tailTx ep xs t b).2.2.led = t.led := by
  unfold tailTx
  by_cases c : (!b && t.tooFull) = true
  · rw [if_pos c]; exact relayAll_led _ _ _
  · rw [if_neg c]
theorem tail_all {ep : Nat} {xs : Array (Int × Value)} {t : SetTable} {b : Bool} : (tailTx ep xs t b).1.toList.Perm xs.toList := by
  unfold tailTx
  by_cases c : (!b && t.tooFull) = true
  · rw [if_pos c]; exact relayAll_perm _ _ _
  · rw [if_neg c]
theorem TxR.add {D : SD} {l : List Str} {k : Str} (u : Tok) (R : TxR P w D l) (hk : k ∉ l) : TxR P w (addTx (hashStr w k) (.str k u) D) (k :: l) := by
  obtain ⟨us, hu, hp⟩ := R.all
  refine ⟨add_ok u R.ok, ⟨u :: us, by rw [List.length_cons, List.length_cons, hu], ?_⟩, List.nodup_cons.mpr ⟨hk, R.nd⟩, ?_, ?_⟩
  · have p1 : (addTx (hashStr w k) (.str k u) D).1.toList.Perm (D.1.push (hashStr w k, .str k u)).toList := tail_all.trans (layNew_perm _ _ _ _)
    rw [Array.toList_push] at p1
    exact p1.trans ((List.perm_append_singleton _ _).trans (hp.cons _))
  · refine tail_ris ?_
    have q := layNew_ris D.2.2 D.1 (hashStr w k) (.str k u) R.ris
    split
    · exact q
    · exact q
  · have e1 : (addTx (hashStr w k) (.str k u) D).2.2.led = D.2.2.led := by
      unfold addTx
      rw [tail_led]
      have q := layNew_led D.2.2 D.1 (hashStr w k) (.str k u)
      split
      · exact q
      · exact q
    exact R.led.imp id fun z => e1.trans z
/-- a text that is there already is put in -/
theorem add_old {a : Addr} {T : String} {D : SD} {l : List Str} {k : Str} {u : Tok} {Q : Bool → Shared → Prop} (at_ : s.heap.get? a = some (sObj T D)) (F : TxOk P w D l) (hk : k ∈ l) (hb : l.length < scanBound)
    (h : Q false s) : wpAny (model P w) A (setAddHashed a (.str k u) (hashStr w k)) Q E s := by
  obtain ⟨xs, ep, t⟩ := D
  obtain ⟨e, he, hq⟩ := (F.mem k).mp hk
  have size : xs.size < scanBound := by have e : xs.size = l.length := F.sz; omega
  obtain ⟨j, hj⟩ : ∃ j, List.findIdx? (fun e => (strKind P w).is k e.2) xs.toList = some j := by
    cases c : List.findIdx? (fun e => (strKind P w).is k e.2) xs.toList with
    | some j => exact ⟨j, rfl⟩
    | none =>
      have := List.findIdx?_eq_none_iff.mp c e he
      rw [hq] at this
      cases this
  have dat : (sObj T (xs, ep, t)).data = .set xs ep t := rfl
  unfold setAddHashed setAddHashedIn
  refine wpAny_holding (wpAny_bind (wpAny_setState_of at_ dat F.fit ?_)); dsimp only
  rw [byScan_of rfl size F.el]; simp only [↓reduceIte]
  unfold setAddByScan
  refine wpAny_bind (wpAny_bind (wpAny_rule (wpAny_bind (wpAny_setScan_of (knd := strKind P w) (k := k) (is_str k u) at_ dat F.fit F.el ?_))))
  rw [hj]; dsimp only
  exact wpAny_pure (wpAny_pure h)
end
end Pg
namespace Pg
open PySem PySem.Spec PyProof.Rows L2 PySem.Froz
/-- of some texts each once: in the order in which a set takes them -/
def onceL (acc : List Str) : List Str → List Str
  | [] => acc
  | x :: xs => onceL (if x ∈ acc then acc else x :: acc) xs
theorem once_mem : ∀ (xs acc : List Str) (k : Str), k ∈ onceL acc xs ↔ k ∈ acc ∨ k ∈ xs
  | [], acc, k => by show k ∈ acc ↔ _; simp
  | x :: xs, acc, k => by
    show k ∈ onceL (if x ∈ acc then acc else x :: acc) xs ↔ _
    rw [once_mem xs]
    by_cases h : x ∈ acc
    · rw [if_pos h, List.mem_cons]
      constructor
      · rintro (q | q)
        · exact .inl q
        · exact .inr (.inr q)
      · rintro (q | rfl | q)
        · exact .inl q
        · exact .inl h
        · exact .inr q
    · rw [if_neg h, List.mem_cons, List.mem_cons]
      constructor
      · rintro ((q | q) | q)
        · exact .inr (.inl q)
        · exact .inl q
        · exact .inr (.inr q)
      · rintro (q | q | q)
        · exact .inl (.inr q)
        · exact .inl (.inl q)
        · exact .inr q
theorem once_len : ∀ (xs acc : List Str), (onceL acc xs).length ≤ acc.length + xs.length
  | [], acc => Nat.le_refl _
  | x :: xs, acc => by
    have h := once_len xs (if x ∈ acc then acc else x :: acc)
    show (onceL (if x ∈ acc then acc else x :: acc) xs).length ≤ _
    have e : (if x ∈ acc then acc else x :: acc).length ≤ acc.length + 1 := by split <;> simp
    rw [List.length_cons]
    omega
/-- a set of these texts stands at a -/
def SetS (P : Program) (w : World) (h : Heap) (a : Addr) (l : List Str) : Prop := ∃ D, h.get? a = some (sObj "set" D) ∧ TxR P w D l
section
variable {P : Program} {w : World} {A : Around} {E : Value → Shared → Prop} {s : Shared}
/-- one text is put in, new or not -/
theorem put_txt {a : Addr} {l : List Str} {k : Str} {u : Tok} {Q : Bool → Shared → Prop} (R : SetS P w s.heap a l) (hb : l.length + 1 < scanBound)
    (h : ∀ (b : Bool) h', Heap.SameBut a s.heap h' → SetS P w h' a (if k ∈ l then l else k :: l) → Q b { s with heap := h' }) : wpAny (model P w) A (setAddHashed a (.str k u) (hashStr w k)) Q E s := by
  obtain ⟨D, at_, R⟩ := R
  by_cases hk : k ∈ l
  · refine add_old at_ R.ok hk (by omega) ?_
    exact h false s.heap (Heap.SameBut.refl _ _) (by rw [if_pos hk]; exact ⟨D, at_, R⟩)
  · refine add_x at_ R.ok hk hb ?_
    refine h true _ (Heap.SameBut.update s.heap a _) ?_
    rw [if_neg hk]
    exact ⟨_, get_upd _ at_ rfl, R.add u hk⟩
end
section
variable {prog : Program} {w : World} {A : Around} {R : Result → Shared → Prop} {I : Addr} {fp wr : List Addr} {G : Array GenState → Array GenState → Prop} {n : Nat} {P : Nat → Value → Prop} {St : Nat → Shared → Prop}
theorem SetS.moved {h h' : Heap} {a : Addr} {l : List Str} (R : SetS prog w h a l) (k : ∀ o, h.get? a = some o → h'.get? a = some o) : SetS prog w h' a l := by
  obtain ⟨D, at_, q⟩ := R
  exact ⟨D, k _ at_, q⟩
/-- the loop that puts the items of a walk in -/
theorem puts (W : WalksS prog w A.in1 I fp wr G n P St) {D : Addr} (out : D ∉ fp) (xs : List Str) (len : xs.length = n) (few : n + 1 < scanBound) (is : ∀ i v, P i v → ∃ t, v = .str (xs.getD i Str.empty) t) :
    ∀ (m i : Nat) (s : Shared) (acc : List Str), n - i = m → i ≤ n → acc.length ≤ i → St i s → SetS prog w s.heap D acc →
      (∀ s', Moved (D :: wr) G s s' → SetS prog w s'.heap D (onceL acc (xs.drop i)) → R (.ok (.ret .none)) s') →
      codeAny (model prog w) A (.builtin "set.update.loop" ⟨[.ref D, .ref I], []⟩) R s := by
  have offw : D ∉ wr := fun q => out (W.sub _ q)
  have up : ∀ b ∈ wr, b ∈ D :: wr := fun b q => List.mem_cons_of_mem _ q
  intro m
  induction m with
  | zero =>
    intro i s acc hm hi _ st S fin
    obtain rfl : i = n := by omega
    refine codeAny_builtin PyProof.Rows.F.entry_set_update_loop ?_
    rw [Around.under_plainId PyProof.Rows.F.plain_set_update_loop _]
    refine wpAny_bind (W.done s _ _ st fun s' mv => wpAny_pure (fin s' (mv.mono up) ?_))
    rw [List.drop_of_length_le (by omega)]
    exact S.moved fun o e => mv.heap D o offw e
  | succ m ih =>
    intro i s acc hm hi ha st S fin
    have lt : i < n := by omega
    refine codeAny_builtin PyProof.Rows.F.entry_set_update_loop ?_
    rw [Around.under_plainId PyProof.Rows.F.plain_set_update_loop _]
    refine wpAny_bind (W.item i s _ _ lt st fun v s' pv st' mv => ?_)
    obtain ⟨t, rfl⟩ := is i v pv
    have S' : SetS prog w s'.heap D acc := S.moved fun o e => mv.heap D o offw e
    show wpAny _ A.in1 (holding [Value.str (xs.getD i Str.empty) t] (setAdd D (.str (xs.getD i Str.empty) t)) >>= _) _ _ s'
    refine wpAny_bind (wpAny_holding ?_)
    unfold setAdd
    refine wpAny_holding (wpAny_bind ((PySem.strKind prog w).pyHash (k := xs.getD i Str.empty) (strKind_is _ _ _ _) ?_))
    refine put_txt (s := { s' with toks := s'.toks + 1 }) S' (by omega) fun b h' sb S2 => ?_
    have dr : xs.drop i = xs.getD i Str.empty :: xs.drop (i + 1) := by
      rw [List.drop_eq_getElem_cons (by omega), List.getD_eq_getElem?_getD, List.getElem?_eq_getElem (by omega)]
      rfl
    refine wpAny_pure ⟨plainId_quiet PyProof.Rows.F.plain_set_update_loop _, ih (i + 1) _ (if xs.getD i Str.empty ∈ acc then acc else xs.getD i Str.empty :: acc) (by omega) lt ?_ (W.frame _ s' _ _ st' (Nat.le_succ _) fun b hb o e => ?_) S2 fun s'' mv2 S3 => ?_⟩
    · split
      · omega
      · rw [List.length_cons]; omega
    · rw [sb.2 b fun z => out (z ▸ hb)]; exact e
    · refine fin s'' (Moved.trans W.gtrans ((mv.mono up).then_heap (Nat.le_succ _) fun b o hb e => ?_) mv2) ?_
      · rw [sb.2 b fun z => hb (z ▸ List.mem_cons_self)]; exact e
      · rw [dr]; exact S3
end
end Pg
namespace Pg
open PySem PySem.Spec PyProof.Rows L2 PySem.Froz
section
variable {prog : Program} {w : World} {A : Around} {E : Value → Shared → Prop} {s : Shared}
/-- an empty set as it is laid -/
abbrev set0 (w : World) : Obj := { cls := .type "set", dict := none, data := .set #[] 0 (.fresh 0 0 (!w.params.followText "set-order")) }
theorem code_new1 (x : Value) {Z : Value → Shared → Prop} (h : Z (.ref s.heap.objs.size) { s with heap := s.heap.push (set0 w) }) : codeAny (model prog w) A (.call (.builtin "set.__new__") ⟨[.type "set", x], []⟩) (wants Z E) s := by
  refine codeAny_of_tree ?_
  show wpAny _ A.in1 (do checkBuiltinCall "set.__new__" ⟨[.type "set", x], []⟩; again (.builtin "set.__new__" ⟨[.type "set", x], []⟩)) _ _ s
  refine wpAny_bind (wpAny_of_eq (PySem.F.newCall_set_1 x) (wpAny_pure ⟨plainId_quiet PySem.F.plain_set_new _, codeAny_builtin PySem.F.entry_set_new ?_⟩)); rw [Around.under_plainId PySem.F.plain_set_new _]
  unfold Builtin.«set.__new__» Builtin.Frozenset.newClass
  have _sub := sub_set_self
  obtain ⟨heap, gens, drawn, toks, os⟩ := s; dsimp only; wp_walk
  refine wpAny_askSetting (wpAny_pure ?_); dsimp only; simp only [newObj]
  exact wpAny_bind (wpAny_alloc (wpAny_pure (wpAny_pure h)))
theorem set0_ok {h : Heap} : SetS prog w (h.push (set0 w)) h.objs.size [] := by
  refine ⟨(#[], 0, .fresh 0 0 (!w.params.followText "set-order")), Heap.get?_push_size _ rfl, TxOk.nil (by rfl), ⟨[], rfl, List.Perm.refl _⟩, List.nodup_nil, List.Pairwise.nil, ?_⟩
  show _ ∨ (!w.params.followText "set-order") = true
  cases w.params.followText "set-order" with
  | true => exact .inl rfl
  | false => exact .inr rfl
theorem str_at : ∀ {vs : List Value} {xs : List Str}, StrsAre vs xs → ∀ (i : Nat) (v : Value), vs[i]? = some v → ∃ t, v = .str (xs.getD i Str.empty) t
  | _, _, .nil, i, v, h => by simp at h
  | _, _, .cons n t r, 0, v, h => by
    rw [List.getElem?_cons_zero] at h
    exact ⟨t, (Option.some.inj h).symm⟩
  | _, _, .cons n t r, i + 1, v, h => str_at r i v h
set_option maxHeartbeats 4000000 in
/-- set(xs), xs a list of texts -/
theorem call_set_txt {l : Addr} {items : Array Value} {xs : List Str} {Q : Value → Shared → Prop} (hh : A.handled = none) (hl : s.heap.IsList l items) (his : StrsAre items.toList xs) (few : xs.length + 1 < scanBound)
    (h : ∀ (h' : Heap) (tk : Nat), SetS prog w h' s.heap.objs.size (onceL [] xs) → (∀ b o, s.heap.get? b = some o → h'.get? b = some o) → Q (.ref s.heap.objs.size) { s with heap := h', toks := tk }) :
    wpAny (model prog w) A (call (.type "set") [.ref l]) Q E s := by
  obtain ⟨cc, tt, mro⟩ := PySem.F.called_set.mro
  have g1 := PySem.F.called_set.made; have g2 := PySem.F.called_set.sub
  refine wpAny_call (codeAny_of_tree (wpAny_pure ⟨Code.quiet_builtin _ (by decide +kernel), codeAny_builtin PySem.F.entry_type_call ?_⟩))
  rw [Around.under_plain (weight_type_call_type "set" [.ref l] []) rfl]
  have g3 := PySem.F.called_set.notType; have g4 := PySem.F.called_set.canCreate; have g5 := PySem.F.typeCall_set_1 (.ref l)
  repeat (any_goals (first | assumption | wp_step))
  refine codeAny_mono (code_new1 (prog := prog) (.ref l) (E := E) (Z := fun obj z => obj = .ref s.heap.objs.size ∧ z = { s with heap := s.heap.push (set0 w) }) ⟨rfl, rfl⟩) fun r z hr => ?_
  cases r with
  | error e => exact hr
  | ok fl =>
    cases fl with
    | ret obj =>
      obtain ⟨rfl, rfl⟩ := hr
      have at0 : (s.heap.push (set0 w)).get? s.heap.objs.size = some (set0 w) := Heap.get?_push_size _ rfl
      have ty : Shared.TypeIs { s with heap := s.heap.push (set0 w) } (.ref s.heap.objs.size) "set" := ⟨_, at0, rfl⟩
      have g6 := PySem.F.called_set.init.lookup; have g7 := PySem.F.called_set.init.bind (.ref s.heap.objs.size)
      repeat (any_goals (first | assumption | wp_step))
      refine codeAny_mono (codeAny_call_builtin (R := wants (fun r z => r = .none ∧ ∃ h' tk, z = { s with heap := h', toks := tk } ∧ SetS prog w h' s.heap.objs.size (onceL [] xs) ∧ (∀ b o, s.heap.get? b = some o → h'.get? b = some o)) E)
        PySem.F.called_set.init.plain PySem.F.entry_set_init (check_set_init_1 ty ?_)) fun r2 z2 hr2 => ?_
      · obtain ⟨⟨oc, od, odata, osl⟩, hol, hcl, nl, hdl⟩ := hl
        simp only at hcl hdl
        subst hcl hdl
        have hol2 : (s.heap.push (set0 w)).get? l = some { cls := .type "list", dict := od, data := .seq items nl, slots := osl } := Heap.get?_push_of_some _ hol
        have hl2 : (s.heap.push (set0 w)).IsList l items := ⟨_, hol2, rfl, nl, rfl⟩
        have q1 := PySem.F.sub_list_set; have q2 := PySem.F.sub_list_frozenset
        have q3 : (Value.type "list" == Value.type "dict") = false := by decide
        unfold Builtin.«set.__init__» noKeywords Builtin.Frozenset.updateFrom
        generalize hp : pyIter = pi
        wp_walk
        subst hp
        refine wpAny_pyIter_list hl2 (wpAny_bind (wpAny_runValue ?_))
        have lt : l < s.heap.objs.size := Heap.lt_size hol
        have handled : A.in1.in1.in1.handled = none := by simp [hh]
        have sz1 : (s.heap.push (set0 w)).objs.size = s.heap.objs.size + 1 := Heap.size_push _ _
        have ne : l ≠ (s.heap.push (set0 w)).objs.size := by rw [sz1]; exact Nat.ne_of_lt (Nat.lt_succ_of_lt lt)
        have out : s.heap.objs.size ∉ [(s.heap.push (set0 w)).objs.size, l] := by
          rw [sz1]
          intro m
          rcases List.mem_cons.mp m with m | m
          · exact absurd m (Nat.ne_of_lt (Nat.lt_succ_self _))
          · exact absurd (List.mem_singleton.mp m) (Nat.ne_of_gt lt)
        have len : xs.length = items.size := by rw [← StrsAre.len_eq his, Array.length_toList]
        have is : ∀ (i : Nat) (v : Value), items[i]? = some v → ∃ t, v = .str (xs.getD i Str.empty) t := fun i v hv => str_at his i v (by rw [Array.getElem?_toList]; exact hv)
        refine puts ((Walks.list handled _ l ne items).toS) out xs len (by rw [← len]; exact few) is (items.size - 0) 0 _ [] (by omega) (Nat.zero_le _) (Nat.le_refl _) ⟨⟨_, Heap.get?_push_size _ rfl, rfl, rfl⟩, hl2.push _⟩ (set0_ok.moved fun o e => Heap.get?_push_of_some _ e) ?_
        rintro ⟨h', g', d', tk', os'⟩ mv S
        obtain rfl : g' = s.gens := mv.gens
        obtain rfl : d' = s.drawn := mv.drawn
        obtain rfl : os' = s.os := mv.os
        refine wpAny_pure ?_
        refine wpAny_pure ⟨rfl, h', tk', rfl, S, fun b o e => ?_⟩
        have hb : b < s.heap.objs.size := Heap.lt_size e
        refine mv.heap b o (fun m => ?_) (Heap.get?_push_of_some _ (Heap.get?_push_of_some _ e))
        rcases List.mem_cons.mp m with m | m
        · exact absurd m (Nat.ne_of_lt hb)
        · have q := List.mem_singleton.mp m
          rw [sz1] at q
          exact absurd q (Nat.ne_of_lt (Nat.lt_succ_of_lt hb))
      · cases r2 with
        | error e => exact hr2
        | ok fl2 =>
          cases fl2 with
          | ret r =>
            obtain ⟨rfl, h', tk, rfl, a1, a2⟩ := hr2
            repeat (any_goals (first | assumption | wp_step))
            exact h _ _ a1 a2
          | _ => exact hr2.elim
    | _ => exact hr.elim
end
end Pg
namespace Pg
open PySem PySem.Spec PyProof.Rows L2 PySem.Froz
section
variable {prog : Program} {w : World} {A : Around} {E : Value → Shared → Prop} {s : Shared}
/-- the values of a set of texts, in some order, are texts -/
theorem vals_strs : ∀ {vs : List Value} {ps : List (Str × Tok)}, vs.Perm (ps.map fun p => Value.str p.1 p.2) → StrsAre vs (vs.map strOf) ∧ (vs.map strOf).Perm (ps.map Prod.fst) := fun {vs ps} h => by
  refine ⟨strsAre_map vs fun v m => ?_, ?_⟩
  · obtain ⟨p, _, rfl⟩ := List.mem_map.mp (h.mem_iff.mp m)
    exact ⟨p.1, p.2, rfl⟩
  · have q := h.map strOf
    rw [List.map_map] at q
    exact q.trans (List.Perm.of_eq rfl)
theorem zip_fst {α β : Type} : ∀ (l : List α) (us : List β), us.length = l.length → (l.zip us).map Prod.fst = l
  | [], _, _ => rfl
  | x :: l, [], h => by simp at h
  | x :: l, u :: us, h => by rw [List.zip_cons_cons, List.map_cons, zip_fst l us (by simpa using h)]
/-- sorted(a), a set of texts -/
theorem sorted_txt {a : Addr} {l : List Str} {Q : Value → Shared → Prop} (R : SetS prog w s.heap a l) (hh : A.handled = none) (few : l.length < 4000)
    (h : ∀ z p (out : Array Value) (n : Nat) (ys : List Str), (∀ b o, s.heap.get? b = some o → z.heap.get? b = some o) → z.gens = s.gens → z.os = s.os → s.heap.objs.size ≤ p → z.heap.get? p = some (seqObj "list" out n) →
      StrsAre out.toList ys → ys.Perm l → sortedS ys = true → Q (.ref p) z) : wpAny (model prog w) A (call (.builtin "sorted") [.ref a]) Q E s := by
  obtain ⟨⟨es, ep, t⟩, at_, R⟩ := R
  obtain ⟨us, hu, pm⟩ := R.all
  have sz : es.size = l.length := R.ok.sz
  have scan : es.size < scanBound := by rw [sz]; exact Nat.lt_of_lt_of_le few (by decide)
  refine Calls.call_function_entry kind_sorted plain_sorted entry_sorted (args_sorted1 _) ?_
  unfold Builtin.«sorted»
  refine wpAny_bind (m := checkCount "sorted" 1 1 _) (wpAny_pure (wpAny_bind (collect_set (A := A.in1) hh ⟨_, at_, rfl, rfl⟩ R.ok.fit scan R.ris R.led fun z vs k1 hz g1 o1 pv => ?_)))
  have pv2 : vs.Perm ((l.zip us).map fun p => Value.str p.1 p.2) := by
    have q := pv.trans (pm.map (·.2))
    rw [List.map_map] at q
    exact q
  obtain ⟨st, ps⟩ := vals_strs pv2
  rw [zip_fst l us hu] at ps
  have vlen : vs.length = l.length := by
    have := ps.length_eq
    rwa [List.length_map] at this
  refine wpAny_bind (wpAny_newList ?_ (by rw [vlen, sizeLine_eq]; omega))
  have new : (z.heap.push (seqObj "list" vs.toArray 0)).get? z.heap.objs.size = some (seqObj "list" vs.toArray 0) := Heap.get?_push_size _ rfl
  refine wpAny_bind (wpAny_holding (wpAny_call_entry slot_list_sort ⟨_, new, rfl⟩ entry_list_sort (list_sort_treeKAny strKind_oneLt new st.keysOf (fun v1 v2 rest e => keyKind_strs (by rw [← e]; exact st)) (by rw [vlen, sizeLine_eq]; omega) fun st' hp hs => ?_) (args_list_sort _)))
  obtain ⟨ys, y1, y2, y3⟩ := sorted_out_str st hp hs
  obtain ⟨n, hn⟩ := sortedHeap_at (vs := vs) (out := (arrOf st').map (·.2)) new
  refine ⟨_, rfl, wpAny_pure ⟨_, rfl, h _ z.heap.objs.size _ n ys (fun b o e => ?_) g1 o1 hz hn y1 (y2.trans ps) y3⟩⟩
  have q := k1 b o e
  have lt := Heap.lt_size q
  show (sortedHeap (z.heap.push (seqObj "list" vs.toArray 0)) z.heap.objs.size vs _).get? b = some o
  rw [sortedHeap_old (Nat.ne_of_lt lt) (by rw [size_push']; exact Nat.lt_succ_of_lt lt)]
  exact Heap.get?_push_of_some _ q
end
end Pg
namespace Pg
open PySem PySem.Spec PyProof.Rows L2
/-! ### defs that are called where no text is being written of anything -/
structure FnG (P : Program) (w : World) (K : PySem.W.Frag) (mg : Str → Option Value) (base : Heap) (k : Nat) (f : Addr) (fd : FuncData) (ps : List Str) (sp : Sp) : Prop where
  ln : ∀ vs H Q E, sp vs H Q E → vs.length = ps.length
  go : ∀ (A : Around), A.guards = some [] → Room k A → ∀ (outer : List Env) (s : Shared) (H : Hp), Env0 P w K mg base A outer s H →
    ∀ (args : Args) (us : List Value) (vs : List V) (Q : VK) (E : XK), BindsTo s fd args (ps.zip us) → Vals vs us → sp vs H Q E →
    codeAny (model P w) A (.call (.ref f) args) (CR CX0 outer P w H s Q E) s
section
variable {P : Program} {w : World} {K : PySem.W.Frag} {mg : Str → Option Value} {base : Heap}
theorem FnG.of {k : Nat} {f : Addr} {fd : FuncData} {ps : List Str} {sp : Sp} (F : FnOk P w K mg base CX0 k f fd ps sp) : FnG P w K mg base k f fd ps sp :=
  ⟨F.len, fun A _ r outer s H e args us vs Q E b v h => F.run A outer s H args us vs Q E r e b v h⟩
theorem FnG.mono {j k : Nat} {f : Addr} {fd : FuncData} {ps : List Str} {sp : Sp} (F : FnG P w K mg base j f fd ps sp) (h : j ≤ k) : FnG P w K mg base k f fd ps sp :=
  ⟨F.ln, fun A g r => F.go A g (r.mono h)⟩
/-- a def by its body -/
theorem Df.g {x : Str} {st : Stmt} {f : Addr} {fd : FuncData} {N ps : List Str} {k : Nat} {sp : Sp} (D : Df K mg x st ps f fd) (S : FnScope N ps (defScope st)) (len : ∀ vs H Q E, sp vs H Q E → vs.length = ps.length)
    (hb : ∀ (cdv : Value) (A : Around) (outer : List Env) (s : Shared) (H : Hp) (vs : List V) (Q : VK) (E : XK), (A.deeper (envOfC x (defScope st) s.heap.objs.size f cdv)).guards = some [] →
      Room k (A.deeper (envOfC x (defScope st) s.heap.objs.size f cdv)) → sp vs H Q E →
      ∃ t, PSs (cxOf CX0 P w K mg base N x (defScope st) f cdv A outer s H E).nox (defBody st) t ∧ t { nx := fun _ H' => Q .non H', rt := Q } (start N vs) H) : FnG P w K mg base (k + 1) f fd ps sp := by
  obtain ⟨oc, od, kV, doc, pm, an, cdv, ct, osl, rfl, lk, hcd⟩ := D.fn.ex
  refine ⟨len, fun A g hr outer s H e0 args us vs Q E bt rv hsp => ?_⟩
  have hlen := len _ _ _ _ hsp
  have KX : K.In s.heap := e0.mod.kin.keeps fun b o e => (e0.bs b o e).1
  have lim : s.heap.NoLimit := e0.mod.nolimit.keeps fun b o e => (e0.bs b o e).1
  refine codeAny_call_function hr.depth (KX _ _ lk) rfl S.co S.gen rfl (PySem.W.codeRec_of KX hcd) (bt _ _ _ _ ?_)
  refine wpAny_newFunctionEnv_cells S.kind (fun y hy => ?_) fun env he s1 x1 => ?_
  · have hp : y.1 ∈ ps := (List.of_mem_zip (show (y.1, y.2) ∈ ps.zip us from hy)).1
    refine (S.par y.1 hp).imp id fun q => ⟨q, ?_⟩
    exact PySem.W.cellsFrom_some _ _ _ (.inl q)
  subst he
  refine ⟨lim.keeps x1.toInCall.keep, codeAny_func ?_⟩
  obtain ⟨t, ht, hq⟩ := hb cdv A outer s H vs Q E (by rw [← g]; rfl) (hr.deeper _) hsp
  refine wpAny_mono (ht.nox.run [] s1 (start N vs) H _ (inv_start S hr.hd e0 hlen rv x1) hq) (fun fl s' hs => ?_) fun e s' hs => hs
  cases fl with
  | ret u =>
    obtain ⟨v, σ', H', J, rv', q⟩ := hs
    exact ⟨v, H', J.os, J.bare, J.base, J.hok, rv', q⟩
  | next =>
    obtain ⟨σ', H', J, q⟩ := hs
    exact ⟨.non, H', J.os, J.bare, J.base, J.hok, rfl, q⟩
  | brk =>
    obtain ⟨_, _, _, q⟩ := hs
    exact q.elim
  | cont =>
    obtain ⟨_, _, _, q⟩ := hs
    exact q.elim
end
/-- a def of the text with such a promise -/
structure ClG (P : Program) (w : World) (K : PySem.W.Frag) (mg : Str → Option Value) (base : Heap) (k : Nat) (x : Str) (st : Stmt) (ps : List Str) (sp : Sp) : Prop where
  ex : ∃ f fd, Df K mg x st ps f fd ∧ FnG P w K mg base k f fd ps sp
section
variable {X : Cx} {j k : Nat} {st : Stmt} {f : Addr} {fd : FuncData} {ps : List Str} {sp : Sp} {x : Str} {p pos : Pos} {e : Expr} {es : List Expr} {t : TA}
theorem run_g {pins : List (Addr × Obj)} {σ : L2.St} {H : Hp} {s : Shared} {Q : VK} {us : List Value} {vs : List V} (F : FnG X.prog X.w X.K X.mg X.base k f fd ps sp) (hG : X.A.guards = some []) (hr : Room k X.A) (hb : Binds X.K fd ps [])
    (I : Inv X pins σ H s) (r : Vals vs us) (h : sp vs H Q E0) : wpAny (model X.prog X.w) X.A (call (.ref f) us) (EP X pins σ Q) X.xe s := by
  have hl : (us ++ []).length = ps.length := by rw [List.append_nil, ← r.length]; exact F.ln _ _ _ _ h
  have bt := hb s us I.kIn hl
  rw [List.append_nil] at bt
  refine wpAny_call (codeAny_mono (F.go X.A hG hr X.stack s H I.env0 ⟨us, []⟩ us vs Q E0 bt r h) fun r s' hq => ?_)
  cases r with
  | error e => exact (pass0 (X := X) pins σ H s e s' I hq)
  | ok fl =>
    cases fl with
    | ret u => exact I.after hq
    | next => exact hq.elim
    | brk => exact hq.elim
    | cont => exact hq.elim
theorem pe_clG (c : ClG X.prog X.w X.K X.mg X.base k x st ps sp) (hG : X.A.guards = some []) (hr : Room j X.A) (hk : k ≤ j) (ha : PA X (e :: es) t) (hg : Gl X x := by rfl) (hdb : (x == ("__debug__" : Str)) = false := by decide)
    (he : starEach (e :: es) X.env = (false, eval e X.env) :: starEach es X.env := by rfl) (hpl : (backTo pos (starEach es X.env)).any (·.1) = false := by rfl) :
    PE X (.Call (.Name x p) (e :: es) [] pos) (tCl sp t) := by
  obtain ⟨f, fd, D, F⟩ := c.ex
  refine ⟨fun pins s σ H Q I h => ?_⟩
  refine wpAny_Call_Name_kw (ld_glob I hg D.at_ ?_ hdb)
  refine PySem.W.callWith_K (h₀ := X.base) I.ok.mod.kin D.fn.kp (thn (ha.run pos pins s σ H _ I h) fun us s1 ⟨vs, H1, I1, r, q⟩ => ⟨I1.kIn, ?_⟩) he hpl
  exact run_g (F.mono hk) hG hr D.bd I1 r q
end
end Pg
namespace Pg
open PySem PySem.Spec PyProof.Rows L2
/-! ### the end of a law, from a promise that is kept where no text is being written -/
section
variable {P : Program} {w : World} {K : PySem.W.Frag} {mg mb : Str → Option Value} {h : Heap} {a : Addr} {ob : Obj} {xs : List V}
/-- what is known of the store at first: the script, where it is no object of the module -/
def H0 (K : PySem.W.Frag) (a : Addr) (ob : Obj) (xs : List V) : Hp := fun b => if b = a ∧ K.lookup a = none then some (.frz ob (.lst xs)) else none
theorem h0_cases (b : Addr) : H0 K a ob xs b = none ∨ (b = a ∧ K.lookup a = none ∧ H0 K a ob xs b = some (.frz ob (.lst xs))) := by
  by_cases c : b = a ∧ K.lookup a = none
  · exact .inr ⟨c.1, c.2, if_pos c⟩
  · exact .inl (if_neg c)
theorem h0_none {b : Addr} (n : b ≠ a) : H0 K a ob xs b = none := if_neg fun c => n c.1
theorem h0_base {b : Addr} {o : Obj} (e : h.get? b = some o) (n : H0 K a ob xs b = none) : (hidT h (H0 K a ob xs)).get? b = some o := hidT_get e n
theorem h0_ns {b : Addr} {m : Str → Option Value} {l : List Value} {n : Nat} (ha : h.get? a = some { cls := .type "list", data := .seq l.toArray n }) (q : h.Ns b m) : (hidT h (H0 K a ob xs)).Ns b m := by
  obtain ⟨o, es, ep, e, d, r⟩ := q
  refine ⟨o, es, ep, h0_base e (h0_none fun z => ?_), d, r⟩
  subst z
  rw [ha] at e
  cases e
  exact Data.noConfusion d
theorem law_g {k : Nat} {fa : Addr} {fd : FuncData} {x : Str} {sp : Sp} {s₁ : Shared} {vs : List Value} {ns : List Int}
    (KX : K.In s₁.heap) (hns : s₁.heap.Ns mainGlobals mg) (hb : s₁.heap.Ns builtinsNs mb) (hbb : ∀ x : Str, x ≠ "__name__" → mb x = bootBuiltins x) (hlim : s₁.heap.NoLimit) (hg : s₁.gens = #[])
    (ha : s₁.heap.get? a = some { cls := .type "list", data := .seq vs.toArray }) (hi : IntsAre vs ns) (hl : ns.length ≤ sizeLine) (hr : Room k callerA)
    (F : ∀ base : Heap, K.In base → base.Ns mainGlobals mg → FnG P w K mg base k fa fd [x] sp) (hbind : ∀ (s : Shared) (u : Value), BindsTo s fd ⟨[u], []⟩ [(x, u)])
    (hsp : ∀ H : Hp, L2.Only H → SqL K H a (ns.map V.int) → sp [.ref a] H (fun v _ => v = .bl true) fun _ _ _ => False) :
    codeAny (model P w) callerA (.call (.ref fa) ⟨[.ref a], []⟩) (fun r s' => r = .ok (.ret (.bool true)) ∧ OldK s₁.heap s'.heap ∧ s'.os = s₁.os ∧ AllBare s'.gens) s₁ := by
  have rv := vals_ints hi
  have hlen : (ns.map V.int).length ≤ sizeLine := by rw [List.length_map]; exact hl
  have hK : K.In (hidT s₁.heap (H0 K a { cls := .type "list", data := .seq vs.toArray } (ns.map V.int))) := fun b o e => h0_base (KX b o e) (by
    rcases h0_cases (K := K) (a := a) (ob := { cls := .type "list", data := .seq vs.toArray }) (xs := ns.map V.int) b with q | ⟨rfl, q, _⟩
    · exact q
    · rw [q] at e
      cases e)
  have hM : Mod K mg (hidT s₁.heap (H0 K a { cls := .type "list", data := .seq vs.toArray } (ns.map V.int))) := by
    obtain ⟨mc, l1, l2⟩ := hlim
    exact ⟨hK, h0_ns ha hns, ⟨mb, h0_ns ha hb, hbb⟩, ⟨mc, h0_ns ha l1, l2⟩⟩
  have hok : HOk P w (H0 K a { cls := .type "list", data := .seq vs.toArray } (ns.map V.int)) s₁.heap := fun b u z => by
    rcases h0_cases (K := K) (a := a) (ob := { cls := .type "list", data := .seq vs.toArray }) (xs := ns.map V.int) b with q | ⟨rfl, _, q⟩
    · rw [q] at z
      cases z
    · rw [q] at z
      cases z
      exact ⟨ha, hlen, vs, _, rv, ha⟩
  have e0 : Env0 P w K mg (hidT s₁.heap (H0 K a { cls := .type "list", data := .seq vs.toArray } (ns.map V.int))) callerA [] s₁ (H0 K a { cls := .type "list", data := .seq vs.toArray } (ns.map V.int)) :=
    ⟨rfl, hM, fun b o e => of_hidT e, Nat.le_of_eq (hidT_size _ _), trivial, fun b z => absurd (show b ∈ ([] : List Addr) from z) (by simp), hok, .of_eq hg⟩
  have hO : L2.Only (H0 K a { cls := .type "list", data := .seq vs.toArray } (ns.map V.int)) := fun b => by
    rcases h0_cases (K := K) (a := a) (ob := { cls := .type "list", data := .seq vs.toArray }) (xs := ns.map V.int) b with q | ⟨_, _, q⟩
    · exact .inl q
    · exact .inr ⟨_, _, q⟩
  have hS : SqL K (H0 K a { cls := .type "list", data := .seq vs.toArray } (ns.map V.int)) a (ns.map V.int) := by
    cases hk : K.lookup a with
    | none => exact .inl (.inr ⟨_, if_pos ⟨rfl, hk⟩⟩)
    | some o =>
      have e := KX a o hk
      rw [ha] at e
      cases e
      exact .inr ⟨_, vs.toArray, _, hk, rfl, rfl, rfl, by rw [List.size_toArray, hi.length]; exact hl, by simpa using rv⟩
  refine codeAny_mono ((F _ hK (h0_ns ha hns)).go callerA rfl hr [] s₁ _ e0 ⟨[.ref a], []⟩ [.ref a] [.ref a] _ _ (hbind s₁ (.ref a)) (.cons rfl .nil) (hsp _ hO hS)) fun r s' q => ?_
  cases r with
  | error e => exact q.elim
  | ok fl =>
    cases fl with
    | next => exact q.elim
    | brk => exact q.elim
    | cont => exact q.elim
    | ret u =>
      obtain ⟨v, H', os, bare, un, hok', r', q⟩ := q
      have q' : v = .bl true := q
      subst q'
      obtain rfl : u = Value.bool true := r'
      refine ⟨rfl, OldK.of_keep fun b o e => ?_, os, bare⟩
      rcases h0_cases (K := K) (a := a) (ob := { cls := .type "list", data := .seq vs.toArray }) (xs := ns.map V.int) b with z | ⟨_, _, z⟩
      · exact un.keep b o e z (fun z => absurd (show b ∈ ([] : List Addr) from z) (by simp)) (by simp)
      · obtain ⟨e1, _⟩ := hok b _ z
        obtain ⟨e2, _⟩ := hok' b _ (un.frzs b _ _ z)
        rw [e] at e1
        cases e1
        exact e2
end
/-- the goal that the end of a law leaves -/
theorem walk_g {l : PySem.W.OpenLaw} {n k : Nat} {q : Program} {loose : List Str} {XP : (Str → Option Value) → Heap → Prop} {YP : World → Heap → Prop} {d : DefRec} {K : Params → PySem.W.Frag} {sp : World → Sp} {x : Str}
    (hn : l.most = some n) (hn2 : n ≤ sizeLine) (hdf : d.params.defaults = []) (hr : Room k callerA) (hY : ∀ (w : World) (h : Heap), YP w h → (K w.params).In h)
    (F : ∀ (w : World) (mg : Str → Option Value) (fa : Addr) (h : Heap), (K w.params).In h → h.Ns mainGlobals mg → mg d.name = some (.ref fa) →
      ∃ fd : FuncData, (∀ (s : Shared) (u : Value), BindsTo s fd ⟨[u], []⟩ [(x, u)]) ∧ ∀ base : Heap, (K w.params).In base → base.Ns mainGlobals mg → FnG l.prog w (K w.params) mg base k fa fd [x] (sp w))
    (hsp : ∀ (w : World) (H : Hp) (a : Addr) (ns : List Int), ns.length ≤ n → L2.Only H → SqL (K w.params) H a (ns.map V.int) → sp w [.ref a] H (fun v _ => v = .bl true) fun _ _ _ => False) :
    PySem.W.WalkO q loose XP YP l.row.toRowW d [] (fun f vs => PySem.call f vs) :=
  Att.attach_call hn hdf fun w _ s₁ mg _ fa _ _ _ _ a _ ns G Y _ _ _ hmg hobj hints hlen hg => by
    obtain ⟨fd, hb, hF⟩ := F w mg fa _ (hY w _ Y) G.T.g hmg
    exact law_g (hY w _ Y) G.T.g G.T.b G.T.builtins G.T.nolimit hg hobj hints (Nat.le_trans hlen hn2) hr hF hb fun H hO hS => hsp w H a ns hlen hO hS
end Pg
namespace Pg
open PySem PySem.Spec PyProof.Rows L2
/-! ### repr of data -/
mutual
theorem dp_plain {K : PySem.W.Frag} {H : Hp} : ∀ (d : PyData) {v : V}, Dp K H v d → d.hasDict = false
  | .none, _, _ => by simp only [PyData.hasDict]
  | .bool _, _, _ => by simp only [PyData.hasDict]
  | .int _, _, _ => by simp only [PyData.hasDict]
  | .str _, _, _ => by simp only [PyData.hasDict]
  | .list ds, _, h => by
    cases h with
    | lst _ q =>
      simp only [PyData.hasDict]
      exact dps_plain ds q
  | .tuple ds, _, h => by
    cases h with
    | tup _ q =>
      simp only [PyData.hasDict]
      exact dps_plain ds q
  | .dict _, _, h => by cases h
theorem dps_plain {K : PySem.W.Frag} {H : Hp} : ∀ (ds : List PyData) {vs : List V}, DpAll K H vs ds → PyData.hasDictAll ds = false
  | [], _, _ => by simp only [PyData.hasDictAll]
  | d :: ds, _, h => by
    cases h with
    | cons a b => simp only [PyData.hasDictAll, dp_plain d a, dps_plain ds b, Bool.or_self]
end
def rRepr (K : PySem.W.Frag) : List V → Hp → VK → Prop := fun xs H Q => ∃ v d, xs = [v] ∧ Dp K H v d ∧ d.showable = true ∧ d.depth ≤ 100 ∧ d.shown.length ≤ sizeLine ∧ Q (.str d.shown) H
theorem call_repr {X : Cx} {j : Nat} (hG : X.A.guards = some []) (hr : Room j X.A) : CallR X (.builtin "repr") (rRepr X.K) := by
  intro pins s σ H xs us Q I r h
  obtain ⟨v, d, rfl, dp, sh, dd, sz, q⟩ := h
  obtain ⟨u, rfl, rv⟩ := vals1 r
  have hu : X.A.units + (d.depth + 1) < cLine := by have := hr.un; omega
  obtain ⟨as, rd⟩ := Dp.reads I d v u dp rv
  have nd : d.hasDict = true → sysModules ∉ as := PyData.noDict_hsm (dp_plain d dp)
  have deep : ∀ a, u = .ref a → wpAny (model X.prog X.w) X.A (call (.builtin "repr") [u]) (EP X pins σ Q) X.xe s := fun a e => by
    subst e
    exact repr_of_reads' rd sh nd hG hu (fun _ _ e => e) (fun h' t tk k => ⟨.str d.shown, H, I.kept k, ⟨t, rfl⟩, q⟩) sz
  cases rd with
  | none => exact PySem.P.repr_of_none ⟨.str _, H, I.tok _, ⟨_, rfl⟩, by simpa only [PyData.shown] using q⟩
  | bool b => exact PySem.P.repr_of_bool ⟨.str _, H, I.tok _, ⟨_, rfl⟩, by simpa only [PyData.shown] using q⟩
  | int i t => exact PySem.P.repr_of_int (by simpa [PyData.showable] using sh) ⟨.str _, H, I.tok _, ⟨_, rfl⟩, by simpa only [PyData.shown] using q⟩
  | str x t => exact PySem.P.repr_of_str ⟨.str _, H, I.tok _, ⟨_, rfl⟩, by simpa only [PyData.shown] using q⟩ (by simpa only [PyData.shown] using sz)
  | list _ _ _ _ => exact deep _ rfl
  | tuple _ _ _ _ => exact deep _ rfl
  | dict _ _ _ _ _ => exact deep _ rfl
-- a bound for the signs of data whose texts are short: 4 more for every part, 122 for a text
mutual
def dW : PyData → Nat
  | .none => 4
  | .bool _ => 5
  | .int _ => 30
  | .str _ => 122
  | .list ds => dWs ds + 4
  | .tuple ds => dWs ds + 4
  | .dict _ => 0
def dWs : List PyData → Nat
  | [] => 0
  | d :: ds => dW d + 2 + dWs ds
end
-- no ints, texts of 12 letters at most
mutual
inductive Neat : PyData → Prop
  | non : Neat .none
  | bl (b : Bool) : Neat (.bool b)
  | str {x : Str} (h : x.length ≤ 12) (c : ∀ n ∈ x.cps.toList, n < 16 ^ 8) : Neat (.str x)
  | lst {ds : List PyData} : Neats ds → Neat (.list ds)
  | tup {ds : List PyData} : Neats ds → Neat (.tuple ds)
inductive Neats : List PyData → Prop
  | nil : Neats []
  | cons {d : PyData} {ds : List PyData} : Neat d → Neats ds → Neats (d :: ds)
end
mutual
theorem neat_sh : ∀ (d : PyData), Neat d → d.showable = true
  | .none, _ => by simp only [PyData.showable]
  | .bool _, _ => by simp only [PyData.showable]
  | .str _, _ => by simp only [PyData.showable]
  | .int _, h => by cases h
  | .list ds, .lst q => by
    simp only [PyData.showable]
    exact neats_sh ds q
  | .tuple ds, .tup q => by
    simp only [PyData.showable]
    exact neats_sh ds q
  | .dict _, h => by cases h
theorem neats_sh : ∀ (ds : List PyData), Neats ds → PyData.showableAll ds = true
  | [], _ => by simp only [PyData.showableAll]
  | d :: ds, .cons a b => by simp only [PyData.showableAll, neat_sh d a, neats_sh ds b, Bool.and_self]
end
theorem textFrom_le : ∀ (ts : List Str) (k : Nat) (acc : Str), (textFrom k acc ts).length ≤ acc.length + (ts.map fun t => t.length + 2).sum
  | [], k, acc => by
    show acc.length ≤ _
    simp
  | t :: ts, k, acc => by
    have ih := textFrom_le ts (k + 1) (acc ++ (if k > 0 then ", " else "" : String) ++ t)
    have e : (acc ++ (if k > 0 then ", " else "" : String) ++ t).length ≤ acc.length + 2 + t.length := by
      rw [strLen_append, strLen_append]
      by_cases c : k > 0
      · rw [if_pos c]
        have : (Str.ofString ", ").length = 2 := rfl
        omega
      · rw [if_neg c]
        have : (Str.ofString "").length = 0 := rfl
        omega
    rw [List.map_cons, List.sum_cons]
    show (textFrom (k + 1) (acc ++ (if k > 0 then ", " else "" : String) ++ t) ts).length ≤ _
    omega
theorem piled_sum : ∀ ts : List Str, piled ts = (ts.map fun t => t.length + 2).sum
  | [] => rfl
  | t :: ts => by simp [piled, piled_sum ts]
theorem tupleText_le (ts : List Str) : (tupleText ts).length ≤ (ts.map fun t => t.length + 2).sum + 4 := by
  have e1 : (Str.ofString "(").length = 1 := rfl
  have e2 : (Str.ofString (if ts.length == 1 then ",)" else ")")).length ≤ 2 := by split <;> decide
  have e3 : (Str.join (Str.ofString ", ") ts).length ≤ (ts.map fun t => t.length + 2).sum := by
    cases ts with
    | nil => exact Nat.zero_le _
    | cons t ts =>
      have q := join_length_add (t :: ts) (by simp)
      rw [piled_sum] at q
      omega
  unfold tupleText
  rw [strLen_append, strLen_append]
  omega
theorem listText_le (ts : List Str) : (listText ts).length ≤ (ts.map fun t => t.length + 2).sum + 4 := by
  have e1 : (Str.ofString "[").length = 1 := rfl
  have e2 : (Str.ofString "]").length = 1 := rfl
  have q := textFrom_le ts 0 (Str.ofString "[")
  show (textFrom 0 "[" ts ++ "]").length ≤ _
  rw [strLen_append]
  omega
mutual
theorem neat_le : ∀ (d : PyData), Neat d → d.shown.length ≤ dW d
  | .none, _ => by
    simp only [PyData.shown, dW]
    decide
  | .bool b, _ => by
    cases b <;> simp only [PyData.shown, dW] <;> decide
  | .str x, .str h c => by
    simp only [PyData.shown, dW]
    have := StrLaws.reprText_len x c
    omega
  | .int _, h => by cases h
  | .list ds, .lst q => by
    simp only [PyData.shown, dW]
    have a := listText_le (PyData.shownAll ds)
    have b := neats_le ds q
    omega
  | .tuple ds, .tup q => by
    simp only [PyData.shown, dW]
    have a := tupleText_le (PyData.shownAll ds)
    have b := neats_le ds q
    omega
  | .dict _, h => by cases h
theorem neats_le : ∀ (ds : List PyData), Neats ds → ((PyData.shownAll ds).map fun t => t.length + 2).sum ≤ dWs ds
  | [], _ => by
    simp only [PyData.shownAll, dWs]
    decide
  | d :: ds, .cons a b => by
    have p := neat_le d a
    have q := neats_le ds b
    simp only [PyData.shownAll, dWs, List.map_cons, List.sum_cons]
    omega
end
/-- repr of data with short texts and no ints -/
def rNeat (K : PySem.W.Frag) : List V → Hp → VK → Prop := fun xs H Q => ∃ v d, xs = [v] ∧ Dp K H v d ∧ Neat d ∧ d.depth ≤ 100 ∧ dW d ≤ 1000000 ∧ Q (.str d.shown) H
theorem call_repr_neat {X : Cx} {j : Nat} (hG : X.A.guards = some []) (hr : Room j X.A) : CallR X (.builtin "repr") (rNeat X.K) := fun pins s σ H xs us Q I r h => by
  obtain ⟨v, d, e, dp, n, dd, sz, q⟩ := h
  exact call_repr hG hr pins s σ H xs us Q I r ⟨v, d, e, dp, neat_sh d n, dd, Nat.le_trans (neat_le d n) (Nat.le_trans sz (by decide)), q⟩
end Pg
namespace Pg
open PySem PySem.Spec PyProof.Rows L2
/-! ### sorted(set(xs)), texts -/
theorem once_nodup : ∀ (xs acc : List Str), acc.Nodup → (onceL acc xs).Nodup
  | [], _, h => h
  | x :: xs, acc, h => by
    show (onceL (if x ∈ acc then acc else x :: acc) xs).Nodup
    refine once_nodup xs _ ?_
    by_cases c : x ∈ acc
    · rw [if_pos c]
      exact h
    · rw [if_neg c]
      exact List.nodup_cons.mpr ⟨c, h⟩
theorem txt_lt_of {a b : List Nat} (n : ¬ b < a) (d : a ≠ b) : a < b := by
  by_cases h : a < b
  · exact h
  · exact absurd (List.le_antisymm (List.not_lt.mp n) (List.not_lt.mp h)) d
theorem rising_pw : ∀ (zs : List (List Nat)) (p : List Nat), (p :: zs).Nodup → risingS (tx p) (zs.map tx) = true → (p :: zs).Pairwise (· < ·)
  | [], p, _, _ => List.pairwise_singleton _ _
  | z :: zs, p, nd, h => by
    have h' : (!ltCps z p && risingS (tx z) (zs.map tx)) = true := by simpa [risingS] using h
    rw [ltCps_eq] at h'
    obtain ⟨h1, h2⟩ := Bool.and_eq_true_iff.mp h'
    obtain ⟨n1, n2⟩ := List.nodup_cons.mp nd
    have ih := rising_pw zs z n2 h2
    have pz : p < z := txt_lt_of (by simpa using h1) fun e => n1 (by rw [e]; exact List.mem_cons_self)
    refine List.pairwise_cons.mpr ⟨fun y m => ?_, ih⟩
    rcases List.mem_cons.mp m with rfl | m
    · exact pz
    · exact List.lt_trans pz ((List.pairwise_cons.mp ih).1 y m)
theorem sorted_pw {ls : List (List Nat)} {ys : List Str} (pm : ys.Perm (onceL [] (ls.map tx))) (so : sortedS ys = true) : ∃ zs : List (List Nat), ys = zs.map tx ∧ zs.Pairwise (· < ·) ∧ (∀ l, l ∈ zs ↔ l ∈ ls) ∧ zs.length ≤ ls.length := by
  have e : ys = (ys.map fun s => s.cps.toList).map tx := by
    rw [List.map_map]
    conv => lhs; rw [← List.map_id ys]
    rfl
  have nd : ys.Nodup := pm.nodup_iff.mpr (once_nodup _ _ List.nodup_nil)
  have mem : ∀ s, s ∈ ys ↔ s ∈ ls.map tx := fun s => by
    rw [pm.mem_iff, once_mem]
    simp
  refine ⟨ys.map fun s => s.cps.toList, e, ?_, fun l => ?_, ?_⟩
  · have nd2 : (ys.map fun s => s.cps.toList).Nodup := by
      rw [e] at nd
      exact List.Pairwise.of_map tx (fun a b h e => h (by rw [e])) nd
    revert nd2
    rw [e] at so
    generalize (ys.map fun s => s.cps.toList) = zs at so
    intro nd2
    cases zs with
    | nil => exact List.Pairwise.nil
    | cons z zs => exact rising_pw zs z nd2 so
  · constructor
    · intro m
      obtain ⟨s, m1, rfl⟩ := List.mem_map.mp m
      obtain ⟨l, m2, rfl⟩ := List.mem_map.mp ((mem s).mp m1)
      simpa using m2
    · intro m
      exact List.mem_map.mpr ⟨tx l, (mem _).mpr (List.mem_map.mpr ⟨l, m, rfl⟩), by simp⟩
  · rw [List.length_map, pm.length_eq]
    have := once_len (ls.map tx) []
    simpa using this
/-- sorted(set(xs)): xs texts, under 64 of them; strictly ascending -/
def tSS (K : PySem.W.Frag) (te : TE) : TE := fun σ H Q => te σ H fun v H1 => ∃ (a : Addr) (ls : List (List Nat)), v = .ref a ∧ SqL K H1 a (ls.map Tx) ∧ ls.length < 4000 ∧
  ∀ (zs : List (List Nat)) (p : Addr), zs.Pairwise (· < ·) → (∀ l, l ∈ zs ↔ l ∈ ls) → zs.length ≤ ls.length → H1 p = none → Q (.ref p) (upd H1 p (.lst (zs.map Tx)))
theorem pe_sortset {X : Cx} {e : Expr} {te : TE} {p p2 pos pos2 : Pos} (hh : X.A.handled = none) (g1 : Gl X "sorted") (m1 : X.mg "sorted" = none) (g2 : Gl X "set") (m2 : X.mg "set" = none) (he : PE X e te)
    (hs : starEach [e] X.env = (false, eval e X.env) :: starEach [] X.env := by rfl)
    (hs2 : starEach [Expr.Call (.Name "set" p2) [e] [] pos2] X.env = (false, eval (Expr.Call (.Name "set" p2) [e] [] pos2) X.env) :: starEach [] X.env := by rfl) :
    PE X (.Call (.Name "sorted" p) [.Call (.Name "set" p2) [e] [] pos2] [] pos) (tSS X.K te) := by
  refine ⟨fun pins s σ H Q I h => ?_⟩
  refine wpAny_Call_Name_kw (ld_blt I g1 m1 (by rfl) ?_ (by decide) (by decide))
  refine PyProof.Rows.callWith_builtin1 ?_ hs2 (by rfl)
  rw [hs2]
  show wpAny _ _ (spliced ((false, eval (Expr.Call (.Name "set" p2) [e] [] pos2) X.env) :: backTo pos (starEach [] X.env))) _ _ s
  refine Calls.spliced_cons ?_
  refine wpAny_Call_Name_kw (ld_blt I g2 m2 (by rfl) ?_ (by decide) (by decide))
  refine PyProof.Rows.callWith_type1 ?_ hs (by rfl)
  rw [hs]
  show wpAny _ _ (spliced ((false, eval e X.env) :: backTo pos2 (starEach [] X.env))) _ _ s
  refine Calls.spliced_cons (thn (he.run pins s σ H _ I h) fun u s1 ⟨v, H1, I1, r1, q1⟩ => Calls.spliced_nil ?_)
  obtain ⟨a, ls, rfl, hl, few, q⟩ := q1
  obtain rfl : u = .ref a := r1
  obtain ⟨its, rv, pl, _⟩ := I1.list hl
  have st : StrsAre its.toArray.toList (ls.map tx) := by
    have : ls.map Tx = (ls.map tx).map V.str := by rw [List.map_map]; rfl
    rw [this] at rv
    exact rv.strs
  refine call_set_txt hh pl.isList st (by rw [List.length_map]; exact Nat.lt_of_lt_of_le (Nat.succ_lt_succ few) (by decide)) fun h' tk S k => ?_
  refine Calls.spliced_nil ?_
  have few2 : (onceL [] (ls.map tx)).length < 4000 := by
    have := once_len (ls.map tx) []
    rw [List.length_map] at this
    simp at this
    omega
  refine sorted_txt (s := { s1 with heap := h', toks := tk }) S hh few2 fun z p out n ys k2 hg ho hp hat hst pm so => ?_
  obtain ⟨zs, rfl, pw, mem, len⟩ := sorted_pw pm so
  have k3 : ∀ b u, s1.heap.get? b = some u → z.heap.get? b = some u := fun b u e => k2 b u (k b u e)
  have sz : s1.heap.objs.size ≤ p := by
    obtain ⟨D, at_, _⟩ := S
    exact Nat.le_trans (Nat.le_of_lt (Heap.lt_size at_)) hp
  have fr := I1.hok.fresh sz
  refine ⟨.ref p, upd H1 p (.lst (zs.map Tx)), ?_, rfl, q zs p pw mem len fr⟩
  have ok : ObjOk X.prog X.w (upd H1 p (.lst (zs.map Tx))) z.heap p (.lst (zs.map Tx)) :=
    ⟨by rw [List.length_map]; exact Nat.le_trans len (Nat.le_of_lt (Nat.lt_of_lt_of_le few (by decide))), out.toList, n, by
      have := vals_of_strs hst
      rw [List.map_map] at this
      exact this, hat⟩
  exact I1.call' (ch := []) ho (Un.laid k3 sz fr) (I1.hok.laid k3 sz ok) (by rw [hg]; exact I1.bare) (fun b z => absurd z (by simp))
end Pg
namespace Pg
open PySem PySem.Spec PyProof.Rows L2
/-! ### comprehensions that give values -/
theorem sql_up {K : PySem.W.Frag} {H H' : Hp} {a : Addr} {xs : List V} (s : Stp [] H H') (h : SqL K H a xs) : SqL K H' a xs := by
  rcases h with (h | ⟨o, h⟩) | h
  · exact .inl (.inl (s.kp _ _ (fun m => nomatch m) h))
  · exact .inl (.inr ⟨o, s.kp _ _ (fun m => nomatch m) h⟩)
  · exact .inr h
theorem ix_listK {X : Cx} {K : PySem.W.Frag} (hK : X.K = K) : IxR X (rIxL K) := by
  subst hK
  exact ix_list
theorem tn {σ : L2.St} {H : Hp} {Q : List V → Hp → Prop} (h : Q [] H) : tNil σ H Q := h
theorem RpL.snoc {K : PySem.W.Frag} {H : Hp} {vs : List V} {ds : List Dt} {i : Nat} {v : V} {d : Dt} (r : RpL K H vs (ds.take i)) (e : ds[i]? = some d) (h : Rp K H v d) : RpL K H (vs ++ [v]) (ds.take (i + 1)) := by
  rw [List.take_add_one, e]
  exact r.app (.cons h .nil)
theorem rpl_strs {K : PySem.W.Frag} {H : Hp} : ∀ {ls : List (List Nat)} {vs : List V}, RpL K H vs (ls.map Dt.str) → vs = ls.map Tx
  | [], _, .nil => rfl
  | l :: ls, _, .cons h r => by
    cases h
    rw [List.map_cons, rpl_strs r]
theorem rpl_bls {K : PySem.W.Frag} {H : Hp} : ∀ {bs : List Bool} {vs : List V}, RpL K H vs (bs.map Dt.bl) → vs = bs.map V.bl
  | [], _, .nil => rfl
  | b :: bs, _, .cons h r => by
    cases h
    rw [List.map_cons, rpl_bls r]
section
variable {K : PySem.W.Frag} {a : Addr} {xs : List V} {ds : List Dt} {g : TG} {te : TE} {vs : List Nat} {σ : L2.St} {H1 : Hp} {D : Addr} {Qd : Hp → Prop}
theorem lc_mapL (nD : H1 D = none) (hs : SqL K H1 a xs) (hl : ds.length = xs.length) (hz : xs.length ≤ 90000)
    (step : ∀ (i : Nat) x d H, xs[i]? = some x → ds[i]? = some d → Stp [] H1 H → ∀ Q : VK, (∀ y H', Stp [] H H' → Rp K H' y d → Q y H') → g x (wipe σ vs) H fun σ2 H2 => wipe σ2 vs = wipe σ vs ∧ te σ2 H2 Q)
    (hd : ∀ ws H, Stp [] H1 H → H D = some (.lst ws) → RpL K H ws ds → Qd H) :
    ∃ W : Nat → Nat → Hp → Prop, (∃ m, W 0 m (upd H1 D (.lst []))) ∧ ∀ i m H, W i m H →
      ((Itl K a).stop i H ∧ Qd H) ∨ ((Itl K a).go i H ∧ ∃ Nx : Hp → Prop, (∀ H', Nx H' → ∃ m', m' < m ∧ W (i + 1) m' H') ∧ ∀ x H', (Itl K a).yld i H x H' → g x (wipe σ vs) H' fun σ2 H2 => wipe σ2 vs = wipe σ vs ∧ tYes σ2 H2 fun b H3 =>
        if b = true then te σ2 H3 fun y H4 => ∃ acc, H4 D = some (.lst acc) ∧ acc.length < sizeLine ∧ Nx (upd H4 D (.lst (acc ++ [y]))) else Nx H3) := by
  refine lc_list (a := a) (xs := xs) (fun i H => ∃ ws, H D = some (.lst ws) ∧ RpL K H ws (ds.take i) ∧ Stp [] H1 H) ⟨[], upd_same, .nil, Stp.new nD _⟩ (fun i H _ ⟨_, _, _, S⟩ => sql_up S hs) ?_ ?_
  · rintro i x H hi ⟨ws, hL, rv, S⟩
    have il : i < ds.length := by rw [hl]; exact (List.getElem?_eq_some_iff.mp hi).1
    refine step i x ds[i] H hi (List.getElem?_eq_getElem il) S _ fun y H' S' ry => ?_
    refine ⟨ws, S'.kp _ _ (fun m => nomatch m) hL, ?_, ws ++ [y], upd_same, ?_, (S.trans S').mut nD⟩
    · rw [rv.len, List.length_take]
      exact Nat.lt_of_le_of_lt (show min i ds.length ≤ 90000 by omega) (by decide)
    · have s4 : Stp [D] H' (upd H' D (.lst (ws ++ [y]))) := Stp.put (by simp)
      have hL' := S'.kp _ _ (fun m => nomatch m) hL
      exact RpL.snoc ((rv.stp S' Lsts.nil).stp s4 (.one hL')) (List.getElem?_eq_getElem il) (ry.stp s4 (.one hL'))
  · rintro H ⟨ws, hL, rv, S⟩
    rw [← hl, List.take_length] at rv
    exact hd ws H S hL rv
theorem lc_mapT (nD : H1 D = none) (hs : SqT K H1 a xs) (hl : ds.length = xs.length) (hz : xs.length ≤ 90000)
    (step : ∀ (i : Nat) x d H, xs[i]? = some x → ds[i]? = some d → Stp [] H1 H → ∀ Q : VK, (∀ y H', Stp [] H H' → Rp K H' y d → Q y H') → g x (wipe σ vs) H fun σ2 H2 => wipe σ2 vs = wipe σ vs ∧ te σ2 H2 Q)
    (hd : ∀ ws H, Stp [] H1 H → H D = some (.lst ws) → RpL K H ws ds → Qd H) :
    ∃ W : Nat → Nat → Hp → Prop, (∃ m, W 0 m (upd H1 D (.lst []))) ∧ ∀ i m H, W i m H →
      ((Itt K a).stop i H ∧ Qd H) ∨ ((Itt K a).go i H ∧ ∃ Nx : Hp → Prop, (∀ H', Nx H' → ∃ m', m' < m ∧ W (i + 1) m' H') ∧ ∀ x H', (Itt K a).yld i H x H' → g x (wipe σ vs) H' fun σ2 H2 => wipe σ2 vs = wipe σ vs ∧ tYes σ2 H2 fun b H3 =>
        if b = true then te σ2 H3 fun y H4 => ∃ acc, H4 D = some (.lst acc) ∧ acc.length < sizeLine ∧ Nx (upd H4 D (.lst (acc ++ [y]))) else Nx H3) := by
  refine lc_tup (a := a) (xs := xs) (fun i H => ∃ ws, H D = some (.lst ws) ∧ RpL K H ws (ds.take i) ∧ Stp [] H1 H) ⟨[], upd_same, .nil, Stp.new nD _⟩ (fun i H _ ⟨_, _, _, S⟩ => sqt_stp S Lsts.nil hs) ?_ ?_
  · rintro i x H hi ⟨ws, hL, rv, S⟩
    have il : i < ds.length := by rw [hl]; exact (List.getElem?_eq_some_iff.mp hi).1
    refine step i x ds[i] H hi (List.getElem?_eq_getElem il) S _ fun y H' S' ry => ?_
    refine ⟨ws, S'.kp _ _ (fun m => nomatch m) hL, ?_, ws ++ [y], upd_same, ?_, (S.trans S').mut nD⟩
    · rw [rv.len, List.length_take]
      exact Nat.lt_of_le_of_lt (show min i ds.length ≤ 90000 by omega) (by decide)
    · have s4 : Stp [D] H' (upd H' D (.lst (ws ++ [y]))) := Stp.put (by simp)
      have hL' := S'.kp _ _ (fun m => nomatch m) hL
      exact RpL.snoc ((rv.stp S' Lsts.nil).stp s4 (.one hL')) (List.getElem?_eq_getElem il) (ry.stp s4 (.one hL'))
  · rintro H ⟨ws, hL, rv, S⟩
    rw [← hl, List.take_length] at rv
    exact hd ws H S hL rv
theorem lc_mapR {n : Nat} (nD : H1 D = none) (hl : ds.length = n) (hz : n ≤ 90000)
    (step : ∀ (i : Nat) d H, ds[i]? = some d → Stp [] H1 H → ∀ Q : VK, (∀ y H', Stp [] H H' → Rp K H' y d → Q y H') → g (.int ((0 : Int) + (i : Int))) (wipe σ vs) H fun σ2 H2 => wipe σ2 vs = wipe σ vs ∧ te σ2 H2 Q)
    (hd : ∀ ws H, Stp [] H1 H → H D = some (.lst ws) → RpL K H ws ds → Qd H) :
    ∃ W : Nat → Nat → Hp → Prop, (∃ m, W 0 m (upd H1 D (.lst []))) ∧ ∀ i m H, W i m H →
      ((Itr 0 n).stop i H ∧ Qd H) ∨ ((Itr 0 n).go i H ∧ ∃ Nx : Hp → Prop, (∀ H', Nx H' → ∃ m', m' < m ∧ W (i + 1) m' H') ∧ ∀ x H', (Itr 0 n).yld i H x H' → g x (wipe σ vs) H' fun σ2 H2 => wipe σ2 vs = wipe σ vs ∧ tYes σ2 H2 fun b H3 =>
        if b = true then te σ2 H3 fun y H4 => ∃ acc, H4 D = some (.lst acc) ∧ acc.length < sizeLine ∧ Nx (upd H4 D (.lst (acc ++ [y]))) else Nx H3) := by
  refine lc_range (lo := 0) (n := n) (fun i H => ∃ ws, H D = some (.lst ws) ∧ RpL K H ws (ds.take i) ∧ Stp [] H1 H) ⟨[], upd_same, .nil, Stp.new nD _⟩ ?_ ?_
  · rintro i H hi ⟨ws, hL, rv, S⟩
    have il : i < ds.length := by rw [hl]; exact hi
    refine step i ds[i] H (List.getElem?_eq_getElem il) S _ fun y H' S' ry => ?_
    refine ⟨ws, S'.kp _ _ (fun m => nomatch m) hL, ?_, ws ++ [y], upd_same, ?_, (S.trans S').mut nD⟩
    · rw [rv.len, List.length_take]
      exact Nat.lt_of_le_of_lt (show min i ds.length ≤ 90000 by omega) (by decide)
    · have s4 : Stp [D] H' (upd H' D (.lst (ws ++ [y]))) := Stp.put (by simp)
      have hL' := S'.kp _ _ (fun m => nomatch m) hL
      exact RpL.snoc ((rv.stp S' Lsts.nil).stp s4 (.one hL')) (List.getElem?_eq_getElem il) (ry.stp s4 (.one hL'))
  · rintro H ⟨ws, hL, rv, S⟩
    rw [← hl, List.take_length] at rv
    exact hd ws H S hL rv
end
end Pg
namespace Pg
open PySem PySem.Spec PyProof.Rows L2
/-- a new object is changed -/
theorem Stp.mutO {S : List Addr} {H H' : Hp} {p : Addr} {o : HO} (a : Stp S H H') (h : H p = none) : Stp S H (upd H' p o) :=
  ⟨fun x u n q => by
    rw [upd_ne (ne_of_none q h)]
    exact a.kp x u n q, fun x xs q => by
    rw [upd_ne (ne_of_none q h)]
    exact a.ls x xs q⟩
/-- sorted(xs), texts, any number of them -/
def rSortedSA (K : PySem.W.Frag) : List V → Hp → VK → Prop := fun vs H Q => ∃ (a : Addr) (ls : List (List Nat)), vs = [V.ref a] ∧ SqL K H a (ls.map Tx) ∧
  ∀ (zs : List (List Nat)) (p : Addr), zs.Perm ls → zs.Pairwise (· ≤ ·) → H p = none → Q (.ref p) (upd H p (.lst (zs.map Tx)))
theorem rising_le : ∀ (zs : List (List Nat)) (p : List Nat), risingS (tx p) (zs.map tx) = true → (p :: zs).Pairwise (· ≤ ·)
  | [], p, _ => List.pairwise_singleton _ _
  | z :: zs, p, h => by
    have h' : (!ltCps z p && risingS (tx z) (zs.map tx)) = true := by simpa [risingS] using h
    rw [ltCps_eq] at h'
    obtain ⟨h1, h2⟩ := Bool.and_eq_true_iff.mp h'
    have ih := rising_le zs z h2
    have pz : p ≤ z := List.not_lt.mp (by simpa using h1)
    refine List.pairwise_cons.mpr ⟨fun y m => ?_, ih⟩
    rcases List.mem_cons.mp m with rfl | m
    · exact pz
    · exact List.le_trans pz ((List.pairwise_cons.mp ih).1 y m)
theorem cr_sortedSA {X : Cx} : CallR X (.builtin "sorted") (rSortedSA X.K) := by
  intro pins s σ H vs us Q I r h
  obtain ⟨a, ls, rfl, hs, q⟩ := h
  obtain ⟨its, rv, hl, hz⟩ := I.list hs
  rw [Vals.ref1 r]
  have st : StrsAre its (ls.map tx) := by
    have : ls.map Tx = (ls.map tx).map V.str := by rw [List.map_map]; rfl
    rw [this] at rv
    exact rv.strs
  refine sorted_strsAny hl.isList st (by rw [← rv.length]; exact hz) fun out ys h1 h2 h3 => ?_
  have e : ys = (ys.map fun s => s.cps.toList).map tx := by
    rw [List.map_map]
    conv => lhs; rw [← List.map_id ys]
    rfl
  have pm : (ys.map fun s => s.cps.toList).Perm ls := by
    have := h2.map fun s : Str => s.cps.toList
    rw [List.map_map] at this
    refine this.trans (List.Perm.of_eq ?_)
    conv => rhs; rw [← List.map_id ls]
    refine List.map_congr_left fun l _ => ?_
    simp
  have so : (ys.map fun s => s.cps.toList).Pairwise (· ≤ ·) := by
    rw [e] at h3
    generalize (ys.map fun s => s.cps.toList) = zs at h3
    cases zs with
    | nil => exact List.Pairwise.nil
    | cons z zs => exact rising_le zs z h3
  obtain ⟨ep, he'⟩ := PyProof.Rows.sortedAll_at s.heap its out
  rw [e] at h1
  have hv := vals_of_strs h1
  rw [List.map_map] at hv
  have hv : Vals ((ys.map fun s => s.cps.toList).map Tx) out.toList := hv
  have hlen : ((ys.map fun s => s.cps.toList).map Tx).length ≤ sizeLine := by
    rw [List.length_map, pm.length_eq]
    rw [List.length_map] at hz
    exact hz
  exact ⟨.ref _, upd H (s.heap.objs.size + 1) (.lst ((ys.map fun s => s.cps.toList).map Tx)), I.laid (t' := s.toks) (fun _ _ => PyProof.Rows.sortedAll_old) (Nat.le_succ _) ⟨hlen, out.toList, ep, hv, he'⟩, rfl, q _ _ pm so (I.hok.fresh (Nat.le_succ _))⟩
end Pg
namespace Pg
open PySem PySem.Spec PyProof.Rows L2
theorem RpL.rev {K : PySem.W.Frag} {H : Hp} : ∀ {vs : List V} {ds : List Dt}, RpL K H vs ds → RpL K H vs.reverse ds.reverse
  | _, [], .nil => .nil
  | _, _ :: _, .cons h r => by
    rw [List.reverse_cons, List.reverse_cons]
    exact RpL.app (RpL.rev r) (.cons h .nil)
theorem RpL.erase {K : PySem.W.Frag} {H : Hp} {α : Type} {f : α → Dt} : ∀ {vs : List V} {ps : List α} {k : Nat}, RpL K H vs (ps.map f) → RpL K H (vs.eraseIdx k) ((ps.eraseIdx k).map f)
  | _, [], _, .nil => .nil
  | _, _ :: _, 0, .cons _ r => r
  | _, _ :: _, k + 1, .cons h r => .cons h (RpL.erase (k := k) r)
theorem seqIx {n : Nat} {d : Int} (h0 : 0 ≤ d) (h1 : d < (n : Int)) : seqIndex? d n = some d.toNat := (ixN_seq (by unfold ixN; rw [if_pos h0, if_pos h1])).1
/-! ### t[::-1] -/
section
variable {prog : Program} {w : World} {A : Around} {E : Value → Shared → Prop} {s : Shared}
open HT
theorem sliceApplied_rev {sl : Addr} {vl vu vs : Value} {n : Nat} {Q : Int × Int × Nat → Shared → Prop} (hs : s.heap.IsSliceOf sl vl vu vs) (pl : IsPart vl none) (pu : IsPart vu none) (ps : IsPart vs (some (-1)))
    (h : Q ((n : Int) - 1, -1, n) s) : wpAny (model prog w) A (Builtin.Slice.sliceApplied (.ref sl) (pure (n : Int))) Q E s := by
  obtain ⟨os, hos, hcs, hds⟩ := id hs
  unfold Builtin.Slice.sliceApplied Builtin.Slice.sliceFields
  refine wpAny_bind (wpAny_bind (wpAny_field hos hds (x := vl) rfl (wpAny_bind (wpAny_field hos hds (x := vu) rfl (wpAny_bind (wpAny_field hos hds (x := vs) rfl (wpAny_pure ?_)))))))
  refine wpAny_bind (slicePart_ ps ?_)
  show wpAny _ _ (if ((-1 : Int) == 0) = true then _ else _) _ _ s
  rw [if_neg (by decide)]
  refine wpAny_bind (slicePart_ pl (wpAny_bind (slicePart_ pu (wpAny_bind (wpAny_pure ?_)))))
  show wpAny _ _ (pure ((n : Int) - 1, (-1 : Int), Builtin.Slice.slicePlaces ((n : Int) - 1) (-1) (-1))) _ _ s
  have e : Builtin.Slice.slicePlaces ((n : Int) - 1) (-1) (-1) = n := by
    unfold Builtin.Slice.slicePlaces
    rw [if_neg (by decide)]
    by_cases c : (n : Int) - 1 > -1
    · rw [if_pos c, show (- -1 : Int) = 1 by decide, Int.ediv_one]
      omega
    · rw [if_neg c]
      omega
  rw [e]
  exact wpAny_pure h
theorem pick_rev (xs : Array Value) : ((List.range xs.size).filterMap fun (k : Nat) => xs[((xs.size : Int) - 1 + (k : Int) * (-1)).toNat]?).toArray = xs.toList.reverse.toArray := by
  have e : (fun (k : Nat) => xs[((xs.size : Int) - 1 + (k : Int) * (-1)).toNat]?) = (fun k => xs[xs.size - 1 - k]?) := by
    funext k
    have : ((xs.size : Int) - 1 + (k : Int) * (-1)).toNat = xs.size - 1 - k := by omega
    rw [this]
  rw [e]
  have e2 : (fun k => xs[xs.size - 1 - k]?) = (fun k => xs[k]?) ∘ fun k => xs.size - 1 - k := rfl
  rw [e2, ← List.filterMap_map, PySem.W.krv_range, List.filterMap_reverse, PySem.W.krv_all]
theorem getItem_tuple_rev {t sl : Addr} {items : Array Value} {vl vu vs : Value} {Q : Value → Shared → Prop} (ht : IsTup s.heap t items) (hs : s.heap.IsSliceOf sl vl vu vs) (pl : IsPart vl none) (pu : IsPart vu none) (ps : IsPart vs (some (-1)))
    (h : Q (.ref s.heap.objs.size) { s with heap := s.heap.push { cls := .type "tuple", data := .seq items.toList.reverse.toArray } })
    (hsz : items.size ≤ sizeLine) : wpAny (model prog w) A (getItem (.ref t) (.ref sl)) Q E s := by
  have htake : sizeOk (.seq items.toList.reverse.toArray) := by
    show items.toList.reverse.toArray.size ≤ sizeLine
    rw [List.size_toArray, List.length_reverse, Array.length_toList]
    exact hsz
  obtain ⟨os, hos, hcs, hds⟩ := id hs
  have hTs : s.TypeIs (.ref sl) "slice" := ⟨os, hos, hcs⟩
  unfold getItem
  try with_reducible refine wpAny_holding ?_
  first | refine wpAny_bind (wpAny_pure ?_) | skip
  refine wpAny_bind (wpAny_sequenceKey ht.typeIs (by decide) ?_)
  refine wpAny_bind (wpAny_callSpecial?_slot (name := Str.ofString "__getitem__") ht.typeIs PyProof.Rows.slot_tuple_getitem
    (wpAny_call_entry PyProof.Rows.slot_tuple_getitem ht.typeIs entry_tuple_getitem ?_ (args_tuple_getitem _ _)))
  show wpAny _ _ (Builtin.Tuple.tupleItemsOf (.ref t) >>= _) _ _ s
  refine wpAny_bind (tupleItemsOf_ ht ?_)
  refine wpAny_bind (wpAny_typeOf hTs ?_)
  rw [if_pos (by decide)]
  refine wpAny_bind (sliceApplied_rev hs pl pu ps ?_)
  have hno : ¬ ((((items.size : Int) - 1) == 0 && (-1 : Int) == 1 && items.size == items.size) = true) := by
    intro q
    rw [Bool.and_eq_true, Bool.and_eq_true] at q
    exact absurd q.1.2 (by decide)
  show wpAny _ _ (if (((items.size : Int) - 1) == 0 && (-1 : Int) == 1 && items.size == items.size) = true then _ else _) _ _ s
  rw [if_neg hno, pick_rev]
  first
    | exact wpAny_bind (m := Builtin.Tuple.tupleExact _) (wpAny_newObj_type (wpAny_pure ⟨_, rfl, wpAny_pure h⟩) htake)
    | exact wpAny_bind (m := Builtin.Tuple.tupleExact _) (wpAny_newObj_type (wpAny_bind (wpAny_pure (wpAny_pure ⟨_, rfl, wpAny_pure h⟩))) htake)
    | exact wpAny_bind (wpAny_bind (m := Builtin.Tuple.tupleExact _) (wpAny_newObj_type (wpAny_pure (wpAny_pure ⟨_, rfl, wpAny_pure h⟩)) htake))
    | exact wpAny_bind (wpAny_bind (m := Builtin.Tuple.tupleExact _) (wpAny_newObj_type (wpAny_pure ⟨_, rfl, wpAny_pure h⟩) htake))
end
section
variable {X : Cx}
def tRevT (K : PySem.W.Frag) (te : TE) : TE := fun σ H Q => te σ H fun x H1 => ∃ a xs, x = .ref a ∧ SqT K H1 a xs ∧ ∀ p, H1 p = none → Q (.ref p) (upd H1 p (.tup xs.reverse))
theorem pe_revT {e : Expr} {te : TE} {k : Nat} {p1 p2 p3 pos : Pos} (he : PE X e te) : PE X (.Subscript e (.Slice none none (some (.UnaryOp .USub (.Constant (.int 1) k p1) p2)) p3) pos) (tRevT X.K te) := by
  refine ⟨fun pins s σ H Q I h => ?_⟩
  refine Subscript_ (thn (he.run pins s σ H _ I h) fun v s1 ⟨x, H1, I1, r1, q1⟩ => ?_)
  obtain ⟨a, xs, ex, hx, q⟩ := q1
  subst ex
  cases r1
  have hst : PO X (some (.UnaryOp .USub (.Constant (.int 1) k p1) p2)) (tPart (tUn (rU fun i => .int (-i)) (tC (.int 1)))) := po_some (pe_un un_neg pe_int)
  refine wpAny_Slice (thn (po_none.run pins s1 σ H1 (fun o H2 => o = none ∧ H2 = H1) I1 ⟨rfl, rfl⟩) fun vl s2 ⟨l, H2, I2, pl, el, e2⟩ => ?_)
  subst el e2
  refine thn (po_none.run pins s2 σ H2 (fun o H3 => o = none ∧ H3 = H2) I2 ⟨rfl, rfl⟩) fun vu s3 ⟨u, H3, I3, pu, eu, e3⟩ => ?_
  subst eu e3
  refine thn (hst.run pins s3 σ H3 (fun o H4 => o = some (-1) ∧ H4 = H3) I3 ⟨1, rfl, -1, rfl, rfl, rfl⟩) fun vs s4 ⟨o, H4, I4, ps, eo, e4⟩ => ?_
  subst eo e4
  have I5 : Inv X pins σ H4 { s4 with heap := s4.heap.push { cls := .type "slice", data := .fields #[vl, vu, vs] } } := I4.kept (t' := s4.toks) fun b ob q => Heap.get?_push_of_some _ q
  obtain ⟨its, r, ht, hz⟩ := I5.tuple hx
  have hlen := r.length
  show wpAny (model X.prog X.w) X.A (subscriptTail e (.Slice none none (some (.UnaryOp .USub (.Constant (.int 1) k p1) p2)) p3) (.ref a) (.ref s4.heap.objs.size)) (EP X pins σ Q) X.xe { s4 with heap := s4.heap.push { cls := .type "slice", data := .fields #[vl, vu, vs] } }
  refine tail_any (ops := [.ref a, .ref s4.heap.objs.size]) ht.typeIs (PyProof.Rows.slot_tuple_getitem.lookup) ?_ (by with_unfolding_all rfl)
  refine getItem_tuple_rev ht (Heap.IsSliceOf.new _ vl vu vs) pl pu ps ?_ (by rw [List.size_toArray]; omega)
  refine ⟨.ref _, _, I5.laid (t' := s4.toks) (o := .tup xs.reverse) (fun b ob q => Heap.get?_push_of_some _ q) (Nat.le_refl _) ?_, rfl, q _ (I5.hok.fresh (Nat.le_refl _))⟩
  exact ⟨by rw [List.length_reverse]; exact hz, _, r.reverse, IsTup.new _ _⟩
end
end Pg
namespace Pg
open PySem PySem.Spec PyProof.Rows L2
theorem pe_clG0 {X : Cx} {j k : Nat} {st : Stmt} {ps : List Str} {sp : Sp} {x : Str} {p pos : Pos} (c : ClG X.prog X.w X.K X.mg X.base k x st ps sp) (hG : X.A.guards = some []) (hr : Room j X.A) (hk : k ≤ j) (hg : Gl X x := by rfl) (hdb : (x == ("__debug__" : Str)) = false := by decide) :
    PE X (.Call (.Name x p) [] [] pos) (tCl sp tNil) := by
  obtain ⟨f, fd, D, F⟩ := c.ex
  refine ⟨fun pins s σ H Q I h => ?_⟩
  refine wpAny_Call_Name_kw (ld_glob I hg D.at_ ?_ hdb)
  exact PySem.W.callWith_K0 I.kIn D.fn.kp (run_g (us := []) (F.mono hk) hG hr D.bd I .nil h)
end Pg
namespace Pv
open PySem PySem.Spec PyProof.Rows L2 Pg
/-! ### values as data, told by repr -/
mutual
def D.py : D → PyData
  | .non => .none
  | .bl b => .bool b
  | .int i => .int i
  | .str l => .str (tx l)
  | .tup ds => .tuple (D.pys ds)
  | .lst ds => .list (D.pys ds)
  | .obj _ => .none
def D.pys : List D → List PyData
  | [] => []
  | d :: ds => d.py :: D.pys ds
end
mutual
/-- signs at most -/
def D.wt : D → Nat
  | .non => 4
  | .bl _ => 5
  | .int _ => 12
  | .str l => 10 * l.length + 2
  | .tup ds => D.wts ds + 4
  | .lst ds => D.wts ds + 4
  | .obj _ => 0
def D.wts : List D → Nat
  | [] => 0
  | d :: ds => d.wt + 2 + D.wts ds
end
mutual
def D.deep : D → Nat
  | .tup ds => D.deeps ds + 1
  | .lst ds => D.deeps ds + 1
  | _ => 0
def D.deeps : List D → Nat
  | [] => 0
  | d :: ds => max d.deep (D.deeps ds)
end
mutual
/-- no objects, small numbers, signs that are signs -/
def D.fair : D → Bool
  | .non => true
  | .bl _ => true
  | .int i => decide (i.natAbs < 10 ^ 10)
  | .str l => l.all fun n => decide (n < 16 ^ 8)
  | .tup ds => D.fairs ds
  | .lst ds => D.fairs ds
  | .obj _ => false
def D.fairs : List D → Bool
  | [] => true
  | d :: ds => d.fair && D.fairs ds
end
section
variable {K : PySem.W.Frag} {S : List Addr} {H : Hp}
mutual
theorem rv_dp : ∀ {v : V} {d : D}, Rv K S H v d → d.fair = true → Dp K H v d.py
  | _, .non, .non, _ => by unfold D.py; exact .non
  | _, .bl _, .bl b, _ => by unfold D.py; exact .bl b
  | _, .int _, .int i, _ => by unfold D.py; exact .int i
  | _, .str _, .str x h, _ => by unfold D.py; exact .str _
  | _, .tup ds, .tup h n r, f => by
    unfold D.py
    unfold D.fair at f
    exact .tup h (rvs_dp r f)
  | _, .lst ds, .lst h o n r, f => by
    unfold D.py
    unfold D.fair at f
    exact .lst (SqL.of h) (rvs_dp r f)
  | _, .obj _, .obj _ _, f => by
    unfold D.fair at f
    cases f
theorem rvs_dp : ∀ {vs : List V} {ds : List D}, RvL K S H vs ds → D.fairs ds = true → DpAll K H vs (D.pys ds)
  | _, [], .nil, _ => by unfold D.pys; exact .nil
  | _, _ :: _, .cons h r, f => by
    unfold D.pys
    unfold D.fairs at f
    obtain ⟨f1, f2⟩ := Bool.and_eq_true_iff.mp f
    exact .cons (rv_dp h f1) (rvs_dp r f2)
end
end
mutual
theorem D.shw : ∀ (d : D), d.fair = true → d.py.showable = true
  | .non, _ => by unfold D.py; simp only [PyData.showable]
  | .bl _, _ => by unfold D.py; simp only [PyData.showable]
  | .int i, f => by
    unfold D.py
    unfold D.fair at f
    simp only [PyData.showable]
    have h := of_decide_eq_true f
    refine decide_eq_true ?_
    by_cases z : i.natAbs = 0
    · rw [z]; decide
    · exact (Nat.log2_lt z).mpr (Nat.lt_trans h (by decide +kernel))
  | .str _, _ => by unfold D.py; simp only [PyData.showable]
  | .tup ds, f => by
    unfold D.py
    unfold D.fair at f
    simp only [PyData.showable]
    exact D.shws ds f
  | .lst ds, f => by
    unfold D.py
    unfold D.fair at f
    simp only [PyData.showable]
    exact D.shws ds f
  | .obj _, f => by
    unfold D.fair at f
    cases f
theorem D.shws : ∀ (ds : List D), D.fairs ds = true → PyData.showableAll (D.pys ds) = true
  | [], _ => by unfold D.pys; simp only [PyData.showableAll]
  | d :: ds, f => by
    unfold D.pys
    unfold D.fairs at f
    obtain ⟨f1, f2⟩ := Bool.and_eq_true_iff.mp f
    simp only [PyData.showableAll, D.shw d f1, D.shws ds f2, Bool.and_self]
end
mutual
theorem D.dpt : ∀ (d : D), d.py.depth = d.deep
  | .non => by unfold D.py D.deep; rfl
  | .bl _ => by unfold D.py D.deep; rfl
  | .int _ => by unfold D.py D.deep; rfl
  | .str _ => by unfold D.py D.deep; rfl
  | .obj _ => by unfold D.py D.deep; rfl
  | .tup ds => by
    unfold D.py D.deep
    show PyData.depthAll _ + 1 = _
    rw [D.dpts ds]
  | .lst ds => by
    unfold D.py D.deep
    show PyData.depthAll _ + 1 = _
    rw [D.dpts ds]
theorem D.dpts : ∀ (ds : List D), PyData.depthAll (D.pys ds) = D.deeps ds
  | [] => by unfold D.pys D.deeps; rfl
  | d :: ds => by
    unfold D.pys D.deeps
    show max d.py.depth (PyData.depthAll (D.pys ds)) = _
    rw [D.dpt d, D.dpts ds]
end
mutual
theorem D.sgn : ∀ (d : D), d.fair = true → d.py.shown.length ≤ d.wt
  | .non, _ => by
    unfold D.py D.wt
    simp only [PyData.shown]
    decide
  | .bl b, _ => by
    unfold D.py D.wt
    cases b <;> simp only [PyData.shown] <;> decide
  | .int i, f => by
    unfold D.py D.wt
    unfold D.fair at f
    simp only [PyData.shown]
    have h := int_text_length_le10 (k := 10) (by decide) (of_decide_eq_true f)
    show (Str.ofString (toString i)).length ≤ 12
    rw [PySem.ofString_length]
    omega
  | .str l, f => by
    unfold D.py D.wt
    unfold D.fair at f
    simp only [PyData.shown]
    have := StrLaws.reprText_len (tx l) (fun c m => of_decide_eq_true (List.all_eq_true.mp f c (by simpa using m)))
    rw [tx_len] at this
    exact this
  | .tup ds, f => by
    unfold D.py D.wt
    unfold D.fair at f
    simp only [PyData.shown]
    have a := tupleText_le (PyData.shownAll (D.pys ds))
    have b := D.sgns ds f
    omega
  | .lst ds, f => by
    unfold D.py D.wt
    unfold D.fair at f
    simp only [PyData.shown]
    have a := listText_le (PyData.shownAll (D.pys ds))
    have b := D.sgns ds f
    omega
  | .obj _, f => by
    unfold D.fair at f
    cases f
theorem D.sgns : ∀ (ds : List D), D.fairs ds = true → ((PyData.shownAll (D.pys ds)).map fun t => t.length + 2).sum ≤ D.wts ds
  | [], _ => by
    unfold D.pys D.wts
    simp only [PyData.shownAll]
    decide
  | d :: ds, f => by
    unfold D.pys D.wts
    unfold D.fairs at f
    obtain ⟨f1, f2⟩ := Bool.and_eq_true_iff.mp f
    have p := D.sgn d f1
    have q := D.sgns ds f2
    simp only [PyData.shownAll, List.map_cons, List.sum_cons]
    omega
end
/-- what repr tells of a value -/
def D.told (d : D) : Str := d.py.shown
structure D.Fine (d : D) : Prop where
  fair : d.fair = true
  deep : d.deep ≤ 100
  wt : d.wt ≤ 1000000
/-- repr of values -/
def rReprD (K : PySem.W.Frag) : List V → Hp → VK → Prop := fun xs H Q => ∃ (S : List Addr) (v : V) (d : D), xs = [v] ∧ Rv K S H v d ∧ d.Fine ∧ Q (.str d.told) H
theorem call_reprD {X : Cx} {j : Nat} (hG : X.A.guards = some []) (hr : Room j X.A) : CallR X (.builtin "repr") (rReprD X.K) := fun pins s σ H xs us Q I r h => by
  obtain ⟨S, v, d, e, rv, ⟨f, dd, sz⟩, q⟩ := h
  exact call_repr hG hr pins s σ H xs us Q I r ⟨v, d.py, e, rv_dp rv f, D.shw d f, by rw [D.dpt]; exact dd, Nat.le_trans (D.sgn d f) (Nat.le_trans sz (by decide)), q⟩
/-! ### list.count of flat items -/
def rCntF (K : PySem.W.Frag) : V → List V → Hp → VK → Prop := fun x xs H Q => ∃ (p : Addr) (ys : List V) (y : V), x = .ref p ∧ xs = [y] ∧ SqL K H p ys ∧ flatV y = true ∧ ys.all flatV = true ∧ Q (.int ((ys.countP fun z => eqV z y : Nat) : Int)) H
theorem count_eqU {x : V} : ∀ {ys : List V} {us : List Value}, Vals ys us → ys.all flatV = true → us.countP (eqU x) = ys.countP fun z => eqV z x
  | [], _, .nil, _ => rfl
  | y :: ys, _, .cons r t, f => by
    rw [List.all_cons, Bool.and_eq_true] at f
    rw [List.countP_cons, List.countP_cons, count_eqU t f.2, eqU_of r f.1]
theorem mt_lcountF {X : Cx} : MtR X "list.count" (rCntF X.K) := by
  intro pins s σ H x xs v us Q I rx rxs h
  obtain ⟨p, ys, y, rfl, rfl, hs, fy, fys, q⟩ := h
  cases rx
  obtain ⟨u, rfl, ru⟩ := rxs.one
  obtain ⟨its, rv, ⟨⟨cls, dd, data, sl⟩, n, ho, hc, hdn, hd⟩, hlen⟩ := I.list hs
  simp only at hc hd
  subst hc hd
  refine call_meets PySem.F.slot_list_count ⟨_, ho, rfl⟩ PySem.F.entry_list_count (PySem.F.args_list_count_2 _ _)
    (SeqAt.list_countAt p its.toArray n dd sl u (eqU y)) ⟨ho, fun u' hu' => mem_eqAt ru fy rv fys u' (by simpa using hu'), ?_⟩
  have ec : its.toArray.toList.countP (eqU y) = ys.countP fun z => eqV z y := count_eqU rv fys
  refine ⟨.int ((ys.countP fun z => eqV z y : Nat) : Int), H, I.tok _, ⟨s.toks, ?_⟩, q⟩
  show Value.int ((its.toArray.toList.countP (eqU y) : Nat) : Int) s.toks = _
  rw [ec]
/-! ### str.index of what is there -/
def rIdxS : V → List V → Hp → VK → Prop := fun x xs H Q => ∃ (a b : Str) (k : Nat), x = .str a ∧ xs = [.str b] ∧ Txt.index0 a b = some k ∧ Q (.int (k : Int)) H
theorem mt_idxS {X : Cx} : MtR X "str.index" rIdxS := by
  intro pins s σ H x xs v us Q I rx rs h
  obtain ⟨a, b, k, rfl, rfl, hk, w⟩ := h
  obtain ⟨t, rfl⟩ := rx
  cases rs with
  | cons r1 rs =>
    cases rs
    obtain ⟨u, rfl⟩ := r1
    cases q : Builtin.Str.occurrences a b 0 a.length 1 with
    | nil =>
      unfold Txt.index0 at hk
      rw [q] at hk
      cases hk
    | cons k' rest =>
      unfold Txt.index0 at hk
      rw [q] at hk
      cases hk
      exact PySem.SC.index q ⟨.int (k : Nat), H, I.tok _, ⟨_, rfl⟩, w⟩
/-! ### xs == ys, both hold the same values -/
def rEqL (K : PySem.W.Frag) : R2 := fun x y H Q => ∃ (S : List Addr) (a b : Addr) (xs : List V) (ds : List D), x = .ref a ∧ y = .ref b ∧ SqL K H a xs ∧ SqL K H b xs ∧ RvL K S H xs ds ∧ Q (.bl true) H
theorem op_eqL {X : Cx} (hu : X.A.units + 64 < cLine) : OpR X (compareOp .Eq) (rEqL X.K) := by
  intro pins s σ H x y v u Q I rx ry h
  obtain ⟨S, a, b, xs, ds, rfl, rfl, hH, hB, rv, q⟩ := h
  cases rx
  cases ry
  obtain ⟨its, r, pl, _⟩ := I.list hH
  obtain ⟨its2, r2, pl2, _⟩ := I.list hB
  have e1 := Vals.length r
  have e2 := Vals.length r2
  refine SeqAt.RcAt.lists (e := fun _ => true) pl.isList pl2.isList (by simp; omega) (by omega) (fun j h1 h2 => ?_) _ _ _ _ ?_
  · have := vals_at rv r r2 X.A.in1 s j (by simpa using h1) (by simpa using h2)
    simpa using this
  · refine ⟨.bl _, H, I, rfl, ?_⟩
    rw [show ((List.range its.toArray.size).all fun _ => true) = true from by simp]
    exact q
/-! ### letters c at the end -/
/-- without the letters c at its end -/
def cOff (l : List Nat) : List Nat := l.take (l.length - (l.reverse.takeWhile fun c => c == 99).length)
theorem cOff_rev (l : List Nat) : cOff l = (l.reverse.dropWhile fun c => c == 99).reverse := by
  unfold cOff
  have e := List.takeWhile_append_dropWhile (p := fun c => c == 99) (l := l.reverse)
  have e2 : l = (l.reverse.dropWhile fun c => c == 99).reverse ++ (l.reverse.takeWhile fun c => c == 99).reverse := by
    rw [← List.reverse_append, e, List.reverse_reverse]
  have hl : l.length = (l.reverse.dropWhile fun c => c == 99).length + (l.reverse.takeWhile fun c => c == 99).length := by
    have := congrArg List.length e2
    simpa using this
  generalize (l.reverse.dropWhile fun c => c == 99) = A at *
  generalize (l.reverse.takeWhile fun c => c == 99) = B at *
  rw [e2, List.length_append, List.length_reverse, List.length_reverse, Nat.add_sub_cancel, ← List.length_reverse (as := A), List.take_left]
theorem contains_c (n : Nat) : (tx [99]).cps.contains n = (n == 99) := by
  by_cases h : n = 99
  · subst h
    decide +kernel
  · rw [show (n == 99) = false from beq_eq_false_iff_ne.mpr h]
    simp [tx]
    exact fun q => h (by omega)
theorem rstrip_c (l : List Nat) : Txt.rstripChars (tx l) (tx [99]) = tx (cOff l) := by
  unfold Txt.rstripChars
  rw [PyProof.Rows.stripBy_eq]
  have e : (tx [99]).cps.contains = fun n => n == 99 := funext contains_c
  rw [e]
  unfold stripLo stripHi Builtin.Str.strSub cOff
  simp [tx, Str.length]
theorem drop_all : ∀ {l : List Nat}, (l.dropWhile fun c => c == 99) = [] → ∀ c ∈ l, c = 99
  | x :: l, h, c, m => by
    rw [List.dropWhile_cons] at h
    by_cases z : (x == 99) = true
    · rw [if_pos z] at h
      rcases List.mem_cons.mp m with rfl | m
      · exact beq_iff_eq.mp z
      · exact drop_all h c m
    · rw [if_neg z] at h
      cases h
theorem cOff_nil {l : List Nat} (h : cOff l = []) : ∀ c ∈ l, c = 99 := fun c m => by
  rw [cOff_rev] at h
  exact drop_all (List.reverse_eq_nil_iff.mp h) c (List.mem_reverse.mpr m)
theorem cOff_last {l : List Nat} (h : cOff l ≠ []) : ∃ i c, cOff l = i ++ [c] ∧ c ≠ 99 := by
  rw [cOff_rev] at h ⊢
  cases e : (l.reverse.dropWhile fun c => c == 99) with
  | nil => rw [e] at h; exact absurd rfl h
  | cons c t =>
    refine ⟨t.reverse, c, by rw [List.reverse_cons], fun z => ?_⟩
    have := List.head?_dropWhile_not (fun c => c == 99) l.reverse
    rw [e] at this
    simp at this
    exact this z
theorem abc_cOff {l : List Nat} (h : Abc l) : Abc (cOff l) := h.take _
theorem cOff_len (l : List Nat) : (cOff l).length ≤ l.length := by
  unfold cOff
  rw [List.length_take]
  omega
/-- the text beyond -/
def bey (l : List Nat) : Option (List Nat) := if cOff l = [] then none else some ((cOff l).dropLast ++ [(cOff l).getLastD 0 + 1])
theorem abc_bey {l m : List Nat} (h : Abc l) (e : bey l = some m) : Abc m ∧ m.length ≤ l.length := by
  unfold bey at e
  by_cases z : cOff l = []
  · rw [if_pos z] at e; cases e
  · rw [if_neg z] at e
    obtain ⟨i, c, hc, n⟩ := cOff_last z
    have hl := cOff_len l
    have ha := abc_cOff h
    rw [hc] at e hl ha
    simp at e
    subst e
    refine ⟨Abc.app (fun x m => ha x (List.mem_append_left _ m)) (Abc.one ?_), by simpa using hl⟩
    rcases ha c (List.mem_append_right _ List.mem_cons_self) with q | q | q <;> omega
end Pv
namespace Kq
open PySem PySem.Spec PyProof.Rows L2 Pg Pv
def topS (i : Nat) : Stmt := PySem.Challenge.pw_pageskips_k36_signs_of_notes.main.body.getD i (.Pass ⟨0, 0, 0, 0⟩)
structure Nm (mg : Str → Option Value) : Prop where
  n_int : mg "int" = none
  n_len : mg "len" = none
  n_max : mg "max" = none
  n_range : mg "range" = none
  n_type : mg "type" = none
  n_tuple : mg "tuple" = none
  n_list : mg "list" = none
  n_str : mg "str" = none
  n_bool : mg "bool" = none
  n_all : mg "all" = none
  n_sorted : mg "sorted" = none
  n_set : mg "set" = none
  n_repr : mg "repr" = none
  n_min : mg "min" = none
section
variable {P : Program} {w : World} {K : PySem.W.Frag} {mg : Str → Option Value} {base : Heap}
abbrev s__law_bag : Stmt := topS 33
abbrev N__law_bag : List Str := ["cell"]
theorem sc__law_bag : FnScope ["cell"] ["cell"] (defScope s__law_bag) := ⟨rfl, rfl, rfl, by decide +kernel, rfl, by decide +kernel, by decide +kernel⟩

abbrev s__law_draw : Stmt := topS 34
abbrev N__law_draw : List Str := ["bag", "upto", "digit", "turn", "mixed"]
theorem sc__law_draw : FnScope ["bag", "upto", "digit", "turn", "mixed"] ["bag", "upto"] (defScope s__law_draw) := ⟨rfl, rfl, rfl, by decide +kernel, rfl, by decide +kernel, by decide +kernel⟩

/-! ### the bag, the draws -/
def spBag : Sp := fun vs H Q _ => ∃ c : Int, vs = [.int c] ∧ ∀ b H', H b = none → Stp [] H H' → Bag H' b 0 → Q (.ref b) H'
theorem cl__law_bag {f : Addr} {fd : FuncData} (D : Df K mg "_law_bag" s__law_bag ["cell"] f fd) (T : Nm mg) : Cl P w K mg base 1 "_law_bag" s__law_bag ["cell"] spBag := by
  refine D.cl sc__law_bag (fun vs H Q E h => ?_) (fun cdv A outer s H vs Q E hr h => ?_)
  · obtain ⟨c, rfl, _⟩ := h
    rfl
  · obtain ⟨c, rfl, k⟩ := h
    refine ⟨_, (pss_one (ps_ret (pe_lst (pa_cons (pe_callB (call_max2 rfl) (by rfl) T.n_max (by decide +kernel) (pa_cons pe_int (pa_cons (pe_op op_sub (pe_callTy call_int1 (by rfl) T.n_int (by decide +kernel) (pa_cons (pv 0) pa_nil)) (pe_op op_pow pe_int pe_int)) pa_nil))) (pa_cons (pe_op op_mod (pe_callTy call_int1 (by rfl) T.n_int (by decide +kernel) (pa_cons (pv 0) pa_nil)) pe_int) (pa_cons pe_int pa_nil)))))), ?_⟩
    refine ⟨_, rfl, .inl ⟨c, rfl, _, _, rfl, rfl, ⟨by decide, by decide, by decide⟩, _, _, rfl, rfl, _, _, rfl, ?_⟩⟩
    refine ⟨_, rfl, .inl ⟨c, rfl, _, _, rfl, rfl, (by show (0 : Int) < 999999999989; decide), (by show 3 ≤ sizeLine; decide), fun b nb => ?_⟩⟩
    refine k b _ nb (Stp.new nb _) ⟨_, _, _, upd_same, ?_⟩
    have m1 : 0 ≤ c % 999999999989 := Int.emod_nonneg _ (by decide)
    have m2 : c % 999999999989 < 999999999989 := Int.emod_lt_of_pos _ (by decide)
    refine ⟨?_, m1, by omega, by omega, by omega⟩
    split <;> omega
def spDraw : Sp := fun vs H Q _ => ∃ (b : Addr) (up : Int) (n : Nat), vs = [.ref b, .int up] ∧ Bag H b n ∧ n < 2 ^ 30 ∧ 0 < up ∧ up < 2 ^ 30 ∧
  ∀ d H', 0 ≤ d → d < up → Only b H H' → Bag H' b (n + 1) → Q (.int d) H'
theorem cl__law_draw {f : Addr} {fd : FuncData} (D : Df K mg "_law_draw" s__law_draw ["bag", "upto"] f fd) (T : Nm mg) : Cl P w K mg base 1 "_law_draw" s__law_draw ["bag", "upto"] spDraw := by
  refine D.cl sc__law_draw (fun vs H Q E h => ?_) (fun cdv A outer s H vs Q E hr h => ?_)
  · obtain ⟨b, up, n, rfl, _⟩ := h
    rfl
  · obtain ⟨b, up, n, rfl, ⟨x, y, z, hb, x0, y0, y1, z0, z1⟩, hn, u0, u1, k⟩ := h
    refine ⟨_, (pss_cons (ps_if (pt_cmpR op_gt (pe_ix ix_list (pv 0) pe_int (fun _ _ => rfl)) pe_int (by first | exact nomark _ | rfl)) (pss_cons (ps_set (i := 2) sc__law_draw.nd rfl (by first | exact Or.inl rfl | exact Or.inr rfl) (pe_op op_mod (pe_callTy call_int1 (by rfl) T.n_int (by decide +kernel) (pa_cons (pe_ix ix_list (pv 0) pe_int (fun _ _ => rfl)) pa_nil)) (pv 1)))
      (pss_cons (ps_asg (pe_op op_fdivW (pe_ix ix_list (pv 0) pe_int (fun _ _ => rfl)) (pv 1)) (pg_sub (pv 0) pe_int set_list))
      (pss_one (ps_ret (pv 2))))) pss_nil)
      (pss_cons (ps_set (i := 3) sc__law_draw.nd rfl (by first | exact Or.inl rfl | exact Or.inr rfl) (pe_op op_add (pe_ix ix_list (pv 0) pe_int (fun _ _ => rfl)) pe_int))
      (pss_cons (ps_asg (pv 3) (pg_sub (pv 0) pe_int set_list))
      (pss_cons (ps_set (i := 4) sc__law_draw.nd rfl (by first | exact Or.inl rfl | exact Or.inr rfl) (pe_op op_add (pe_op op_mulW (pe_op op_add (pe_ix ix_list (pv 0) pe_int (fun _ _ => rfl)) pe_int) (pe_op op_add (pe_op op_add (pe_op op_mulW (pv 3) (pv 3)) (pe_op op_mulW pe_int (pv 3))) pe_int)) (pe_op op_mulW pe_int (pv 3))))
      (pss_cons (ps_set (i := 4) sc__law_draw.nd rfl (by first | exact Or.inl rfl | exact Or.inr rfl) (pe_op op_fdivW (pe_op op_mod (pe_callTy call_int1 (by rfl) T.n_int (by decide +kernel) (pa_cons (pe_op op_add (pe_op op_add (pe_op op_mulW (pv 4) (pv 4)) (pe_op op_mulW pe_int (pv 4))) (pv 3)) pa_nil)) pe_int) pe_int))
      (pss_one (ps_ret (pe_op op_mod (pe_op op_fdivW (pe_op op_mod (pe_callTy call_int1 (by rfl) T.n_int (by decide +kernel) (pa_cons (pe_op op_add (pe_op op_add (pe_op op_mulW (pv 4) (pv 4)) (pe_op op_mulW pe_int (pv 4))) (pv 3)) pa_nil)) pe_int) pe_int) (pv 1))))))))), ?_⟩
    refine ⟨_, rfl, b, _, 0, .int x, rfl, rfl, SqL.of hb, rfl, _, _, rfl, rfl, _, rfl, ite2 (fun hx => ?_) (fun hx => ?_)⟩
    · refine ⟨_, rfl, b, _, 0, .int x, rfl, rfl, SqL.of hb, rfl, .inl ⟨x, rfl, _, rfl, _, _, rfl, rfl, u0, ?_⟩⟩
      refine ⟨_, rfl, b, _, 0, .int x, rfl, rfl, SqL.of hb, rfl, _, rfl, _, _, rfl, rfl, cdiv 30 u0 u1 (by decide) (by decide), ?_⟩
      refine ⟨_, rfl, b, _, 0, 0, rfl, rfl, hb, rfl, ?_⟩
      refine ⟨_, rfl, k _ _ (Int.emod_nonneg _ (by omega)) (Int.emod_lt_of_pos _ u0) ⟨_, rfl⟩ ⟨_, _, _, upd_same, ?_⟩⟩
      exact ⟨Int.ediv_nonneg x0 (by omega), y0, y1, z0, by omega⟩
    · refine ⟨_, rfl, b, _, 2, .int z, rfl, rfl, SqL.of hb, rfl, _, _, rfl, rfl, ?_⟩
      obtain ⟨t, et⟩ : ∃ t, t = z + 1 := ⟨_, rfl⟩
      dsimp only
      rw [← et]
      have t0 : 0 ≤ t := by omega
      have t1 : t < 2 ^ 31 := by omega
      refine ⟨_, rfl, _, rfl, b, _, 2, 2, rfl, rfl, hb, rfl, ?_⟩
      have a1 := mul_lt (a := 31) (b := 31) t0 t1 t0 t1
      have a2 := mul_lt (i := 1009) (a := 10) (b := 31) (by decide) (by decide) t0 t1
      have a3 := mul_lt (i := y + 5) (j := t * t + 1009 * t + 61) (a := 41) (b := 63) (by omega) (by omega) (by omega) (by omega)
      have a4 := mul_lt (i := 9176) (a := 14) (b := 31) (by decide) (by decide) t0 t1
      refine ⟨_, rfl, b, _, 1, .int y, rfl, rfl, SqL.of upd_same, rfl, _, _, rfl, rfl,
        _, rfl, _, rfl, _, _, rfl, rfl, cmul 31 31 t0 t1 t0 t1 (by decide) (by decide) (by decide),
        _, rfl, _, _, rfl, rfl, cmul 10 31 (by decide) (by decide) t0 t1 (by decide) (by decide) (by decide), _, _, rfl, rfl, _, _, rfl, rfl,
        _, _, rfl, rfl, cmul 41 63 (by omega) (by omega) (by omega) (by omega) (by decide) (by decide) (by decide),
        _, rfl, _, _, rfl, rfl, cmul 14 31 (by decide) (by decide) t0 t1 (by decide) (by decide) (by decide), _, _, rfl, rfl, ?_⟩
      obtain ⟨m, em⟩ : ∃ m, m = (y + 5) * (t * t + 1009 * t + 61) + 9176 * t := ⟨_, rfl⟩
      dsimp only
      rw [← em]
      have m0 : 0 ≤ m := by omega
      have m1 : m < 2 ^ 105 := by omega
      refine ⟨_, rfl, _, rfl, _, _, rfl, rfl, cmul 105 105 m0 m1 m0 m1 (by decide) (by decide) (by decide),
        _, rfl, _, _, rfl, rfl, cmul 20 105 (by decide) (by decide) m0 m1 (by decide) (by decide) (by decide), _, _, rfl, rfl,
        _, rfl, _, _, rfl, rfl, .inl ⟨_, rfl, _, _, rfl, rfl, (by show (0 : Int) < 1000000000039; decide), _, _, rfl, rfl, cdiv 8 (by decide) (by decide) (by decide) (by decide), ?_⟩⟩
      obtain ⟨v, ev⟩ : ∃ v, v = (m * m + 524287 * m + t) % 1000000000039 / 131 := ⟨_, rfl⟩
      dsimp only
      rw [← ev]
      have w0 : 0 ≤ (m * m + 524287 * m + t) % 1000000000039 := Int.emod_nonneg _ (by decide)
      have w1 : (m * m + 524287 * m + t) % 1000000000039 < 1000000000039 := Int.emod_lt_of_pos _ (by decide)
      have v0 : 0 ≤ v := by omega
      have v1 : v < 2 ^ 40 := by omega
      refine ⟨_, rfl, _, rfl, _, _, rfl, rfl, cmul 40 40 v0 v1 v0 v1 (by decide) (by decide) (by decide),
        _, rfl, _, _, rfl, rfl, cmul 13 40 (by decide) (by decide) v0 v1 (by decide) (by decide) (by decide), _, _, rfl, rfl,
        _, rfl, _, _, rfl, rfl, .inl ⟨_, rfl, _, _, rfl, rfl, (by show (0 : Int) < 2147483587; decide), _, _, rfl, rfl, cdiv 5 (by decide) (by decide) (by decide) (by decide), _, rfl, _, _, rfl, rfl, u0, ?_⟩⟩
      exact k _ _ (Int.emod_nonneg _ (by omega)) (Int.emod_lt_of_pos _ u0) ⟨_, rfl⟩ ⟨_, _, _, upd_same, x0, y0, y1, by omega, by omega⟩
abbrev s__law_text : Stmt := topS 35
abbrev N__law_text : List Str := ["bag", "size", "k"]
theorem sc__law_text : FnScope ["bag", "size", "k"] ["bag"] (defScope s__law_text) := ⟨rfl, rfl, rfl, by decide +kernel, rfl, by decide +kernel, by decide +kernel⟩

/-! ### drawn texts -/
def spText : Sp := fun vs H Q _ => ∃ (b : Addr) (n : Nat), vs = [.ref b] ∧ Bag H b n ∧ n + 20 < 2 ^ 30 ∧ ∀ l H', Abc l → l.length ≤ 12 → Stp [b] H H' → Bag H' b (n + 14) → Q (Tx l) H'
theorem cl__law_text {f : Addr} {fd : FuncData} (D : Df K mg "_law_text" s__law_text ["bag"] f fd) (T : Nm mg) (c__law_draw : Cl P w K mg base 1 "_law_draw" s__law_draw ["bag", "upto"] spDraw) : Cl P w K mg base 2 "_law_text" s__law_text ["bag"] spText := by
  refine D.cl sc__law_text (fun vs H Q E h => ?_) (fun cdv A outer s H vs Q E hr h => ?_)
  · obtain ⟨b, n, rfl, _⟩ := h
    rfl
  · obtain ⟨b, n, rfl, B, hn, k⟩ := h
    refine ⟨_, (pss_cons (ps_set (i := 1) sc__law_text.nd rfl (by first | exact Or.inl rfl | exact Or.inr rfl) (pe_cl c__law_draw hr (by omega) (pa_cons (pv 0) (pa_cons (pe_ix ix_list (pe_lst (pa_cons pe_int (pa_cons pe_int (pa_cons pe_int (pa_cons pe_int pa_nil))))) (pe_cl c__law_draw hr (by omega) (pa_cons (pv 0) (pa_cons pe_int pa_nil))) (fun _ _ => rfl)) pa_nil))))
      (pss_one (ps_ret (pe_join pe_str (pe_lc (own := [("k", 2)]) rfl sc__law_text.nd (pi_range1 (by rfl) T.n_range (pa_cons (pv 1) pa_nil)) (blkOk_by (own := [("k", 2)]) (N := N__law_text) (sc := defScope s__law_text) (by decide +kernel)) (fun _ _ _ _ _ => (pg_name (i := 2) sc__law_text.nd rfl (by first | exact Or.inl rfl | exact Or.inr rfl))) (fun _ _ _ _ _ => pts_nil) (fun _ _ _ _ _ => (pe_ix ix_str pe_str (pe_cl c__law_draw hr (by omega) (pa_cons (pv 0) (pa_cons pe_int pa_nil))) (fun _ _ => rfl)))))))), ?_⟩
    refine ⟨_, rfl, (by show 4 ≤ sizeLine; decide), fun l nl => ?_⟩
    have S1 : Stp [b] H (upd H l (.lst [.int 3, .int 4, .int 6, .int 13])) := Stp.new nl _
    refine ⟨_, rfl, b, 4, n, rfl, B.upd (B.ne nl), by omega, by decide, by decide, fun d H2 d0 d1 o1 B1 => ?_⟩
    have S2 : Stp [b] H H2 := S1.trans (o1.stp (List.mem_singleton.mpr rfl))
    have hl : H2 l = some (.lst [.int 3, .int 4, .int 6, .int 13]) := o1.at upd_same (B.ne nl).symm
    obtain ⟨u, mu, eu⟩ := pick_int (ns := [3, 4, 6, 13]) d0 d1
    have u0 : 0 < u ∧ u ≤ 13 := by
      simp at mu
      omega
    refine ⟨l, _, d, .int u, rfl, rfl, SqL.of hl, eu, b, u, n + 1, rfl, B1, by omega, u0.1, by omega, fun z H3 z0 z1 o2 B2 => ?_⟩
    have S3 : Stp [b] H H3 := S2.trans (o2.stp (List.mem_singleton.mpr rfl))
    refine ⟨⟨_, rfl⟩, _, rfl, z, rfl, by omega, by omega, fun L nL => ?_⟩
    refine lc_range (lo := 0) (n := z.toNat) (fun i H4 => ∃ cs : List Nat, Abc cs ∧ cs.length = i ∧ H4 L = some (.lst (cs.map fun c => Tx [c])) ∧ Stp [b] H3 H4 ∧ Bag H4 b (n + 2 + i))
      ⟨[], Abc.nil, rfl, upd_same, Stp.new nL _, B2.upd (B2.ne nL)⟩ ?_ ?_
    · rintro i H4 hi ⟨cs, ha, hcl, hL, S4, B4⟩
      refine ⟨rfl, _, rfl, b, 3, _, rfl, B4, by omega, by decide, by decide, fun d H5 d0 d1 o3 B5 => ?_⟩
      obtain ⟨c, mc, ec⟩ := pick (xs := [97, 98, 99]) d0 d1
      have nLb : L ≠ b := (B2.ne nL).symm
      have hL5 : H5 L = some (.lst (cs.map fun c => Tx [c])) := o3.at hL nLb
      have S5 : Stp [b] H4 H5 := o3.stp (List.mem_singleton.mpr rfl)
      have hc : c = 97 ∨ c = 98 ∨ c = 99 := by
        simp at mc
        exact mc
      refine ⟨("abc" : Str), d, c, rfl, rfl, (by rw [abc_lit]; exact szt (by decide)), (by rw [abc_lit]; exact ec), cs.map fun c => Tx [c], hL5, ?_, ?_⟩
      · rw [List.length_map, hcl]
        exact Nat.lt_of_lt_of_le (show i < 100000 by omega) (by decide)
      · refine ⟨cs ++ [c], ha.app (Abc.one hc), by simp [hcl], ?_, ?_, ?_⟩
        · rw [List.map_append]
          exact upd_same
        · exact (S4.trans S5).mut nL
        · exact B5.upd nLb.symm
    · rintro H4 ⟨cs, ha, hcl, hL, S4, B4⟩
      refine ⟨_, L, cs.map (fun c => tx [c]), rfl, rfl, .inl (SqL.of (by rw [List.map_map]; exact hL)), ?_, ?_⟩
      · rw [List.map_map, nil_lit]
        have e : ∀ l : List Nat, (l.map ((fun x : Str => x.length) ∘ fun c => tx [c])).sum = l.length := by
          intro l
          induction l with
          | nil => rfl
          | cons x l ih =>
            rw [List.map_cons, List.sum_cons, ih, List.length_cons]
            show (tx [x]).length + l.length = l.length + 1
            rw [tx_len]
            simp
            omega
        rw [e, List.length_map, tx_len]
        simp
        omega
      · rw [nil_lit, join_abc]
        exact k _ _ ha (by omega) (S3.trans S4) (B4.mono (by omega))
abbrev s__law_near : Stmt := topS 36
abbrev N__law_near : List Str := ["bag", "word", "way", "sign"]
theorem sc__law_near : FnScope ["bag", "word", "way", "sign"] ["bag", "word"] (defScope s__law_near) := ⟨rfl, rfl, rfl, by decide +kernel, rfl, by decide +kernel, by decide +kernel⟩

abbrev s__law_some : Stmt := topS 38
abbrev N__law_some : List Str := ["bag", "pool"]
theorem sc__law_some : FnScope ["bag", "pool"] ["bag", "pool"] (defScope s__law_some) := ⟨rfl, rfl, rfl, by decide +kernel, rfl, by decide +kernel, by decide +kernel⟩

theorem a_lit : ("a" : Str) = tx [97] := by decide +kernel
theorem atx {l m : List Nat} (h : Abc l) (e : l = m) : Abc m := e ▸ h
def spNear : Sp := fun vs H Q _ => ∃ (b : Addr) (n : Nat) (l : List Nat), vs = [.ref b, Tx l] ∧ Bag H b n ∧ n + 10 < 2 ^ 30 ∧ Abc l ∧ l.length ≤ 12 ∧ ∀ m H', Abc m → m.length ≤ 12 → Stp [b] H H' → Bag H' b (n + 3) → Q (Tx m) H'
theorem cl__law_near {f : Addr} {fd : FuncData} (D : Df K mg "_law_near" s__law_near ["bag", "word"] f fd) (T : Nm mg) (c__law_draw : Cl P w K mg base 1 "_law_draw" s__law_draw ["bag", "upto"] spDraw) : Cl P w K mg base 2 "_law_near" s__law_near ["bag", "word"] spNear := by
  refine D.cl sc__law_near (fun vs H Q E h => ?_) (fun cdv A outer s H vs Q E hr h => ?_)
  · obtain ⟨b, n, l, rfl, _⟩ := h
    rfl
  · obtain ⟨b, n, l, rfl, B, hn, ha, hl, k⟩ := h
    refine ⟨_, (pss_cons (ps_par (i := 2) (j := 3) rfl sc__law_near.nd rfl rfl (by decide) rfl rfl (pa_cons (pe_cl c__law_draw hr (by omega) (pa_cons (pv 0) (pa_cons pe_int pa_nil))) (pa_cons (pe_ix ix_str pe_str (pe_cl c__law_draw hr (by omega) (pa_cons (pv 0) (pa_cons pe_int pa_nil))) (fun _ _ => rfl)) pa_nil)) (by rfl))
      (pss_cons (ps_if (pt_cmpR op_lt (pv 2) pe_int (by first | exact nomark _ | rfl)) (pss_one (ps_ret (pv 1))) pss_nil)
      (pss_cons (ps_if (pt_cmpR op_lt (pv 2) pe_int (by first | exact nomark _ | rfl)) (pss_one (ps_ret (pe_slice sl_str (pe_op op_add_str (pe_op op_add_str (pv 1) (pe_op Pg.op_mul_str pe_str (pe_op op_sub (pv 2) pe_int))) (pv 3)) po_none (po_some pe_int)))) pss_nil)
      (pss_cons (ps_if (pt_cmpR op_eq (pv 2) pe_int (by first | exact nomark _ | rfl)) (pss_one (ps_ret (pe_slice sl_str (pe_op op_add_str (pv 1) (pe_op Pg.op_mul_str (pv 3) pe_int)) po_none (po_some pe_int)))) pss_nil)
      (pss_cons (ps_if (pt_cmpR op_eq (pv 2) pe_int (by first | exact nomark _ | rfl)) (pss_one (ps_ret (pe_op op_add_str (pe_slice sl_str (pv 1) po_none (po_some (pe_un un_neg pe_int))) (pv 3)))) pss_nil)
      (pss_cons (ps_if (pt_cmpR op_eq (pv 2) pe_int (by first | exact nomark _ | rfl)) (pss_one (ps_ret (pe_slice sl_str (pv 1) po_none (po_some (pe_un un_neg pe_int))))) pss_nil)
      (pss_one (ps_ret (pe_slice sl_str (pv 1) po_none (po_some (pe_cl c__law_draw hr (by omega) (pa_cons (pv 0) (pa_cons (pe_op op_add (pe_callB call_len_str (by rfl) T.n_len (by decide +kernel) (pa_cons (pv 1) pa_nil)) pe_int) pa_nil))))))))))))), ?_⟩
    refine ⟨_, rfl, b, 8, n, rfl, B, by omega, by decide, by decide, fun way H1 w0 w1 o1 B1 => ?_⟩
    refine ⟨_, rfl, b, 3, n + 1, rfl, B1, by omega, by decide, by decide, fun d H2 d0 d1 o2 B2 => ?_⟩
    have S2 : Stp [b] H H2 := (o1.stp (List.mem_singleton.mpr rfl)).trans (o2.stp (List.mem_singleton.mpr rfl))
    obtain ⟨c, mc, ec⟩ := pick (xs := [97, 98, 99]) d0 d1
    have hc : c = 97 ∨ c = 98 ∨ c = 99 := by
      simp at mc
      exact mc
    refine ⟨("abc" : Str), d, c, rfl, rfl, (by rw [abc_lit]; exact szt (by decide)), (by rw [abc_lit]; exact ec), _, _, rfl, ?_⟩
    refine ⟨_, rfl, _, _, rfl, rfl, _, rfl, ite2 (fun h1 => ?_) (fun h1 => ?_)⟩
    · exact ⟨_, rfl, k _ _ ha hl S2 (B2.mono (by omega))⟩
    have h1 : ¬ way < 2 := fun q => h1 (decide_eq_true q)
    refine ⟨_, rfl, _, _, rfl, rfl, _, rfl, ite2 (fun h2 => ?_) (fun h2 => ?_)⟩
    · have h2 : way < 4 := of_decide_eq_true h2
      refine ⟨_, rfl, _, rfl, _, _, rfl, rfl, tx [97], way - 2, congrArg V.str a_lit, rfl, mulOk 97 (by omega) (by omega), ?_⟩
      refine ⟨tx l, tx (List.replicate (way - 2).toNat 97), rfl, congrArg V.str (tx_mul _ _), (by rw [tx_len, tx_len, List.length_replicate]; exact sz (by omega)), ?_⟩
      refine ⟨_, rfl, tx (l ++ List.replicate (way - 2).toNat 97), tx [c], congrArg V.str (tx_app _ _), rfl, (by rw [tx_len, tx_len, List.length_append, List.length_replicate, List.length_singleton]; exact sz (by omega)), 12, rfl, ?_⟩
      refine ⟨tx (l ++ List.replicate (way - 2).toNat 97 ++ [c]), congrArg V.str (tx_app _ _), szt (by simp; omega), ?_⟩
      show Q _ _
      rw [show cutS _ none (some 12) = _ from tx_upto _ 12]
      exact k _ _ (((ha.app (Abc.rep _ (.inl rfl))).app (Abc.one hc)).take 12) (by rw [List.length_take]; omega) S2 (B2.mono (by omega))
    have h2 : ¬ way < 4 := fun q => h2 (decide_eq_true q)
    refine ⟨_, rfl, rfl, _, rfl, ite2 (fun h3 => ?_) (fun h3 => ?_)⟩
    · refine ⟨_, rfl, _, rfl, tx [c], 12, rfl, rfl, mulOk c (by decide) (by decide), ?_⟩
      refine ⟨tx l, tx (List.replicate (12 : Int).toNat c), rfl, congrArg V.str (tx_mul _ _), (by rw [tx_len, tx_len, List.length_replicate]; exact sz (by simp; omega)), 12, rfl, ?_⟩
      refine ⟨tx (l ++ List.replicate (12 : Int).toNat c), congrArg V.str (tx_app _ _), szt (by simp; omega), ?_⟩
      show Q _ _
      rw [show cutS _ none (some 12) = _ from tx_upto _ 12]
      exact k _ _ ((ha.app (Abc.rep _ hc)).take 12) (by rw [List.length_take]; omega) S2 (B2.mono (by omega))
    refine ⟨_, rfl, rfl, _, rfl, ite2 (fun h4 => ?_) (fun h4 => ?_)⟩
    · refine ⟨_, rfl, 1, rfl, -1, rfl, tx l, rfl, szt (by omega), _, rfl, tx l.dropLast, tx [c], congrArg V.str (tx_init l), rfl, (by rw [tx_len, tx_len, List.length_dropLast, List.length_singleton]; exact sz (by omega)), ?_⟩
      show Q _ _
      rw [tx_app]
      exact k _ _ (ha.init.app (Abc.one hc)) (by rw [List.length_append, List.length_dropLast, List.length_singleton]; omega) S2 (B2.mono (by omega))
    refine ⟨_, rfl, rfl, _, rfl, ite2 (fun h5 => ?_) (fun h5 => ?_)⟩
    · refine ⟨_, rfl, 1, rfl, -1, rfl, tx l, rfl, szt (by omega), ?_⟩
      show Q _ _
      rw [show cutS _ none (some (-1)) = _ from tx_init l]
      exact k _ _ ha.init (by rw [List.length_dropLast]; omega) S2 (B2.mono (by omega))
    · refine ⟨_, rfl, _, rfl, _, rfl, tx l, rfl, szt (by omega), _, _, rfl, rfl, b, _, n + 2, rfl, B2, by omega, ?_, ?_, fun d H3 d0 d1 o3 B3 => ?_⟩
      · have := tx_len l
        omega
      · have := tx_len l
        omega
      obtain ⟨e, rfl⟩ := Int.eq_ofNat_of_zero_le d0
      refine ⟨_, rfl, tx l, rfl, szt (by omega), ?_⟩
      show Q _ _
      rw [show cutS _ none (some (e : Int)) = _ from tx_upto l e]
      exact k _ _ (ha.take _) (by rw [List.length_take]; omega) (S2.trans (o3.stp (List.mem_singleton.mpr rfl))) B3
/-- a pool: some texts -/
def Pool (H : Hp) (p : Addr) (ls : List (List Nat)) : Prop := H p = some (.lst (ls.map Tx)) ∧ ∀ l ∈ ls, Abc l ∧ l.length ≤ 12
def spSome : Sp := fun vs H Q _ => ∃ (b p : Addr) (n : Nat) (ls : List (List Nat)), vs = [.ref b, .ref p] ∧ Bag H b n ∧ n + 40 < 2 ^ 30 ∧ Pool H p ls ∧ ls.length < 2 ^ 20 ∧ b ≠ p ∧ ∀ m H', Abc m → m.length ≤ 12 → Stp [b] H H' → Bag H' b (n + 20) → Q (Tx m) H'
theorem cl__law_some {f : Addr} {fd : FuncData} (D : Df K mg "_law_some" s__law_some ["bag", "pool"] f fd) (T : Nm mg) (c__law_draw : Cl P w K mg base 1 "_law_draw" s__law_draw ["bag", "upto"] spDraw)
    (c__law_near : Cl P w K mg base 2 "_law_near" s__law_near ["bag", "word"] spNear) (c__law_text : Cl P w K mg base 2 "_law_text" s__law_text ["bag"] spText) : Cl P w K mg base 3 "_law_some" s__law_some ["bag", "pool"] spSome := by
  refine D.cl sc__law_some (fun vs H Q E h => ?_) (fun cdv A outer s H vs Q E hr h => ?_)
  · obtain ⟨b, p, n, ls, rfl, _⟩ := h
    rfl
  · obtain ⟨b, p, n, ls, rfl, B, hn, ⟨hp, ha⟩, hls, ne, k⟩ := h
    refine ⟨_, (pss_cons (ps_if (PW.pt (pw_and (pt_cmpR (op_neD hr.units) (pv 1) (pe_lst pa_nil) (by first | exact nomark _ | rfl)) (pw_and1 (pt_cmpR op_gt (pe_cl c__law_draw hr (by omega) (pa_cons (pv 0) (pa_cons pe_int pa_nil))) pe_int (by first | exact nomark _ | rfl))))) (pss_one (ps_ret (pe_cl c__law_near hr (by omega) (pa_cons (pv 0) (pa_cons (pe_ix ix_list (pv 1) (pe_cl c__law_draw hr (by omega) (pa_cons (pv 0) (pa_cons (pe_callB call_len_seq (by rfl) T.n_len (by decide +kernel) (pa_cons (pv 1) pa_nil)) pa_nil))) (fun _ _ => rfl)) pa_nil))))) pss_nil)
      (pss_one (ps_ret (pe_cl c__law_text hr (by omega) (pa_cons (pv 0) pa_nil))))), ?_⟩
    have npb : p ∉ [b] := fun m => ne (List.mem_singleton.mp m).symm
    have fin : ∀ H1 m, Stp [b] H H1 → Bag H1 b m → m ≤ n + 2 → tRet (tCl spText (tCons (tVar 0) tNil)) { nx := fun _ H' => Q .non H', rt := Q } (start N__law_some [.ref b, .ref p]) H1 := fun H1 m S1 B1 hm => by
      refine ⟨_, rfl, b, m, rfl, B1, by omega, fun l H2 hl hll S2 B2 => ?_⟩
      exact k l H2 hl hll (S1.trans S2) (B2.mono (by omega))
    refine ⟨_, rfl, Nat.zero_le _, fun q hq => ?_⟩
    have S0 : Stp [b] H (upd H q (.lst [])) := Stp.new hq _
    have B0 := B.upd (o := .lst []) (B.ne hq)
    refine ne_nil_strs (SqL.of (S0.kp _ _ npb hp)) (fun l m => (ha l m).1) upd_same ?_
    cases ls with
    | nil => exact ⟨false, rfl, fin _ n S0 B0 (by omega)⟩
    | cons l0 ls =>
    refine ⟨true, rfl, ?_⟩
    refine ⟨_, rfl, b, 3, n, rfl, B0, by omega, by decide, by decide, fun d H1 d0 d1 o1 B1 => ?_⟩
    have S1 : Stp [b] H H1 := S0.trans (o1.stp (List.mem_singleton.mpr rfl))
    refine ⟨_, _, rfl, rfl, _, rfl, ite2 (fun h1 => ?_) (fun h1 => ?_)⟩
    · refine ⟨_, rfl, _, rfl, _, rfl, _, rfl, p, _, rfl, .inl (SqL.of (S1.kp _ _ npb hp)), b, _, n + 1, rfl, B1, by omega, ?_, ?_, fun e H2 e0 e1 o2 B2 => ?_⟩
      · rw [List.length_map, List.length_cons]
        omega
      · rw [List.length_map]
        omega
      have S2 : Stp [b] H H2 := S1.trans (o2.stp (List.mem_singleton.mpr rfl))
      obtain ⟨v, mv, ev⟩ := pick e0 e1
      obtain ⟨m, mm, rfl⟩ := List.mem_map.mp mv
      refine ⟨p, _, e, Tx m, rfl, rfl, SqL.of (S2.kp _ _ npb hp), ev, b, n + 2, m, rfl, B2, by omega, (ha m mm).1, (ha m mm).2, fun m' H3 a3 l3 S3 B3 => ?_⟩
      exact k m' H3 a3 l3 (S2.trans S3) (B3.mono (by omega))
    · exact fin H1 (n + 1) S1 B1 (by omega)
/-- values of a column -/
def vD : Option (List Nat) → D
  | none => .non
  | some l => .str l
def vV : Option (List Nat) → V
  | none => .non
  | some l => Tx l
theorem rv_vs {K : PySem.W.Frag} {S : List Addr} {H : Hp} : ∀ (os : List (Option (List Nat))), (∀ l, some l ∈ os → l.length ≤ 100000) → RvL K S H (os.map vV) (os.map vD)
  | [], _ => .nil
  | none :: os, h => .cons .non (rv_vs os fun l m => h l (List.mem_cons_of_mem _ m))
  | some x :: os, h => .cons (.str x (h x List.mem_cons_self)) (rv_vs os fun l m => h l (List.mem_cons_of_mem _ m))
abbrev s_is_rule : Stmt := topS 14
abbrev N_is_rule : List Str := ["value", "lacks", "low", "high"]
theorem sc_is_rule : FnScope ["value", "lacks", "low", "high"] ["value"] (defScope s_is_rule) := ⟨rfl, rfl, rfl, by decide +kernel, rfl, by decide +kernel, by decide +kernel⟩

abbrev s_is_lacks_part : Stmt := topS 15
abbrev N_is_lacks_part : List Str := ["part"]
theorem sc_is_lacks_part : FnScope ["part"] ["part"] (defScope s_is_lacks_part) := ⟨rfl, rfl, rfl, by decide +kernel, rfl, by decide +kernel, by decide +kernel⟩

abbrev s_is_low_part : Stmt := topS 16
abbrev N_is_low_part : List Str := ["part"]
theorem sc_is_low_part : FnScope ["part"] ["part"] (defScope s_is_low_part) := ⟨rfl, rfl, rfl, by decide +kernel, rfl, by decide +kernel, by decide +kernel⟩

abbrev s_is_high_part : Stmt := topS 17
abbrev N_is_high_part : List Str := ["part"]
theorem sc_is_high_part : FnScope ["part"] ["part"] (defScope s_is_high_part) := ⟨rfl, rfl, rfl, by decide +kernel, rfl, by decide +kernel, by decide +kernel⟩

abbrev s_is_lost : Stmt := topS 18
abbrev N_is_lost : List Str := ["part"]
theorem sc_is_lost : FnScope ["part"] ["part"] (defScope s_is_lost) := ⟨rfl, rfl, rfl, by decide +kernel, rfl, by decide +kernel, by decide +kernel⟩

abbrev s_is_letter_number : Stmt := topS 19
abbrev N_is_letter_number : List Str := ["part"]
theorem sc_is_letter_number : FnScope ["part"] ["part"] (defScope s_is_letter_number) := ⟨rfl, rfl, rfl, by decide +kernel, rfl, by decide +kernel, by decide +kernel⟩

/-! ### what is a rule -/
def isIn (ss : List Str) : D → Bool
  | .str l => decide (tx l ∈ ss)
  | _ => false
def isLost : D → Bool
  | .str l => decide (tx l = ("lost" : Str))
  | _ => false
def isNum : D → Bool
  | .int i => decide (0 ≤ i) && decide (i ≤ 6)
  | _ => false
def isLow (d : D) : Bool := isLost d || isNum d
def isHigh : D → Bool
  | .tup [a, b] => isIn ["cut", "beyond"] a && isNum b
  | d => isLost d
def isRule : D → Bool
  | .tup [a, b, c] => isIn ["many", "some", "hidden"] a && isLow b && isHigh c
  | _ => false
/-- a def that tells a truth of any value -/
def spTell (K : PySem.W.Frag) (t : D → Bool) : Sp := fun vs H Q _ => ∃ (S : List Addr) (v : V) (d : D), vs = [v] ∧ Rv K S H v d ∧ ∀ H' b, Stp [] H H' → b = t d → Q (.bl b) H'
theorem spTell.len {K : PySem.W.Frag} {t : D → Bool} {vs : List V} {H : Hp} {Q : VK} {E : XK} (h : spTell K t vs H Q E) : vs.length = 1 := by
  obtain ⟨S, v, d, rfl, _⟩ := h
  rfl
theorem bl_str {l : List Nat} {s : Str} : decide (Tx l = V.str s) = decide (tx l = s) := by
  by_cases h : tx l = s
  · rw [decide_eq_true (congrArg V.str h), decide_eq_true h]
  · rw [decide_eq_false h, decide_eq_false (fun q => h (V.str.inj q))]
/-- x in (..), texts: the tuple is made on the way -/
theorem in_strs {K : PySem.W.Frag} {H : Hp} {l : List Nat} {ss : List Str} {p : Addr} {Q : VK} (hp : SqL K H p (ss.map V.str) ∨ SqT K H p (ss.map V.str)) (k : Q (.bl (decide (tx l ∈ ss))) H) : rIn K false (Tx l) (.ref p) H Q := by
  refine ⟨p, ss.map V.str, rfl, hp, rfl, ?_, ?_⟩
  · rw [List.all_map]
    exact List.all_eq_true.mpr fun _ _ => rfl
  · show Q (.bl (inV (.str (tx l)) (ss.map V.str))) H
    rw [inV_str]
    exact k
theorem cl_is_lost {f : Addr} {fd : FuncData} (D : Df K mg "is_lost" s_is_lost ["part"] f fd) (T : Nm mg) : Cl P w K mg base 1 "is_lost" s_is_lost ["part"] (spTell K isLost) := by
  refine D.cl sc_is_lost (fun vs H Q E h => h.len) (fun cdv A outer s H vs Q E hr h => ?_)
  obtain ⟨S, v, d, rfl, r, k⟩ := h
  refine ⟨_, (pss_one (ps_ret (pe_and (pe_tyIs (T := "str") Mono.var (pv 0) T.n_type T.n_str (by decide +kernel)) (pe_one (pe_cmpR op_eq (pv 0) pe_str (by first | exact nomark _ | rfl)))))), ?_⟩
  refine ⟨_, rfl, d.old, r.old, _, rfl, ?_⟩
  cases r with
  | str l hl => exact ⟨_, rfl, rfl, by
      show Q (.bl (decide (Tx l = V.str "lost"))) H
      exact k H _ (Stp.refl _ _) bl_str⟩
  | _ => exact k H _ (Stp.refl _ _) rfl
theorem cl_is_letter_number {f : Addr} {fd : FuncData} (D : Df K mg "is_letter_number" s_is_letter_number ["part"] f fd) (T : Nm mg) : Cl P w K mg base 1 "is_letter_number" s_is_letter_number ["part"] (spTell K isNum) := by
  refine D.cl sc_is_letter_number (fun vs H Q E h => h.len) (fun cdv A outer s H vs Q E hr h => ?_)
  obtain ⟨S, v, d, rfl, r, k⟩ := h
  refine ⟨_, (pss_one (ps_ret (pe_and (pe_tyIs (T := "int") Mono.var (pv 0) T.n_type T.n_int (by decide +kernel)) (pe_one (pe_chain op_le op_le pe_int (pv 0) pe_int))))), ?_⟩
  refine ⟨_, rfl, d.old, r.old, _, rfl, ?_⟩
  cases r with
  | int i =>
    refine ⟨_, rfl, _, _, rfl, rfl, _, rfl, ite2 (fun h => ?_) (fun h => ?_)⟩
    · exact ⟨_, _, rfl, rfl, k H _ (Stp.refl _ _) (by show _ = (decide (0 ≤ i) && decide (i ≤ 6)); rw [h]; rfl)⟩
    · exact k H _ (Stp.refl _ _) (by show _ = (decide (0 ≤ i) && decide (i ≤ 6)); rw [Bool.eq_false_iff.mpr h]; rfl)
  | _ => exact k H _ (Stp.refl _ _) rfl
theorem cl_is_lacks_part {f : Addr} {fd : FuncData} (D : Df K mg "is_lacks_part" s_is_lacks_part ["part"] f fd) (T : Nm mg) : Cl P w K mg base 1 "is_lacks_part" s_is_lacks_part ["part"] (spTell K (isIn ["many", "some", "hidden"])) := by
  refine D.cl sc_is_lacks_part (fun vs H Q E h => h.len) (fun cdv A outer s H vs Q E hr h => ?_)
  obtain ⟨S, v, d, rfl, r, k⟩ := h
  refine ⟨_, (pss_one (ps_ret (pe_and (pe_tyIs (T := "str") Mono.var (pv 0) T.n_type T.n_str (by decide +kernel)) (pe_one (pe_cmpR op_in_seq (pv 0) (pe_tup (pa_cons pe_str (pa_cons pe_str (pa_cons pe_str pa_nil)))) (by first | exact nomark _ | rfl)))))), ?_⟩
  refine ⟨_, rfl, d.old, r.old, _, rfl, ?_⟩
  cases r with
  | str l hl => exact ⟨_, rfl, (by show 3 ≤ sizeLine; decide), fun p np => in_strs (ss := ["many", "some", "hidden"]) (.inr (SqT.of upd_same)) (k _ _ (Stp.new np _) rfl)⟩
  | _ => exact k H _ (Stp.refl _ _) rfl
theorem cl_is_low_part {f : Addr} {fd : FuncData} (D : Df K mg "is_low_part" s_is_low_part ["part"] f fd) (T : Nm mg) (c_is_lost : Cl P w K mg base 1 "is_lost" s_is_lost ["part"] (spTell K isLost)) (c_is_letter_number : Cl P w K mg base 1 "is_letter_number" s_is_letter_number ["part"] (spTell K isNum)) :
    Cl P w K mg base 2 "is_low_part" s_is_low_part ["part"] (spTell K isLow) := by
  refine D.cl sc_is_low_part (fun vs H Q E h => h.len) (fun cdv A outer s H vs Q E hr h => ?_)
  obtain ⟨S, v, d, rfl, r, k⟩ := h
  refine ⟨_, (pss_one (ps_ret (pe_or (pe_cl c_is_lost hr (by omega) (pa_cons (pv 0) pa_nil)) (pe_one (pe_cl c_is_letter_number hr (by omega) (pa_cons (pv 0) pa_nil)))))), ?_⟩
  refine ⟨_, rfl, S, v, d, rfl, r, fun H1 b S1 eb => ⟨_, rfl, ite2 (fun h => ?_) (fun h => ?_)⟩⟩
  · exact k H1 _ S1 (by unfold isLow; rw [← eb, h]; rfl)
  · exact ⟨_, rfl, S, v, d, rfl, r.up S1, fun H2 b2 S2 eb2 => k H2 _ (S1.trans S2) (by unfold isLow; rw [← eb, ← eb2, Bool.eq_false_iff.mpr h]; rfl)⟩
theorem isHigh_no {d : D} (h : ∀ a b, d ≠ .tup [a, b]) : isHigh d = isLost d := by
  cases d with
  | tup ds => match ds, h with
    | [], _ => rfl
    | [_], _ => rfl
    | [a, b], h => exact absurd rfl (h a b)
    | _ :: _ :: _ :: _, _ => rfl
  | _ => rfl
theorem two {α : Type} {l : List α} (h : l.length = 2) : ∃ a b, l = [a, b] := by
  match l, h with
  | [a, b], _ => exact ⟨a, b, rfl⟩
theorem three {α : Type} {l : List α} (h : l.length = 3) : ∃ a b c, l = [a, b, c] := by
  match l, h with
  | [a, b, c], _ => exact ⟨a, b, c, rfl⟩
theorem RvL.two {K : PySem.W.Frag} {S : List Addr} {H : Hp} {vs : List V} {a b : D} (r : RvL K S H vs [a, b]) : ∃ u v, vs = [u, v] ∧ Rv K S H u a ∧ Rv K S H v b := by
  cases r with
  | cons h1 r => cases r with
    | cons h2 r => cases r; exact ⟨_, _, rfl, h1, h2⟩
theorem RvL.three {K : PySem.W.Frag} {S : List Addr} {H : Hp} {vs : List V} {a b c : D} (r : RvL K S H vs [a, b, c]) : ∃ u v w, vs = [u, v, w] ∧ Rv K S H u a ∧ Rv K S H v b ∧ Rv K S H w c := by
  cases r with
  | cons h1 r => cases r with
    | cons h2 r => cases r with
      | cons h3 r => cases r; exact ⟨_, _, _, rfl, h1, h2, h3⟩
theorem at2 {α : Type} {a b c : α} {l : List α} : atI (a :: b :: c :: l) 2 = some c := atI_nat (j := 2) rfl
theorem cl_is_high_part {f : Addr} {fd : FuncData} (D : Df K mg "is_high_part" s_is_high_part ["part"] f fd) (T : Nm mg) (c_is_lost : Cl P w K mg base 1 "is_lost" s_is_lost ["part"] (spTell K isLost)) (c_is_letter_number : Cl P w K mg base 1 "is_letter_number" s_is_letter_number ["part"] (spTell K isNum)) :
    Cl P w K mg base 2 "is_high_part" s_is_high_part ["part"] (spTell K isHigh) := by
  refine D.cl sc_is_high_part (fun vs H Q E h => h.len) (fun cdv A outer s H vs Q E hr h => ?_)
  obtain ⟨S, v, d, rfl, r, k⟩ := h
  refine ⟨_, (pss_cons (ps_if (PW.pt (pw_or (pt_tyNot (T := "tuple") Mono.var (pv 0) T.n_type T.n_tuple (by decide +kernel)) (pw_or1 (pt_cmpR op_ne (pe_callB call_len_seq (by rfl) T.n_len (by decide +kernel) (pa_cons (pv 0) pa_nil)) pe_int (by first | exact nomark _ | rfl))))) (pss_one (ps_ret (pe_cl c_is_lost hr (by omega) (pa_cons (pv 0) pa_nil)))) pss_nil)
      (pss_one (ps_ret (pe_and (pe_tyIs (T := "str") (Mono.ixT Mono.var Mono.c) (pe_ix ix_tup (pv 0) pe_int (fun _ _ => rfl)) T.n_type T.n_str (by decide +kernel)) (pe_and (pe_cmpR op_in_seq (pe_ix ix_tup (pv 0) pe_int (fun _ _ => rfl)) (pe_tup (pa_cons pe_str (pa_cons pe_str pa_nil))) (by first | exact nomark _ | rfl)) (pe_one (pe_cl c_is_letter_number hr (by omega) (pa_cons (pe_ix ix_tup (pv 0) pe_int (fun _ _ => rfl)) pa_nil)))))))), ?_⟩
  have no : (∀ a b, d ≠ .tup [a, b]) → ∀ H1, H1 = H → ∃ x, (L2.start N_is_high_part [v])[0]? = some (some x) ∧ spTell K isLost [x] H1 Q E0 := fun n H1 e => by
    subst e
    exact ⟨v, rfl, S, v, d, rfl, r, fun H2 b S2 eb => k H2 b S2 (by rw [isHigh_no n]; exact eb)⟩
  refine ⟨_, rfl, d.old, r.old, ite2 (fun h => ?_) (fun h => ?_)⟩
  · refine no (fun a b e => ?_) H rfl
    rw [e] at h
    exact absurd h (by simp [Pv.D.old, Dt.ty])
  · obtain ⟨ds, rfl⟩ : ∃ ds, d = .tup ds   := Pv.D.tup_of (by
      have h2 := Bool.eq_false_iff.mpr h
      simpa [Pv.D.ty] using h2)
    cases r with
    | tup hs hl rl =>
      rename_i a vs
      refine ⟨_, rfl, a, _, rfl, .inr hs, rfl, _, rfl, ite2 (fun h3 => ?_) (fun h3 => ?_)⟩
      · refine no (fun x y e => ?_) H rfl
        cases e
        rw [rl.len] at h3
        exact absurd h3 (by simp)
      · obtain ⟨x, y, rfl⟩ := two (l := ds) (by
          rw [rl.len] at h3
          have h2 := Bool.eq_false_iff.mpr h3
          simp at h2
          omega)
        obtain ⟨u, v, rfl, r1, r2⟩ := RvL.two rl
        refine ⟨_, rfl, a, _, 0, u, rfl, rfl, hs, at0, x.old, r1.old, _, rfl, ?_⟩
        cases r1 with
        | str l hl =>
          refine ⟨_, rfl, a, _, 0, Tx l, rfl, rfl, hs, at0, (by show 2 ≤ sizeLine; decide), fun p np => in_strs (ss := ["cut", "beyond"]) (.inr (SqT.of upd_same)) ⟨_, rfl, ite2 (fun h => ?_) (fun h => ?_)⟩⟩
          · have S1 : Stp [] H (upd H p (.tup [.str "cut", .str "beyond"])) := Stp.new np _
            refine ⟨_, rfl, a, _, 1, v, rfl, rfl, sqt_stp S1 Lsts.nil hs, at1, S, v, y, rfl, r2.up S1, fun H2 b S2 eb => k H2 b (S1.trans S2) ?_⟩
            show b = (decide (tx l ∈ _) && isNum y)
            rw [h, eb]
            rfl
          · refine k _ _ (Stp.new np _) ?_
            show false = (decide (tx l ∈ _) && isNum y)
            rw [Bool.eq_false_iff.mpr h]
            rfl
        | _ => exact k H _ (Stp.refl _ _) rfl
theorem nt {b : Bool} (h : (!b) = true) : b = false := by simpa using h
theorem nf {b : Bool} (h : ¬ (!b) = true) : b = true := by simpa using h
theorem notin_strs {K : PySem.W.Frag} {H : Hp} {l : List Nat} {ss : List Str} {p : Addr} {Q : VK} (hp : SqL K H p (ss.map V.str) ∨ SqT K H p (ss.map V.str)) (k : Q (.bl (!decide (tx l ∈ ss))) H) : rIn K true (Tx l) (.ref p) H Q := by
  refine ⟨p, ss.map V.str, rfl, hp, rfl, ?_, ?_⟩
  · rw [List.all_map]
    exact List.all_eq_true.mpr fun _ _ => rfl
  · show Q (.bl (!inV (.str (tx l)) (ss.map V.str))) H
    rw [inV_str]
    exact k
theorem isRule_no {d : D} (h : ∀ a b c, d ≠ .tup [a, b, c]) : isRule d = false := by
  cases d with
  | tup ds => match ds, h with
    | [], _ => rfl
    | [_], _ => rfl
    | [_, _], _ => rfl
    | [a, b, c], h => exact absurd rfl (h a b c)
    | _ :: _ :: _ :: _ :: _, _ => rfl
  | _ => rfl
theorem cl_is_rule {f : Addr} {fd : FuncData} (D : Df K mg "is_rule" s_is_rule ["value"] f fd) (T : Nm mg) (c_is_lacks_part : Cl P w K mg base 1 "is_lacks_part" s_is_lacks_part ["part"] (spTell K (isIn ["many", "some", "hidden"])))
    (c_is_low_part : Cl P w K mg base 2 "is_low_part" s_is_low_part ["part"] (spTell K isLow)) (c_is_high_part : Cl P w K mg base 2 "is_high_part" s_is_high_part ["part"] (spTell K isHigh)) : Cl P w K mg base 3 "is_rule" s_is_rule ["value"] (spTell K isRule) := by
  refine D.cl sc_is_rule (fun vs H Q E h => h.len) (fun cdv A outer s H vs Q E hr h => ?_)
  obtain ⟨S, v, d, rfl, r, k⟩ := h
  refine ⟨_, (pss_cons (ps_if (PW.pt (pw_or (pt_tyNot (T := "tuple") Mono.var (pv 0) T.n_type T.n_tuple (by decide +kernel)) (pw_or1 (pt_cmpR op_ne (pe_callB call_len_seq (by rfl) T.n_len (by decide +kernel) (pa_cons (pv 0) pa_nil)) pe_int (by first | exact nomark _ | rfl))))) (pss_one (ps_ret pe_bl)) pss_nil)
      (pss_cons (ps_asg (pv 0) (pg_tup rfl (pgs_cons (pg_name (i := 1) sc_is_rule.nd rfl (by first | exact Or.inl rfl | exact Or.inr rfl)) (pgs_cons (pg_name (i := 2) sc_is_rule.nd rfl (by first | exact Or.inl rfl | exact Or.inr rfl)) (pgs_cons (pg_name (i := 3) sc_is_rule.nd rfl (by first | exact Or.inl rfl | exact Or.inr rfl)) pgs_nil (by rfl)) (by rfl)) (by rfl)) (by rfl) (by rfl)))
      (pss_one (ps_ret (pe_and (pe_cl c_is_lacks_part hr (by omega) (pa_cons (pv 1) pa_nil)) (pe_and (pe_cl c_is_low_part hr (by omega) (pa_cons (pv 2) pa_nil)) (pe_one (pe_cl c_is_high_part hr (by omega) (pa_cons (pv 3) pa_nil))))))))), ?_⟩
  refine ⟨_, rfl, d.old, r.old, ite2 (fun h => ?_) (fun h => ?_)⟩
  · exact k H _ (Stp.refl _ _) (isRule_no fun a b c e => by rw [e] at h; exact absurd h (by simp [Pv.D.old, Dt.ty])).symm
  · obtain ⟨ds, rfl⟩ : ∃ ds, d = .tup ds := Pv.D.tup_of (by
      have h2 := Bool.eq_false_iff.mpr h
      simpa [Pv.D.ty] using h2)
    cases r with
    | tup hs hl rl =>
      rename_i a vs
      refine ⟨_, rfl, a, _, rfl, .inr hs, rfl, _, rfl, ite2 (fun h3 => ?_) (fun h3 => ?_)⟩
      · exact k H _ (Stp.refl _ _) (isRule_no fun x y z e => by
          cases e
          rw [rl.len] at h3
          exact absurd h3 (by simp)).symm
      · obtain ⟨x, y, z, rfl⟩ := three (l := ds) (by
          rw [rl.len] at h3
          have h2 := Bool.eq_false_iff.mpr h3
          simp at h2
          omega)
        obtain ⟨u1, u2, u3, rfl, r1, r2, r3⟩ := RvL.three rl
        refine ⟨_, rfl, a, _, rfl, hs, rfl, _, _, rfl, _, _, rfl, _, _, rfl, rfl, ?_⟩
        refine ⟨_, rfl, S, u1, x, rfl, r1, fun H1 b1 S1 e1 => ⟨_, rfl, ite2 (fun h4 => ?_) (fun h4 => ?_)⟩⟩
        · refine ⟨_, rfl, S, u2, y, rfl, r2.up S1, fun H2 b2 S2 e2 => ⟨_, rfl, ite2 (fun h5 => ?_) (fun h5 => ?_)⟩⟩
          · refine ⟨_, rfl, S, u3, z, rfl, (r3.up S1).up S2, fun H3 b3 S3 e3 => k H3 _ ((S1.trans S2).trans S3) ?_⟩
            show b3 = (isIn _ x && isLow y && isHigh z)
            rw [← e1, ← e2, ← e3, h4, h5]
            rfl
          · refine k H2 _ (S1.trans S2) ?_
            show false = (isIn _ x && isLow y && isHigh z)
            rw [← e1, ← e2, h4, Bool.eq_false_iff.mpr h5]
            rfl
        · refine k H1 _ S1 ?_
          show false = (isIn _ x && isLow y && isHigh z)
          rw [← e1, Bool.eq_false_iff.mpr h4]
          rfl
abbrev s_is_text : Stmt := topS 7
abbrev N_is_text : List Str := ["value"]
theorem sc_is_text : FnScope ["value"] ["value"] (defScope s_is_text) := ⟨rfl, rfl, rfl, by decide +kernel, rfl, by decide +kernel, by decide +kernel⟩

abbrev s_is_value : Stmt := topS 12
abbrev N_is_value : List Str := ["value"]
theorem sc_is_value : FnScope ["value"] ["value"] (defScope s_is_value) := ⟨rfl, rfl, rfl, by decide +kernel, rfl, by decide +kernel, by decide +kernel⟩

abbrev s_is_page : Stmt := topS 20
abbrev N_is_page : List Str := ["value", "inner"]
theorem sc_is_page : FnScope ["value", "inner"] ["value"] (defScope s_is_page) := ⟨rfl, rfl, rfl, by decide +kernel, rfl, by decide +kernel, by decide +kernel⟩

/-! ### what is a page -/
def abcB (l : List Nat) : Bool := l.all fun c => decide (c = 97 ∨ c = 98 ∨ c = 99)
theorem abcB_iff {l : List Nat} : abcB l = true ↔ Abc l := by
  unfold abcB
  rw [List.all_eq_true]
  exact ⟨fun h c m => of_decide_eq_true (h c m), fun h c m => decide_eq_true (h c m)⟩
def isTxt : D → Bool
  | .str l => abcB l
  | _ => false
def isVal : D → Bool
  | .non => true
  | d => isTxt d
def isPage : D → Bool
  | .lst ds => !ds.isEmpty && ds.all isVal
  | _ => false
theorem cl_is_text {f : Addr} {fd : FuncData} (D : Df K mg "is_text" s_is_text ["value"] f fd) (T : Nm mg) : Cl P w K mg base 1 "is_text" s_is_text ["value"] (spTell K isTxt) := by
  refine D.cl sc_is_text (fun vs H Q E h => h.len) (fun cdv A outer s H vs Q E hr h => ?_)
  obtain ⟨S, v, d, rfl, r, k⟩ := h
  refine ⟨_, (pss_one (ps_ret (pe_and (pe_tyIs (T := "str") Mono.var (pv 0) T.n_type T.n_str (by decide +kernel)) (pe_one (pe_cmpR op_eq (pe_bm PySem.F.plainAttrs_str PySem.F.slot_str_strip PySem.F.type_str_strip mt_stripChars (pv 0) (pa_cons pe_str pa_nil)) pe_str (by first | exact nomark _ | rfl)))))), ?_⟩
  refine ⟨_, rfl, d.old, r.old, _, rfl, ?_⟩
  cases r with
  | str l hl =>
    refine ⟨_, rfl, rfl, tx l, ("abc" : Str), rfl, rfl, szt hl, rfl, ?_⟩
    refine k H _ (Stp.refl _ _) ?_
    rw [abc_lit, nil_lit, Bool.eq_iff_iff]
    show _ ↔ abcB l = true
    rw [abcB_iff]
    exact ⟨fun h => (strip_abc l).mp (V.str.inj (of_decide_eq_true h)), fun h => decide_eq_true (congrArg V.str ((strip_abc l).mpr h))⟩
  | _ => exact k H _ (Stp.refl _ _) rfl
theorem cl_is_value {f : Addr} {fd : FuncData} (D : Df K mg "is_value" s_is_value ["value"] f fd) (T : Nm mg) (c_is_text : Cl P w K mg base 1 "is_text" s_is_text ["value"] (spTell K isTxt)) : Cl P w K mg base 2 "is_value" s_is_value ["value"] (spTell K isVal) := by
  refine D.cl sc_is_value (fun vs H Q E h => h.len) (fun cdv A outer s H vs Q E hr h => ?_)
  obtain ⟨S, v, d, rfl, r, k⟩ := h
  refine ⟨_, (pss_one (ps_ret (pe_or (pe_cmpR op_isN (pv 0) pe_non (by first | exact nomark _ | rfl)) (pe_one (pe_cl c_is_text hr (by omega) (pa_cons (pv 0) pa_nil)))))), ?_⟩
  refine ⟨_, rfl, rfl, _, rfl, ite2 (fun h => ?_) (fun h => ?_)⟩
  · have e : v = .non := of_decide_eq_true h
    subst e
    cases r
    exact k H _ (Stp.refl _ _) rfl
  · have e : isVal d = isTxt d := by
      cases r with
      | non => exact absurd (decide_eq_true rfl) h
      | _ => rfl
    exact ⟨_, rfl, S, v, d, rfl, r, fun H1 b S1 eb => k H1 b S1 (by rw [e]; exact eb)⟩
def Small : D → Prop
  | .lst ds => ds.length ≤ 5000
  | _ => True
def spTellP (K : PySem.W.Frag) : Sp := fun vs H Q _ => ∃ (S : List Addr) (v : V) (d : D), vs = [v] ∧ Rv K S H v d ∧ Small d ∧ ∀ H' b, Stp [] H H' → b = isPage d → Q (.bl b) H'
theorem spTellP.len {K : PySem.W.Frag} {vs : List V} {H : Hp} {Q : VK} {E : XK} (h : spTellP K vs H Q E) : vs.length = 1 := by
  obtain ⟨S, v, d, rfl, _⟩ := h
  rfl
theorem cl_is_page {f : Addr} {fd : FuncData} (D : Df K mg "is_page" s_is_page ["value"] f fd) (T : Nm mg) (c_is_value : Cl P w K mg base 2 "is_value" s_is_value ["value"] (spTell K isVal)) : Cl P w K mg base 3 "is_page" s_is_page ["value"] (spTellP K) := by
  refine D.cl sc_is_page (fun vs H Q E h => h.len) (fun cdv A outer s H vs Q E hr h => ?_)
  obtain ⟨S, v, d, rfl, r, sm, k⟩ := h
  refine ⟨_, (pss_one (ps_ret (pe_and (pe_tyIs (T := "list") Mono.var (pv 0) T.n_type T.n_list (by decide +kernel)) (pe_and (pe_cmpR op_gt (pe_callB call_len_seq (by rfl) T.n_len (by decide +kernel) (pa_cons (pv 0) pa_nil)) pe_int (by first | exact nomark _ | rfl)) (pe_one (pe_callB (cr_all rfl) (by rfl) T.n_all (by decide +kernel) (pa_cons (pe_lc (own := [("inner", 1)]) rfl sc_is_page.nd (pi_list (pv 0)) (blkOk_by (own := [("inner", 1)]) (N := N_is_page) (sc := defScope s_is_page) (by decide +kernel)) (fun _ _ _ _ _ => (pg_name (i := 1) sc_is_page.nd rfl (by first | exact Or.inl rfl | exact Or.inr rfl))) (fun _ _ _ _ _ => pts_nil) (fun _ _ _ _ _ => (pe_cl c_is_value hr (by omega) (pa_cons (pv 1) pa_nil)))) pa_nil))))))), ?_⟩
  refine ⟨_, rfl, d.old, r.old, _, rfl, ?_⟩
  cases r with
  | lst ha hn hl rl =>
    rename_i a vs ds
    refine ⟨_, rfl, a, vs, rfl, .inl (SqL.of ha), _, _, rfl, rfl, _, rfl, ite2 (fun h => ?_) (fun h => ?_)⟩
    · have h : (0 : Int) < (vs.length : Int) := of_decide_eq_true h
      refine ⟨_, rfl, a, rfl, ⟨_, SqL.of ha⟩, fun L nL => ?_⟩
      refine lc_mapL (K := K) (ds := (ds.map isVal).map Dt.bl) nL (SqL.of ha) (by simp [rl.len]) (by have : ds.length ≤ 5000 := sm; rw [rl.len]; omega) (fun j x e H3 hx hd S3 Q2 q => ?_) fun ws H3 S3 h3 r3 => ?_
      · obtain ⟨e', he, re⟩ := rl.get hx
        rw [List.getElem?_map, List.getElem?_map, he] at hd
        cases hd
        exact ⟨rfl, _, rfl, S, x, e', rfl, re.up S3, fun H4 b S4 eb => q _ _ S4 (by rw [eb]; exact .bl _)⟩
      obtain rfl := rpl_bls r3
      refine ⟨L, _, rfl, SqL.of h3, k _ _ S3 ?_⟩
      rw [rl.len] at h
      show _ = (!ds.isEmpty && ds.all isVal)
      cases ds with
      | nil => simp at h
      | cons d ds => simp [List.all_map]
    · refine k H _ (Stp.refl _ _) ?_
      have h : ¬ (0 : Int) < (vs.length : Int) := fun q => h (decide_eq_true q)
      rw [rl.len] at h
      show _ = (!ds.isEmpty && ds.all isVal)
      cases ds with
      | nil => rfl
      | cons d ds => simp at h
  | _ => exact k H _ (Stp.refl _ _) rfl
/-! ### drawn rules -/
def lk : Nat → Str
  | 0 => "many"
  | 1 => "some"
  | _ => "hidden"
def wy : Nat → Str
  | 0 => "cut"
  | _ => "beyond"
/-- a rule: which word of lacks, letters of the low bound, the way and the letters of the high one -/
structure Ru where
  lacks : Nat
  low : Option Nat
  high : Option (Nat × Nat)
def loD : Option Nat → D
  | none => wd "lost"
  | some n => .int (n : Int)
def hiD : Option (Nat × Nat) → D
  | none => wd "lost"
  | some (k, n) => .tup [wd (wy k), .int (n : Int)]
def ruD (r : Ru) : D := .tup [wd (lk r.lacks), loD r.low, hiD r.high]
structure RuOk (r : Ru) : Prop where
  lacks : r.lacks < 3
  low : ∀ n, r.low = some n → n ≤ 6
  high : ∀ k n, r.high = some (k, n) → k < 2 ∧ n ≤ 6
theorem pick_at {α : Type} {x0 : α} {l : List α} {d : Int} (h0 : 0 ≤ d) (h1 : d < (l.length : Int)) : ∃ k x, k < l.length ∧ d = (k : Int) ∧ l[k]? = some x ∧ atI l d = some x := by
  obtain ⟨k, rfl⟩ := Int.eq_ofNat_of_zero_le h0
  have hk : k < l.length := by omega
  exact ⟨k, l[k], hk, rfl, List.getElem?_eq_getElem hk, atI_nat (List.getElem?_eq_getElem hk)⟩
theorem words3 {d : Int} (h0 : 0 ≤ d) (h1 : d < 3) : ∃ k, k < 3 ∧ atI [V.str "many", V.str "some", V.str "hidden"] d = some (.str (lk k)) := by
  rcases (by omega : d = 0 ∨ d = 1 ∨ d = 2) with rfl | rfl | rfl
  · exact ⟨0, by decide, at0⟩
  · exact ⟨1, by decide, at1⟩
  · exact ⟨2, by decide, at2⟩
theorem words2 {d : Int} (h0 : 0 ≤ d) (h1 : d < 2) : ∃ k, k < 2 ∧ atI [V.str "cut", V.str "beyond"] d = some (.str (wy k)) := by
  rcases (by omega : d = 0 ∨ d = 1) with rfl | rfl
  · exact ⟨0, by decide, at0⟩
  · exact ⟨1, by decide, at1⟩
theorem lk_len (k : Nat) : (lk k).cps.toList.length ≤ 100000 := by
  unfold lk
  split <;> decide +kernel
theorem wy_len (k : Nat) : (wy k).cps.toList.length ≤ 100000 := by
  unfold wy
  split <;> decide +kernel
abbrev s_check_text : Stmt := topS 8
abbrev N_check_text : List Str := ["text"]
theorem sc_check_text : FnScope ["text"] ["text"] (defScope s_check_text) := ⟨rfl, rfl, rfl, by decide +kernel, rfl, by decide +kernel, by decide +kernel⟩

abbrev s_beyond : Stmt := topS 9
abbrev N_beyond : List Str := ["text", "stem"]
theorem sc_beyond : FnScope ["text", "stem"] ["text"] (defScope s_beyond) := ⟨rfl, rfl, rfl, by decide +kernel, rfl, by decide +kernel, by decide +kernel⟩

abbrev s_ascending : Stmt := topS 10
abbrev N_ascending : List Str := ["texts", "text"]
theorem sc_ascending : FnScope ["texts", "text"] ["texts"] (defScope s_ascending) := ⟨rfl, rfl, rfl, by decide +kernel, rfl, by decide +kernel, by decide +kernel⟩

abbrev s_check_rule : Stmt := topS 21
abbrev N_check_rule : List Str := ["rule"]
theorem sc_check_rule : FnScope ["rule"] ["rule"] (defScope s_check_rule) := ⟨rfl, rfl, rfl, by decide +kernel, rfl, by decide +kernel, by decide +kernel⟩

abbrev s_check_page : Stmt := topS 22
abbrev N_check_page : List Str := ["page"]
theorem sc_check_page : FnScope ["page"] ["page"] (defScope s_check_page) := ⟨rfl, rfl, rfl, by decide +kernel, rfl, by decide +kernel, by decide +kernel⟩

abbrev s_note : Stmt := topS 23
abbrev N_note : List Str := ["rule", "page", "lacks", "low", "high", "texts", "lacking", "value"]
theorem sc_note : FnScope ["rule", "page", "lacks", "low", "high", "texts", "lacking", "value"] ["rule", "page"] (defScope s_note) := ⟨rfl, rfl, rfl, by decide +kernel, rfl, by decide +kernel, by decide +kernel⟩

abbrev s_lacks_note : Stmt := topS 24
abbrev N_lacks_note : List Str := ["lacks", "lacking"]
theorem sc_lacks_note : FnScope ["lacks", "lacking"] ["lacks", "lacking"] (defScope s_lacks_note) := ⟨rfl, rfl, rfl, by decide +kernel, rfl, by decide +kernel, by decide +kernel⟩

abbrev s_low_note : Stmt := topS 25
abbrev N_low_note : List Str := ["low", "texts"]
theorem sc_low_note : FnScope ["low", "texts"] ["low", "texts"] (defScope s_low_note) := ⟨rfl, rfl, rfl, by decide +kernel, rfl, by decide +kernel, by decide +kernel⟩

abbrev s_high_note : Stmt := topS 26
abbrev N_high_note : List Str := ["high", "texts", "way", "letters", "start"]
theorem sc_high_note : FnScope ["high", "texts", "way", "letters", "start"] ["high", "texts"] (defScope s_high_note) := ⟨rfl, rfl, rfl, by decide +kernel, rfl, by decide +kernel, by decide +kernel⟩

/-! ### what a note says -/
def mn : List (List Nat) → List Nat
  | [] => []
  | x :: xs => xs.foldl (fun a b => if b < a then b else a) x
def mx : List (List Nat) → List Nat
  | [] => []
  | x :: xs => xs.foldl (fun a b => if a < b then b else a) x
theorem mn_fold : ∀ (xs : List (List Nat)) (x : List Nat), (xs.foldl (fun a b => if b < a then b else a) x = x ∨ xs.foldl (fun a b => if b < a then b else a) x ∈ xs) ∧ xs.foldl (fun a b => if b < a then b else a) x ≤ x ∧ ∀ y ∈ xs, xs.foldl (fun a b => if b < a then b else a) x ≤ y
  | [], x => ⟨.inl rfl, List.le_refl _, fun _ m => nomatch m⟩
  | y :: ys, x => by
    rw [List.foldl_cons]
    obtain ⟨h1, h2, h3⟩ := mn_fold ys (if y < x then y else x)
    generalize ys.foldl (fun a b => if b < a then b else a) (if y < x then y else x) = m at *
    by_cases c : y < x
    · rw [if_pos c] at h1 h2
      refine ⟨.inr ?_, List.le_trans h2 (List.le_of_lt c), fun z hz => ?_⟩
      · rcases h1 with h1 | h1
        · rw [h1]; exact List.mem_cons_self
        · exact List.mem_cons_of_mem _ h1
      · rcases List.mem_cons.mp hz with rfl | hz
        · exact h2
        · exact h3 z hz
    · rw [if_neg c] at h1 h2
      refine ⟨?_, h2, fun z hz => ?_⟩
      · rcases h1 with h1 | h1
        · exact .inl h1
        · exact .inr (List.mem_cons_of_mem _ h1)
      · rcases List.mem_cons.mp hz with rfl | hz
        · exact List.le_trans h2 (List.not_lt.mp c)
        · exact h3 z hz
theorem mx_fold : ∀ (xs : List (List Nat)) (x : List Nat), (xs.foldl (fun a b => if a < b then b else a) x = x ∨ xs.foldl (fun a b => if a < b then b else a) x ∈ xs) ∧ x ≤ xs.foldl (fun a b => if a < b then b else a) x ∧ ∀ y ∈ xs, y ≤ xs.foldl (fun a b => if a < b then b else a) x
  | [], x => ⟨.inl rfl, List.le_refl _, fun _ m => nomatch m⟩
  | y :: ys, x => by
    rw [List.foldl_cons]
    obtain ⟨h1, h2, h3⟩ := mx_fold ys (if x < y then y else x)
    generalize ys.foldl (fun a b => if a < b then b else a) (if x < y then y else x) = m at *
    by_cases c : x < y
    · rw [if_pos c] at h1 h2
      refine ⟨.inr ?_, List.le_trans (List.le_of_lt c) h2, fun z hz => ?_⟩
      · rcases h1 with h1 | h1
        · rw [h1]; exact List.mem_cons_self
        · exact List.mem_cons_of_mem _ h1
      · rcases List.mem_cons.mp hz with rfl | hz
        · exact h2
        · exact h3 z hz
    · rw [if_neg c] at h1 h2
      refine ⟨?_, h2, fun z hz => ?_⟩
      · rcases h1 with h1 | h1
        · exact .inl h1
        · exact .inr (List.mem_cons_of_mem _ h1)
      · rcases List.mem_cons.mp hz with rfl | hz
        · exact List.le_trans (List.not_lt.mp c) h2
        · exact h3 z hz
theorem mn_mem {ls : List (List Nat)} (h : ls ≠ []) : mn ls ∈ ls := by
  cases ls with
  | nil => exact absurd rfl h
  | cons x xs =>
    rcases (mn_fold xs x).1 with e | e
    · show xs.foldl _ x ∈ _; rw [e]; exact List.mem_cons_self
    · exact List.mem_cons_of_mem _ e
theorem mx_mem {ls : List (List Nat)} (h : ls ≠ []) : mx ls ∈ ls := by
  cases ls with
  | nil => exact absurd rfl h
  | cons x xs =>
    rcases (mx_fold xs x).1 with e | e
    · show xs.foldl _ x ∈ _; rw [e]; exact List.mem_cons_self
    · exact List.mem_cons_of_mem _ e
theorem mn_le {ls : List (List Nat)} {l : List Nat} (m : l ∈ ls) : mn ls ≤ l := by
  cases ls with
  | nil => exact nomatch m
  | cons x xs =>
    rcases List.mem_cons.mp m with rfl | m
    · exact (mn_fold xs l).2.1
    · exact (mn_fold xs x).2.2 l m
theorem le_mx {ls : List (List Nat)} {l : List Nat} (m : l ∈ ls) : l ≤ mx ls := by
  cases ls with
  | nil => exact nomatch m
  | cons x xs =>
    rcases List.mem_cons.mp m with rfl | m
    · exact (mx_fold xs l).2.1
    · exact (mx_fold xs x).2.2 l m
theorem mn_uniq {ls : List (List Nat)} {m : List Nat} (hm : m ∈ ls) (h : ∀ l ∈ ls, m ≤ l) : m = mn ls := List.le_antisymm (h _ (mn_mem (List.ne_nil_of_mem hm))) (mn_le hm)
theorem mx_uniq {ls : List (List Nat)} {m : List Nat} (hm : m ∈ ls) (h : ∀ l ∈ ls, l ≤ m) : m = mx ls := List.le_antisymm (le_mx hm) (h _ (mx_mem (List.ne_nil_of_mem hm)))
theorem nil_same {α : Type} {a b : List α} (h : ∀ x, x ∈ a ↔ x ∈ b) : a = [] ↔ b = [] := by
  constructor
  · rintro rfl
    exact List.eq_nil_iff_forall_not_mem.mpr fun x m => nomatch (h x).mpr m
  · rintro rfl
    exact List.eq_nil_iff_forall_not_mem.mpr fun x m => nomatch (h x).mp m
theorem mn_same {a b : List (List Nat)} (h : ∀ x, x ∈ a ↔ x ∈ b) : mn a = mn b := by
  by_cases z : a = []
  · rw [(nil_same h).mp z, z]
  · exact mn_uniq ((h _).mp (mn_mem z)) fun l m => mn_le ((h l).mpr m)
theorem mx_same {a b : List (List Nat)} (h : ∀ x, x ∈ a ↔ x ∈ b) : mx a = mx b := by
  by_cases z : a = []
  · rw [(nil_same h).mp z, z]
  · exact mx_uniq ((h _).mp (mx_mem z)) fun l m => le_mx ((h l).mpr m)
theorem mn_head {z : List Nat} {zs : List (List Nat)} (h : (z :: zs).Pairwise (· ≤ ·)) : z = mn (z :: zs) := mn_uniq List.mem_cons_self fun l m => by
  rcases List.mem_cons.mp m with rfl | m
  · exact List.le_refl _
  · exact (List.pairwise_cons.mp h).1 l m
theorem mx_last {z : List Nat} {zs : List (List Nat)} (h : (zs ++ [z]).Pairwise (· ≤ ·)) : z = mx (zs ++ [z]) := mx_uniq (by simp) fun l m => by
  rcases List.mem_append.mp m with m | m
  · exact (List.pairwise_append.mp h).2.2 l m z (by simp)
  · rw [List.mem_singleton.mp m]; exact List.le_refl _
def lowT (lo : Option Nat) (l : List Nat) : Option (List Nat) := lo.map fun n => l.take n
def highT (hi : Option (Nat × Nat)) (l : List Nat) : Option (List Nat) := match hi with
  | none => none
  | some (k, n) => if l.length ≤ n then some l else if k = 0 then some (l.take n) else bey (l.take n)
def lowO (lo : Option Nat) (ts : List (List Nat)) : Option (List Nat) := if ts = [] then none else lowT lo (mn ts)
def highO (hi : Option (Nat × Nat)) (ts : List (List Nat)) : Option (List Nat) := if ts = [] then none else highT hi (mx ts)
theorem lowO_same {lo : Option Nat} {a b : List (List Nat)} (h : ∀ x, x ∈ a ↔ x ∈ b) : lowO lo a = lowO lo b := by
  unfold lowO
  rw [mn_same h]
  by_cases z : a = []
  · rw [if_pos z, if_pos ((nil_same h).mp z)]
  · rw [if_neg z, if_neg fun q => z ((nil_same h).mpr q)]
theorem highO_same {hi : Option (Nat × Nat)} {a b : List (List Nat)} (h : ∀ x, x ∈ a ↔ x ∈ b) : highO hi a = highO hi b := by
  unfold highO
  rw [mx_same h]
  by_cases z : a = []
  · rw [if_pos z, if_pos ((nil_same h).mp z)]
  · rw [if_neg z, if_neg fun q => z ((nil_same h).mpr q)]
def lacksD : Nat → Nat → D
  | 0, m => .int (m : Int)
  | 1, m => .bl (decide ((m : Int) > 0))
  | _, _ => .non
def txs (os : List (Option (List Nat))) : List (List Nat) := os.filterMap id
def gone (os : List (Option (List Nat))) : Nat := os.length - (txs os).length
def noteD (r : Ru) (os : List (Option (List Nat))) : D := .tup [.int (os.length : Int), lacksD r.lacks (gone os), vD (lowO r.low (txs os)), vD (highO r.high (txs os))]
structure Col (os : List (Option (List Nat))) : Prop where
  ok : ∀ l, some l ∈ os → Abc l ∧ l.length ≤ 1000
  few : os.length ≤ 5000
theorem mem_txs {os : List (Option (List Nat))} {l : List Nat} : l ∈ txs os ↔ some l ∈ os := by
  unfold txs
  rw [List.mem_filterMap]
  exact ⟨fun ⟨o, m, e⟩ => by rw [show o = some l from e] at m; exact m, fun m => ⟨_, m, rfl⟩⟩
theorem txs_len (os : List (Option (List Nat))) : (txs os).length ≤ os.length := List.length_filterMap_le _ _
theorem col_lows {os : List (Option (List Nat))} (c : Col os) {lo : Option Nat} {l : List Nat} (h : lowO lo (txs os) = some l) : Abc l ∧ l.length ≤ 1000 := by
  unfold lowO at h
  by_cases z : txs os = []
  · rw [if_pos z] at h; cases h
  · rw [if_neg z] at h
    cases lo with
    | none => cases h
    | some n =>
      cases h
      obtain ⟨a, b⟩ := c.ok _ (mem_txs.mp (mn_mem z))
      exact ⟨a.take _, by rw [List.length_take]; omega⟩
theorem highT_ok {hi : Option (Nat × Nat)} {l m : List Nat} (a : Abc l) (h : highT hi l = some m) : Abc m ∧ m.length ≤ l.length := by
  cases hi with
  | none => cases h
  | some p =>
    obtain ⟨k, n⟩ := p
    have h : (if l.length ≤ n then some l else if k = 0 then some (l.take n) else bey (l.take n)) = some m := h
    by_cases c1 : l.length ≤ n
    · rw [if_pos c1] at h; cases h; exact ⟨a, Nat.le_refl _⟩
    · rw [if_neg c1] at h
      by_cases c2 : k = 0
      · rw [if_pos c2] at h; cases h; exact ⟨a.take _, by rw [List.length_take]; omega⟩
      · rw [if_neg c2] at h
        obtain ⟨x, y⟩ := abc_bey (a.take n) h
        rw [List.length_take] at y
        exact ⟨x, by omega⟩
theorem col_highs {os : List (Option (List Nat))} (c : Col os) {hi : Option (Nat × Nat)} {l : List Nat} (h : highO hi (txs os) = some l) : Abc l ∧ l.length ≤ 1000 := by
  unfold highO at h
  by_cases z : txs os = []
  · rw [if_pos z] at h; cases h
  · rw [if_neg z] at h
    obtain ⟨a, b⟩ := c.ok _ (mem_txs.mp (mx_mem z))
    obtain ⟨x, y⟩ := highT_ok a h
    exact ⟨x, by omega⟩
theorem rv_v {K : PySem.W.Frag} {S : List Addr} {H : Hp} {o : Option (List Nat)} (h : ∀ l, o = some l → l.length ≤ 1000) : Rv K S H (vV o) (vD o) := by
  cases o with
  | none => exact .non
  | some l => exact .str l (by have := h l rfl; omega)
theorem isPage_col {os : List (Option (List Nat))} (c : Col os) (h : 0 < os.length) : isPage (.lst (os.map vD)) = true := by
  show (!(os.map vD).isEmpty && (os.map vD).all isVal) = true
  have e : (os.map vD).isEmpty = false := by
    cases os with
    | nil => simp at h
    | cons _ _ => rfl
  rw [e]
  show (os.map vD).all isVal = true
  rw [List.all_eq_true]
  intro d m
  obtain ⟨o, mo, rfl⟩ := List.mem_map.mp m
  cases o with
  | none => rfl
  | some l => exact abcB_iff.mpr (c.ok l mo).1
theorem isRule_ru {r : Ru} (h : RuOk r) : isRule (ruD r) = true := by
  obtain ⟨k, lo, hi⟩ := r
  obtain ⟨h1, h2, h3⟩ := h
  show (isIn ["many", "some", "hidden"] (wd (lk k)) && isLow (loD lo) && isHigh (hiD hi)) = true
  have e1 : isIn ["many", "some", "hidden"] (wd (lk k)) = true := by
    show decide (tx (lk k).cps.toList ∈ _) = true
    rw [tx_cps]
    refine decide_eq_true ?_
    unfold lk
    split <;> simp
  have e2 : isLow (loD lo) = true := by
    cases lo with
    | none => decide +kernel
    | some n =>
      have := h2 n rfl
      show (false || (decide ((0 : Int) ≤ (n : Int)) && decide ((n : Int) ≤ 6))) = true
      rw [decide_eq_true (by omega : (0 : Int) ≤ (n : Int)), decide_eq_true (by omega : (n : Int) ≤ 6)]
      rfl
  have e3 : isHigh (hiD hi) = true := by
    cases hi with
    | none => decide +kernel
    | some p =>
      obtain ⟨j, n⟩ := p
      have := h3 j n rfl
      show (decide (tx (wy j).cps.toList ∈ (["cut", "beyond"] : List Str)) && (decide ((0 : Int) ≤ (n : Int)) && decide ((n : Int) ≤ 6))) = true
      rw [decide_eq_true (by omega : (0 : Int) ≤ (n : Int)), decide_eq_true (by omega : (n : Int) ≤ 6), tx_cps]
      unfold wy
      split <;> decide +kernel
  rw [e1, e2, e3]
  rfl
/-! ### the program's own words -/
def spCk (K : PySem.W.Frag) (t : D → Bool) : Sp := fun vs H Q _ => ∃ (S : List Addr) (v : V) (d : D), vs = [v] ∧ Rv K S H v d ∧ t d = true ∧ Small d ∧ ∀ H', Stp [] H H' → Q .non H'
theorem spCk.len {K : PySem.W.Frag} {t : D → Bool} {vs : List V} {H : Hp} {Q : VK} {E : XK} (h : spCk K t vs H Q E) : vs.length = 1 := by
  obtain ⟨S, v, d, rfl, _⟩ := h
  rfl
theorem cl_check_text {f : Addr} {fd : FuncData} (D : Df K mg "check_text" s_check_text ["text"] f fd) (T : Nm mg) (c_is_text : Cl P w K mg base 1 "is_text" s_is_text ["value"] (spTell K isTxt)) : Cl P w K mg base 2 "check_text" s_check_text ["text"] (spCk K isTxt) := by
  refine D.cl sc_check_text (fun vs H Q E h => h.len) (fun cdv A outer s H vs Q E hr h => ?_)
  obtain ⟨S, v, d, rfl, r, hd, _, k⟩ := h
  refine ⟨_, (pss_one (ps_if (pt_not (pt_val (pe_cl c_is_text hr (by omega) (pa_cons (pv 0) pa_nil)))) (pss_one ps_never) pss_nil)), ?_⟩
  exact ⟨_, rfl, S, v, d, rfl, r, fun H1 b S1 eb => ⟨_, rfl, ite2 (fun h => absurd h (by rw [eb, hd]; decide)) (fun _ => k H1 S1)⟩⟩
theorem cl_check_rule {f : Addr} {fd : FuncData} (D : Df K mg "check_rule" s_check_rule ["rule"] f fd) (T : Nm mg) (c_is_rule : Cl P w K mg base 3 "is_rule" s_is_rule ["value"] (spTell K isRule)) : Cl P w K mg base 4 "check_rule" s_check_rule ["rule"] (spCk K isRule) := by
  refine D.cl sc_check_rule (fun vs H Q E h => h.len) (fun cdv A outer s H vs Q E hr h => ?_)
  obtain ⟨S, v, d, rfl, r, hd, _, k⟩ := h
  refine ⟨_, (pss_one (ps_if (pt_not (pt_val (pe_cl c_is_rule hr (by omega) (pa_cons (pv 0) pa_nil)))) (pss_one ps_never) pss_nil)), ?_⟩
  exact ⟨_, rfl, S, v, d, rfl, r, fun H1 b S1 eb => ⟨_, rfl, ite2 (fun h => absurd h (by rw [eb, hd]; decide)) (fun _ => k H1 S1)⟩⟩
theorem cl_check_page {f : Addr} {fd : FuncData} (D : Df K mg "check_page" s_check_page ["page"] f fd) (T : Nm mg) (c_is_page : Cl P w K mg base 3 "is_page" s_is_page ["value"] (spTellP K)) : Cl P w K mg base 4 "check_page" s_check_page ["page"] (spCk K isPage) := by
  refine D.cl sc_check_page (fun vs H Q E h => h.len) (fun cdv A outer s H vs Q E hr h => ?_)
  obtain ⟨S, v, d, rfl, r, hd, sm, k⟩ := h
  refine ⟨_, (pss_one (ps_if (pt_not (pt_val (pe_cl c_is_page hr (by omega) (pa_cons (pv 0) pa_nil)))) (pss_one ps_never) pss_nil)), ?_⟩
  exact ⟨_, rfl, S, v, d, rfl, r, sm, fun H1 b S1 eb => ⟨_, rfl, ite2 (fun h => absurd h (by rw [eb, hd]; decide)) (fun _ => k H1 S1)⟩⟩
/-- the letters next to a and b -/
structure Ng (K : PySem.W.Frag) (w : World) (mg : Str → Option Value) where
  NEXT_LETTERS : Addr
  g_NEXT_LETTERS : mg "NEXT_LETTERS" = some (.ref NEXT_LETTERS)
  na : KDct K w NEXT_LETTERS (tx [97]) (.str "b")
  nb : KDct K w NEXT_LETTERS (tx [98]) (.str "c")
theorem b_lit : ("b" : Str) = tx [98] := by decide +kernel
theorem c_lit9 : ("c" : Str) = tx [99] := by decide +kernel
theorem nil_tx {l : List Nat} : tx l = tx [] ↔ l = [] := ⟨fun h => tx_inj h, fun h => by rw [h]⟩
def spBey (K : PySem.W.Frag) : Sp := fun vs H Q _ => ∃ l : List Nat, vs = [Tx l] ∧ Abc l ∧ l.length ≤ 1000 ∧ ∀ H', Stp [] H H' → Q (vV (bey l)) H'
theorem bey_none {l : List Nat} (h : cOff l = []) : bey l = none := by unfold bey; rw [if_pos h]
theorem bey_some {l i : List Nat} {c : Nat} (h : cOff l = i ++ [c]) : bey l = some (i ++ [c + 1]) := by
  unfold bey
  rw [h, if_neg (by simp)]
  simp
theorem cl_beyond {f : Addr} {fd : FuncData} (D : Df K mg "beyond" s_beyond ["text"] f fd) (T : Nm mg) (TG : Ng K w mg) (c_check_text : Cl P w K mg base 2 "check_text" s_check_text ["text"] (spCk K isTxt)) : Cl P w K mg base 3 "beyond" s_beyond ["text"] (spBey K) := by
  refine D.cl sc_beyond (fun vs H Q E h => ?_) (fun cdv A outer s H vs Q E hr h => ?_)
  · obtain ⟨l, rfl, _⟩ := h
    rfl
  · obtain ⟨l, rfl, al, ll, k⟩ := h
    refine ⟨_, (pss_cons (ps_expr (pe_cl c_check_text hr (by omega) (pa_cons (pv 0) pa_nil)))
      (pss_cons (ps_set (i := 1) sc_beyond.nd rfl (by first | exact Or.inl rfl | exact Or.inr rfl) (pe_bm PySem.F.plainAttrs_str PySem.F.slot_str_rstrip PySem.F.type_str_rstrip mt_rstripChars (pv 0) (pa_cons pe_str pa_nil)))
      (pss_one (ps_ret (pe_ifExp (pt_truth (pv 1) (by intro _; rfl)) (pe_op op_add_str (pe_slice sl_str (pv 1) po_none (po_some (pe_un un_neg pe_int))) (pe_ix ix_kdict (pe_glob (v := .ref TG.NEXT_LETTERS) rfl TG.g_NEXT_LETTERS rfl) (pe_ix ix_str (pv 1) (pe_un un_neg pe_int) (fun _ _ => rfl)) (fun _ _ => rfl))) pe_non))))), ?_⟩
    refine ⟨_, rfl, [], _, .str l, rfl, .str l (by omega), abcB_iff.mpr al, trivial, fun H1 S1 => ?_⟩
    refine ⟨_, rfl, rfl, tx l, ("c" : Str), rfl, rfl, szt (by omega), ?_⟩
    rw [c_lit9, rstrip_c]
    have lo := cOff_len l
    have ao := abc_cOff al
    refine ⟨_, rfl, _, ⟨szt (by omega), rfl⟩, ite2 (fun h => ?_) (fun h => ?_)⟩
    · have ne : cOff l ≠ [] := fun e => by
        rw [e] at h
        exact absurd h (by decide)
      obtain ⟨i, c, hc, nc⟩ := cOff_last ne
      have k' := k H1 S1
      rw [bey_some hc] at k'
      rw [hc] at lo ao
      rw [List.length_append, List.length_singleton] at lo
      have hcc : c = 97 ∨ c = 98 := by
        rcases ao c (by simp) with q | q | q
        · exact .inl q
        · exact .inr q
        · exact absurd q nc
      rw [hc]
      refine ⟨_, rfl, 1, rfl, -1, rfl, tx (i ++ [c]), rfl, szt (by simp; omega), ?_⟩
      rw [show cutS (tx (i ++ [c])) none (some (-1)) = _ from tx_init _, List.dropLast_concat]
      refine ⟨_, rfl, 1, rfl, tx (i ++ [c]), -1, c, rfl, rfl, szt (by simp; omega), atI_last i c, ?_⟩
      rcases hcc with rfl | rfl
      · refine ⟨_, tx [97], _, rfl, rfl, TG.na, tx i, tx [98], rfl, congrArg V.str b_lit, (by rw [tx_len, tx_len]; exact sz (by simp; omega)), ?_⟩
        rw [tx_app]
        exact k'
      · refine ⟨_, tx [98], _, rfl, rfl, TG.nb, tx i, tx [99], rfl, congrArg V.str c_lit9, (by rw [tx_len, tx_len]; exact sz (by simp; omega)), ?_⟩
        rw [tx_app]
        exact k'
    · have e : cOff l = [] := by
        cases hc : cOff l with
        | nil => rfl
        | cons x t =>
          rw [hc, tx_len] at h
          exact absurd (by simp; omega) h
      have k' := k H1 S1
      rw [bey_none e] at k'
      exact k'
def spAsc (K : PySem.W.Frag) : Sp := fun vs H Q _ => ∃ (a : Addr) (ls : List (List Nat)), vs = [.ref a] ∧ SqL K H a (ls.map Tx) ∧ (∀ l ∈ ls, l.length ≤ 1000) ∧ ls.length ≤ 5000 ∧
  ∀ (zs : List (List Nat)) p H', H p = none → Stp [] H H' → zs.Perm ls → zs.Pairwise (· ≤ ·) → H' p = some (.lst (zs.map Tx)) → Q (.ref p) H'
theorem cl_ascending {f : Addr} {fd : FuncData} (D : Df K mg "ascending" s_ascending ["texts"] f fd) (T : Nm mg) : Cl P w K mg base 1 "ascending" s_ascending ["texts"] (spAsc K) := by
  refine D.cl sc_ascending (fun vs H Q E h => ?_) (fun cdv A outer s H vs Q E hr h => ?_)
  · obtain ⟨a, ls, rfl, _⟩ := h
    rfl
  · obtain ⟨a, ls, rfl, hs, sh, few, k⟩ := h
    refine ⟨_, (pss_one (ps_ret (pe_callB Pg.cr_sortedSA (by rfl) T.n_sorted (by decide +kernel) (pa_cons (pe_lc (own := [("text", 1)]) rfl sc_ascending.nd (pi_list (pv 0)) (blkOk_by (own := [("text", 1)]) (N := N_ascending) (sc := defScope s_ascending) (by decide +kernel)) (fun _ _ _ _ _ => (pg_name (i := 1) sc_ascending.nd rfl (by first | exact Or.inl rfl | exact Or.inr rfl))) (fun _ _ _ _ _ => pts_nil) (fun _ _ _ _ _ => (pe_callTy SkE.call_str_str (by rfl) T.n_str (by decide +kernel) (pa_cons (pv 1) pa_nil)))) pa_nil)))), ?_⟩
    refine ⟨_, rfl, a, rfl, ⟨_, hs⟩, fun L nL => ?_⟩
    refine lc_mapL (ds := ls.map Dt.str) nL hs (by simp) (by rw [List.length_map]; omega) (fun j x d H3 hx hd S3 Q2 q => ?_) fun ws H3 S3 h3 r3 => ?_
    · rw [List.getElem?_map] at hx hd
      cases e : ls[j]? with
      | none => rw [e] at hx; cases hx
      | some l =>
        rw [e] at hx hd
        cases hx
        cases hd
        exact ⟨rfl, _, rfl, tx l, rfl, q _ _ (Stp.refl _ _) (.str l (by have := sh l (List.mem_of_getElem? e); omega))⟩
    · have e3 := rpl_strs r3
      subst e3
      exact ⟨L, ls, rfl, SqL.of h3, fun zs p pm pw np => k zs p _ (S3.fresh (fun m => nomatch m) np) (S3.new' np) pm pw upd_same⟩
def spLacks : Sp := fun vs H Q _ => ∃ (k m : Nat), vs = [.str (lk k), .int (m : Int)] ∧ k < 3 ∧ ∀ v, (∀ K S H', Rv K S H' v (lacksD k m)) → Q v H
theorem cl_lacks_note {f : Addr} {fd : FuncData} (D : Df K mg "lacks_note" s_lacks_note ["lacks", "lacking"] f fd) (T : Nm mg) : Cl P w K mg base 1 "lacks_note" s_lacks_note ["lacks", "lacking"] spLacks := by
  refine D.cl sc_lacks_note (fun vs H Q E h => ?_) (fun cdv A outer s H vs Q E hr h => ?_)
  · obtain ⟨j, m, rfl, _⟩ := h
    rfl
  · obtain ⟨j, m, rfl, hj, k⟩ := h
    refine ⟨_, (pss_cons (ps_if (pt_cmpR op_eq (pv 0) pe_str (by first | exact nomark _ | rfl)) (pss_one (ps_ret (pv 1))) pss_nil)
      (pss_one (ps_ret (pe_ifExp (pt_cmpR op_eq (pv 0) pe_str (by first | exact nomark _ | rfl)) (pe_cmpR op_gt (pv 1) pe_int (by first | exact nomark _ | rfl)) pe_non)))), ?_⟩
    rcases (by omega : j = 0 ∨ j = 1 ∨ j = 2) with rfl | rfl | rfl
    · refine ⟨_, rfl, rfl, _, rfl, ite2 (fun h => ?_) (fun h => absurd (by decide +kernel) h)⟩
      exact ⟨_, rfl, k _ fun K S H' => .int _⟩
    · refine ⟨_, rfl, rfl, _, rfl, ite2 (fun h => absurd h (by decide +kernel)) (fun _ => ?_)⟩
      refine ⟨_, rfl, rfl, _, rfl, ite2 (fun h => ?_) (fun h => absurd (by decide +kernel) h)⟩
      exact ⟨_, rfl, _, _, rfl, rfl, k _ fun K S H' => .bl _⟩
    · refine ⟨_, rfl, rfl, _, rfl, ite2 (fun h => absurd h (by decide +kernel)) (fun _ => ?_)⟩
      refine ⟨_, rfl, rfl, _, rfl, ite2 (fun h => absurd h (by decide +kernel)) (fun _ => ?_)⟩
      exact k _ fun K S H' => .non
/-! ### the bounds, the note -/
/-- a list of texts in order -/
structure Asc (zs : List (List Nat)) : Prop where
  pw : zs.Pairwise (· ≤ ·)
  ok : ∀ l ∈ zs, Abc l ∧ l.length ≤ 1000
def spLowN (K : PySem.W.Frag) : Sp := fun vs H Q _ => ∃ (v : V) (lo : Option Nat) (p : Addr) (zs : List (List Nat)), vs = [v, .ref p] ∧ Rv K [] H v (loD lo) ∧ H p = some (.lst (zs.map Tx)) ∧ Asc zs ∧ Q (vV (lowO lo zs)) H
theorem lo_lost {K : PySem.W.Frag} {S : List Addr} {H : Hp} {v : V} (r : Rv K S H v (loD none)) : v = .str "lost" := by
  have r' : Rv K S H v (.str ("lost" : Str).cps.toList) := r
  cases r'
  exact congrArg V.str (tx_cps _)
theorem cl_low_note {f : Addr} {fd : FuncData} (D : Df K mg "low_note" s_low_note ["low", "texts"] f fd) (T : Nm mg) : Cl P w K mg base 1 "low_note" s_low_note ["low", "texts"] (spLowN K) := by
  refine D.cl sc_low_note (fun vs H Q E h => ?_) (fun cdv A outer s H vs Q E hr h => ?_)
  · obtain ⟨v, lo, p, zs, rfl, _⟩ := h
    rfl
  · obtain ⟨v, lo, p, zs, rfl, r, hp, asc, k⟩ := h
    refine ⟨_, (pss_cons (ps_if (PW.pt (pw_or (pt_cmpR op_eq (pv 0) pe_str (by first | exact nomark _ | rfl)) (pw_or1 (pt_not (pt_truth (pv 1) (by intro _; rfl)))))) (pss_one (ps_ret pe_non)) pss_nil)
      (pss_one (ps_ret (pe_slice sl_str (pe_ix ix_list (pv 1) pe_int (fun _ _ => rfl)) po_none (po_some (pv 0)))))), ?_⟩
    cases lo with
    | none =>
      obtain rfl := lo_lost r
      have e : lowO none zs = none := by
        unfold lowO
        split <;> rfl
      rw [e] at k
      exact ⟨_, rfl, rfl, _, rfl, ite2 (fun h => k) (fun h => absurd (by decide +kernel) h)⟩
    | some n =>
      have r' : Rv K [] H v (.int (n : Int)) := r
      cases r'
      refine ⟨_, rfl, rfl, _, rfl, ite2 (fun h => absurd h (by simp)) (fun h => ?_)⟩
      refine ⟨_, rfl, _, .inl ⟨_, SqL.of hp, rfl⟩, ?_⟩
      cases zs with
      | nil => exact k
      | cons z zs =>
        have k' : Q (vV (some ((mn (z :: zs)).take n))) H := k
        rw [← mn_head asc.pw] at k'
        refine ⟨_, rfl, p, _, 0, Tx z, rfl, rfl, SqL.of hp, at0, ?_⟩
        have hz := (asc.ok z List.mem_cons_self).2
        refine ⟨_, rfl, (n : Int), rfl, tx z, rfl, szt (by omega), ?_⟩
        rw [show cutS (tx z) none (some (n : Int)) = _ from tx_upto z n]
        exact k'
def spHighN (K : PySem.W.Frag) : Sp := fun vs H Q _ => ∃ (v : V) (hi : Option (Nat × Nat)) (p : Addr) (zs : List (List Nat)), vs = [v, .ref p] ∧ Rv K [] H v (hiD hi) ∧ (∀ k n, hi = some (k, n) → k < 2 ∧ n ≤ 6) ∧ H p = some (.lst (zs.map Tx)) ∧ Asc zs ∧ ∀ H', Stp [] H H' → Q (vV (highO hi zs)) H'
theorem wy_lay {k : Nat} (h : k < 2) : PyData.canLay0 (.str (tx (wy k).cps.toList)) = true := by
  rcases (by omega : k = 0 ∨ k = 1) with rfl | rfl <;> decide +kernel
theorem wy_fair {k : Nat} (h : k < 2) : (wd (wy k)).fair = true := by
  rcases (by omega : k = 0 ∨ k = 1) with rfl | rfl <;> decide +kernel
def hiP (k n : Nat) : PyData := .tuple [.str (tx (wy k).cps.toList), .int (n : Int)]
theorem hi_dp {K : PySem.W.Frag} {S : List Addr} {H : Hp} {v : V} {k n : Nat} (r : Rv K S H v (hiD (some (k, n)))) (hk : k < 2) (hn : n ≤ 6) : Dp K H v (hiP k n) := by
  refine rv_dp r ?_
  show ((wd (wy k)).fair && (decide (((n : Int)).natAbs < 10 ^ 10) && true)) = true
  rw [decide_eq_true (by omega), wy_fair hk]
  rfl
theorem hi_shaped {k n : Nat} (hk : k < 2) : SeqAt.shaped (hiP k n) = true := by
  unfold SeqAt.shaped hiP
  show ((PyData.canLay0 (.str (tx (wy k).cps.toList)) && (true && true)) && decide (max 0 (max 0 0) + 1 ≤ 64)) = true
  rw [wy_lay hk]
  rfl
theorem lost_dp {K : PySem.W.Frag} {H : Hp} : Dp K H (.str "lost") (.str "lost") := .str _
theorem lost_shaped : SeqAt.shaped (.str "lost") = true := by decide +kernel
theorem hi_ne {k n : Nat} : PyData.eqv (hiP k n) (.str "lost") = false := rfl
theorem wy_eq {k : Nat} (h : k < 2) : decide (V.str (wy k) = V.str "beyond") = decide (k = 1) := by
  rcases (by omega : k = 0 ∨ k = 1) with rfl | rfl <;> decide +kernel
theorem cl_high_note {f : Addr} {fd : FuncData} (D : Df K mg "high_note" s_high_note ["high", "texts"] f fd) (T : Nm mg) (c_beyond : Cl P w K mg base 3 "beyond" s_beyond ["text"] (spBey K)) : Cl P w K mg base 4 "high_note" s_high_note ["high", "texts"] (spHighN K) := by
  refine D.cl sc_high_note (fun vs H Q E h => ?_) (fun cdv A outer s H vs Q E hr h => ?_)
  · obtain ⟨v, hi, p, zs, rfl, _⟩ := h
    rfl
  · obtain ⟨v, hi, p, zs, rfl, r, ok, hp, asc, k⟩ := h
    refine ⟨_, (pss_cons (ps_if (PW.pt (pw_or (pt_cmpR (op_eqD hr.units) (pv 0) pe_str (by first | exact nomark _ | rfl)) (pw_or1 (pt_not (pt_truth (pv 1) (by intro _; rfl)))))) (pss_one (ps_ret pe_non)) pss_nil)
      (pss_cons (ps_asg (pv 0) (pg_tup rfl (pgs_cons (pg_name (i := 2) sc_high_note.nd rfl (by first | exact Or.inl rfl | exact Or.inr rfl)) (pgs_cons (pg_name (i := 3) sc_high_note.nd rfl (by first | exact Or.inl rfl | exact Or.inr rfl)) pgs_nil (by rfl)) (by rfl)) (by rfl) (by rfl)))
      (pss_cons (ps_set (i := 4) sc_high_note.nd rfl (by first | exact Or.inl rfl | exact Or.inr rfl) (pe_slice sl_str (pe_ix ix_list (pv 1) (pe_un un_neg pe_int) (fun _ _ => rfl)) po_none (po_some (pv 3))))
      (pss_one (ps_ret (pe_ifExp (PW.pt (pw_and (pt_cmpR op_eq (pv 2) pe_str (by first | exact nomark _ | rfl)) (pw_and1 (pt_cmpR op_gt (pe_callB call_len_str (by rfl) T.n_len (by decide +kernel) (pa_cons (pe_ix ix_list (pv 1) (pe_un un_neg pe_int) (fun _ _ => rfl)) pa_nil)) (pv 3) (by first | exact nomark _ | rfl))))) (pe_cl c_beyond hr (by omega) (pa_cons (pv 4) pa_nil)) (pv 4))))))), ?_⟩
    cases hi with
    | none =>
      have e : highO none zs = none := by
        unfold highO
        split <;> rfl
      rw [e] at k
      have r' : Rv K [] H v (.str ("lost" : Str).cps.toList) := r
      obtain rfl : v = .str "lost" := by
        cases r'
        exact congrArg V.str (tx_cps _)
      refine ⟨_, rfl, .str "lost", .str "lost", .str _, .str _, by decide +kernel, by decide +kernel, _, rfl, ite2 (fun h => k H (Stp.refl _ _)) (fun h => absurd (by decide +kernel) h)⟩
    | some q =>
      obtain ⟨j, n⟩ := q
      obtain ⟨hj, hn⟩ := ok j n rfl
      refine ⟨_, rfl, hiP j n, .str "lost", hi_dp r hj hn, lost_dp, hi_shaped hj, lost_shaped, _, rfl, ite2 (fun h => nomatch (h : false = true)) (fun _ => ?_)⟩
      refine ⟨_, rfl, _, .inl ⟨_, SqL.of hp, rfl⟩, ?_⟩
      obtain ⟨t, vs, rfl, ht, _, rl⟩ := Pv.Rv.tupE (r : Rv K [] H v (.tup [wd (wy j), .int (n : Int)]))
      obtain ⟨u1, u2, rfl, r1, r2⟩ := RvL.two rl
      obtain rfl : u1 = .str (wy j) := by
        have r1' : Rv K [] H u1 (.str (wy j).cps.toList) := r1
        cases r1'
        exact congrArg V.str (tx_cps _)
      cases r2
      rcases List.eq_nil_or_concat zs with rfl | ⟨zi, z, rfl⟩
      · exact k H (Stp.refl _ _)
      · rw [List.concat_eq_append] at *
        have ne : zi ++ [z] ≠ [] := by simp
        have e : highO (some (j, n)) (zi ++ [z]) = highT (some (j, n)) z := by
          unfold highO
          rw [if_neg ne, ← mx_last asc.pw]
        rw [e] at k
        obtain ⟨az, lz⟩ := asc.ok z (by simp)
        have hem : ((zi ++ [z]).map Tx).isEmpty = false := by simp
        rw [hem]
        refine ⟨_, rfl, t, _, rfl, ht, rfl, _, _, rfl, _, _, rfl, rfl, ?_⟩
        have hp' : H p = some (.lst (zi.map Tx ++ [Tx z])) := by rw [hp, List.map_append]; rfl
        refine ⟨_, rfl, 1, rfl, p, _, -1, Tx z, rfl, rfl, SqL.of hp', atI_last _ _, _, rfl, (n : Int), rfl, tx z, rfl, szt (by omega), ?_⟩
        rw [show cutS (tx z) none (some (n : Int)) = _ from tx_upto z n]
        refine ⟨_, rfl, rfl, _, rfl, ?_⟩
        rw [wy_eq hj]
        have k2 := fun H' S' => k H' S'
        refine ite2 (fun h => ?_) (fun h => ?_)
        · obtain rfl : j = 1 := of_decide_eq_true h
          refine ⟨_, rfl, 1, rfl, p, _, -1, Tx z, rfl, rfl, SqL.of hp', atI_last _ _, tx z, rfl, szt (by omega), _, rfl, _, _, rfl, rfl, _, rfl, ite2 (fun h2 => ?_) (fun h2 => ?_)⟩
          · have h3 : n < z.length := by have := of_decide_eq_true h2; rw [tx_len] at this; omega
            refine ⟨_, rfl, z.take n, rfl, az.take _, by rw [List.length_take]; omega, fun H' S' => ?_⟩
            have k3 := k H' S'
            have e2 : highT (some (1, n)) z = bey (z.take n) := by
              show (if z.length ≤ n then some z else if (1 : Nat) = 0 then some (z.take n) else bey (z.take n)) = _
              rw [if_neg (by omega), if_neg (by decide)]
            rw [e2] at k3
            exact k3
          · have h3 : z.length ≤ n := by
              have : ¬ (n : Int) < ((tx z).length : Int) := fun q => h2 (decide_eq_true q)
              rw [tx_len] at this
              omega
            have k3 := k H (Stp.refl _ _)
            have e2 : highT (some (1, n)) z = some z := by
              show (if z.length ≤ n then some z else if (1 : Nat) = 0 then some (z.take n) else bey (z.take n)) = _
              rw [if_pos h3]
            rw [e2] at k3
            refine ⟨_, rfl, ?_⟩
            rw [List.take_of_length_le h3]
            exact k3
        · have hj0 : j = 0 := by
            have : ¬ j = 1 := fun q => h (decide_eq_true q)
            omega
          subst hj0
          have k3 := k H (Stp.refl _ _)
          have e2 : highT (some (0, n)) z = some (z.take n) := by
            show (if z.length ≤ n then some z else if (0 : Nat) = 0 then some (z.take n) else bey (z.take n)) = _
            by_cases c : z.length ≤ n
            · rw [if_pos c, List.take_of_length_le c]
            · rw [if_neg c, if_pos rfl]
          rw [e2] at k3
          exact ⟨_, rfl, k3⟩
def spNote (K : PySem.W.Frag) : Sp := fun vs H Q _ => ∃ (v : V) (p : Addr) (r : Ru) (os : List (Option (List Nat))), vs = [v, .ref p] ∧ Rv K [] H v (ruD r) ∧ RuOk r ∧ H p = some (.lst (os.map vV)) ∧ Col os ∧ 0 < os.length ∧
  ∀ u H', Stp [] H H' → Rv K [] H' u (noteD r os) → Q u H'
theorem txs_take {os : List (Option (List Nat))} {i : Nat} {o : Option (List Nat)} (h : os[i]? = some o) : txs (os.take (i + 1)) = txs (os.take i) ++ o.toList := by
  unfold txs
  rw [List.take_add_one, h, List.filterMap_append]
  cases o <;> rfl
theorem ruD_parts {K : PySem.W.Frag} {S : List Addr} {H : Hp} {v : V} {r : Ru} (h : Rv K S H v (ruD r)) : ∃ t u2 u3, v = .ref t ∧ SqT K H t [.str (lk r.lacks), u2, u3] ∧ Rv K S H u2 (loD r.low) ∧ Rv K S H u3 (hiD r.high) := by
  obtain ⟨t, vs, rfl, ht, _, rl⟩ := Pv.Rv.tupE (h : Rv K S H v (.tup [wd (lk r.lacks), loD r.low, hiD r.high]))
  obtain ⟨u1, u2, u3, rfl, r1, r2, r3⟩ := RvL.three rl
  have r1' : Rv K S H u1 (.str (lk r.lacks).cps.toList) := r1
  have e : u1 = .str (lk r.lacks) := by
    cases r1'
    exact congrArg V.str (tx_cps _)
  rw [e] at ht
  exact ⟨t, u2, u3, rfl, ht, r2, r3⟩
theorem cl_note {f : Addr} {fd : FuncData} (D : Df K mg "note" s_note ["rule", "page"] f fd) (T : Nm mg) (c_check_rule : Cl P w K mg base 4 "check_rule" s_check_rule ["rule"] (spCk K isRule)) (c_check_page : Cl P w K mg base 4 "check_page" s_check_page ["page"] (spCk K isPage))
    (c_ascending : Cl P w K mg base 1 "ascending" s_ascending ["texts"] (spAsc K)) (c_lacks_note : Cl P w K mg base 1 "lacks_note" s_lacks_note ["lacks", "lacking"] spLacks) (c_low_note : Cl P w K mg base 1 "low_note" s_low_note ["low", "texts"] (spLowN K))
    (c_high_note : Cl P w K mg base 4 "high_note" s_high_note ["high", "texts"] (spHighN K)) : Cl P w K mg base 5 "note" s_note ["rule", "page"] (spNote K) := by
  refine D.cl sc_note (fun vs H Q E h => ?_) (fun cdv A outer s H vs Q E hr h => ?_)
  · obtain ⟨v, p, r, os, rfl, _⟩ := h
    rfl
  · obtain ⟨v, p, r, os, rfl, rv, ok, hp, col, pos, k⟩ := h
    refine ⟨_, (pss_cons (ps_expr (pe_cl c_check_rule hr (by omega) (pa_cons (pv 0) pa_nil)))
      (pss_cons (ps_expr (pe_cl c_check_page hr (by omega) (pa_cons (pv 1) pa_nil)))
      (pss_cons (ps_asg (pv 0) (pg_tup rfl (pgs_cons (pg_name (i := 2) sc_note.nd rfl (by first | exact Or.inl rfl | exact Or.inr rfl)) (pgs_cons (pg_name (i := 3) sc_note.nd rfl (by first | exact Or.inl rfl | exact Or.inr rfl)) (pgs_cons (pg_name (i := 4) sc_note.nd rfl (by first | exact Or.inl rfl | exact Or.inr rfl)) pgs_nil (by rfl)) (by rfl)) (by rfl)) (by rfl) (by rfl)))
      (pss_cons (ps_set (i := 5) sc_note.nd rfl (by first | exact Or.inl rfl | exact Or.inr rfl) (pe_cl c_ascending hr (by omega) (pa_cons (pe_lc (own := [("value", 7)]) rfl sc_note.nd (pi_list (pv 1)) (blkOk_by (own := [("value", 7)]) (N := N_note) (sc := defScope s_note) (by decide +kernel)) (fun _ _ _ _ _ => (pg_name (i := 7) sc_note.nd rfl (by first | exact Or.inl rfl | exact Or.inr rfl))) (fun _ _ _ _ _ => (pts_one (pt_cmpR op_notN (pv 7) pe_non (by first | exact nomark _ | rfl)))) (fun _ _ _ _ _ => (pv 7))) pa_nil)))
      (pss_cons (ps_set (i := 6) sc_note.nd rfl (by first | exact Or.inl rfl | exact Or.inr rfl) (pe_cl c_lacks_note hr (by omega) (pa_cons (pv 2) (pa_cons (pe_op op_sub (pe_callB call_len_seq (by rfl) T.n_len (by decide +kernel) (pa_cons (pv 1) pa_nil)) (pe_callB call_len_seq (by rfl) T.n_len (by decide +kernel) (pa_cons (pv 5) pa_nil))) pa_nil))))
      (pss_one (ps_ret (pe_tup (pa_cons (pe_callB call_len_seq (by rfl) T.n_len (by decide +kernel) (pa_cons (pv 1) pa_nil)) (pa_cons (pv 6) (pa_cons (pe_cl c_low_note hr (by omega) (pa_cons (pv 3) (pa_cons (pv 5) pa_nil))) (pa_cons (pe_cl c_high_note hr (by omega) (pa_cons (pv 4) (pa_cons (pv 5) pa_nil))) pa_nil)))))))))))), ?_⟩
    have nn : ∀ {x : Addr}, x ∉ ([] : List Addr) := fun m => nomatch m
    have few := col.few
    refine ⟨_, rfl, [], v, ruD r, rfl, rv, isRule_ru ok, trivial, fun H1 S1 => ?_⟩
    have hp1 := S1.kp _ _ nn hp
    have rvs1 : RvL K [] H1 (os.map vV) (os.map vD) := rv_vs os fun l m => by have := (col.ok l m).2; omega
    refine ⟨_, rfl, [], .ref p, .lst (os.map vD), rfl, .lst hp1 nn (by rw [List.length_map]; omega) rvs1, isPage_col col pos, (by show (os.map vD).length ≤ 5000; rw [List.length_map]; omega), fun H2 S2 => ?_⟩
    obtain ⟨t, u2, u3, rfl, ht, r2, r3⟩ := ruD_parts (rv.up (S1.trans S2))
    refine ⟨_, rfl, t, _, rfl, ht, rfl, _, _, rfl, _, _, rfl, _, _, rfl, rfl, ?_⟩
    have S12 := S1.trans S2
    have hp2 := S2.kp _ _ nn hp1
    refine ⟨_, rfl, p, rfl, ⟨_, SqL.of hp2⟩, fun L nL => ?_⟩
    refine lc_list (K := K) (a := p) (xs := os.map vV) (fun i H' => H' L = some (.lst ((txs (os.take i)).map Tx)) ∧ Stp [] H2 H')
      ⟨upd_same, Stp.new nL _⟩ (fun i H' _ ⟨_, S⟩ => SqL.of (S.kp _ _ nn hp2)) ?_ ?_
    · rintro i x H' hi ⟨hL, S'⟩
      rw [List.getElem?_map] at hi
      cases e : os[i]? with
      | none => rw [e] at hi; cases hi
      | some o =>
        rw [e] at hi
        cases hi
        have hil : i < os.length := (List.getElem?_eq_some_iff.mp e).1
        refine ⟨rfl, _, rfl, rfl, _, rfl, ?_⟩
        have tk := txs_take e
        cases o with
        | none =>
          refine ite2 (fun h => absurd h (by decide)) (fun _ => ⟨?_, S'⟩)
          rw [tk, Option.toList_none, List.append_nil]
          exact hL
        | some l =>
          refine ite2 (fun _ => ?_) (fun h => absurd rfl h)
          refine ⟨_, rfl, _, hL, ?_, ?_, S'.mut nL⟩
          · rw [List.length_map]
            have := txs_len (os.take i)
            rw [List.length_take] at this
            exact Nat.lt_of_le_of_lt (show (txs (os.take i)).length ≤ 5000 by omega) (by decide)
          · rw [upd_same, tk, List.map_append]
            rfl
    · rintro H3 ⟨hL, S3⟩
      rw [List.length_map, List.take_length] at hL
      have lt := txs_len os
      refine ⟨L, txs os, rfl, SqL.of hL, fun l m => (col.ok l (mem_txs.mp m)).2, by omega, fun zs q H4 nq S4 pm pw hq => ?_⟩
      have S24 := S3.trans S4
      have hp4 := S24.kp _ _ nn hp2
      have zl : zs.length = (txs os).length := pm.length_eq
      refine ⟨_, rfl, _, rfl, p, _, rfl, .inl (SqL.of hp4), _, rfl, q, _, rfl, .inl (SqL.of hq), _, _, rfl, rfl, r.lacks, gone os, ?_, ok.lacks, fun vl rl => ?_⟩
      · have e : ((os.map vV).length : Int) - ((zs.map Tx).length : Int) = ((gone os : Nat) : Int) := by
          rw [List.length_map, List.length_map, zl]
          unfold gone
          omega
        dsimp only
        rw [e]
      have asc : Asc zs := ⟨pw, fun l m => col.ok l (mem_txs.mp (pm.mem_iff.mp m))⟩
      have same : ∀ x, x ∈ zs ↔ x ∈ txs os := fun x => pm.mem_iff
      refine ⟨_, rfl, p, _, rfl, .inl (SqL.of hp4), _, rfl, _, rfl, _, rfl, u2, r.low, q, zs, rfl, r2.up S24, hq, asc, ?_⟩
      refine ⟨_, rfl, _, rfl, u3, r.high, q, zs, rfl, r3.up S24, ok.high, hq, asc, fun H5 S5 => ?_⟩
      rw [lowO_same same, highO_same same]
      refine ⟨(by show 4 ≤ sizeLine; decide), fun t2 nt2 => k _ _ ((S12.trans (S24.trans S5)).new' nt2) ?_⟩
      refine Rv.newT nt2 (.cons ?_ (.cons (rl _ _ _) (.cons (rv_v fun l e => (col_lows col e).2) (.cons (rv_v fun l e => (col_highs col e).2) .nil)))) (by simp)
      rw [List.length_map]
      exact .int _
abbrev s__law_past : Stmt := topS 37
abbrev N__law_past : List Str := ["word"]
theorem sc__law_past : FnScope ["word"] ["word"] (defScope s__law_past) := ⟨rfl, rfl, rfl, by decide +kernel, rfl, by decide +kernel, by decide +kernel⟩

/-! ### the text beyond, by the law -/
theorem cOff_c (m : List Nat) : cOff (m ++ [99]) = cOff m := by
  rw [cOff_rev, cOff_rev, List.reverse_append]
  rfl
theorem cOff_id {m : List Nat} {c : Nat} (h : c ≠ 99) : cOff (m ++ [c]) = m ++ [c] := by
  rw [cOff_rev, List.reverse_append]
  show (List.dropWhile _ (c :: m.reverse)).reverse = _
  rw [List.dropWhile_cons, if_neg (by simpa using h), List.reverse_cons, List.reverse_reverse]
theorem bey_same {a b : List Nat} (h : cOff a = cOff b) : bey a = bey b := by
  unfold bey
  rw [h]
def spPastX : Sp := fun vs H Q _ => ∃ l : List Nat, vs = [Tx l] ∧ Abc l ∧ l.length ≤ 1000 ∧ Q (vV (bey l)) H
theorem cl__law_pastX {f : Addr} {fd : FuncData} (D : Df K mg "_law_past" s__law_past ["word"] f fd) (T : Nm mg) : Cl P w K mg base 1 "_law_past" s__law_past ["word"] spPastX := by
  refine D.cl sc__law_past (fun vs H Q E h => ?_) (fun cdv A outer s H vs Q E hr h => ?_)
  · obtain ⟨l, rfl, _⟩ := h
    rfl
  · obtain ⟨l, rfl, al, ll, k⟩ := h
    refine ⟨_, (pss_cons (ps_while PassesOwn.never (pt_cmpR op_eq (pe_slice sl_str (pv 0) (po_some (pe_un un_neg pe_int)) po_none) pe_str (by first | exact nomark _ | rfl)) (pss_one (ps_set (i := 0) sc__law_past.nd rfl (by first | exact Or.inl rfl | exact Or.inr rfl) (pe_slice sl_str (pv 0) po_none (po_some (pe_un un_neg pe_int))))))
      (pss_cons (ps_if (pt_cmpR op_eq (pv 0) pe_str (by first | exact nomark _ | rfl)) (pss_one (ps_ret pe_non)) pss_nil)
      (pss_one (ps_ret (pe_op op_add_str (pe_slice sl_str (pv 0) po_none (po_some (pe_un un_neg pe_int))) (pe_ifExp (pt_cmpR op_eq (pe_slice sl_str (pv 0) (po_some (pe_un un_neg pe_int)) po_none) pe_str (by first | exact nomark _ | rfl)) pe_str pe_str)))))), ?_⟩
    refine while_by (fun σ H1 => ∃ m : List Nat, σ = [some (Tx m)] ∧ Abc m ∧ m.length ≤ 1000 ∧ bey l = bey m ∧ H1 = H) (fun σ _ => match σ with | [some (.str x)] => x.length | _ => 0) ⟨l, rfl, al, ll, rfl, rfl⟩ ?_ ?_
    · rintro σ H1 ⟨m, rfl, am, lm, lmt, rfl⟩
      refine ⟨_, rfl, 1, rfl, -1, rfl, tx m, rfl, szt (by omega), ?_⟩
      rw [show cutS (tx m) (some (-1)) none = _ from tx_last m]
      refine ⟨rfl, _, rfl, ?_⟩
      rcases List.eq_nil_or_concat m with rfl | ⟨i, c, e⟩
      · refine ite2 (fun h => absurd h (by decide +kernel)) (fun h => ?_)
        refine ⟨_, rfl, rfl, _, rfl, ite2 (fun h1 => ?_) (fun h1 => absurd (decide_eq_true (congrArg V.str nil_lit.symm)) h1)⟩
        rw [lmt] at k
        exact k
      · rw [List.concat_eq_append] at e
        subst e
        have ed : (i ++ [c]).drop ((i ++ [c]).length - 1) = [c] := by rw [List.length_append, List.length_singleton, Nat.add_sub_cancel, List.drop_left]
        rw [ed]
        have li : i.length + 1 ≤ 1000 := by simpa using lm
        have ai : Abc i := fun x m => am x (List.mem_append_left _ m)
        refine ite2 (fun h => ?_) (fun h => ?_)
        · have hc : c = 99 := by
            have := tx_inj ((V.str.inj (of_decide_eq_true h)).trans c_lit9)
            simpa using this
          subst hc
          refine ⟨_, rfl, 1, rfl, -1, rfl, tx (i ++ [99]), rfl, szt (by simp; omega), ?_⟩
          rw [show cutS (tx (i ++ [99])) none (some (-1)) = _ from tx_init _, List.dropLast_concat]
          refine ⟨⟨i, rfl, ai, by omega, by rw [lmt]; exact bey_same (cOff_c i), rfl⟩, ?_⟩
          show (tx i).length < (tx (i ++ [99])).length
          rw [tx_len, tx_len, List.length_append, List.length_singleton]
          omega
        · have hc : c ≠ 99 := fun e => h (decide_eq_true (by rw [e]; exact congrArg V.str c_lit9.symm))
          rw [lmt, bey_some (cOff_id hc)] at k
          refine ⟨_, rfl, rfl, _, rfl, ite2 (fun h1 => ?_) (fun h1 => ?_)⟩
          · have := nil_tx.mp ((V.str.inj (of_decide_eq_true h1)).trans nil_lit)
            simp at this
          · refine ⟨_, rfl, 1, rfl, -1, rfl, tx (i ++ [c]), rfl, szt (by simp; omega), ?_⟩
            rw [show cutS (tx (i ++ [c])) none (some (-1)) = _ from tx_init _, List.dropLast_concat]
            refine ⟨_, rfl, 1, rfl, -1, rfl, tx (i ++ [c]), rfl, szt (by simp; omega), ?_⟩
            rw [show cutS (tx (i ++ [c])) (some (-1)) none = _ from tx_last _, ed]
            refine ⟨rfl, _, rfl, ?_⟩
            rcases am c (by simp) with rfl | rfl | rfl
            · refine ite2 (fun _ => ?_) (fun h => absurd (decide_eq_true (congrArg V.str a_lit.symm)) h)
              refine ⟨tx i, tx [98], rfl, congrArg V.str b_lit, (by rw [tx_len, tx_len]; exact sz (by simp; omega)), ?_⟩
              rw [tx_app]
              exact k
            · refine ite2 (fun h => absurd h (by decide +kernel)) (fun _ => ?_)
              refine ⟨tx i, tx [99], rfl, congrArg V.str c_lit9, (by rw [tx_len, tx_len]; exact sz (by simp; omega)), ?_⟩
              rw [tx_app]
              exact k
            · exact absurd rfl hc
    · rintro σ H Q Q' h ⟨v, e1, i, e2, j, e3, x, e4, z, s1, b, e5, q⟩
      exact ⟨v, e1, i, e2, j, e3, x, e4, z, s1, b, e5, h _ _ q⟩
abbrev s__law_sheet : Stmt := topS 39
abbrev N__law_sheet : List Str := ["bag", "upto", "pool", "found", "way", "left", "k"]
theorem sc__law_sheet : FnScope ["bag", "upto", "pool", "found", "way", "left", "k"] ["bag", "upto"] (defScope s__law_sheet) := ⟨rfl, rfl, rfl, by decide +kernel, rfl, by decide +kernel, by decide +kernel⟩

/-! ### drawn sheets -/
theorem seq_end {t u : TS} {D : Ends} {σ : L2.St} {H : Hp} (I : L2.St → Hp → Prop) (fin : ∀ σ' H', I σ' H' → u D σ' H') (h : (∀ σ' H', I σ' H' → u D σ' H') → t { D with nx := u D } σ H) : tSeq t u D σ H := h fin
def leftL : List (List Nat) := [[], [97], [98], [99], [97, 98], [98, 97], [99, 99], [97, 99], [98, 98], [97, 97, 97], [97, 98, 99], [99, 98], [99, 97]]
theorem leftL_eq : [V.str "", .str "a", .str "b", .str "c", .str "ab", .str "ba", .str "cc", .str "ac", .str "bb", .str "aaa", .str "abc", .str "cb", .str "ca"] = leftL.map Tx := by decide +kernel
theorem leftL_ok : ∀ l ∈ leftL, Abc l ∧ l.length ≤ 12 := by
  intro l m
  have h : leftL.all (fun l => abcB l && decide (l.length ≤ 12)) = true := by decide +kernel
  have q := List.all_eq_true.mp h l m
  rw [Bool.and_eq_true] at q
  exact ⟨abcB_iff.mp q.1, of_decide_eq_true q.2⟩
theorem map_erase' {α β : Type} (f : α → β) : ∀ (ls : List α) (k : Nat), (ls.map f).eraseIdx k = (ls.eraseIdx k).map f
  | [], _ => rfl
  | _ :: _, 0 => rfl
  | x :: ls, k + 1 => by
    show f x :: (ls.map f).eraseIdx k = f x :: (ls.eraseIdx k).map f
    rw [map_erase' f ls k]
/-- values of short texts -/
def OkV (os : List (Option (List Nat))) : Prop := ∀ l, some l ∈ os → Abc l ∧ l.length ≤ 12
theorem OkV.nil : OkV [] := fun _ m => nomatch m
theorem OkV.snoc {os : List (Option (List Nat))} {o : Option (List Nat)} (h : OkV os) (g : ∀ l, o = some l → Abc l ∧ l.length ≤ 12) : OkV (os ++ [o]) := fun l m => by
  rcases List.mem_append.mp m with m | m
  · exact h l m
  · exact g l (List.mem_singleton.mp m).symm
theorem OkV.col {os : List (Option (List Nat))} (h : OkV os) (n : os.length ≤ 5000) : Col os := ⟨fun l m => ⟨(h l m).1, by have := (h l m).2; omega⟩, n⟩
theorem vV_snoc (os : List (Option (List Nat))) (o : Option (List Nat)) : os.map vV ++ [vV o] = (os ++ [o]).map vV := by rw [List.map_append]; rfl
theorem MonoR.neNil {K : PySem.W.Frag} : MonoR (rNeNil K) := fun _ _ _ _ _ h ⟨a, b, xs, e1, e2, n, s1, s2, q⟩ => ⟨a, b, xs, e1, e2, n, s1, s2, h _ _ q⟩
/-- the sheet and the pool in a turn -/
structure Sh (H6 H9 : Hp) (b c p : Addr) (os : List (Option (List Nat))) (ls : List (List Nat)) (m : Nat) : Prop where
  hc : H9 c = some (.lst (os.map vV))
  hp : H9 p = some (.lst (ls.map Tx))
  st : Stp [c, p, b] H6 H9
  bg : Bag H9 b m
theorem Sh.new {H6 H9 : Hp} {b c p q : Addr} {os : List (Option (List Nat))} {ls : List (List Nat)} {m : Nat} (h : Sh H6 H9 b c p os ls m) (nq : H9 q = none) : Sh H6 (upd H9 q (.lst [])) b c p os ls m ∧ c ≠ q ∧ (upd H9 q (.lst [])) q = some (.lst []) :=
  ⟨⟨by rw [upd_ne (ne_of_none h.hc nq)]; exact h.hc, by rw [upd_ne (ne_of_none h.hp nq)]; exact h.hp, h.st.new' nq, h.bg.upd (h.bg.ne nq)⟩, ne_of_none h.hc nq, upd_same⟩
theorem Sh.more {H6 H9 : Hp} {b c p : Addr} {os : List (Option (List Nat))} {ls : List (List Nat)} {m k : Nat} (h : Sh H6 H9 b c p os ls m) (e : m ≤ k) : Sh H6 H9 b c p os ls k := ⟨h.hc, h.hp, h.st, h.bg.mono e⟩
def spSheet : Sp := fun vs H Q _ => ∃ (b : Addr) (up : Int) (n : Nat), vs = [.ref b, .int up] ∧ Bag H b n ∧ n + 5000 < 2 ^ 30 ∧ 1 ≤ up ∧ up ≤ 40 ∧
  ∀ f os H', H f = none → H' f = some (.lst (os.map vV)) → OkV os → 0 < os.length → os.length ≤ 40 → Stp [b] H H' → Bag H' b (n + 3000) → Q (.ref f) H'
theorem cl__law_sheet {f : Addr} {fd : FuncData} (D : Df K mg "_law_sheet" s__law_sheet ["bag", "upto"] f fd) (T : Nm mg) (c__law_draw : Cl P w K mg base 1 "_law_draw" s__law_draw ["bag", "upto"] spDraw)
    (c__law_text : Cl P w K mg base 2 "_law_text" s__law_text ["bag"] spText) (c__law_some : Cl P w K mg base 3 "_law_some" s__law_some ["bag", "pool"] spSome) : Cl P w K mg base 4 "_law_sheet" s__law_sheet ["bag", "upto"] spSheet := by
  refine D.cl sc__law_sheet (fun vs H Q E h => ?_) (fun cdv A outer s H vs Q E hr h => ?_)
  · obtain ⟨b, up, n, rfl, _⟩ := h
    rfl
  · obtain ⟨b, up, n, rfl, B, hn, u1, u40, k⟩ := h
    refine ⟨_, (pss_cons (ps_par3 (i := 2) (j := 3) (l := 4) rfl sc__law_sheet.nd rfl rfl rfl (by decide) (by decide) (by decide) rfl rfl rfl (pa_cons (pe_lst pa_nil) (pa_cons (pe_lst pa_nil) (pa_cons (pe_cl c__law_draw hr (by omega) (pa_cons (pv 0) (pa_cons pe_int pa_nil))) pa_nil))) (by rfl))
      (pss_cons (ps_if (pt_cmpR op_eq (pv 4) pe_int (by first | exact nomark _ | rfl)) (pss_cons (ps_set (i := 5) sc__law_sheet.nd rfl (by first | exact Or.inl rfl | exact Or.inr rfl) (pe_lst (pa_cons pe_str (pa_cons pe_str (pa_cons pe_str (pa_cons pe_str (pa_cons pe_str (pa_cons pe_str (pa_cons pe_str (pa_cons pe_str (pa_cons pe_str (pa_cons pe_str (pa_cons pe_str (pa_cons pe_str (pa_cons pe_str pa_nil)))))))))))))))
      (pss_cons (ps_for PassesOwn.never rfl (pi_range1 (by rfl) T.n_range (pa_cons (pe_callB (call_min2 rfl) (by rfl) T.n_min (by decide +kernel) (pa_cons (pe_callTy call_int1 (by rfl) T.n_int (by decide +kernel) (pa_cons (pv 1) pa_nil)) (pa_cons (pe_op op_add pe_int (pe_cl c__law_draw hr (by omega) (pa_cons (pv 0) (pa_cons pe_int pa_nil)))) pa_nil))) pa_nil)) (pg_name (i := 6) sc__law_sheet.nd rfl (by first | exact Or.inl rfl | exact Or.inr rfl)) (pss_one (ps_expr (pe_bm PySem.F.plainAttrs_list PySem.F.slot_list_append PySem.F.type_list_append mt_append (pv 3) (pa_cons (pe_bm PySem.F.plainAttrs_list PySem.F.slot_list_pop PySem.F.type_list_pop mt_popAt (pv 5) (pa_cons (pe_cl c__law_draw hr (by omega) (pa_cons (pv 0) (pa_cons (pe_callB call_len_seq (by rfl) T.n_len (by decide +kernel) (pa_cons (pv 5) pa_nil)) pa_nil))) pa_nil)) pa_nil)))))
      (pss_one (ps_ret (pv 3))))) pss_nil)
      (pss_cons (ps_if (pt_cmpR op_eq (pv 4) pe_int (by first | exact nomark _ | rfl)) (pss_one (ps_set (i := 3) sc__law_sheet.nd rfl (by first | exact Or.inl rfl | exact Or.inr rfl) (pe_op op_rep (pe_lst (pa_cons (pe_cl c__law_text hr (by omega) (pa_cons (pv 0) pa_nil)) pa_nil)) (pe_callB (call_min2 rfl) (by rfl) T.n_min (by decide +kernel) (pa_cons (pe_callTy call_int1 (by rfl) T.n_int (by decide +kernel) (pa_cons (pv 1) pa_nil)) (pa_cons (pe_op op_add pe_int (pe_cl c__law_draw hr (by omega) (pa_cons (pv 0) (pa_cons pe_int pa_nil)))) pa_nil)))))) pss_nil)
      (pss_cons (ps_for PassesOwn.never rfl (pi_range2 (by rfl) T.n_range (pa_cons (pe_callB call_len_seq (by rfl) T.n_len (by decide +kernel) (pa_cons (pv 3) pa_nil)) (pa_cons (pe_op op_add pe_int (pe_cl c__law_draw hr (by omega) (pa_cons (pv 0) (pa_cons (pv 1) pa_nil)))) pa_nil))) (pg_name (i := 6) sc__law_sheet.nd rfl (by first | exact Or.inl rfl | exact Or.inr rfl)) (pss_cons (ps_set (i := 4) sc__law_sheet.nd rfl (by first | exact Or.inl rfl | exact Or.inr rfl) (pe_cl c__law_draw hr (by omega) (pa_cons (pv 0) (pa_cons pe_int pa_nil))))
      (pss_one (ps_if (PW.pt (pw_and (pt_cmpR (Pv.op_neNil hr.units) (pv 3) (pe_lst pa_nil) (by first | exact nomark _ | rfl)) (pw_and1 (pt_cmpR op_lt (pv 4) pe_int (by first | exact nomark _ | rfl))))) (pss_one (ps_expr (pe_bm PySem.F.plainAttrs_list PySem.F.slot_list_append PySem.F.type_list_append mt_append (pv 3) (pa_cons (pe_ix ix_list (pv 3) (pe_op op_sub (pe_callB call_len_seq (by rfl) T.n_len (by decide +kernel) (pa_cons (pv 3) pa_nil)) pe_int) (fun _ _ => rfl)) pa_nil)))) (pss_one (ps_if (PW.pt (pw_and (pt_cmpR (Pv.op_neNil hr.units) (pv 3) (pe_lst pa_nil) (by first | exact nomark _ | rfl)) (pw_and1 (pt_cmpR op_eq (pv 4) pe_int (by first | exact nomark _ | rfl))))) (pss_one (ps_expr (pe_bm PySem.F.plainAttrs_list PySem.F.slot_list_append PySem.F.type_list_append mt_append (pv 3) (pa_cons (pe_ix ix_list (pv 3) (pe_cl c__law_draw hr (by omega) (pa_cons (pv 0) (pa_cons (pe_callB call_len_seq (by rfl) T.n_len (by decide +kernel) (pa_cons (pv 3) pa_nil)) pa_nil))) (fun _ _ => rfl)) pa_nil)))) (pss_one (ps_if (pt_cmpR op_eq (pv 4) pe_int (by first | exact nomark _ | rfl)) (pss_one (ps_expr (pe_bm PySem.F.plainAttrs_list PySem.F.slot_list_append PySem.F.type_list_append mt_append (pv 3) (pa_cons pe_non pa_nil)))) (pss_cons (ps_expr (pe_bm PySem.F.plainAttrs_list PySem.F.slot_list_append PySem.F.type_list_append mt_append (pv 3) (pa_cons (pe_cl c__law_some hr (by omega) (pa_cons (pv 0) (pa_cons (pv 2) pa_nil))) pa_nil)))
      (pss_one (ps_expr (pe_bm PySem.F.plainAttrs_list PySem.F.slot_list_append PySem.F.type_list_append mt_append (pv 2) (pa_cons (pe_ix ix_list (pv 3) (pe_op op_sub (pe_callB call_len_seq (by rfl) T.n_len (by decide +kernel) (pa_cons (pv 3) pa_nil)) pe_int) (fun _ _ => rfl)) pa_nil)))))))))))))
      (pss_one (ps_ret (pv 3))))))), ?_⟩
    have nn : ∀ {x : Addr}, x ∉ ([] : List Addr) := fun m => nomatch m
    refine ⟨Nat.zero_le _, fun p np => ?_⟩
    have S1 : Stp [] H (upd H p (.lst [])) := Stp.new np _
    have hp1 : (upd H p (.lst [])) p = some (.lst []) := upd_same
    have B1 := B.upd (o := .lst []) (B.ne np)
    have pb : p ≠ b := (B.ne np).symm
    generalize upd H p (.lst []) = H1 at *
    refine ⟨Nat.zero_le _, fun fo nf => ?_⟩
    have S2 : Stp [] H1 (upd H1 fo (.lst [])) := Stp.new nf _
    have hf2 : (upd H1 fo (.lst [])) fo = some (.lst []) := upd_same
    have B2 := B1.upd (o := .lst []) (B1.ne nf)
    have fb : fo ≠ b := (B1.ne nf).symm
    have fp : fo ≠ p := (ne_of_none hp1 nf).symm
    have nfH : H fo = none := S1.fresh nn nf
    have hp2 := S2.kp _ _ nn hp1
    generalize upd H1 fo (.lst []) = H2 at *
    refine ⟨_, rfl, b, 8, n, rfl, B2, by omega, by decide, by decide, fun way H3 w0 w1 o3 B3 => ?_⟩
    have hp4 := o3.at hp2 pb
    have hf4 := o3.at hf2 fb
    have S14 : Stp [b] H H3 := (S1.trans S2).nil.trans (o3.stp (List.mem_singleton.mpr rfl))
    have B4 := B3
    refine ⟨_, _, _, rfl, ?_⟩
    generalize H3 = H4 at *
    have one : b ∈ [b] := List.mem_singleton.mpr rfl
    refine ⟨_, rfl, rfl, _, rfl, ite2 (fun h => ?_) (fun h => ?_)⟩
    · -- texts of the list, each once
      refine ⟨(by show 13 ≤ sizeLine; decide), fun l nl => ?_⟩
      rw [leftL_eq]
      have S5 : Stp [] H4 (upd H4 l (.lst (leftL.map Tx))) := Stp.new nl _
      have hl5 : (upd H4 l (.lst (leftL.map Tx))) l = some (.lst (leftL.map Tx)) := upd_same
      have B5 := B4.upd (o := .lst (leftL.map Tx)) (B4.ne nl)
      have lb : l ≠ b := (B4.ne nl).symm
      have lf : l ≠ fo := (ne_of_none hf4 nl).symm
      have hf5 := S5.kp _ _ nn hf4
      have nlH : H l = none := S14.fresh (fun m => lb (List.mem_singleton.mp m)) nl
      generalize upd H4 l (.lst (leftL.map Tx)) = H5 at *
      refine ⟨_, rfl, .inl ⟨up, rfl, ?_⟩⟩
      refine ⟨_, rfl, b, 4, _, rfl, B5, by omega, by decide, by decide, fun z H6 z0 z1 o6 B6 => ?_⟩
      refine ⟨_, _, rfl, rfl, _, _, rfl, ?_⟩
      obtain ⟨mm, emm, m1, m2, m3⟩ : ∃ mm : Int, mm = (if 9 + z < up then 9 + z else up) ∧ 1 ≤ mm ∧ mm ≤ 12 ∧ mm ≤ up := ⟨_, rfl, by split <;> omega, by split <;> omega, by split <;> omega⟩
      rw [← emm]
      refine ⟨_, rfl, by omega, by omega, ?_⟩
      refine for_range (lo := 0) (n := mm.toNat) (fun i σ H' => ∃ (x6 : Option V) (os : List (Option (List Nat))) (ls : List (List Nat)), σ = [some (.ref b), some (.int up), some (.ref p), some (.ref fo), some (.int way), some (.ref l), x6] ∧ H' fo = some (.lst (os.map vV)) ∧ OkV os ∧ os.length = i ∧
          H' l = some (.lst (ls.map Tx)) ∧ ls.length + i = 13 ∧ (∀ l ∈ ls, Abc l ∧ l.length ≤ 12) ∧ Stp [fo, l, b] H6 H' ∧ Bag H' b (n + 2 + i))
        ⟨_, [], leftL, rfl, o6.at hf5 fb, OkV.nil, rfl, o6.at hl5 lb, rfl, leftL_ok, Stp.refl _ _, B6.mono (by omega)⟩ ?_ ?_
      · rintro i σ H7 hi ⟨x6, os, ls, rfl, hf7, ok, lo, hl7, ll, okl, S7, B7⟩
        refine ⟨_, rfl, .inl ⟨rfl, _, SqL.of hf7⟩, ?_⟩
        refine ⟨_, rfl, .inl ⟨rfl, _, SqL.of hl7⟩, ?_⟩
        refine ⟨_, rfl, _, rfl, l, _, rfl, .inl (SqL.of hl7), b, _, _, rfl, B7, by omega, by rw [List.length_map]; omega, by rw [List.length_map]; omega, fun d H8 d0 d1 o8 B8 => ?_⟩
        rw [List.length_map] at d1
        have kd : d.toNat < ls.length := by omega
        have hl8 := o8.at hl7 lb
        have hf8 := o8.at hf7 fb
        have hget : (ls.map Tx)[d.toNat]? = some (Tx ls[d.toNat]) := by rw [List.getElem?_map, List.getElem?_eq_getElem kd]; rfl
        refine ⟨l, _, d, d.toNat, _, rfl, rfl, hl8, by omega, by omega, by rw [List.length_map]; exact seqIx d0 d1, hget, ?_⟩
        have mt := okl _ (List.getElem_mem kd)
        have eer : (ls.map Tx).eraseIdx d.toNat = (ls.eraseIdx d.toNat).map Tx := map_erase' _ _ _
        rw [eer]
        have hf9 : (upd H8 l (.lst ((ls.eraseIdx d.toNat).map Tx))) fo = some (.lst (os.map vV)) := by rw [upd_ne lf.symm]; exact hf8
        have S89 : Stp [fo, l, b] H8 (upd H8 l (.lst ((ls.eraseIdx d.toNat).map Tx))) := Stp.put (by simp)
        refine ⟨fo, _, _, rfl, rfl, hf9, Nat.lt_of_le_of_lt (show (os.map vV).length ≤ 100 by rw [List.length_map]; omega) (by decide), ?_⟩
        rw [show os.map vV ++ [Tx ls[d.toNat]] = (os ++ [some ls[d.toNat]]).map vV from vV_snoc os (some _)]
        refine ⟨_, os ++ [some ls[d.toNat]], ls.eraseIdx d.toNat, rfl, upd_same, ok.snoc (fun x e => by cases e; exact mt), by simp [lo], ?_, ?_, fun x m => okl x (List.mem_of_mem_eraseIdx m), ?_, ?_⟩
        · rw [upd_ne lf, upd_same]
        · rw [List.length_eraseIdx_of_lt kd]; omega
        · exact ((S7.trans ((o8.stp one).sub (by simp))).trans S89).put' (by simp)
        · exact ((B8.upd lb.symm).upd fb.symm).mono (by omega)
      · rintro σ H7 ⟨x6, os, ls, rfl, hf7, ok, lo, hl7, ll, okl, S7, B7⟩
        refine ⟨_, rfl, k fo os H7 nfH hf7 ok (by omega) (by omega) ?_ (B7.mono (by omega))⟩
        have S47 : Stp [fo, l, b] H H7 := ((S14.trans S5.nil).trans (o6.stp one)).sub (by simp) |>.trans S7
        exact Stp.loc nlH (Stp.loc nfH S47)
    have w2 : ¬ way = 0 := fun e => h (by rw [e]; rfl)
    dsimp only [tNext]
    refine seq_end (fun σ' H' => ∃ (c : Addr) (os : List (Option (List Nat))) (x5 x6 : Option V), σ' = [some (.ref b), some (.int up), some (.ref p), some (.ref c), some (.int way), x5, x6] ∧ H c = none ∧ c ≠ b ∧ c ≠ p ∧ H' c = some (.lst (os.map vV)) ∧ OkV os ∧ (os.length : Int) ≤ up ∧ H' p = some (.lst []) ∧ Stp [b] H H' ∧ Bag H' b (n + 100)) ?_ (fun fin => ?_)
    rotate_left
    · refine ⟨_, rfl, rfl, _, rfl, ite2 (fun h => ?_) (fun h => ?_)⟩
      · refine ⟨_, rfl, b, _, rfl, B4, by omega, fun tl H5 atl ltl S5 B5 => ?_⟩
        refine ⟨(by show 1 ≤ sizeLine; decide), fun l nl => ?_⟩
        have S6 : Stp [] H5 (upd H5 l (.lst [Tx tl])) := Stp.new nl _
        have hl6 : (upd H5 l (.lst [Tx tl])) l = some (.lst [Tx tl]) := upd_same
        have B6 := B5.upd (o := .lst [Tx tl]) (B5.ne nl)
        have lb : l ≠ b := (B5.ne nl).symm
        have pn : p ∉ [b] := fun m => pb (List.mem_singleton.mp m)
        have hp6 := S6.kp _ _ nn (S5.kp _ _ pn hp4)
        generalize upd H5 l (.lst [Tx tl]) = H6 at *
        refine ⟨_, rfl, .inl ⟨up, rfl, ?_⟩⟩
        refine ⟨_, rfl, b, 4, _, rfl, B6, by omega, by decide, by decide, fun z H7 z0 z1 o7 B7 => ?_⟩
        refine ⟨_, _, rfl, rfl, _, _, rfl, ?_⟩
        obtain ⟨mm, emm, m1, m2, m3⟩ : ∃ mm : Int, mm = (if 9 + z < up then 9 + z else up) ∧ 1 ≤ mm ∧ mm ≤ 12 ∧ mm ≤ up := ⟨_, rfl, by split <;> omega, by split <;> omega, by split <;> omega⟩
        rw [← emm]
        have hl7 := o7.at hl6 lb
        refine ⟨l, _, _, rfl, rfl, hl7, by omega, by omega, Nat.le_trans (show 1 * mm.toNat ≤ 100 by omega) (by decide), fun c nc => ?_⟩
        have e2 : (List.replicate mm.toNat [Tx tl]).flatten = (List.replicate mm.toNat (some tl)).map vV := by
          rw [List.flatten_replicate_singleton, List.map_replicate]
          rfl
        rw [e2]
        have S47 : Stp [b] H H7 := ((S14.trans S5).trans S6.nil).trans (o7.stp one)
        have cb : c ≠ b := (B7.ne nc).symm
        have cn : c ∉ [b] := fun m => cb (List.mem_singleton.mp m)
        have hp7 := o7.at hp6 pb
        refine fin _ _ ⟨c, List.replicate mm.toNat (some tl), _, _, rfl, S47.fresh cn nc, cb, (ne_of_none hp7 nc).symm, upd_same, fun x m => ?_, ?_, ?_, S47.new' nc, (B7.upd (B7.ne nc)).mono (by omega)⟩
        · have := (List.mem_replicate.mp m).2
          cases this
          exact ⟨atl, ltl⟩
        · rw [List.length_replicate]; omega
        · rw [upd_ne (ne_of_none hp7 nc)]; exact hp7
      · exact fin _ _ ⟨fo, [], _, _, rfl, nfH, fb, fp, hf4, OkV.nil, by simp; omega, hp4, S14, B4.mono (by omega)⟩
    rintro σ H5 ⟨c, os0, x5, x6, rfl, ncH, cb, cp, hc5, ok0, lo0, hp5, S05, B5⟩
    have npH : H p = none := np
    refine ⟨_, rfl, c, _, rfl, .inl (SqL.of hc5), ?_⟩
    refine ⟨_, rfl, _, rfl, b, up, _, rfl, B5, by omega, by omega, by omega, fun z H6 z0 z1 o6 B6 => ?_⟩
    refine ⟨_, _, rfl, rfl, _, _, rfl, ?_⟩
    rw [List.length_map]
    refine ⟨⟨by omega, by omega, by omega, by omega⟩, ?_⟩
    have pos : 0 < os0.length + (1 + z - (os0.length : Int)).toNat := by omega
    have cap : os0.length + (1 + z - (os0.length : Int)).toNat ≤ 40 := by omega
    generalize (1 + z - (os0.length : Int)).toNat = N at *
    have mcb : ∀ x ∈ ([b] : List Addr), x ∈ [c, p, b] := by simp
    refine for_range (lo := (os0.length : Int)) (n := N) (fun i σ H' => ∃ (y4 x5 y6 : Option V) (os : List (Option (List Nat))) (ls : List (List Nat)), σ = [some (.ref b), some (.int up), some (.ref p), some (.ref c), y4, x5, y6] ∧ H' c = some (.lst (os.map vV)) ∧ OkV os ∧ os.length = os0.length + i ∧
        Pool H' p ls ∧ ls.length ≤ i ∧ Stp [c, p, b] H6 H' ∧ Bag H' b (n + 101 + 30 * i))
      ⟨_, _, _, os0, [], rfl, o6.at hc5 cb, ok0, rfl, ⟨o6.at hp5 pb, fun _ m => nomatch m⟩, Nat.le_refl _, Stp.refl _ _, B6⟩ ?_ ?_
    · rintro i σ H7 hi ⟨y4, x5, y6, os, ls, rfl, hc7, ok, lo, ⟨hp7, okp⟩, ll, S7, B7⟩
      have os40 : os.length < 40 := by omega
      refine ⟨_, rfl, b, 6, _, rfl, B7, by omega, by decide, by decide, fun way2 H8 v0 v1 o8 B8 => ?_⟩
      have hc8 := o8.at hc7 cb
      have hp8 := o8.at hp7 pb
      have S78 := S7.trans ((o8.stp one).sub mcb)
      have pn : p ∉ [b] := fun m => pb (List.mem_singleton.mp m)
      have h8 : Sh H6 H8 b c p os ls (n + 102 + 30 * i) := ⟨hc8, hp8, S78, B8.mono (by omega)⟩
      -- what is put at the end
      have put : ∀ (H9 : Hp) (o : Option (List Nat)), Sh H6 H9 b c p os ls (n + 130 + 30 * i) → (∀ l, o = some l → Abc l ∧ l.length ≤ 12) →
          ∃ (y4 x5' y6 : Option V) (os' : List (Option (List Nat))) (ls' : List (List Nat)), [some (.ref b), some (.int up), some (.ref p), some (.ref c), some (.int way2), x5, some (.int ((os0.length : Int) + (i : Int)))] = [some (.ref b), some (.int up), some (.ref p), some (.ref c), y4, x5', y6] ∧ (upd H9 c (.lst ((os ++ [o]).map vV))) c = some (.lst (os'.map vV)) ∧ OkV os' ∧ os'.length = os0.length + (i + 1) ∧ Pool (upd H9 c (.lst ((os ++ [o]).map vV))) p ls' ∧ ls'.length ≤ i + 1 ∧ Stp [c, p, b] H6 (upd H9 c (.lst ((os ++ [o]).map vV))) ∧ Bag (upd H9 c (.lst ((os ++ [o]).map vV))) b (n + 101 + 30 * (i + 1)) :=
        fun H9 o h9 g => ⟨_, _, _, os ++ [o], ls, rfl, upd_same, ok.snoc g, by rw [List.length_append, lo]; rfl, ⟨by rw [upd_ne cp.symm]; exact h9.hp, okp⟩, by omega, h9.st.put' (by simp), (h9.bg.upd cb.symm).mono (by omega)⟩
      have smal : (os.map vV).length < sizeLine := Nat.lt_of_le_of_lt (show (os.map vV).length ≤ 100 by rw [List.length_map]; omega) (by decide)
      have last : ∀ {o : Option (List Nat)} {t : List (Option (List Nat))}, os = t ++ [o] → atI (os.map vV) (((os.map vV).length : Int) - 1) = some (vV o) := fun {o t} e => by
        rw [e, List.length_map, List.length_append, List.length_singleton]
        refine (congrArg _ (show ((t.length + 1 : Nat) : Int) - 1 = ((t.length : Nat) : Int) by omega)).trans (atI_nat ?_)
        rw [List.getElem?_map, List.getElem?_append_right (Nat.le_refl _), Nat.sub_self]
        rfl
      refine MonoT.cut (MonoT.and (MonoT.test (Mono.op' MonoR.neNil Mono.var (Mono.lst MonoA.nil))) (MonoT.test (Mono.op' MonoR.i0 Mono.var Mono.c))) (fun t H9 => Sh H6 H9 b c p os ls (n + 102 + 30 * i) ∧ (t = true → os ≠ [])) ?_ ?_
      · refine ⟨_, rfl, Nat.zero_le _, fun q nq => ?_⟩
        obtain ⟨h9, cq, hq⟩ := h8.new nq
        refine ⟨c, q, _, rfl, rfl, cq, SqL.of h9.hc, SqL.of hq, _, rfl, ite2 (fun h => ?_) (fun h => ?_)⟩
        · exact ⟨_, rfl, _, _, rfl, rfl, _, rfl, h9, fun _ e => by rw [e] at h; exact absurd h (by decide)⟩
        · exact ⟨h9, fun e => nomatch e⟩
      rintro t H9 ⟨h9, hne⟩
      refine ite2 (fun h => ?_) (fun h => ?_)
      · obtain ⟨os', o, eo⟩ : ∃ os' o, os = os' ++ [o] := by
          rcases List.eq_nil_or_concat os with e | ⟨x, y, e⟩
          · exact absurd e (hne h)
          · exact ⟨x, y, by rw [e, List.concat_eq_append]⟩
        refine ⟨_, rfl, .inl ⟨rfl, _, SqL.of h9.hc⟩, _, rfl, _, rfl, c, _, rfl, .inl (SqL.of h9.hc), _, _, rfl, rfl, c, _, _, vV o, rfl, rfl, SqL.of h9.hc, last eo, c, _, _, rfl, rfl, h9.hc, smal, ?_⟩
        rw [vV_snoc]
        exact put H9 o (h9.more (by omega)) fun l e => ok l (by rw [eo, e]; simp)
      refine MonoT.cut (MonoT.and (MonoT.test (Mono.op' MonoR.neNil Mono.var (Mono.lst MonoA.nil))) (MonoT.test (Mono.op' MonoR.eq Mono.var Mono.c))) (fun t H9 => Sh H6 H9 b c p os ls (n + 102 + 30 * i) ∧ (t = true → os ≠ [])) ?_ ?_
      · refine ⟨_, rfl, Nat.zero_le _, fun q nq => ?_⟩
        obtain ⟨h10, cq, hq⟩ := h9.new nq
        refine ⟨c, q, _, rfl, rfl, cq, SqL.of h10.hc, SqL.of hq, _, rfl, ite2 (fun h => ?_) (fun h => ?_)⟩
        · exact ⟨_, rfl, rfl, _, rfl, h10, fun _ e => by rw [e] at h; exact absurd h (by decide)⟩
        · exact ⟨h10, fun e => nomatch e⟩
      rintro t2 HA ⟨hA, hne2⟩
      refine ite2 (fun h => ?_) (fun h => ?_)
      · refine ⟨_, rfl, .inl ⟨rfl, _, SqL.of hA.hc⟩, _, rfl, _, rfl, _, rfl, c, _, rfl, .inl (SqL.of hA.hc), b, _, _, rfl, hA.bg, by omega, ?_, ?_, fun d HB d0 d1 oB BB => ?_⟩
        · have := List.length_pos_iff.mpr (hne2 h)
          rw [List.length_map]; omega
        · rw [List.length_map]; omega
        rw [List.length_map] at d1
        obtain ⟨e, rfl⟩ := Int.eq_ofNat_of_zero_le d0
        have he : e < os.length := by omega
        have hcB := oB.at hA.hc cb
        have hB : Sh H6 HB b c p os ls (n + 130 + 30 * i) := ⟨hcB, oB.at hA.hp pb, hA.st.trans ((oB.stp one).sub mcb), BB.mono (by omega)⟩
        refine ⟨c, _, (e : Int), vV os[e], rfl, rfl, SqL.of hcB, atI_nat (by rw [List.getElem?_map, List.getElem?_eq_getElem he]; rfl), c, _, _, rfl, rfl, hcB, smal, ?_⟩
        rw [vV_snoc]
        exact put HB os[e] hB fun l e' => ok l (by rw [← e']; exact List.getElem_mem he)
      refine ⟨_, rfl, rfl, _, rfl, ite2 (fun h3 => ?_) (fun h3 => ?_)⟩
      · refine ⟨_, rfl, .inl ⟨rfl, _, SqL.of hA.hc⟩, c, _, _, rfl, rfl, hA.hc, smal, ?_⟩
        rw [show os.map vV ++ [V.non] = _ from vV_snoc os none]
        exact put HA none (hA.more (by omega)) fun l e => nomatch e
      · refine ⟨_, rfl, .inl ⟨rfl, _, SqL.of hA.hc⟩, ?_⟩
        refine ⟨_, rfl, _, rfl, b, p, _, ls, rfl, hA.bg, by omega, ⟨hA.hp, okp⟩, by omega, pb.symm, fun m HB am lm SB BB => ?_⟩
        have cn : c ∉ [b] := fun m => cb (List.mem_singleton.mp m)
        have hcB := SB.kp _ _ cn hA.hc
        have hpB := SB.kp _ _ pn hA.hp
        refine ⟨c, _, _, rfl, rfl, hcB, smal, ?_⟩
        rw [show os.map vV ++ [Tx m] = _ from vV_snoc os (some m)]
        have hcC : (upd HB c (.lst ((os ++ [some m]).map vV))) c = some (.lst ((os ++ [some m]).map vV)) := upd_same
        have hpC : (upd HB c (.lst ((os ++ [some m]).map vV))) p = some (.lst (ls.map Tx)) := by rw [upd_ne cp.symm]; exact hpB
        have SC : Stp [c, p, b] H6 (upd HB c (.lst ((os ++ [some m]).map vV))) := (hA.st.trans (SB.sub mcb)).put' (by simp)
        have BC := BB.upd (o := .lst ((os ++ [some m]).map vV)) cb.symm
        generalize upd HB c (.lst ((os ++ [some m]).map vV)) = HC at *
        have lastC : atI ((os ++ [some m]).map vV) ((((os ++ [some m]).map vV).length : Int) - 1) = some (Tx m) := by
          rw [List.length_map, List.length_append, List.length_singleton]
          refine (congrArg _ (show ((os.length + 1 : Nat) : Int) - 1 = ((os.length : Nat) : Int) by omega)).trans (atI_nat ?_)
          rw [List.getElem?_map, List.getElem?_append_right (Nat.le_refl _), Nat.sub_self]
          rfl
        refine ⟨_, rfl, .inl ⟨rfl, _, SqL.of hpC⟩, _, rfl, _, rfl, c, _, rfl, .inl (SqL.of hcC), _, _, rfl, rfl, c, _, _, _, rfl, rfl, SqL.of hcC, lastC, p, _, _, rfl, rfl, hpC, Nat.lt_of_le_of_lt (show (ls.map Tx).length ≤ 100 by rw [List.length_map]; omega) (by decide), ?_⟩
        rw [show ls.map Tx ++ [Tx m] = (ls ++ [m]).map Tx by rw [List.map_append]; rfl]
        refine ⟨_, _, _, os ++ [some m], ls ++ [m], rfl, by rw [upd_ne cp]; exact hcC, ok.snoc (fun l e => by cases e; exact ⟨am, lm⟩), by rw [List.length_append, lo]; rfl, ⟨upd_same, fun l ml => ?_⟩, by rw [List.length_append, List.length_singleton]; omega, SC.put' (by simp), (BC.upd pb.symm).mono (by omega)⟩
        rcases List.mem_append.mp ml with ml | ml
        · exact okp l ml
        · rw [List.mem_singleton.mp ml]; exact ⟨am, lm⟩
    · rintro σ H7 ⟨y4, x5, y6, os, ls, rfl, hc7, ok, lo, P7, ll, S7, B7⟩
      refine ⟨_, rfl, k c os H7 ncH hc7 ok (by omega) (by omega) ?_ (B7.mono (by omega))⟩
      have Sx : Stp [c, p, b] H H7 := (S05.trans (o6.stp one)).sub mcb |>.trans S7
      exact Stp.loc npH (Stp.loc ncH Sx)
mutual
def noL : D → Bool
  | .lst _ => false
  | .tup ds => noLs ds
  | _ => true
def noLs : List D → Bool
  | [] => true
  | d :: ds => noL d && noLs ds
end
mutual
theorem Rv.any {K : PySem.W.Frag} {S S' : List Addr} {H : Hp} : ∀ {v : V} {d : D}, Rv K S H v d → noL d = true → Rv K S' H v d
  | _, .non, .non, _ => .non
  | _, .bl _, .bl b, _ => .bl b
  | _, .int _, .int i, _ => .int i
  | _, .str _, .str x h, _ => .str x h
  | _, .tup ds, .tup h n r, q => .tup h n (RvL.any r (by unfold noL at q; exact q))
  | _, .lst _, .lst _ _ _ _, q => by unfold noL at q; cases q
  | _, .obj _, .obj h k, _ => .obj h k
theorem RvL.any {K : PySem.W.Frag} {S S' : List Addr} {H : Hp} : ∀ {vs : List V} {ds : List D}, RvL K S H vs ds → noLs ds = true → RvL K S' H vs ds
  | _, [], .nil, _ => .nil
  | _, _ :: _, .cons h r, q => by
    unfold noLs at q
    obtain ⟨q1, q2⟩ := Bool.and_eq_true_iff.mp q
    exact .cons (Rv.any h q1) (RvL.any r q2)
end
theorem noL_ru (r : Ru) : noL (ruD r) = true := by
  obtain ⟨k, lo, hi⟩ := r
  cases lo <;> cases hi <;> rfl
theorem noL_v (o : Option (List Nat)) : noL (vD o) = true := by cases o <;> rfl
abbrev s__law_kind : Stmt := topS 41
abbrev N__law_kind : List Str := ["bag", "low", "high"]
theorem sc__law_kind : FnScope ["bag", "low", "high"] ["bag"] (defScope s__law_kind) := ⟨rfl, rfl, rfl, by decide +kernel, rfl, by decide +kernel, by decide +kernel⟩

abbrev s_digits : Stmt := topS 28
abbrev N_digits : List Str := ["number"]
theorem sc_digits : FnScope ["number"] ["number"] (defScope s_digits) := ⟨rfl, rfl, rfl, by decide +kernel, rfl, by decide +kernel, by decide +kernel⟩

abbrev s_value_signs : Stmt := topS 29
abbrev N_value_signs : List Str := ["value"]
theorem sc_value_signs : FnScope ["value"] ["value"] (defScope s_value_signs) := ⟨rfl, rfl, rfl, by decide +kernel, rfl, by decide +kernel, by decide +kernel⟩

abbrev s_lacks_signs : Stmt := topS 31
abbrev N_lacks_signs : List Str := ["lacks"]
theorem sc_lacks_signs : FnScope ["lacks"] ["lacks"] (defScope s_lacks_signs) := ⟨rfl, rfl, rfl, by decide +kernel, rfl, by decide +kernel, by decide +kernel⟩

abbrev s_note_signs : Stmt := topS 30
abbrev N_note_signs : List Str := ["rule", "page", "many", "lacks", "low", "high"]
theorem sc_note_signs : FnScope ["rule", "page", "many", "lacks", "low", "high"] ["rule", "page"] (defScope s_note_signs) := ⟨rfl, rfl, rfl, by decide +kernel, rfl, by decide +kernel, by decide +kernel⟩

/-! ### drawn rules of the codes -/
def spKind (K : PySem.W.Frag) : Sp := fun vs H Q _ => ∃ (b : Addr) (n : Nat), vs = [.ref b] ∧ Bag H b n ∧ n + 20 < 2 ^ 30 ∧ ∀ v r H', Stp [b] H H' → Bag H' b (n + 10) → RuOk r → Rv K [] H' v (ruD r) → Q v H'
theorem low8 {d : Int} (h0 : 0 ≤ d) (h1 : d < 8) : ∃ lo : Option Nat, (∀ m, lo = some m → m ≤ 6) ∧ ∃ v, atI [V.int 0, .int 1, .int 2, .int 3, .int 4, .int 5, .int 6, .str "lost"] d = some v ∧ ∀ K S H, Rv K S H v (loD lo) := by
  rcases (by omega : d = 0 ∨ d = 1 ∨ d = 2 ∨ d = 3 ∨ d = 4 ∨ d = 5 ∨ d = 6 ∨ d = 7) with rfl | rfl | rfl | rfl | rfl | rfl | rfl | rfl
  · exact ⟨some 0, fun m e => by cases e; omega, _, atI_nat (j := 0) rfl, fun _ _ _ => .int _⟩
  · exact ⟨some 1, fun m e => by cases e; omega, _, atI_nat (j := 1) rfl, fun _ _ _ => .int _⟩
  · exact ⟨some 2, fun m e => by cases e; omega, _, atI_nat (j := 2) rfl, fun _ _ _ => .int _⟩
  · exact ⟨some 3, fun m e => by cases e; omega, _, atI_nat (j := 3) rfl, fun _ _ _ => .int _⟩
  · exact ⟨some 4, fun m e => by cases e; omega, _, atI_nat (j := 4) rfl, fun _ _ _ => .int _⟩
  · exact ⟨some 5, fun m e => by cases e; omega, _, atI_nat (j := 5) rfl, fun _ _ _ => .int _⟩
  · exact ⟨some 6, fun m e => by cases e; omega, _, atI_nat (j := 6) rfl, fun _ _ _ => .int _⟩
  · exact ⟨none, (fun m e => by cases e), _, atI_nat (j := 7) rfl, fun _ _ _ => Rv.lit "lost"⟩
theorem cl__law_kind {f : Addr} {fd : FuncData} (D : Df K mg "_law_kind" s__law_kind ["bag"] f fd) (T : Nm mg) (c__law_draw : Cl P w K mg base 1 "_law_draw" s__law_draw ["bag", "upto"] spDraw) : Cl P w K mg base 2 "_law_kind" s__law_kind ["bag"] (spKind K) := by
  refine D.cl sc__law_kind (fun vs H Q E h => ?_) (fun cdv A outer s H vs Q E hr h => ?_)
  · obtain ⟨b, n, rfl, _⟩ := h
    rfl
  · obtain ⟨b, n, rfl, B, hn, k⟩ := h
    refine ⟨_, (pss_cons (ps_set (i := 1) sc__law_kind.nd rfl (by first | exact Or.inl rfl | exact Or.inr rfl) (pe_ix ix_list (pe_lst (pa_cons pe_int (pa_cons pe_int (pa_cons pe_int (pa_cons pe_int (pa_cons pe_int (pa_cons pe_int (pa_cons pe_int (pa_cons pe_str pa_nil))))))))) (pe_cl c__law_draw hr (by omega) (pa_cons (pv 0) (pa_cons pe_int pa_nil))) (fun _ _ => rfl)))
      (pss_cons (ps_set (i := 2) sc__law_kind.nd rfl (by first | exact Or.inl rfl | exact Or.inr rfl) (pe_tup (pa_cons (pe_ix ix_list (pe_lst (pa_cons pe_str (pa_cons pe_str pa_nil))) (pe_cl c__law_draw hr (by omega) (pa_cons (pv 0) (pa_cons pe_int pa_nil))) (fun _ _ => rfl)) (pa_cons (pe_cl c__law_draw hr (by omega) (pa_cons (pv 0) (pa_cons pe_int pa_nil))) pa_nil))))
      (pss_cons (ps_if (pt_cmpR op_eq (pe_cl c__law_draw hr (by omega) (pa_cons (pv 0) (pa_cons pe_int pa_nil))) pe_int (by first | exact nomark _ | rfl)) (pss_one (ps_set (i := 2) sc__law_kind.nd rfl (by first | exact Or.inl rfl | exact Or.inr rfl) pe_str)) pss_nil)
      (pss_one (ps_ret (pe_tup (pa_cons (pe_ix ix_list (pe_lst (pa_cons pe_str (pa_cons pe_str (pa_cons pe_str pa_nil)))) (pe_cl c__law_draw hr (by omega) (pa_cons (pv 0) (pa_cons pe_int pa_nil))) (fun _ _ => rfl)) (pa_cons (pv 1) (pa_cons (pv 2) pa_nil))))))))), ?_⟩
    have nn : ∀ {x : Addr}, x ∉ ([] : List Addr) := fun m => nomatch m
    have one : b ∈ [b] := List.mem_singleton.mpr rfl
    refine ⟨(by show 8 ≤ sizeLine; decide), fun l nl => ?_⟩
    have S1 : Stp [b] H (upd H l (.lst [.int 0, .int 1, .int 2, .int 3, .int 4, .int 5, .int 6, .str "lost"])) := Stp.new nl _
    have B1 := B.upd (o := .lst [.int 0, .int 1, .int 2, .int 3, .int 4, .int 5, .int 6, .str "lost"]) (B.ne nl)
    have hl : (upd H l (.lst [.int 0, .int 1, .int 2, .int 3, .int 4, .int 5, .int 6, .str "lost"])) l = some (.lst [.int 0, .int 1, .int 2, .int 3, .int 4, .int 5, .int 6, .str "lost"]) := upd_same
    have lb : l ≠ b := (B.ne nl).symm
    generalize upd H l (.lst [.int 0, .int 1, .int 2, .int 3, .int 4, .int 5, .int 6, .str "lost"]) = H1 at *
    refine ⟨_, rfl, b, 8, n, rfl, B1, by omega, by decide, by decide, fun d H2 d0 d1 o2 B2 => ?_⟩
    obtain ⟨lo, hlo, vlo, elo, rlo⟩ := low8 d0 d1
    refine ⟨l, _, d, vlo, rfl, rfl, SqL.of (o2.at hl lb), elo, ?_⟩
    have S2 := S1.trans (o2.stp one)
    -- high
    refine ⟨(by show 2 ≤ sizeLine; decide), fun l2 nl2 => ?_⟩
    have S3 : Stp [b] H2 (upd H2 l2 (.lst [.str "cut", .str "beyond"])) := Stp.new nl2 _
    have B3 := B2.upd (o := .lst [.str "cut", .str "beyond"]) (B2.ne nl2)
    have hl2 : (upd H2 l2 (.lst [.str "cut", .str "beyond"])) l2 = some (.lst [.str "cut", .str "beyond"]) := upd_same
    have lb2 : l2 ≠ b := (B2.ne nl2).symm
    generalize upd H2 l2 (.lst [.str "cut", .str "beyond"]) = H3 at *
    refine ⟨_, rfl, b, 2, _, rfl, B3, by omega, by decide, by decide, fun e H4 e0 e1 o4 B4 => ?_⟩
    obtain ⟨kw, hkw, ekw⟩ := words2 e0 e1
    refine ⟨l2, _, e, _, rfl, rfl, SqL.of (o4.at hl2 lb2), ekw, ?_⟩
    refine ⟨_, rfl, b, 7, _, rfl, B4, by omega, by decide, by decide, fun z H5 z0 z1 o5 B5 => ?_⟩
    obtain ⟨m, rfl⟩ := Int.eq_ofNat_of_zero_le z0
    refine ⟨(by show 2 ≤ sizeLine; decide), fun t nt => ?_⟩
    have S6 : Stp [] H5 (upd H5 t (.tup [.str (wy kw), .int (m : Int)])) := Stp.new nt _
    have B6 := B5.upd (o := .tup [.str (wy kw), .int (m : Int)]) (B5.ne nt)
    have rh : Rv K [b] (upd H5 t (.tup [.str (wy kw), .int (m : Int)])) (.ref t) (hiD (some (kw, m))) := Rv.newT nt (.cons (Rv.lit _ (wy_len kw)) (.cons (.int _) .nil)) (by simp)
    have S26 : Stp [b] H (upd H5 t (.tup [.str (wy kw), .int (m : Int)])) := (((S2.trans S3).trans (o4.stp one)).trans (o5.stp one)).trans S6.nil
    generalize upd H5 t (.tup [.str (wy kw), .int (m : Int)]) = H6 at *
    dsimp only [gName]
    refine seq_end (fun σ' H' => ∃ (vh : V) (hi : Option (Nat × Nat)), σ' = [some (.ref b), some vlo, some vh] ∧ (∀ k n, hi = some (k, n) → k < 2 ∧ n ≤ 6) ∧ Rv K [b] H' vh (hiD hi) ∧ Stp [b] H H' ∧ Bag H' b (n + 5)) ?_ (fun fin => ?_)
    rotate_left
    · refine ⟨_, rfl, b, 6, _, rfl, B6, by omega, by decide, by decide, fun y H7 y0 y1 o7 B7 => ?_⟩
      have ls6 : Lsts H6 [b] := by
        obtain ⟨x1, x2, x3, hb, _⟩ := B6
        exact .one hb
      refine ⟨rfl, _, rfl, ite2 (fun h => ?_) (fun h => ?_)⟩
      · exact fin _ _ ⟨_, none, rfl, fun _ _ e => (nomatch e), Rv.lit "lost", S26.trans (o7.stp one), B7.mono (by omega)⟩
      · exact fin _ _ ⟨_, some (kw, m), rfl, fun _ _ e => by cases e; exact ⟨hkw, by omega⟩, rh.stp (o7.stp one) ls6, S26.trans (o7.stp one), B7.mono (by omega)⟩
    rintro σ H7 ⟨vh, hi, rfl, okh, rh7, S7, B7⟩
    refine ⟨(by show 3 ≤ sizeLine; decide), fun l3 nl3 => ?_⟩
    have S8 : Stp [] H7 (upd H7 l3 (.lst [.str "many", .str "some", .str "hidden"])) := Stp.new nl3 _
    have B8 := B7.upd (o := .lst [.str "many", .str "some", .str "hidden"]) (B7.ne nl3)
    have hl3 : (upd H7 l3 (.lst [.str "many", .str "some", .str "hidden"])) l3 = some (.lst [.str "many", .str "some", .str "hidden"]) := upd_same
    have lb3 : l3 ≠ b := (B7.ne nl3).symm
    have rh8 := rh7.up S8
    generalize upd H7 l3 (.lst [.str "many", .str "some", .str "hidden"]) = H8 at *
    refine ⟨_, rfl, b, 3, _, rfl, B8, by omega, by decide, by decide, fun y H9 y0 y1 o9 B9 => ?_⟩
    obtain ⟨kw3, hkw3, ekw3⟩ := words3 y0 y1
    refine ⟨l3, _, y, _, rfl, rfl, SqL.of (o9.at hl3 lb3), ekw3, ?_⟩
    have ls8 : Lsts H8 [b] := by
      obtain ⟨x1, x2, x3, hb, _⟩ := B8
      exact .one hb
    have rh9 := rh8.stp (o9.stp one) ls8
    refine ⟨_, rfl, _, rfl, (by show 3 ≤ sizeLine; decide), fun t2 nt2 => ?_⟩
    refine k _ ⟨kw3, lo, hi⟩ _ (((S7.trans S8.nil).trans (o9.stp one)).new' nt2) ((B9.upd (B9.ne nt2)).mono (by omega)) ⟨hkw3, hlo, okh⟩ ?_
    exact Rv.newT nt2 (.cons (Rv.lit _ (lk_len kw3)) (.cons (rlo _ _ _) (.cons (Rv.any rh9 (by cases hi <;> rfl)) .nil))) (by simp)
/-! ### how many signs -/
def dg (i : Int) : Nat := (Str.ofString (toString i)).length
theorem dg_le {i : Int} (h : i.natAbs < 10 ^ 10) : dg i ≤ 11 := by
  have e := int_text_length_le10 (k := 10) (by decide) h
  show (Str.ofString (toString i)).length ≤ 11
  rw [PySem.ofString_length]
  omega
theorem log2_ok {i : Int} (h : i.natAbs < 10 ^ 10) : i.natAbs.log2 < 1920 := by
  by_cases z : i.natAbs = 0
  · rw [z]; decide
  · exact (Nat.log2_lt z).mpr (Nat.lt_trans h (by decide +kernel))
def vsg : Option (List Nat) → Nat
  | none => 1
  | some l => l.length + 1
def lsg : Nat → Nat → Nat
  | 0, m => dg (m : Int)
  | 1, _ => 1
  | _, _ => 0
def nsg (r : Ru) (os : List (Option (List Nat))) : Nat := dg (os.length : Int) + lsg r.lacks (gone os) + vsg (lowO r.low (txs os)) + vsg (highO r.high (txs os))
def spDigits : Sp := fun vs H Q _ => ∃ i : Int, vs = [.int i] ∧ i.natAbs < 10 ^ 10 ∧ Q (.int (dg i : Int)) H
theorem cl_digits {f : Addr} {fd : FuncData} (D : Df K mg "digits" s_digits ["number"] f fd) (T : Nm mg) : Cl P w K mg base 1 "digits" s_digits ["number"] spDigits := by
  refine D.cl sc_digits (fun vs H Q E h => ?_) (fun cdv A outer s H vs Q E hr h => ?_)
  · obtain ⟨i, rfl, _⟩ := h
    rfl
  · obtain ⟨i, rfl, hi, k⟩ := h
    refine ⟨_, (pss_one (ps_ret (pe_callB call_len_str (by rfl) T.n_len (by decide +kernel) (pa_cons (pe_callTy call_str_int (by rfl) T.n_str (by decide +kernel) (pa_cons (pv 0) pa_nil)) pa_nil)))), ?_⟩
    exact ⟨_, rfl, i, rfl, log2_ok hi, Str.ofString (toString i), rfl, sz (by have := dg_le hi; unfold dg at this; omega), k⟩
def spVsg : Sp := fun vs H Q _ => ∃ o : Option (List Nat), vs = [vV o] ∧ (∀ l, o = some l → l.length ≤ 1000) ∧ Q (.int (vsg o : Int)) H
theorem cl_value_signs {f : Addr} {fd : FuncData} (D : Df K mg "value_signs" s_value_signs ["value"] f fd) (T : Nm mg) : Cl P w K mg base 1 "value_signs" s_value_signs ["value"] spVsg := by
  refine D.cl sc_value_signs (fun vs H Q E h => ?_) (fun cdv A outer s H vs Q E hr h => ?_)
  · obtain ⟨o, rfl, _⟩ := h
    rfl
  · obtain ⟨o, rfl, ho, k⟩ := h
    refine ⟨_, (pss_one (ps_ret (pe_ifExp (pt_cmpR op_isN (pv 0) pe_non (by first | exact nomark _ | rfl)) pe_int (pe_op op_add (pe_callB call_len_str (by rfl) T.n_len (by decide +kernel) (pa_cons (pv 0) pa_nil)) pe_int)))), ?_⟩
    cases o with
    | none => exact ⟨_, rfl, rfl, _, rfl, ite2 (fun _ => k) (fun h => absurd rfl h)⟩
    | some l =>
      refine ⟨_, rfl, rfl, _, rfl, ite2 (fun h => absurd h (by simp [vV])) (fun _ => ?_)⟩
      have := ho l rfl
      refine ⟨_, rfl, tx l, rfl, szt (by omega), _, _, rfl, rfl, ?_⟩
      dsimp only
      rw [tx_len]
      exact k
def spLsg (K : PySem.W.Frag) : Sp := fun vs H Q _ => ∃ (v : V) (j m : Nat), vs = [v] ∧ Rv K [] H v (lacksD j m) ∧ m ≤ 5000 ∧ Q (.int (lsg j m : Int)) H
theorem cl_lacks_signs {f : Addr} {fd : FuncData} (D : Df K mg "lacks_signs" s_lacks_signs ["lacks"] f fd) (T : Nm mg) (c_digits : Cl P w K mg base 1 "digits" s_digits ["number"] spDigits) : Cl P w K mg base 2 "lacks_signs" s_lacks_signs ["lacks"] (spLsg K) := by
  refine D.cl sc_lacks_signs (fun vs H Q E h => ?_) (fun cdv A outer s H vs Q E hr h => ?_)
  · obtain ⟨v, j, m, rfl, _⟩ := h
    rfl
  · obtain ⟨v, j, m, rfl, r, hm, k⟩ := h
    refine ⟨_, (pss_cons (ps_if (pt_cmpR op_isN (pv 0) pe_non (by first | exact nomark _ | rfl)) (pss_one (ps_ret pe_int)) pss_nil)
      (pss_one (ps_ret (pe_ifExp (pt_tyIs (T := "bool") Mono.var (pv 0) T.n_type T.n_bool (by decide +kernel)) pe_int (pe_cl c_digits hr (by omega) (pa_cons (pv 0) pa_nil)))))), ?_⟩
    match j, r, k with
    | 0, r, k =>
      have r' : Rv K [] H v (.int (m : Int)) := r
      cases r'
      refine ⟨_, rfl, rfl, _, rfl, ite2 (fun h => absurd h (by simp)) (fun _ => ?_)⟩
      refine ⟨_, rfl, _, .int _, ite2 (fun h => absurd h (by simp [Dt.ty])) (fun _ => ?_)⟩
      exact ⟨_, rfl, (m : Int), rfl, by omega, k⟩
    | 1, r, k =>
      have r' : Rv K [] H v (.bl (decide ((m : Int) > 0))) := r
      cases r'
      refine ⟨_, rfl, rfl, _, rfl, ite2 (fun h => absurd h (by simp)) (fun _ => ?_)⟩
      exact ⟨_, rfl, _, .bl _, ite2 (fun _ => k) (fun h => absurd rfl h)⟩
    | j + 2, r, k =>
      have r' : Rv K [] H v .non := r
      cases r'
      exact ⟨_, rfl, rfl, _, rfl, ite2 (fun _ => k) (fun h => absurd rfl h)⟩
def spNsg (K : PySem.W.Frag) : Sp := fun vs H Q _ => ∃ (v : V) (p : Addr) (r : Ru) (os : List (Option (List Nat))), vs = [v, .ref p] ∧ Rv K [] H v (ruD r) ∧ RuOk r ∧ H p = some (.lst (os.map vV)) ∧ Col os ∧ 0 < os.length ∧
  ∀ H', Stp [] H H' → Q (.int (nsg r os : Int)) H'
theorem RvL.four {K : PySem.W.Frag} {S : List Addr} {H : Hp} {vs : List V} {a b c d : D} (r : RvL K S H vs [a, b, c, d]) : ∃ u v w x, vs = [u, v, w, x] ∧ Rv K S H u a ∧ Rv K S H v b ∧ Rv K S H w c ∧ Rv K S H x d := by
  cases r with
  | cons h1 r => cases r with
    | cons h2 r => cases r with
      | cons h3 r => cases r with
        | cons h4 r => cases r; exact ⟨_, _, _, _, rfl, h1, h2, h3, h4⟩
theorem vD_v {K : PySem.W.Frag} {S : List Addr} {H : Hp} {v : V} {o : Option (List Nat)} (h : Rv K S H v (vD o)) : v = vV o := by
  cases o with
  | none => have h' : Rv K S H v .non := h; cases h'; rfl
  | some l => have h' : Rv K S H v (.str l) := h; cases h'; rfl
theorem cl_note_signs {f : Addr} {fd : FuncData} (D : Df K mg "note_signs" s_note_signs ["rule", "page"] f fd) (T : Nm mg) (c_note : Cl P w K mg base 5 "note" s_note ["rule", "page"] (spNote K)) (c_digits : Cl P w K mg base 1 "digits" s_digits ["number"] spDigits)
    (c_lacks_signs : Cl P w K mg base 2 "lacks_signs" s_lacks_signs ["lacks"] (spLsg K)) (c_value_signs : Cl P w K mg base 1 "value_signs" s_value_signs ["value"] spVsg) : Cl P w K mg base 6 "note_signs" s_note_signs ["rule", "page"] (spNsg K) := by
  refine D.cl sc_note_signs (fun vs H Q E h => ?_) (fun cdv A outer s H vs Q E hr h => ?_)
  · obtain ⟨v, p, r, os, rfl, _⟩ := h
    rfl
  · obtain ⟨v, p, r, os, rfl, rv, ok, hp, col, pos, k⟩ := h
    refine ⟨_, (pss_cons (ps_asg (pe_cl c_note hr (by omega) (pa_cons (pv 0) (pa_cons (pv 1) pa_nil))) (pg_tup rfl (pgs_cons (pg_name (i := 2) sc_note_signs.nd rfl (by first | exact Or.inl rfl | exact Or.inr rfl)) (pgs_cons (pg_name (i := 3) sc_note_signs.nd rfl (by first | exact Or.inl rfl | exact Or.inr rfl)) (pgs_cons (pg_name (i := 4) sc_note_signs.nd rfl (by first | exact Or.inl rfl | exact Or.inr rfl)) (pgs_cons (pg_name (i := 5) sc_note_signs.nd rfl (by first | exact Or.inl rfl | exact Or.inr rfl)) pgs_nil (by rfl)) (by rfl)) (by rfl)) (by rfl)) (by rfl) (by rfl)))
      (pss_one (ps_ret (pe_op op_add (pe_op op_add (pe_op op_add (pe_cl c_digits hr (by omega) (pa_cons (pv 2) pa_nil)) (pe_cl c_lacks_signs hr (by omega) (pa_cons (pv 3) pa_nil))) (pe_cl c_value_signs hr (by omega) (pa_cons (pv 4) pa_nil))) (pe_cl c_value_signs hr (by omega) (pa_cons (pv 5) pa_nil)))))), ?_⟩
    have few := col.few
    refine ⟨_, rfl, _, rfl, v, p, r, os, rfl, rv, ok, hp, col, pos, fun u H1 S1 ru => ?_⟩
    obtain ⟨t, vs, rfl, ht, _, rl⟩ := Pv.Rv.tupE (ru : Rv K [] H1 u (.tup [.int (os.length : Int), lacksD r.lacks (gone os), vD (lowO r.low (txs os)), vD (highO r.high (txs os))]))
    obtain ⟨u1, u2, u3, u4, rfl, r1, r2, r3, r4⟩ := RvL.four rl
    cases r1
    obtain rfl := vD_v r3
    obtain rfl := vD_v r4
    refine ⟨t, _, rfl, ht, rfl, _, _, rfl, _, _, rfl, _, _, rfl, _, _, rfl, rfl, ?_⟩
    refine ⟨_, rfl, (os.length : Int), rfl, by omega, ?_⟩
    refine ⟨_, rfl, u2, r.lacks, gone os, rfl, r2, by unfold gone; omega, _, _, rfl, rfl, ?_⟩
    refine ⟨_, rfl, lowO r.low (txs os), rfl, fun l e => (col_lows col e).2, _, _, rfl, rfl, ?_⟩
    refine ⟨_, rfl, highO r.high (txs os), rfl, fun l e => (col_highs col e).2, _, _, rfl, rfl, ?_⟩
    have e := k H1 S1
    unfold nsg at e
    rw [Int.natCast_add, Int.natCast_add, Int.natCast_add] at e
    exact e
abbrev s__law_word : Stmt := topS 40
abbrev N__law_word : List Str := ["thing"]
theorem sc__law_word : FnScope ["thing"] ["thing"] (defScope s__law_word) := ⟨rfl, rfl, rfl, by decide +kernel, rfl, by decide +kernel, by decide +kernel⟩

abbrev s__law_noted : Stmt := topS 42
abbrev N__law_noted : List Str := ["kind", "sheet", "texts", "gone", "low", "high", "lacks", "thing"]
theorem sc__law_noted : FnScope ["kind", "sheet", "texts", "gone", "low", "high", "lacks", "thing"] ["kind", "sheet"] (defScope s__law_noted) := ⟨rfl, rfl, rfl, by decide +kernel, rfl, by decide +kernel, by decide +kernel⟩

/-! ### the law's own count of the signs of a note -/
def wdS : Option (List Nat) → Str
  | none => "-"
  | some l => tx (l ++ [46])
theorem wdS_len (o : Option (List Nat)) : (wdS o).length = vsg o := by
  cases o with
  | none => decide +kernel
  | some l => show (tx (l ++ [46])).length = _; rw [tx_len, List.length_append]; rfl
def spWord : Sp := fun vs H Q _ => ∃ o : Option (List Nat), vs = [vV o] ∧ (∀ l, o = some l → l.length ≤ 1000) ∧ Q (.str (wdS o)) H
theorem dot_lit : ("." : Str) = tx [46] := by decide +kernel
theorem cl__law_word {f : Addr} {fd : FuncData} (D : Df K mg "_law_word" s__law_word ["thing"] f fd) (T : Nm mg) : Cl P w K mg base 1 "_law_word" s__law_word ["thing"] spWord := by
  refine D.cl sc__law_word (fun vs H Q E h => ?_) (fun cdv A outer s H vs Q E hr h => ?_)
  · obtain ⟨o, rfl, _⟩ := h
    rfl
  · obtain ⟨o, rfl, ho, k⟩ := h
    refine ⟨_, (pss_one (ps_ret (pe_ifExp (pt_cmpR op_isN (pv 0) pe_non (by first | exact nomark _ | rfl)) pe_str (pe_op op_add_str (pv 0) pe_str)))), ?_⟩
    cases o with
    | none => exact ⟨_, rfl, rfl, _, rfl, ite2 (fun _ => k) (fun h => absurd rfl h)⟩
    | some l =>
      refine ⟨_, rfl, rfl, _, rfl, ite2 (fun h => absurd h (by simp [vV])) (fun _ => ?_)⟩
      have := ho l rfl
      refine ⟨_, rfl, tx l, tx [46], rfl, congrArg V.str dot_lit, (by rw [tx_len, tx_len]; exact sz (by simp; omega)), ?_⟩
      rw [tx_app]
      exact k
/-- the texts of a sheet: a new list of them -/
theorem lc_txs {K : PySem.W.Frag} {p L : Addr} {os : List (Option (List Nat))} {H : Hp} {σ : L2.St} {vs : List Nat} {Qd : Hp → Prop} {g : TG} {tt : TT} {te : TE} (nL : H L = none) (hp : H p = some (.lst (os.map vV))) (few : os.length ≤ 5000)
    (step : ∀ (o : Option (List Nat)) H', ∀ R : V → Hp → Prop, ∀ R0 : Hp → Prop, (∀ l, o = some l → R (Tx l) H') → (o = none → R0 H') → g (vV o) (wipe σ vs) H' fun σ2 H2 => wipe σ2 vs = wipe σ vs ∧ tt σ2 H2 fun b H3 => if b = true then te σ2 H3 R else R0 H3)
    (hd : ∀ H', H' L = some (.lst ((txs os).map Tx)) → Stp [] H H' → Qd H') :
    ∃ W : Nat → Nat → Hp → Prop, (∃ m, W 0 m (upd H L (.lst []))) ∧ ∀ i m H, W i m H →
      ((Itl K p).stop i H ∧ Qd H) ∨ ((Itl K p).go i H ∧ ∃ Nx : Hp → Prop, (∀ H', Nx H' → ∃ m', m' < m ∧ W (i + 1) m' H') ∧ ∀ x H', (Itl K p).yld i H x H' → g x (wipe σ vs) H' fun σ2 H2 => wipe σ2 vs = wipe σ vs ∧ tt σ2 H2 fun b H3 =>
        if b = true then te σ2 H3 fun y H4 => ∃ acc, H4 L = some (.lst acc) ∧ acc.length < sizeLine ∧ Nx (upd H4 L (.lst (acc ++ [y]))) else Nx H3) := by
  have nn : ∀ {x : Addr}, x ∉ ([] : List Addr) := fun m => nomatch m
  refine lc_list (K := K) (a := p) (xs := os.map vV) (fun i H' => H' L = some (.lst ((txs (os.take i)).map Tx)) ∧ Stp [] H H')
    ⟨upd_same, Stp.new nL _⟩ (fun i H' _ ⟨_, S⟩ => SqL.of (S.kp _ _ nn hp)) ?_ ?_
  · rintro i x H' hi ⟨hL, S'⟩
    rw [List.getElem?_map] at hi
    cases e : os[i]? with
    | none => rw [e] at hi; cases hi
    | some o =>
      rw [e] at hi
      cases hi
      have hil : i < os.length := (List.getElem?_eq_some_iff.mp e).1
      have tk := txs_take e
      refine step o H' _ _ (fun l eo => ?_) (fun eo => ?_)
      · subst eo
        refine ⟨_, hL, ?_, ?_, S'.mut nL⟩
        · rw [List.length_map]
          have := txs_len (os.take i)
          rw [List.length_take] at this
          exact Nat.lt_of_le_of_lt (show (txs (os.take i)).length ≤ 5000 by omega) (by decide)
        · rw [upd_same, tk, List.map_append]
          rfl
      · subst eo
        refine ⟨?_, S'⟩
        rw [tk, Option.toList_none, List.append_nil]
        exact hL
  · rintro H3 ⟨hL, S3⟩
    rw [List.length_map, List.take_length] at hL
    exact hd H3 hL S3
/-- a place of the rule -/
theorem ruD_stp {K : PySem.W.Frag} {H H' : Hp} {v : V} {r : Ru} (rv : Rv K [] H v (ruD r)) (S : Stp [] H H') : Rv K [] H' v (ruD r) := rv.up S
def spNoted (K : PySem.W.Frag) : Sp := fun vs H Q _ => ∃ (v : V) (p : Addr) (r : Ru) (os : List (Option (List Nat))), vs = [v, .ref p] ∧ Rv K [] H v (ruD r) ∧ RuOk r ∧ H p = some (.lst (os.map vV)) ∧ Col os ∧ os.length < 3000 ∧
  ∀ s H', s.length = nsg r os → Stp [] H H' → Q (.str s) H'
theorem lk_many {k : Nat} : decide (V.str (lk k) = V.str "many") = decide (k = 0) := by
  match k with
  | 0 => rfl
  | 1 => decide +kernel
  | _ + 2 => exact (decide_eq_false (by show ¬ V.str "hidden" = V.str "many"; decide +kernel)).trans (decide_eq_false (by omega)).symm
theorem lk_some {k : Nat} : decide (V.str (lk k) = V.str "some") = decide (k = 1) := by
  match k with
  | 0 => decide +kernel
  | 1 => rfl
  | _ + 2 => exact (decide_eq_false (by show ¬ V.str "hidden" = V.str "some"; decide +kernel)).trans (decide_eq_false (by omega)).symm
theorem strs_len {a b : Str} : (a ++ b).length = a.length + b.length := PySem.strLen_append a b
theorem cl__law_noted {f : Addr} {fd : FuncData} (D : Df K mg "_law_noted" s__law_noted ["kind", "sheet"] f fd) (T : Nm mg) (c__law_past : Cl P w K mg base 1 "_law_past" s__law_past ["word"] spPastX) (c__law_word : Cl P w K mg base 1 "_law_word" s__law_word ["thing"] spWord) :
    Cl P w K mg base 2 "_law_noted" s__law_noted ["kind", "sheet"] (spNoted K) := by
  refine D.cl sc__law_noted (fun vs H Q E h => ?_) (fun cdv A outer s H vs Q E hr h => ?_)
  · obtain ⟨v, p, r, os, rfl, _⟩ := h
    rfl
  · obtain ⟨v, p, r, os, rfl, rv, ok, hp, col, few, k⟩ := h
    refine ⟨_, (pss_cons (ps_set (i := 2) sc__law_noted.nd rfl (by first | exact Or.inl rfl | exact Or.inr rfl) (pe_sortset hr.hd (by rfl) T.n_sorted (by rfl) T.n_set (pe_lc (own := [("thing", 7)]) rfl sc__law_noted.nd (pi_list (pv 1)) (blkOk_by (own := [("thing", 7)]) (N := N__law_noted) (sc := defScope s__law_noted) (by decide +kernel)) (fun _ _ _ _ _ => (pg_name (i := 7) sc__law_noted.nd rfl (by first | exact Or.inl rfl | exact Or.inr rfl))) (fun _ _ _ _ _ => (pts_one (pt_cmpR op_notN (pv 7) pe_non (by first | exact nomark _ | rfl)))) (fun _ _ _ _ _ => (pv 7)))))
      (pss_cons (ps_set (i := 3) sc__law_noted.nd rfl (by first | exact Or.inl rfl | exact Or.inr rfl) (pe_op op_sub (pe_callB call_len_seq (by rfl) T.n_len (by decide +kernel) (pa_cons (pv 1) pa_nil)) (pe_callB call_len_seq (by rfl) T.n_len (by decide +kernel) (pa_cons (pe_lc (own := [("thing", 7)]) rfl sc__law_noted.nd (pi_list (pv 1)) (blkOk_by (own := [("thing", 7)]) (N := N__law_noted) (sc := defScope s__law_noted) (by decide +kernel)) (fun _ _ _ _ _ => (pg_name (i := 7) sc__law_noted.nd rfl (by first | exact Or.inl rfl | exact Or.inr rfl))) (fun _ _ _ _ _ => (pts_one (pt_cmpR op_notN (pv 7) pe_non (by first | exact nomark _ | rfl)))) (fun _ _ _ _ _ => (pv 7))) pa_nil))))
      (pss_cons (ps_asg (pe_tup (pa_cons pe_non (pa_cons pe_non pa_nil))) (pg_tup rfl (pgs_cons (pg_name (i := 4) sc__law_noted.nd rfl (by first | exact Or.inl rfl | exact Or.inr rfl)) (pgs_cons (pg_name (i := 5) sc__law_noted.nd rfl (by first | exact Or.inl rfl | exact Or.inr rfl)) pgs_nil (by rfl)) (by rfl)) (by rfl) (by rfl)))
      (pss_cons (ps_if (PW.pt (pw_and (pt_cmpR (Pv.op_neNil hr.units) (pv 2) (pe_lst pa_nil) (by first | exact nomark _ | rfl)) (pw_and1 (pt_cmpR op_ne (pe_ix ix_tup (pv 0) pe_int (fun _ _ => rfl)) pe_str (by first | exact nomark _ | rfl))))) (pss_one (ps_set (i := 4) sc__law_noted.nd rfl (by first | exact Or.inl rfl | exact Or.inr rfl) (pe_slice sl_str (pe_ix ix_list (pv 2) pe_int (fun _ _ => rfl)) po_none (po_some (pe_ix ix_tup (pv 0) pe_int (fun _ _ => rfl)))))) pss_nil)
      (pss_cons (ps_if (PW.pt (pw_and (pt_cmpR (Pv.op_neNil hr.units) (pv 2) (pe_lst pa_nil) (by first | exact nomark _ | rfl)) (pw_and1 (pt_cmpR (op_neD hr.units) (pe_ix ix_tup (pv 0) pe_int (fun _ _ => rfl)) pe_str (by first | exact nomark _ | rfl))))) (pss_cons (ps_set (i := 5) sc__law_noted.nd rfl (by first | exact Or.inl rfl | exact Or.inr rfl) (pe_ix ix_list (pv 2) (pe_op op_sub (pe_callB call_len_seq (by rfl) T.n_len (by decide +kernel) (pa_cons (pv 2) pa_nil)) pe_int) (fun _ _ => rfl)))
      (pss_one (ps_if (pt_cmpR op_gt (pe_callB call_len_str (by rfl) T.n_len (by decide +kernel) (pa_cons (pv 5) pa_nil)) (pe_ix ix_tup (pe_ix ix_tup (pv 0) pe_int (fun _ _ => rfl)) pe_int (fun _ _ => rfl)) (by first | exact nomark _ | rfl)) (pss_cons (ps_set (i := 5) sc__law_noted.nd rfl (by first | exact Or.inl rfl | exact Or.inr rfl) (pe_slice sl_str (pv 5) po_none (po_some (pe_ix ix_tup (pe_ix ix_tup (pv 0) pe_int (fun _ _ => rfl)) pe_int (fun _ _ => rfl)))))
      (pss_one (ps_if (pt_cmpR op_eq (pe_ix ix_tup (pe_ix ix_tup (pv 0) pe_int (fun _ _ => rfl)) pe_int (fun _ _ => rfl)) pe_str (by first | exact nomark _ | rfl)) (pss_one (ps_set (i := 5) sc__law_noted.nd rfl (by first | exact Or.inl rfl | exact Or.inr rfl) (pe_cl c__law_past hr (by omega) (pa_cons (pv 5) pa_nil)))) pss_nil))) pss_nil))) pss_nil)
      (pss_cons (ps_set (i := 6) sc__law_noted.nd rfl (by first | exact Or.inl rfl | exact Or.inr rfl) (pe_ifExp (pt_cmpR op_eq (pe_ix ix_tup (pv 0) pe_int (fun _ _ => rfl)) pe_str (by first | exact nomark _ | rfl)) (pe_callTy call_str_int (by rfl) T.n_str (by decide +kernel) (pa_cons (pv 3) pa_nil)) (pe_ix ix_list (pe_lst (pa_cons pe_str (pa_cons pe_str pa_nil))) (pe_callTy call_int1 (by rfl) T.n_int (by decide +kernel) (pa_cons (pe_cmpR op_eq (pe_ix ix_tup (pv 0) pe_int (fun _ _ => rfl)) pe_str (by first | exact nomark _ | rfl)) pa_nil)) (fun _ _ => rfl))))
      (pss_one (ps_ret (pe_op op_add_str (pe_op op_add_str (pe_op op_add_str (pe_callTy call_str_int (by rfl) T.n_str (by decide +kernel) (pa_cons (pe_callB call_len_seq (by rfl) T.n_len (by decide +kernel) (pa_cons (pv 1) pa_nil)) pa_nil)) (pv 6)) (pe_cl c__law_word hr (by omega) (pa_cons (pv 4) pa_nil))) (pe_cl c__law_word hr (by omega) (pa_cons (pv 5) pa_nil))))))))))), ?_⟩
    have nn : ∀ {x : Addr}, x ∉ ([] : List Addr) := fun m => nomatch m
    have lt := txs_len os
    refine ⟨_, rfl, p, rfl, ⟨_, SqL.of hp⟩, fun L nL => ?_⟩
    refine lc_txs nL hp (by omega) (fun o H' R R0 g1 g0 => ?_) (fun H3 hL S3 => ?_)
    · cases o with
      | none => exact ⟨rfl, _, rfl, rfl, _, rfl, ite2 (fun h => absurd h (by decide)) (fun _ => g0 rfl)⟩
      | some l => exact ⟨rfl, _, rfl, rfl, _, rfl, ite2 (fun _ => ⟨_, rfl, g1 l rfl⟩) (fun h => absurd (by simp [vV]) h)⟩
    refine ⟨L, txs os, rfl, SqL.of hL, by omega, fun zs q pw mem len nq => ?_⟩
    have S4 : Stp [] H3 (upd H3 q (.lst (zs.map Tx))) := Stp.new nq _
    have hq : (upd H3 q (.lst (zs.map Tx))) q = some (.lst (zs.map Tx)) := upd_same
    generalize upd H3 q (.lst (zs.map Tx)) = H4 at *
    have S34 := S3.trans S4
    have hp4 := S34.kp _ _ nn hp
    refine ⟨_, rfl, p, _, rfl, .inl (SqL.of hp4), ?_⟩
    refine ⟨_, rfl, p, rfl, ⟨_, SqL.of hp4⟩, fun L2 nL2 => ?_⟩
    refine lc_txs nL2 hp4 (by omega) (fun o H' R R0 g1 g0 => ?_) (fun H5a hL2 S5 => ?_)
    · cases o with
      | none => exact ⟨rfl, _, rfl, rfl, _, rfl, ite2 (fun h => absurd h (by decide)) (fun _ => g0 rfl)⟩
      | some l => exact ⟨rfl, _, rfl, rfl, _, rfl, ite2 (fun _ => ⟨_, rfl, g1 l rfl⟩) (fun h => absurd (by simp [vV]) h)⟩
    refine ⟨L2, _, rfl, .inl (SqL.of hL2), _, _, rfl, rfl, ?_⟩
    have eg : (((os.map vV).length : Nat) : Int) - ((((txs os).map Tx).length : Nat) : Int) = (gone os : Int) := by
      rw [List.length_map, List.length_map]
      unfold gone
      omega
    dsimp only
    rw [eg]
    have S35 := S34.trans S5
    have hq5 := S5.kp _ _ nn hq
    have hp5 := S5.kp _ _ nn hp4
    obtain ⟨t, u2, u3, ev, ht, r2, r3⟩ := ruD_parts (rv.up S35)
    subst ev
    have same : ∀ x, x ∈ zs ↔ x ∈ txs os := mem
    have asc : Asc zs := ⟨pw.imp fun x => List.le_of_lt x, fun l m => col.ok l (mem_txs.mp ((same l).mp m))⟩
    refine ⟨(by show 2 ≤ sizeLine; decide), fun t9 nt9 => ?_⟩
    have S59 : Stp [] H5a (upd H5a t9 (.tup [.non, .non])) := Stp.new nt9 _
    refine ⟨t9, _, rfl, SqT.of upd_same, rfl, _, _, rfl, _, _, rfl, rfl, ?_⟩
    have hq5 := S59.kp _ _ nn hq5
    have hp5 := S59.kp _ _ nn hp5
    have ht := sqt_stp S59 Lsts.nil ht
    have r2 := r2.up S59
    have r3 := r3.up S59
    have S35 := S35.trans S59
    generalize upd H5a t9 (.tup [.non, .non]) = H5 at *
    -- low
    dsimp only [gName]
    refine seq_end (fun σ' H' => σ' = [some (.ref t), some (.ref p), some (.ref q), some (.int (gone os : Int)), some (vV (lowO r.low zs)), some .non, none, none] ∧ Stp [] H5 H') ?_ (fun fin => ?_)
    rotate_left
    · refine MonoT.cut (t := tAnd _ _) (MonoT.and (MonoT.test (Mono.op' MonoR.neNil Mono.var (Mono.lst MonoA.nil))) (MonoT.test (Mono.op' MonoR.ne (Mono.op' MonoR.ixT Mono.var Mono.c) Mono.c))) (fun b H9 => Stp [] H5 H9 ∧ (b = true → zs ≠ [] ∧ ∃ n, r.low = some n) ∧ (b = false → lowO r.low zs = none)) ?_ ?_
      · refine ⟨_, rfl, Nat.zero_le _, fun e ne => ?_⟩
        have S6 : Stp [] H5 (upd H5 e (.lst [])) := Stp.new ne _
        refine ⟨q, e, _, rfl, rfl, ne_of_none hq5 ne, SqL.of (S6.kp _ _ nn hq5), SqL.of upd_same, _, rfl, ite2 (fun h => ?_) (fun h => ?_)⟩
        · refine ⟨_, rfl, t, _, 1, u2, rfl, rfl, sqt_stp S6 Lsts.nil ht, at1, ?_⟩
          have zne : zs ≠ [] := fun e => by rw [e] at h; exact absurd h (by decide)
          cases hlo : r.low with
          | none =>
            rw [hlo] at r2
            obtain rfl := lo_lost r2
            refine ⟨rfl, _, rfl, S6, fun e => ?_, fun _ => ?_⟩
            · exact absurd e (by decide +kernel)
            · unfold lowO
              split <;> rfl
          | some n =>
            rw [hlo] at r2
            have r2' : Rv K [] H5 u2 (.int (n : Int)) := r2
            cases r2'
            exact ⟨rfl, _, rfl, S6, fun _ => ⟨zne, n, rfl⟩, fun e => absurd e (by simp)⟩
        · refine ⟨S6, fun e => (nomatch e), fun _ => ?_⟩
          have z0 : zs = [] := by
            cases zs with
            | nil => rfl
            | cons _ _ => exact absurd rfl h
          unfold lowO
          rw [if_pos z0]
      rintro b H9 ⟨S9, hb1, hb2⟩
      refine ite2 (fun h => ?_) (fun h => ?_)
      · obtain ⟨zne, n, hn⟩ := hb1 h
        obtain ⟨z, zt, ez⟩ : ∃ z zt, zs = z :: zt := by
          cases zs with
          | nil => exact absurd rfl zne
          | cons z zt => exact ⟨z, zt, rfl⟩
        have hz0 : atI (zs.map Tx) 0 = some (Tx z) := by rw [ez]; exact at0
        have lz := (asc.ok z (by rw [ez]; exact List.mem_cons_self)).2
        refine ⟨_, rfl, q, _, 0, Tx z, rfl, rfl, SqL.of (S9.kp _ _ nn hq5), hz0, ?_⟩
        rw [hn] at r2
        have r2' : Rv K [] H5 u2 (.int (n : Int)) := r2
        cases r2'
        refine ⟨_, rfl, t, _, 1, .int (n : Int), rfl, rfl, sqt_stp S9 Lsts.nil ht, at1, (n : Int), rfl, tx z, rfl, szt (by omega), ?_⟩
        rw [show cutS (tx z) none (some (n : Int)) = _ from tx_upto z n]
        refine fin _ _ ⟨?_, S9⟩
        have e1 : lowO r.low zs = some (z.take n) := by
          unfold lowO
          rw [if_neg zne, hn]
          show some ((mn zs).take n) = _
          rw [ez, ← mn_head (by rw [← ez]; exact asc.pw)]
        rw [e1]
        rfl
      · refine fin _ _ ⟨?_, S9⟩
        rw [hb2 (Bool.eq_false_iff.mpr h)]
        rfl
    rintro σ H6 ⟨rfl, S6⟩
    have hq6 := S6.kp _ _ nn hq5
    have hp6 := S6.kp _ _ nn hp5
    have ht6 := sqt_stp S6 Lsts.nil ht
    have r36 := r3.up S6
    -- high
    refine seq_end (fun σ' H' => σ' = [some (.ref t), some (.ref p), some (.ref q), some (.int (gone os : Int)), some (vV (lowO r.low zs)), some (vV (highO r.high zs)), none, none] ∧ Stp [] H6 H') ?_ (fun fin => ?_)
    rotate_left
    · refine MonoT.cut (t := tAnd _ _) (MonoT.and (MonoT.test (Mono.op' MonoR.neNil Mono.var (Mono.lst MonoA.nil))) (MonoT.test (Mono.op' MonoR.neD (Mono.op' MonoR.ixT Mono.var Mono.c) Mono.c))) (fun b H9 => Stp [] H6 H9 ∧ (b = true → zs ≠ [] ∧ ∃ j n, r.high = some (j, n)) ∧ (b = false → highO r.high zs = none)) ?_ ?_
      · refine ⟨_, rfl, Nat.zero_le _, fun e ne => ?_⟩
        have S7 : Stp [] H6 (upd H6 e (.lst [])) := Stp.new ne _
        refine ⟨q, e, _, rfl, rfl, ne_of_none hq6 ne, SqL.of (S7.kp _ _ nn hq6), SqL.of upd_same, _, rfl, ite2 (fun h => ?_) (fun h => ?_)⟩
        · refine ⟨_, rfl, t, _, 2, u3, rfl, rfl, sqt_stp S7 Lsts.nil ht6, at2, ?_⟩
          have zne : zs ≠ [] := fun e => by rw [e] at h; exact absurd h (by decide)
          cases hhi : r.high with
          | none =>
            rw [hhi] at r36
            have r' : Rv K [] H6 u3 (.str ("lost" : Str).cps.toList) := r36
            obtain rfl : u3 = .str "lost" := by
              cases r'
              exact congrArg V.str (tx_cps _)
            refine ⟨.str "lost", .str "lost", .str _, .str _, by decide +kernel, by decide +kernel, _, rfl, S7, fun e => ?_, fun _ => ?_⟩
            · exact absurd e (by decide +kernel)
            · unfold highO
              split <;> rfl
          | some q2 =>
            obtain ⟨j, n⟩ := q2
            rw [hhi] at r36
            obtain ⟨hj, hn⟩ := ok.high j n hhi
            exact ⟨hiP j n, .str "lost", hi_dp (r36.up S7) hj hn, lost_dp, hi_shaped hj, lost_shaped, _, rfl, S7, fun _ => ⟨zne, j, n, rfl⟩, fun e => (nomatch (e : true = false))⟩
        · refine ⟨S7, fun e => (nomatch e), fun _ => ?_⟩
          have z0 : zs = [] := by
            cases zs with
            | nil => rfl
            | cons _ _ => exact absurd rfl h
          unfold highO
          rw [if_pos z0]
      rintro b H9 ⟨S9, hb1, hb2⟩
      refine ite2 (fun h => ?_) (fun h => ?_)
      · obtain ⟨zne, j, n, hhi⟩ := hb1 h
        obtain ⟨hj, hn⟩ := ok.high j n hhi
        obtain ⟨yi, y, ey⟩ : ∃ yi y, zs = yi ++ [y] := by
          rcases List.eq_nil_or_concat zs with e | ⟨a, b, e⟩
          · exact absurd e zne
          · exact ⟨a, b, by rw [e, List.concat_eq_append]⟩
        have hy0 : atI (zs.map Tx) (((zs.map Tx).length : Int) - 1) = some (Tx y) := by
          rw [ey, List.length_map, List.length_append, List.length_singleton]
          refine (congrArg _ (show ((yi.length + 1 : Nat) : Int) - 1 = ((yi.length : Nat) : Int) by omega)).trans (atI_nat ?_)
          rw [List.getElem?_map, List.getElem?_append_right (Nat.le_refl _), Nat.sub_self]
          rfl
        have cy := asc.ok y (by rw [ey]; simp)
        have e1 : highO r.high zs = highT (some (j, n)) y := by
          unfold highO
          rw [if_neg zne, hhi, ey, ← mx_last (by rw [← ey]; exact asc.pw)]
        rw [hhi] at r36
        obtain ⟨t2, vs2, et2, ht2, _, rl⟩ := Pv.Rv.tupE (r36 : Rv K [] H6 u3 (.tup [wd (wy j), .int (n : Int)]))
        obtain ⟨w1, w2, rfl, r1, r2'⟩ := RvL.two rl
        subst et2
        obtain rfl : w1 = .str (wy j) := by
          have r1' : Rv K [] H6 w1 (.str (wy j).cps.toList) := r1
          cases r1'
          exact congrArg V.str (tx_cps _)
        cases r2'
        have hq9 := S9.kp _ _ nn hq6
        have ht9 := sqt_stp S9 Lsts.nil ht6
        have ht29 := sqt_stp S9 Lsts.nil ht2
        refine ⟨_, rfl, _, rfl, q, _, rfl, .inl (SqL.of hq9), _, _, rfl, rfl, q, _, _, Tx y, rfl, rfl, SqL.of hq9, hy0, ?_⟩
        refine ⟨_, rfl, tx y, rfl, szt (by omega), _, rfl, t, _, 2, .ref t2, rfl, rfl, ht9, at2, t2, _, 1, .int (n : Int), rfl, rfl, ht29, at1, _, _, rfl, rfl, _, rfl, ite2 (fun h2 => ?_) (fun h2 => ?_)⟩
        · have h3 : ¬ y.length ≤ n := by have := of_decide_eq_true h2; rw [tx_len] at this; omega
          have e2 : highT (some (j, n)) y = if j = 0 then some (y.take n) else bey (y.take n) := by
            show (if y.length ≤ n then some y else if j = 0 then some (y.take n) else bey (y.take n)) = _
            rw [if_neg h3]
          refine ⟨_, rfl, _, rfl, t, _, 2, .ref t2, rfl, rfl, ht9, at2, t2, _, 1, .int (n : Int), rfl, rfl, ht29, at1, (n : Int), rfl, tx y, rfl, szt (by omega), ?_⟩
          rw [show cutS (tx y) none (some (n : Int)) = _ from tx_upto y n]
          refine ⟨_, rfl, t, _, 2, .ref t2, rfl, rfl, ht9, at2, t2, _, 0, .str (wy j), rfl, rfl, ht29, at0, rfl, _, rfl, ?_⟩
          rw [wy_eq hj]
          refine ite2 (fun h4 => ?_) (fun h4 => ?_)
          · obtain rfl : j = 1 := of_decide_eq_true h4
            refine ⟨_, rfl, y.take n, rfl, cy.1.take _, by rw [List.length_take]; omega, ?_⟩
            refine fin _ _ ⟨?_, S9⟩
            rw [e1, e2, if_neg (by decide)]
            rfl
          · have hj0 : j = 0 := by
              have : ¬ j = 1 := fun q => h4 (decide_eq_true q)
              omega
            refine fin _ _ ⟨?_, S9⟩
            rw [e1, e2, if_pos hj0]
            rfl
        · have h3 : y.length ≤ n := by
            have : ¬ (n : Int) < ((tx y).length : Int) := fun q => h2 (decide_eq_true q)
            rw [tx_len] at this
            omega
          refine fin _ _ ⟨?_, S9⟩
          rw [e1]
          show _ = [_, _, _, _, _, some (vV (if y.length ≤ n then some y else if j = 0 then some (y.take n) else bey (y.take n))), _, _]
          rw [if_pos h3]
          rfl
      · refine fin _ _ ⟨?_, S9⟩
        rw [hb2 (Bool.eq_false_iff.mpr h)]
        rfl
    rintro σ H7 ⟨rfl, S7⟩
    have hp7 := S7.kp _ _ nn hp6
    have ht7 := sqt_stp S7 Lsts.nil ht6
    have gl : gone os ≤ 5000 := by unfold gone; omega
    have lows : ∀ l, lowO r.low zs = some l → l.length ≤ 1000 := fun l e => (col_lows col (by rw [← lowO_same same]; exact e)).2
    have highs : ∀ l, highO r.high zs = some l → l.length ≤ 1000 := fun l e => (col_highs col (by rw [← highO_same same]; exact e)).2
    refine seq_end (fun σ' H' => ∃ ls : Str, σ' = [some (.ref t), some (.ref p), some (.ref q), some (.int (gone os : Int)), some (vV (lowO r.low zs)), some (vV (highO r.high zs)), some (.str ls), none] ∧ ls.length = lsg r.lacks (gone os) ∧ Stp [] H7 H') ?_ (fun fin => ?_)
    rotate_left
    · refine ⟨_, rfl, t, _, 0, .str (lk r.lacks), rfl, rfl, ht7, at0, rfl, _, rfl, ?_⟩
      rw [lk_many]
      refine ite2 (fun h => ?_) (fun h => ?_)
      · have h0 : r.lacks = 0 := of_decide_eq_true h
        refine ⟨_, rfl, _, rfl, log2_ok (by omega), fin _ _ ⟨_, rfl, ?_, Stp.refl _ _⟩⟩
        rw [h0]
        rfl
      · have h0 : ¬ r.lacks = 0 := fun q => h (decide_eq_true q)
        refine ⟨(by show 2 ≤ sizeLine; decide), fun l nl => ?_⟩
        have S8 : Stp [] H7 (upd H7 l (.lst [.str "", .str "!"])) := Stp.new nl _
        refine ⟨_, rfl, t, _, 0, .str (lk r.lacks), rfl, rfl, sqt_stp S8 Lsts.nil ht7, at0, rfl, ?_⟩
        rw [lk_some]
        refine .inr ⟨_, rfl, ?_⟩
        by_cases h1 : r.lacks = 1
        · rw [decide_eq_true h1]
          refine ⟨l, _, 1, .str "!", rfl, rfl, SqL.of upd_same, at1, fin _ _ ⟨_, rfl, ?_, S8⟩⟩
          rw [h1]
          show (Str.ofString "!").length = 1
          decide +kernel
        · rw [decide_eq_false h1]
          refine ⟨l, _, 0, .str "", rfl, rfl, SqL.of upd_same, at0, fin _ _ ⟨_, rfl, ?_, S8⟩⟩
          have h2 : r.lacks = 2 := by have := ok.lacks; omega
          rw [h2]
          show (Str.ofString "").length = 0
          decide +kernel
    rintro σ H8 ⟨ls, rfl, els, S8⟩
    have hp8 := S8.kp _ _ nn hp7
    have S58 := (S6.trans S7).trans S8
    have dl : dg (os.length : Int) ≤ 11 := dg_le (by omega)
    have ll : lsg r.lacks (gone os) ≤ 11 := by
      unfold lsg
      split
      · exact dg_le (by omega)
      · omega
      · omega
    have vl : ∀ {o : Option (List Nat)}, (∀ l, o = some l → l.length ≤ 1000) → vsg o ≤ 1001 := fun {o} h => by
      cases o with
      | none => show 1 ≤ 1001; decide
      | some l => have := h l rfl; show l.length + 1 ≤ 1001; omega
    have v1 := vl lows
    have v2 := vl highs
    have w1 := wdS_len (lowO r.low zs)
    have w2 := wdS_len (highO r.high zs)
    refine ⟨_, rfl, p, _, rfl, .inl (SqL.of hp8), _, rfl, log2_ok (by rw [List.length_map]; omega), ?_⟩
    rw [List.length_map]
    have edl : (Str.ofString (toString (os.length : Int))).length = dg (os.length : Int) := rfl
    refine ⟨_, rfl, Str.ofString (toString (os.length : Int)), ls, rfl, rfl, sz (by rw [edl, els]; omega), ?_⟩
    refine ⟨_, rfl, lowO r.low zs, rfl, lows, Str.ofString (toString (os.length : Int)) ++ ls, wdS (lowO r.low zs), rfl, rfl, sz (by rw [strs_len, edl, els, w1]; omega), ?_⟩
    refine ⟨_, rfl, highO r.high zs, rfl, highs, Str.ofString (toString (os.length : Int)) ++ ls ++ wdS (lowO r.low zs), wdS (highO r.high zs), rfl, rfl, sz (by rw [strs_len, strs_len, edl, els, w1, w2]; omega), ?_⟩
    refine k _ H8 ?_ (S35.trans S58)
    rw [strs_len, strs_len, strs_len, edl, els, w1, w2, lowO_same same, highO_same same]
    rfl
abbrev s_law : Stmt := topS 43
abbrev N_law : List Str := ["script", "cell", "bag", "kind", "sheet", "due", "passed", "thing"]
theorem sc_law : FnScope ["script", "cell", "bag", "kind", "sheet", "due", "passed", "thing"] ["script"] (defScope s_law) := ⟨rfl, rfl, rfl, by decide +kernel, rfl, by decide +kernel, by decide +kernel⟩

/-! ### the law -/
theorem nes {x : V} : ¬ (!decide (x = x)) = true := by simp
theorem rpl_non {K : PySem.W.Frag} {H : Hp} : ∀ {os : List (Option (List Nat))} {vs : List V}, RpL K H vs (os.map fun _ => Dt.non) → vs = (os.map fun _ => (none : Option (List Nat))).map vV
  | [], _, .nil => rfl
  | o :: os, _, .cons h r => by
    cases h
    rw [List.map_cons, List.map_cons, rpl_non r]
    rfl
theorem abc_fair {l : List Nat} (h : Abc l) : (D.str l).fair = true := by
  unfold D.fair
  rw [List.all_eq_true]
  intro c m
  rcases h c m with e | e | e <;> rw [e] <;> decide
theorem vs_fine : ∀ {os : List (Option (List Nat))}, OkV os → D.fairs (os.map vD) = true ∧ D.deeps (os.map vD) = 0 ∧ D.wts (os.map vD) ≤ 124 * os.length
  | [], _ => ⟨rfl, rfl, Nat.zero_le _⟩
  | none :: os, h => by
    obtain ⟨a, b, c⟩ := vs_fine (os := os) fun l m => h l (List.mem_cons_of_mem _ m)
    refine ⟨?_, ?_, ?_⟩
    · show D.fairs (.non :: os.map vD) = true
      unfold D.fairs
      rw [a]
      rfl
    · show D.deeps (.non :: os.map vD) = 0
      unfold D.deeps
      rw [b]
      rfl
    · show D.wts (.non :: os.map vD) ≤ _
      unfold D.wts D.wt
      rw [List.length_cons]
      omega
  | some l :: os, h => by
    obtain ⟨a, b, c⟩ := vs_fine (os := os) fun l m => h l (List.mem_cons_of_mem _ m)
    obtain ⟨x, y⟩ := h l List.mem_cons_self
    refine ⟨?_, ?_, ?_⟩
    · show D.fairs (.str l :: os.map vD) = true
      unfold D.fairs
      rw [a, abc_fair x]
      rfl
    · show D.deeps (.str l :: os.map vD) = 0
      unfold D.deeps
      rw [b]
      rfl
    · show D.wts (.str l :: os.map vD) ≤ _
      unfold D.wts D.wt
      rw [List.length_cons]
      omega
theorem page_fine {os : List (Option (List Nat))} (h : OkV os) (n : os.length ≤ 5000) : (D.lst (os.map vD)).Fine := by
  obtain ⟨a, b, c⟩ := vs_fine h
  refine ⟨?_, ?_, ?_⟩
  · unfold D.fair; exact a
  · unfold D.deep; omega
  · unfold D.wt; omega
theorem ints_fine {n : Nat} (h : n ≤ 100000) : (D.lst [.int (n : Int), .int (n : Int)]).Fine := by
  have i1 : (D.int (n : Int)).fair = true := decide_eq_true (by omega)
  refine ⟨?_, ?_, ?_⟩
  · simp only [D.fair, D.fairs, Bool.and_true]
    simpa only [D.fair, Bool.and_self] using i1
  · simp only [D.deep, D.deeps]; decide
  · simp only [D.wt, D.wts]; decide
def swap2 {α : Type} : List α → List α
  | [a, b] => [b, a]
  | _ => []
theorem kb_note_signs_page_rule {K : PySem.W.Frag} (f : Addr) (fd : FuncData) (F : Fun K "note_signs" "note_signs" s_note_signs f fd) : KBinds K fd ["rule", "page"] ["page", "rule"] (fun us ws => match us with | [] => swap2 ws | _ :: _ => []) (fun vs zs => match vs with | [] => swap2 zs | _ :: _ => []) :=
  kb_of (g := swap2) (gV := swap2) F (by simp) (fun kV doc pm an cdv ct ws hl => by
    rcases ws with _ | ⟨a, _ | ⟨b, _ | ⟨c, t⟩⟩⟩
    · cases hl
    · cases hl
    · rfl
    · cases hl) fun {zs ws} r => by
    cases r with
    | nil => exact .nil
    | cons r1 r =>
      cases r with
      | nil => exact .nil
      | cons r2 r =>
        cases r with
        | nil => exact .cons r2 (.cons r1 .nil)
        | cons _ _ => exact .nil
theorem nsg_le {r : Ru} {os : List (Option (List Nat))} (c : Col os) : nsg r os ≤ 3000 := by
  have few := c.few
  have dl : dg (os.length : Int) ≤ 11 := dg_le (by omega)
  have ll : lsg r.lacks (gone os) ≤ 11 := by
    unfold lsg
    split
    · exact dg_le (by unfold gone; omega)
    · omega
    · omega
  have vl : ∀ {o : Option (List Nat)}, (∀ l, o = some l → l.length ≤ 1000) → vsg o ≤ 1001 := fun {o} h => by
    cases o with
    | none => show 1 ≤ 1001; decide
    | some l => have := h l rfl; show l.length + 1 ≤ 1001; omega
  have v1 := vl (o := lowO r.low (txs os)) fun l e => (col_lows c e).2
  have v2 := vl (o := highO r.high (txs os)) fun l e => (col_highs c e).2
  unfold nsg
  omega
def spLaw (K : PySem.W.Frag) : Sp := fun vs H Q _ => ∃ (a : Addr) (ns : List Int), vs = [.ref a] ∧ SqL K H a (ns.map V.int) ∧ ns.length ≤ 63 ∧ ∀ H', Q (.bl true) H'
theorem cl_law {f : Addr} {fd : FuncData} (D : Df K mg "law" s_law ["script"] f fd) (T : Nm mg) (c__law_bag : Cl P w K mg base 1 "_law_bag" s__law_bag ["cell"] spBag) (c__law_draw : Cl P w K mg base 1 "_law_draw" s__law_draw ["bag", "upto"] spDraw)
    (c__law_kind : Cl P w K mg base 2 "_law_kind" s__law_kind ["bag"] (spKind K)) (c__law_sheet : Cl P w K mg base 4 "_law_sheet" s__law_sheet ["bag", "upto"] spSheet) (c__law_noted : Cl P w K mg base 2 "_law_noted" s__law_noted ["kind", "sheet"] (spNoted K))
    (c_note_signs : Cl P w K mg base 6 "note_signs" s_note_signs ["rule", "page"] (spNsg K)) : FnG P w K mg base 7 f fd ["script"] (spLaw K) := by
  refine Df.g D sc_law (fun vs H Q E h => ?_) (fun cdv A outer s H vs Q E hG hr h => ?_)
  · obtain ⟨a, ns, rfl, _⟩ := h
    rfl
  · obtain ⟨a, ns, rfl, hS, hlen, k⟩ := h
    refine ⟨_, (pss_cons (ps_for PassesOwn.never rfl (pi_list (pe_op op_cat (pe_slice sl_list (pv 0) po_none (po_some pe_int)) (pe_lst (pa_cons (pe_op op_add (pe_op op_pow pe_int pe_int) pe_int) pa_nil)))) (pg_name (i := 1) sc_law.nd rfl (by first | exact Or.inl rfl | exact Or.inr rfl)) (pss_cons (ps_set (i := 2) sc_law.nd rfl (by first | exact Or.inl rfl | exact Or.inr rfl) (pe_cl c__law_bag hr (by omega) (pa_cons (pv 1) pa_nil)))
      (pss_cons (ps_par (i := 3) (j := 4) rfl sc_law.nd rfl rfl (by decide) rfl rfl (pa_cons (pe_cl c__law_kind hr (by omega) (pa_cons (pv 2) pa_nil)) (pa_cons (pe_cl c__law_sheet hr (by omega) (pa_cons (pv 2) (pa_cons (pe_ix ix_list (pe_lst (pa_cons pe_int (pa_cons pe_int (pa_cons pe_int (pa_cons pe_int pa_nil))))) (pe_cl c__law_draw hr (by omega) (pa_cons (pv 2) (pa_cons pe_int pa_nil))) (fun _ _ => rfl)) pa_nil))) pa_nil)) (by rfl))
      (pss_cons (ps_if (pt_cmpR op_eq (pe_cl c__law_draw hr (by omega) (pa_cons (pv 2) (pa_cons pe_int pa_nil))) pe_int (by first | exact nomark _ | rfl)) (pss_one (ps_setLc (i := 4) (own := [("thing", 7)]) rfl sc_law.nd rfl rfl (sw_true rfl rfl rfl (by decide +kernel)) (pi_list (pv 4)) (blkOk_by (own := [("thing", 7)]) (N := N_law) (sc := defScope s_law) (by decide +kernel)) (fun _ _ _ _ _ => (pg_name (i := 7) sc_law.nd rfl (by first | exact Or.inl rfl | exact Or.inr rfl))) (fun _ _ _ _ _ => pts_nil) (fun _ _ _ _ _ => pe_non))) pss_nil)
      (pss_cons (ps_set (i := 5) sc_law.nd rfl (by first | exact Or.inl rfl | exact Or.inr rfl) (pe_callB call_len_str (by rfl) T.n_len (by decide +kernel) (pa_cons (pe_cl c__law_noted hr (by omega) (pa_cons (pv 3) (pa_cons (pv 4) pa_nil))) pa_nil)))
      (pss_cons (ps_set (i := 6) sc_law.nd rfl (by first | exact Or.inl rfl | exact Or.inr rfl) (pe_callTy call_list_of (by rfl) T.n_list (by decide +kernel) (pa_cons (pv 4) pa_nil)))
      (pss_cons (ps_if (pt_cmpR op_ne (pe_callB (Pv.call_reprD hG hr) (by rfl) T.n_repr (by decide +kernel) (pa_cons (pe_lst (pa_cons (pe_cl c_note_signs hr (by omega) (pa_cons (pv 3) (pa_cons (pv 6) pa_nil))) (pa_cons (pe_clK c_note_signs hr (by omega) kb_note_signs_page_rule (pk_cons (pv 6) (pk_cons (pv 3) pk_nil))) pa_nil))) pa_nil)) (pe_callB (Pv.call_reprD hG hr) (by rfl) T.n_repr (by decide +kernel) (pa_cons (pe_lst (pa_cons (pv 5) (pa_cons (pv 5) pa_nil))) pa_nil)) (by first | exact nomark _ | rfl)) (pss_one (ps_ret pe_bl)) pss_nil)
      (pss_one (ps_if (pt_cmpR op_ne (pe_callB (Pv.call_reprD hG hr) (by rfl) T.n_repr (by decide +kernel) (pa_cons (pv 6) pa_nil)) (pe_callB (Pv.call_reprD hG hr) (by rfl) T.n_repr (by decide +kernel) (pa_cons (pv 4) pa_nil)) (by first | exact nomark _ | rfl)) (pss_one (ps_ret pe_bl)) pss_nil)))))))))
      (pss_one (ps_ret pe_bl))), ?_⟩
    have nn : ∀ {x : Addr}, x ∉ ([] : List Addr) := fun m => nomatch m
    have len1 : (1 : Nat) ≤ sizeLine := by decide
    refine ⟨_, rfl, 30, rfl, a, _, rfl, hS, fun p4 np4 => ?_⟩
    rw [show cutV (ns.map V.int) none (some 30) = _ from cut_upto 30]
    have S1 : Stp [] H (upd H p4 (.lst ((ns.map V.int).take 30))) := Stp.new np4 _
    have hp4 : (upd H p4 (.lst ((ns.map V.int).take 30))) p4 = some (.lst ((ns.map V.int).take 30)) := upd_same
    generalize upd H p4 (.lst ((ns.map V.int).take 30)) = H1 at *
    refine ⟨_, _, rfl, rfl, ⟨by decide, by decide, by decide⟩, _, _, rfl, rfl, len1, fun p2 np2 => ?_⟩
    have S2 : Stp [] H1 (upd H1 p2 (.lst [V.int (10 ^ (18 : Int).toNat + 3)])) := Stp.new np2 _
    refine ⟨p4, p2, _, _, rfl, rfl, S2.kp _ _ nn hp4, upd_same, ?_, fun p3 np3 => ?_⟩
    · rw [List.length_take, List.length_map]
      exact sz (by simp; omega)
    obtain ⟨cs, ecs⟩ : ∃ cs : List Int, (ns.map V.int).take 30 ++ [V.int (10 ^ (18 : Int).toNat + 3)] = cs.map V.int := ⟨ns.take 30 ++ [10 ^ (18 : Int).toNat + 3], by rw [← List.map_take, List.map_append]; rfl⟩
    rw [ecs]
    refine ⟨p3, rfl, ⟨_, SqL.of upd_same⟩, for_list (K := K) (a := p3) (xs := cs.map V.int) (fun i σ H1 => ∃ x1 x2 x3 x4 x5 x6 x7 : Option V, σ = [some (.ref a), x1, x2, x3, x4, x5, x6, x7] ∧ H1 p3 = some (.lst (cs.map V.int)))
      ⟨_, _, _, _, _, _, _, rfl, upd_same⟩ (fun i σ H1 _ ⟨_, _, _, _, _, _, _, _, h⟩ => SqL.of h) ?_ (fun σ H1 ⟨x1, x2, x3, x4, x5, x6, x7, e, _⟩ => by rw [e]; exact k _)⟩
    rintro i y σ H1 hi ⟨x1, x2, x3, x4, x5, x6, x7, rfl, h3⟩
    obtain ⟨c0, rfl⟩ : ∃ c, y = V.int c := by
      rw [List.getElem?_map] at hi
      cases e : cs[i]? with
      | none => rw [e] at hi; cases hi
      | some u => rw [e] at hi; exact ⟨u, (Option.some.inj hi).symm⟩
    refine ⟨_, rfl, c0, rfl, fun b H2 nb S2 B2 => ?_⟩
    have h32 : H2 p3 = some (.lst (cs.map V.int)) := S2.kp _ _ nn h3
    have n3b : p3 ≠ b := ne_of_none h3 nb
    have n3m : p3 ∉ [b] := fun m => n3b (List.mem_singleton.mp m)
    have one : b ∈ [b] := List.mem_singleton.mpr rfl
    refine ⟨_, rfl, b, 0, rfl, B2, by decide, fun v r H3 S3 B3 okr rv3 => ?_⟩
    refine ⟨_, rfl, (by show 4 ≤ sizeLine; decide), fun l nl => ?_⟩
    have S4 : Stp [] H3 (upd H3 l (.lst [.int 12, .int 12, .int 12, .int 40])) := Stp.new nl _
    have hl4 : (upd H3 l (.lst [.int 12, .int 12, .int 12, .int 40])) l = some (.lst [.int 12, .int 12, .int 12, .int 40]) := upd_same
    have B4 := B3.upd (o := .lst [.int 12, .int 12, .int 12, .int 40]) (B3.ne nl)
    have lb : l ≠ b := (B3.ne nl).symm
    have rv4 := rv3.up S4
    generalize upd H3 l (.lst [.int 12, .int 12, .int 12, .int 40]) = H4 at *
    refine ⟨_, rfl, b, 4, _, rfl, B4, by decide, by decide, by decide, fun d H5 d0 d1 o5 B5 => ?_⟩
    obtain ⟨u, mu, eu⟩ := pick_int (ns := [12, 12, 12, 40]) d0 d1
    have u0 : 1 ≤ u ∧ u ≤ 40 := by
      simp at mu
      omega
    have ls4 : Lsts H4 [b] := by
      obtain ⟨z1, z2, z3, hb, _⟩ := B4
      exact .one hb
    have ls5 : Lsts H5 [b] := by
      obtain ⟨z1, z2, z3, hb, _⟩ := B5
      exact .one hb
    have rv5 := Rv.any (S' := []) ((Rv.any (S' := [b]) rv4 (noL_ru r)).stp (o5.stp one) ls4) (noL_ru r)
    refine ⟨l, _, d, .int u, rfl, rfl, SqL.of (o5.at hl4 lb), eu, b, u, _, rfl, B5, by decide, u0.1, u0.2, fun fo os0 H6 nf hf6 ok0 pos0 few0 S6 B6 => ?_⟩
    have rv6 := Rv.any (S' := []) ((Rv.any (S' := [b]) rv5 (noL_ru r)).stp S6 ls5) (noL_ru r)
    have ls6 : Lsts H6 [b] := by
      obtain ⟨z1, z2, z3, hb, _⟩ := B6
      exact .one hb
    have h35 : H5 p3 = some (.lst (cs.map V.int)) := o5.at (S4.kp _ _ nn (S3.kp _ _ n3m h32)) n3b
    have h36 := S6.kp _ _ n3m h35
    have fb : fo ≠ b := (B5.ne nf).symm
    refine ⟨_, _, rfl, ?_⟩
    dsimp only [gName]
    refine seq_end (fun σ' H' => ∃ (c : Addr) (os : List (Option (List Nat))) (x7 : Option V), σ' = [some (.ref a), some (.int c0), some (.ref b), some v, some (.ref c), x5, x6, x7] ∧ H' c = some (.lst (os.map vV)) ∧ OkV os ∧ 0 < os.length ∧ os.length ≤ 40 ∧ Rv K [] H' v (ruD r) ∧ H' p3 = some (.lst (cs.map V.int))) ?_ (fun fin => ?_)
    rotate_left
    · refine ⟨_, rfl, b, 9, _, rfl, B6, by decide, by decide, by decide, fun d2 H7 e0 e1 o7 B7 => ?_⟩
      have hf7 := o7.at hf6 fb
      have rv7 := Rv.any (S' := []) ((Rv.any (S' := [b]) rv6 (noL_ru r)).stp (o7.stp one) ls6) (noL_ru r)
      have h37 := o7.at h36 n3b
      refine ⟨rfl, _, rfl, ite2 (fun h => ?_) (fun h => ?_)⟩
      · refine ⟨_, rfl, fo, rfl, ⟨_, SqL.of hf7⟩, fun L nL => ?_⟩
        refine lc_mapL (K := K) (ds := os0.map fun _ => Dt.non) nL (SqL.of hf7) (by simp) (by rw [List.length_map]; omega) (fun j x dd H9 hx hd S9 Q2 q => ?_) fun ws H9 S9 h9 r9 => ?_
        · rw [List.getElem?_map] at hd
          cases e : os0[j]? with
          | none => rw [e] at hd; cases hd
          | some o =>
            rw [e] at hd
            cases hd
            exact ⟨rfl, q _ _ (Stp.refl _ _) .non⟩
        · rw [rpl_non r9] at h9
          have okn : OkV (os0.map fun _ => (none : Option (List Nat))) := fun l m => by
            obtain ⟨_, _, e⟩ := List.mem_map.mp m
            cases e
          exact fin _ _ ⟨L, _, _, rfl, h9, okn, by rw [List.length_map]; exact pos0, by rw [List.length_map]; exact few0, rv7.up S9, S9.kp _ _ nn h37⟩
      · exact fin _ _ ⟨fo, os0, _, rfl, hf7, ok0, pos0, few0, rv7, h37⟩
    rintro σ H7 ⟨c, os, y7, rfl, hc7, ok, pos, few, rv7, h37⟩
    have col := ok.col (by omega)
    have nl := nsg_le (r := r) col
    refine ⟨_, rfl, _, rfl, v, c, r, os, rfl, rv7, okr, hc7, col, by omega, fun sg H8 esg S8 => ?_⟩
    refine ⟨sg, rfl, sz (by rw [esg]; omega), ?_⟩
    rw [esg]
    have hc8 := S8.kp _ _ nn hc7
    refine ⟨_, rfl, c, _, rfl, .inl (SqL.of hc8), fun c2 nc2 => ?_⟩
    have S9 : Stp [] H8 (upd H8 c2 (.lst (os.map vV))) := Stp.new nc2 _
    have hc29 : (upd H8 c2 (.lst (os.map vV))) c2 = some (.lst (os.map vV)) := upd_same
    generalize upd H8 c2 (.lst (os.map vV)) = H9 at *
    have rv9 := rv7.up (S8.trans S9)
    have hc9 := S9.kp _ _ nn hc8
    have h39 := (S8.trans S9).kp _ _ nn h37
    refine ⟨_, rfl, _, rfl, v, c2, r, os, rfl, rv9, okr, hc29, col, pos, fun HA SA => ?_⟩
    refine ⟨_, rfl, _, rfl, v, c2, r, os, rfl, rv9.up SA, okr, SA.kp _ _ nn hc29, col, pos, fun HB SB => ?_⟩
    refine ⟨(by show 2 ≤ sizeLine; decide), fun l2 nl2 => ?_⟩
    have fine := ints_fine (n := nsg r os) (by omega)
    have SC : Stp [] HB (upd HB l2 (.lst [.int (nsg r os : Int), .int (nsg r os : Int)])) := Stp.new nl2 _
    refine ⟨[], _, _, rfl, Rv.newL Lsts.nil nl2 (.cons (.int _) (.cons (.int _) .nil)) (by simp), fine, ?_⟩
    generalize upd HB l2 (.lst [.int (nsg r os : Int), .int (nsg r os : Int)]) = HC at *
    refine ⟨_, rfl, _, rfl, (by show 2 ≤ sizeLine; decide), fun l3 nl3 => ?_⟩
    have SD : Stp [] HC (upd HC l3 (.lst [.int (nsg r os : Int), .int (nsg r os : Int)])) := Stp.new nl3 _
    refine ⟨[], _, _, rfl, Rv.newL Lsts.nil nl3 (.cons (.int _) (.cons (.int _) .nil)) (by simp), fine, ?_⟩
    generalize upd HC l3 (.lst [.int (nsg r os : Int), .int (nsg r os : Int)]) = HD at *
    generalize (Pv.D.lst [.int (nsg r os : Int), .int (nsg r os : Int)]).told = tt
    refine ⟨rfl, _, rfl, ite2 (fun h => absurd h nes) (fun _ => ?_)⟩
    have S9D := ((SA.trans SB).trans SC).trans SD
    have pf := page_fine ok (by omega)
    have rvs : ∀ H', RvL K [] H' (os.map vV) (os.map vD) := fun H' => rv_vs os fun l m => by have := (ok l m).2; omega
    refine ⟨_, rfl, [], .ref c2, _, rfl, .lst (S9D.kp _ _ nn hc29) nn (by rw [List.length_map]; omega) (rvs _), pf, ?_⟩
    refine ⟨_, rfl, [], .ref c, _, rfl, .lst (S9D.kp _ _ nn hc9) nn (by rw [List.length_map]; omega) (rvs _), pf, ?_⟩
    generalize (Pv.D.lst (os.map vD)).told = tt2
    refine ⟨rfl, _, rfl, ite2 (fun h => absurd h nes) (fun _ => ?_)⟩
    exact ⟨_, _, _, _, _, _, _, rfl, S9D.kp _ _ nn h39⟩
/-! ### what the top has written, the head -/
theorem all_mk {l : PySem.W.OpenLaw} {w : World} {K : PySem.W.Frag} {h : Heap} {mg : Str → Option Value} {fa : Addr} (X : K.In h) (G : h.Ns mainGlobals mg) (hfa : mg "law" = some (.ref fa))
    {f0 : Addr} {od0 an0 : Option Addr} {sl0 : Array (Option Value)} {oc0 kV0 dc0 pm0 cd0 ct0 : Value}
    (a0 : PySem.W.nsIn K mainGlobals "is_text" = some (some (.ref f0))) (l0 : K.lookup f0 = some ⟨oc0, od0, .func (PySem.W.fnOf "is_text" "is_text" (defArgs s_is_text) (defBody s_is_text) (defScope s_is_text) .none kV0 dc0 pm0 an0 cd0 ct0), sl0⟩) (c0 : PySem.W.codeIn K cd0 "is_text" = true) (k0 : PySem.W.keepIn K (.ref f0) = true)
    {f1 : Addr} {od1 an1 : Option Addr} {sl1 : Array (Option Value)} {oc1 kV1 dc1 pm1 cd1 ct1 : Value}
    (a1 : PySem.W.nsIn K mainGlobals "check_text" = some (some (.ref f1))) (l1 : K.lookup f1 = some ⟨oc1, od1, .func (PySem.W.fnOf "check_text" "check_text" (defArgs s_check_text) (defBody s_check_text) (defScope s_check_text) .none kV1 dc1 pm1 an1 cd1 ct1), sl1⟩) (c1 : PySem.W.codeIn K cd1 "check_text" = true) (k1 : PySem.W.keepIn K (.ref f1) = true)
    {f2 : Addr} {od2 an2 : Option Addr} {sl2 : Array (Option Value)} {oc2 kV2 dc2 pm2 cd2 ct2 : Value}
    (a2 : PySem.W.nsIn K mainGlobals "beyond" = some (some (.ref f2))) (l2 : K.lookup f2 = some ⟨oc2, od2, .func (PySem.W.fnOf "beyond" "beyond" (defArgs s_beyond) (defBody s_beyond) (defScope s_beyond) .none kV2 dc2 pm2 an2 cd2 ct2), sl2⟩) (c2 : PySem.W.codeIn K cd2 "beyond" = true) (k2 : PySem.W.keepIn K (.ref f2) = true)
    {f3 : Addr} {od3 an3 : Option Addr} {sl3 : Array (Option Value)} {oc3 kV3 dc3 pm3 cd3 ct3 : Value}
    (a3 : PySem.W.nsIn K mainGlobals "ascending" = some (some (.ref f3))) (l3 : K.lookup f3 = some ⟨oc3, od3, .func (PySem.W.fnOf "ascending" "ascending" (defArgs s_ascending) (defBody s_ascending) (defScope s_ascending) .none kV3 dc3 pm3 an3 cd3 ct3), sl3⟩) (c3 : PySem.W.codeIn K cd3 "ascending" = true) (k3 : PySem.W.keepIn K (.ref f3) = true)
    {f4 : Addr} {od4 an4 : Option Addr} {sl4 : Array (Option Value)} {oc4 kV4 dc4 pm4 cd4 ct4 : Value}
    (a4 : PySem.W.nsIn K mainGlobals "is_value" = some (some (.ref f4))) (l4 : K.lookup f4 = some ⟨oc4, od4, .func (PySem.W.fnOf "is_value" "is_value" (defArgs s_is_value) (defBody s_is_value) (defScope s_is_value) .none kV4 dc4 pm4 an4 cd4 ct4), sl4⟩) (c4 : PySem.W.codeIn K cd4 "is_value" = true) (k4 : PySem.W.keepIn K (.ref f4) = true)
    {f5 : Addr} {od5 an5 : Option Addr} {sl5 : Array (Option Value)} {oc5 kV5 dc5 pm5 cd5 ct5 : Value}
    (a5 : PySem.W.nsIn K mainGlobals "is_rule" = some (some (.ref f5))) (l5 : K.lookup f5 = some ⟨oc5, od5, .func (PySem.W.fnOf "is_rule" "is_rule" (defArgs s_is_rule) (defBody s_is_rule) (defScope s_is_rule) .none kV5 dc5 pm5 an5 cd5 ct5), sl5⟩) (c5 : PySem.W.codeIn K cd5 "is_rule" = true) (k5 : PySem.W.keepIn K (.ref f5) = true)
    {f6 : Addr} {od6 an6 : Option Addr} {sl6 : Array (Option Value)} {oc6 kV6 dc6 pm6 cd6 ct6 : Value}
    (a6 : PySem.W.nsIn K mainGlobals "is_lacks_part" = some (some (.ref f6))) (l6 : K.lookup f6 = some ⟨oc6, od6, .func (PySem.W.fnOf "is_lacks_part" "is_lacks_part" (defArgs s_is_lacks_part) (defBody s_is_lacks_part) (defScope s_is_lacks_part) .none kV6 dc6 pm6 an6 cd6 ct6), sl6⟩) (c6 : PySem.W.codeIn K cd6 "is_lacks_part" = true) (k6 : PySem.W.keepIn K (.ref f6) = true)
    {f7 : Addr} {od7 an7 : Option Addr} {sl7 : Array (Option Value)} {oc7 kV7 dc7 pm7 cd7 ct7 : Value}
    (a7 : PySem.W.nsIn K mainGlobals "is_low_part" = some (some (.ref f7))) (l7 : K.lookup f7 = some ⟨oc7, od7, .func (PySem.W.fnOf "is_low_part" "is_low_part" (defArgs s_is_low_part) (defBody s_is_low_part) (defScope s_is_low_part) .none kV7 dc7 pm7 an7 cd7 ct7), sl7⟩) (c7 : PySem.W.codeIn K cd7 "is_low_part" = true) (k7 : PySem.W.keepIn K (.ref f7) = true)
    {f8 : Addr} {od8 an8 : Option Addr} {sl8 : Array (Option Value)} {oc8 kV8 dc8 pm8 cd8 ct8 : Value}
    (a8 : PySem.W.nsIn K mainGlobals "is_high_part" = some (some (.ref f8))) (l8 : K.lookup f8 = some ⟨oc8, od8, .func (PySem.W.fnOf "is_high_part" "is_high_part" (defArgs s_is_high_part) (defBody s_is_high_part) (defScope s_is_high_part) .none kV8 dc8 pm8 an8 cd8 ct8), sl8⟩) (c8 : PySem.W.codeIn K cd8 "is_high_part" = true) (k8 : PySem.W.keepIn K (.ref f8) = true)
    {f9 : Addr} {od9 an9 : Option Addr} {sl9 : Array (Option Value)} {oc9 kV9 dc9 pm9 cd9 ct9 : Value}
    (a9 : PySem.W.nsIn K mainGlobals "is_lost" = some (some (.ref f9))) (l9 : K.lookup f9 = some ⟨oc9, od9, .func (PySem.W.fnOf "is_lost" "is_lost" (defArgs s_is_lost) (defBody s_is_lost) (defScope s_is_lost) .none kV9 dc9 pm9 an9 cd9 ct9), sl9⟩) (c9 : PySem.W.codeIn K cd9 "is_lost" = true) (k9 : PySem.W.keepIn K (.ref f9) = true)
    {f10 : Addr} {od10 an10 : Option Addr} {sl10 : Array (Option Value)} {oc10 kV10 dc10 pm10 cd10 ct10 : Value}
    (a10 : PySem.W.nsIn K mainGlobals "is_letter_number" = some (some (.ref f10))) (l10 : K.lookup f10 = some ⟨oc10, od10, .func (PySem.W.fnOf "is_letter_number" "is_letter_number" (defArgs s_is_letter_number) (defBody s_is_letter_number) (defScope s_is_letter_number) .none kV10 dc10 pm10 an10 cd10 ct10), sl10⟩) (c10 : PySem.W.codeIn K cd10 "is_letter_number" = true) (k10 : PySem.W.keepIn K (.ref f10) = true)
    {f11 : Addr} {od11 an11 : Option Addr} {sl11 : Array (Option Value)} {oc11 kV11 dc11 pm11 cd11 ct11 : Value}
    (a11 : PySem.W.nsIn K mainGlobals "is_page" = some (some (.ref f11))) (l11 : K.lookup f11 = some ⟨oc11, od11, .func (PySem.W.fnOf "is_page" "is_page" (defArgs s_is_page) (defBody s_is_page) (defScope s_is_page) .none kV11 dc11 pm11 an11 cd11 ct11), sl11⟩) (c11 : PySem.W.codeIn K cd11 "is_page" = true) (k11 : PySem.W.keepIn K (.ref f11) = true)
    {f12 : Addr} {od12 an12 : Option Addr} {sl12 : Array (Option Value)} {oc12 kV12 dc12 pm12 cd12 ct12 : Value}
    (a12 : PySem.W.nsIn K mainGlobals "check_rule" = some (some (.ref f12))) (l12 : K.lookup f12 = some ⟨oc12, od12, .func (PySem.W.fnOf "check_rule" "check_rule" (defArgs s_check_rule) (defBody s_check_rule) (defScope s_check_rule) .none kV12 dc12 pm12 an12 cd12 ct12), sl12⟩) (c12 : PySem.W.codeIn K cd12 "check_rule" = true) (k12 : PySem.W.keepIn K (.ref f12) = true)
    {f13 : Addr} {od13 an13 : Option Addr} {sl13 : Array (Option Value)} {oc13 kV13 dc13 pm13 cd13 ct13 : Value}
    (a13 : PySem.W.nsIn K mainGlobals "check_page" = some (some (.ref f13))) (l13 : K.lookup f13 = some ⟨oc13, od13, .func (PySem.W.fnOf "check_page" "check_page" (defArgs s_check_page) (defBody s_check_page) (defScope s_check_page) .none kV13 dc13 pm13 an13 cd13 ct13), sl13⟩) (c13 : PySem.W.codeIn K cd13 "check_page" = true) (k13 : PySem.W.keepIn K (.ref f13) = true)
    {f14 : Addr} {od14 an14 : Option Addr} {sl14 : Array (Option Value)} {oc14 kV14 dc14 pm14 cd14 ct14 : Value}
    (a14 : PySem.W.nsIn K mainGlobals "note" = some (some (.ref f14))) (l14 : K.lookup f14 = some ⟨oc14, od14, .func (PySem.W.fnOf "note" "note" (defArgs s_note) (defBody s_note) (defScope s_note) .none kV14 dc14 pm14 an14 cd14 ct14), sl14⟩) (c14 : PySem.W.codeIn K cd14 "note" = true) (k14 : PySem.W.keepIn K (.ref f14) = true)
    {f15 : Addr} {od15 an15 : Option Addr} {sl15 : Array (Option Value)} {oc15 kV15 dc15 pm15 cd15 ct15 : Value}
    (a15 : PySem.W.nsIn K mainGlobals "lacks_note" = some (some (.ref f15))) (l15 : K.lookup f15 = some ⟨oc15, od15, .func (PySem.W.fnOf "lacks_note" "lacks_note" (defArgs s_lacks_note) (defBody s_lacks_note) (defScope s_lacks_note) .none kV15 dc15 pm15 an15 cd15 ct15), sl15⟩) (c15 : PySem.W.codeIn K cd15 "lacks_note" = true) (k15 : PySem.W.keepIn K (.ref f15) = true)
    {f16 : Addr} {od16 an16 : Option Addr} {sl16 : Array (Option Value)} {oc16 kV16 dc16 pm16 cd16 ct16 : Value}
    (a16 : PySem.W.nsIn K mainGlobals "low_note" = some (some (.ref f16))) (l16 : K.lookup f16 = some ⟨oc16, od16, .func (PySem.W.fnOf "low_note" "low_note" (defArgs s_low_note) (defBody s_low_note) (defScope s_low_note) .none kV16 dc16 pm16 an16 cd16 ct16), sl16⟩) (c16 : PySem.W.codeIn K cd16 "low_note" = true) (k16 : PySem.W.keepIn K (.ref f16) = true)
    {f17 : Addr} {od17 an17 : Option Addr} {sl17 : Array (Option Value)} {oc17 kV17 dc17 pm17 cd17 ct17 : Value}
    (a17 : PySem.W.nsIn K mainGlobals "high_note" = some (some (.ref f17))) (l17 : K.lookup f17 = some ⟨oc17, od17, .func (PySem.W.fnOf "high_note" "high_note" (defArgs s_high_note) (defBody s_high_note) (defScope s_high_note) .none kV17 dc17 pm17 an17 cd17 ct17), sl17⟩) (c17 : PySem.W.codeIn K cd17 "high_note" = true) (k17 : PySem.W.keepIn K (.ref f17) = true)
    {f18 : Addr} {od18 an18 : Option Addr} {sl18 : Array (Option Value)} {oc18 kV18 dc18 pm18 cd18 ct18 : Value}
    (a18 : PySem.W.nsIn K mainGlobals "digits" = some (some (.ref f18))) (l18 : K.lookup f18 = some ⟨oc18, od18, .func (PySem.W.fnOf "digits" "digits" (defArgs s_digits) (defBody s_digits) (defScope s_digits) .none kV18 dc18 pm18 an18 cd18 ct18), sl18⟩) (c18 : PySem.W.codeIn K cd18 "digits" = true) (k18 : PySem.W.keepIn K (.ref f18) = true)
    {f19 : Addr} {od19 an19 : Option Addr} {sl19 : Array (Option Value)} {oc19 kV19 dc19 pm19 cd19 ct19 : Value}
    (a19 : PySem.W.nsIn K mainGlobals "value_signs" = some (some (.ref f19))) (l19 : K.lookup f19 = some ⟨oc19, od19, .func (PySem.W.fnOf "value_signs" "value_signs" (defArgs s_value_signs) (defBody s_value_signs) (defScope s_value_signs) .none kV19 dc19 pm19 an19 cd19 ct19), sl19⟩) (c19 : PySem.W.codeIn K cd19 "value_signs" = true) (k19 : PySem.W.keepIn K (.ref f19) = true)
    {f20 : Addr} {od20 an20 : Option Addr} {sl20 : Array (Option Value)} {oc20 kV20 dc20 pm20 cd20 ct20 : Value}
    (a20 : PySem.W.nsIn K mainGlobals "note_signs" = some (some (.ref f20))) (l20 : K.lookup f20 = some ⟨oc20, od20, .func (PySem.W.fnOf "note_signs" "note_signs" (defArgs s_note_signs) (defBody s_note_signs) (defScope s_note_signs) .none kV20 dc20 pm20 an20 cd20 ct20), sl20⟩) (c20 : PySem.W.codeIn K cd20 "note_signs" = true) (k20 : PySem.W.keepIn K (.ref f20) = true)
    {f21 : Addr} {od21 an21 : Option Addr} {sl21 : Array (Option Value)} {oc21 kV21 dc21 pm21 cd21 ct21 : Value}
    (a21 : PySem.W.nsIn K mainGlobals "lacks_signs" = some (some (.ref f21))) (l21 : K.lookup f21 = some ⟨oc21, od21, .func (PySem.W.fnOf "lacks_signs" "lacks_signs" (defArgs s_lacks_signs) (defBody s_lacks_signs) (defScope s_lacks_signs) .none kV21 dc21 pm21 an21 cd21 ct21), sl21⟩) (c21 : PySem.W.codeIn K cd21 "lacks_signs" = true) (k21 : PySem.W.keepIn K (.ref f21) = true)
    {f22 : Addr} {od22 an22 : Option Addr} {sl22 : Array (Option Value)} {oc22 kV22 dc22 pm22 cd22 ct22 : Value}
    (a22 : PySem.W.nsIn K mainGlobals "_law_bag" = some (some (.ref f22))) (l22 : K.lookup f22 = some ⟨oc22, od22, .func (PySem.W.fnOf "_law_bag" "_law_bag" (defArgs s__law_bag) (defBody s__law_bag) (defScope s__law_bag) .none kV22 dc22 pm22 an22 cd22 ct22), sl22⟩) (c22 : PySem.W.codeIn K cd22 "_law_bag" = true) (k22 : PySem.W.keepIn K (.ref f22) = true)
    {f23 : Addr} {od23 an23 : Option Addr} {sl23 : Array (Option Value)} {oc23 kV23 dc23 pm23 cd23 ct23 : Value}
    (a23 : PySem.W.nsIn K mainGlobals "_law_draw" = some (some (.ref f23))) (l23 : K.lookup f23 = some ⟨oc23, od23, .func (PySem.W.fnOf "_law_draw" "_law_draw" (defArgs s__law_draw) (defBody s__law_draw) (defScope s__law_draw) .none kV23 dc23 pm23 an23 cd23 ct23), sl23⟩) (c23 : PySem.W.codeIn K cd23 "_law_draw" = true) (k23 : PySem.W.keepIn K (.ref f23) = true)
    {f24 : Addr} {od24 an24 : Option Addr} {sl24 : Array (Option Value)} {oc24 kV24 dc24 pm24 cd24 ct24 : Value}
    (a24 : PySem.W.nsIn K mainGlobals "_law_text" = some (some (.ref f24))) (l24 : K.lookup f24 = some ⟨oc24, od24, .func (PySem.W.fnOf "_law_text" "_law_text" (defArgs s__law_text) (defBody s__law_text) (defScope s__law_text) .none kV24 dc24 pm24 an24 cd24 ct24), sl24⟩) (c24 : PySem.W.codeIn K cd24 "_law_text" = true) (k24 : PySem.W.keepIn K (.ref f24) = true)
    {f25 : Addr} {od25 an25 : Option Addr} {sl25 : Array (Option Value)} {oc25 kV25 dc25 pm25 cd25 ct25 : Value}
    (a25 : PySem.W.nsIn K mainGlobals "_law_near" = some (some (.ref f25))) (l25 : K.lookup f25 = some ⟨oc25, od25, .func (PySem.W.fnOf "_law_near" "_law_near" (defArgs s__law_near) (defBody s__law_near) (defScope s__law_near) .none kV25 dc25 pm25 an25 cd25 ct25), sl25⟩) (c25 : PySem.W.codeIn K cd25 "_law_near" = true) (k25 : PySem.W.keepIn K (.ref f25) = true)
    {f26 : Addr} {od26 an26 : Option Addr} {sl26 : Array (Option Value)} {oc26 kV26 dc26 pm26 cd26 ct26 : Value}
    (a26 : PySem.W.nsIn K mainGlobals "_law_past" = some (some (.ref f26))) (l26 : K.lookup f26 = some ⟨oc26, od26, .func (PySem.W.fnOf "_law_past" "_law_past" (defArgs s__law_past) (defBody s__law_past) (defScope s__law_past) .none kV26 dc26 pm26 an26 cd26 ct26), sl26⟩) (c26 : PySem.W.codeIn K cd26 "_law_past" = true) (k26 : PySem.W.keepIn K (.ref f26) = true)
    {f27 : Addr} {od27 an27 : Option Addr} {sl27 : Array (Option Value)} {oc27 kV27 dc27 pm27 cd27 ct27 : Value}
    (a27 : PySem.W.nsIn K mainGlobals "_law_some" = some (some (.ref f27))) (l27 : K.lookup f27 = some ⟨oc27, od27, .func (PySem.W.fnOf "_law_some" "_law_some" (defArgs s__law_some) (defBody s__law_some) (defScope s__law_some) .none kV27 dc27 pm27 an27 cd27 ct27), sl27⟩) (c27 : PySem.W.codeIn K cd27 "_law_some" = true) (k27 : PySem.W.keepIn K (.ref f27) = true)
    {f28 : Addr} {od28 an28 : Option Addr} {sl28 : Array (Option Value)} {oc28 kV28 dc28 pm28 cd28 ct28 : Value}
    (a28 : PySem.W.nsIn K mainGlobals "_law_sheet" = some (some (.ref f28))) (l28 : K.lookup f28 = some ⟨oc28, od28, .func (PySem.W.fnOf "_law_sheet" "_law_sheet" (defArgs s__law_sheet) (defBody s__law_sheet) (defScope s__law_sheet) .none kV28 dc28 pm28 an28 cd28 ct28), sl28⟩) (c28 : PySem.W.codeIn K cd28 "_law_sheet" = true) (k28 : PySem.W.keepIn K (.ref f28) = true)
    {f29 : Addr} {od29 an29 : Option Addr} {sl29 : Array (Option Value)} {oc29 kV29 dc29 pm29 cd29 ct29 : Value}
    (a29 : PySem.W.nsIn K mainGlobals "_law_word" = some (some (.ref f29))) (l29 : K.lookup f29 = some ⟨oc29, od29, .func (PySem.W.fnOf "_law_word" "_law_word" (defArgs s__law_word) (defBody s__law_word) (defScope s__law_word) .none kV29 dc29 pm29 an29 cd29 ct29), sl29⟩) (c29 : PySem.W.codeIn K cd29 "_law_word" = true) (k29 : PySem.W.keepIn K (.ref f29) = true)
    {f30 : Addr} {od30 an30 : Option Addr} {sl30 : Array (Option Value)} {oc30 kV30 dc30 pm30 cd30 ct30 : Value}
    (a30 : PySem.W.nsIn K mainGlobals "_law_kind" = some (some (.ref f30))) (l30 : K.lookup f30 = some ⟨oc30, od30, .func (PySem.W.fnOf "_law_kind" "_law_kind" (defArgs s__law_kind) (defBody s__law_kind) (defScope s__law_kind) .none kV30 dc30 pm30 an30 cd30 ct30), sl30⟩) (c30 : PySem.W.codeIn K cd30 "_law_kind" = true) (k30 : PySem.W.keepIn K (.ref f30) = true)
    {f31 : Addr} {od31 an31 : Option Addr} {sl31 : Array (Option Value)} {oc31 kV31 dc31 pm31 cd31 ct31 : Value}
    (a31 : PySem.W.nsIn K mainGlobals "_law_noted" = some (some (.ref f31))) (l31 : K.lookup f31 = some ⟨oc31, od31, .func (PySem.W.fnOf "_law_noted" "_law_noted" (defArgs s__law_noted) (defBody s__law_noted) (defScope s__law_noted) .none kV31 dc31 pm31 an31 cd31 ct31), sl31⟩) (c31 : PySem.W.codeIn K cd31 "_law_noted" = true) (k31 : PySem.W.keepIn K (.ref f31) = true)
    {f32 : Addr} {od32 an32 : Option Addr} {sl32 : Array (Option Value)} {oc32 kV32 dc32 pm32 cd32 ct32 : Value}
    (a32 : PySem.W.nsIn K mainGlobals "law" = some (some (.ref f32))) (l32 : K.lookup f32 = some ⟨oc32, od32, .func (PySem.W.fnOf "law" "law" (defArgs s_law) (defBody s_law) (defScope s_law) .none kV32 dc32 pm32 an32 cd32 ct32), sl32⟩) (c32 : PySem.W.codeIn K cd32 "law" = true) (k32 : PySem.W.keepIn K (.ref f32) = true)
    {dN0 : Addr} {esN0 : Array DictEntry} {nN0 : Nat} (aN0 : PySem.W.nsIn K mainGlobals "NEXT_LETTERS" = some (some (.ref dN0))) (lN0 : K.lookup dN0 = some ⟨.type "dict", none, .dict esN0 nN0, #[]⟩) (kN0 : PySem.W.KeysLit w.params esN0.toList)
    {tN0_0 : Tok} (vN0_0 : PySem.W.nsIn K dN0 "a" = some (some (.str "b" tN0_0)))
    {tN0_1 : Tok} (vN0_1 : PySem.W.nsIn K dN0 "b" = some (some (.str "c" tN0_1)))
    (z0 : PySem.W.nsIn K mainGlobals "int" = some none)
    (z1 : PySem.W.nsIn K mainGlobals "len" = some none)
    (z2 : PySem.W.nsIn K mainGlobals "max" = some none)
    (z3 : PySem.W.nsIn K mainGlobals "range" = some none)
    (z4 : PySem.W.nsIn K mainGlobals "type" = some none)
    (z5 : PySem.W.nsIn K mainGlobals "tuple" = some none)
    (z6 : PySem.W.nsIn K mainGlobals "list" = some none)
    (z7 : PySem.W.nsIn K mainGlobals "str" = some none)
    (z8 : PySem.W.nsIn K mainGlobals "bool" = some none)
    (z9 : PySem.W.nsIn K mainGlobals "all" = some none)
    (z10 : PySem.W.nsIn K mainGlobals "sorted" = some none)
    (z11 : PySem.W.nsIn K mainGlobals "set" = some none)
    (z12 : PySem.W.nsIn K mainGlobals "repr" = some none)
    (z13 : PySem.W.nsIn K mainGlobals "min" = some none)
    : ∃ fd : FuncData, (∀ (s : Shared) (v : Value), BindsTo s fd ⟨[v], []⟩ [("script", v)]) ∧ ∀ base : Heap, K.In base → base.Ns mainGlobals mg → FnG l.prog w K mg base 7 fa fd ["script"] (spLaw K) := by
  have e := hfa.symm.trans (PySem.W.mg_of X G a32)
  cases e
  have F_is_text := fun_mk (st := s_is_text) l0 c0 k0
  have D_is_text : Df K mg "is_text" s_is_text ["value"] f0 _ := ⟨F_is_text, PySem.W.mg_of X G a0, F_is_text.binds (ps := ["value"]) fun _ _ _ _ _ _ us hl => match us, hl with | [_], _ => rfl⟩
  have F_check_text := fun_mk (st := s_check_text) l1 c1 k1
  have D_check_text : Df K mg "check_text" s_check_text ["text"] f1 _ := ⟨F_check_text, PySem.W.mg_of X G a1, F_check_text.binds (ps := ["text"]) fun _ _ _ _ _ _ us hl => match us, hl with | [_], _ => rfl⟩
  have F_beyond := fun_mk (st := s_beyond) l2 c2 k2
  have D_beyond : Df K mg "beyond" s_beyond ["text"] f2 _ := ⟨F_beyond, PySem.W.mg_of X G a2, F_beyond.binds (ps := ["text"]) fun _ _ _ _ _ _ us hl => match us, hl with | [_], _ => rfl⟩
  have F_ascending := fun_mk (st := s_ascending) l3 c3 k3
  have D_ascending : Df K mg "ascending" s_ascending ["texts"] f3 _ := ⟨F_ascending, PySem.W.mg_of X G a3, F_ascending.binds (ps := ["texts"]) fun _ _ _ _ _ _ us hl => match us, hl with | [_], _ => rfl⟩
  have F_is_value := fun_mk (st := s_is_value) l4 c4 k4
  have D_is_value : Df K mg "is_value" s_is_value ["value"] f4 _ := ⟨F_is_value, PySem.W.mg_of X G a4, F_is_value.binds (ps := ["value"]) fun _ _ _ _ _ _ us hl => match us, hl with | [_], _ => rfl⟩
  have F_is_rule := fun_mk (st := s_is_rule) l5 c5 k5
  have D_is_rule : Df K mg "is_rule" s_is_rule ["value"] f5 _ := ⟨F_is_rule, PySem.W.mg_of X G a5, F_is_rule.binds (ps := ["value"]) fun _ _ _ _ _ _ us hl => match us, hl with | [_], _ => rfl⟩
  have F_is_lacks_part := fun_mk (st := s_is_lacks_part) l6 c6 k6
  have D_is_lacks_part : Df K mg "is_lacks_part" s_is_lacks_part ["part"] f6 _ := ⟨F_is_lacks_part, PySem.W.mg_of X G a6, F_is_lacks_part.binds (ps := ["part"]) fun _ _ _ _ _ _ us hl => match us, hl with | [_], _ => rfl⟩
  have F_is_low_part := fun_mk (st := s_is_low_part) l7 c7 k7
  have D_is_low_part : Df K mg "is_low_part" s_is_low_part ["part"] f7 _ := ⟨F_is_low_part, PySem.W.mg_of X G a7, F_is_low_part.binds (ps := ["part"]) fun _ _ _ _ _ _ us hl => match us, hl with | [_], _ => rfl⟩
  have F_is_high_part := fun_mk (st := s_is_high_part) l8 c8 k8
  have D_is_high_part : Df K mg "is_high_part" s_is_high_part ["part"] f8 _ := ⟨F_is_high_part, PySem.W.mg_of X G a8, F_is_high_part.binds (ps := ["part"]) fun _ _ _ _ _ _ us hl => match us, hl with | [_], _ => rfl⟩
  have F_is_lost := fun_mk (st := s_is_lost) l9 c9 k9
  have D_is_lost : Df K mg "is_lost" s_is_lost ["part"] f9 _ := ⟨F_is_lost, PySem.W.mg_of X G a9, F_is_lost.binds (ps := ["part"]) fun _ _ _ _ _ _ us hl => match us, hl with | [_], _ => rfl⟩
  have F_is_letter_number := fun_mk (st := s_is_letter_number) l10 c10 k10
  have D_is_letter_number : Df K mg "is_letter_number" s_is_letter_number ["part"] f10 _ := ⟨F_is_letter_number, PySem.W.mg_of X G a10, F_is_letter_number.binds (ps := ["part"]) fun _ _ _ _ _ _ us hl => match us, hl with | [_], _ => rfl⟩
  have F_is_page := fun_mk (st := s_is_page) l11 c11 k11
  have D_is_page : Df K mg "is_page" s_is_page ["value"] f11 _ := ⟨F_is_page, PySem.W.mg_of X G a11, F_is_page.binds (ps := ["value"]) fun _ _ _ _ _ _ us hl => match us, hl with | [_], _ => rfl⟩
  have F_check_rule := fun_mk (st := s_check_rule) l12 c12 k12
  have D_check_rule : Df K mg "check_rule" s_check_rule ["rule"] f12 _ := ⟨F_check_rule, PySem.W.mg_of X G a12, F_check_rule.binds (ps := ["rule"]) fun _ _ _ _ _ _ us hl => match us, hl with | [_], _ => rfl⟩
  have F_check_page := fun_mk (st := s_check_page) l13 c13 k13
  have D_check_page : Df K mg "check_page" s_check_page ["page"] f13 _ := ⟨F_check_page, PySem.W.mg_of X G a13, F_check_page.binds (ps := ["page"]) fun _ _ _ _ _ _ us hl => match us, hl with | [_], _ => rfl⟩
  have F_note := fun_mk (st := s_note) l14 c14 k14
  have D_note : Df K mg "note" s_note ["rule", "page"] f14 _ := ⟨F_note, PySem.W.mg_of X G a14, F_note.binds (ps := ["rule", "page"]) fun _ _ _ _ _ _ us hl => match us, hl with | [_, _], _ => rfl⟩
  have F_lacks_note := fun_mk (st := s_lacks_note) l15 c15 k15
  have D_lacks_note : Df K mg "lacks_note" s_lacks_note ["lacks", "lacking"] f15 _ := ⟨F_lacks_note, PySem.W.mg_of X G a15, F_lacks_note.binds (ps := ["lacks", "lacking"]) fun _ _ _ _ _ _ us hl => match us, hl with | [_, _], _ => rfl⟩
  have F_low_note := fun_mk (st := s_low_note) l16 c16 k16
  have D_low_note : Df K mg "low_note" s_low_note ["low", "texts"] f16 _ := ⟨F_low_note, PySem.W.mg_of X G a16, F_low_note.binds (ps := ["low", "texts"]) fun _ _ _ _ _ _ us hl => match us, hl with | [_, _], _ => rfl⟩
  have F_high_note := fun_mk (st := s_high_note) l17 c17 k17
  have D_high_note : Df K mg "high_note" s_high_note ["high", "texts"] f17 _ := ⟨F_high_note, PySem.W.mg_of X G a17, F_high_note.binds (ps := ["high", "texts"]) fun _ _ _ _ _ _ us hl => match us, hl with | [_, _], _ => rfl⟩
  have F_digits := fun_mk (st := s_digits) l18 c18 k18
  have D_digits : Df K mg "digits" s_digits ["number"] f18 _ := ⟨F_digits, PySem.W.mg_of X G a18, F_digits.binds (ps := ["number"]) fun _ _ _ _ _ _ us hl => match us, hl with | [_], _ => rfl⟩
  have F_value_signs := fun_mk (st := s_value_signs) l19 c19 k19
  have D_value_signs : Df K mg "value_signs" s_value_signs ["value"] f19 _ := ⟨F_value_signs, PySem.W.mg_of X G a19, F_value_signs.binds (ps := ["value"]) fun _ _ _ _ _ _ us hl => match us, hl with | [_], _ => rfl⟩
  have F_note_signs := fun_mk (st := s_note_signs) l20 c20 k20
  have D_note_signs : Df K mg "note_signs" s_note_signs ["rule", "page"] f20 _ := ⟨F_note_signs, PySem.W.mg_of X G a20, F_note_signs.binds (ps := ["rule", "page"]) fun _ _ _ _ _ _ us hl => match us, hl with | [_, _], _ => rfl⟩
  have F_lacks_signs := fun_mk (st := s_lacks_signs) l21 c21 k21
  have D_lacks_signs : Df K mg "lacks_signs" s_lacks_signs ["lacks"] f21 _ := ⟨F_lacks_signs, PySem.W.mg_of X G a21, F_lacks_signs.binds (ps := ["lacks"]) fun _ _ _ _ _ _ us hl => match us, hl with | [_], _ => rfl⟩
  have F__law_bag := fun_mk (st := s__law_bag) l22 c22 k22
  have D__law_bag : Df K mg "_law_bag" s__law_bag ["cell"] f22 _ := ⟨F__law_bag, PySem.W.mg_of X G a22, F__law_bag.binds (ps := ["cell"]) fun _ _ _ _ _ _ us hl => match us, hl with | [_], _ => rfl⟩
  have F__law_draw := fun_mk (st := s__law_draw) l23 c23 k23
  have D__law_draw : Df K mg "_law_draw" s__law_draw ["bag", "upto"] f23 _ := ⟨F__law_draw, PySem.W.mg_of X G a23, F__law_draw.binds (ps := ["bag", "upto"]) fun _ _ _ _ _ _ us hl => match us, hl with | [_, _], _ => rfl⟩
  have F__law_text := fun_mk (st := s__law_text) l24 c24 k24
  have D__law_text : Df K mg "_law_text" s__law_text ["bag"] f24 _ := ⟨F__law_text, PySem.W.mg_of X G a24, F__law_text.binds (ps := ["bag"]) fun _ _ _ _ _ _ us hl => match us, hl with | [_], _ => rfl⟩
  have F__law_near := fun_mk (st := s__law_near) l25 c25 k25
  have D__law_near : Df K mg "_law_near" s__law_near ["bag", "word"] f25 _ := ⟨F__law_near, PySem.W.mg_of X G a25, F__law_near.binds (ps := ["bag", "word"]) fun _ _ _ _ _ _ us hl => match us, hl with | [_, _], _ => rfl⟩
  have F__law_past := fun_mk (st := s__law_past) l26 c26 k26
  have D__law_past : Df K mg "_law_past" s__law_past ["word"] f26 _ := ⟨F__law_past, PySem.W.mg_of X G a26, F__law_past.binds (ps := ["word"]) fun _ _ _ _ _ _ us hl => match us, hl with | [_], _ => rfl⟩
  have F__law_some := fun_mk (st := s__law_some) l27 c27 k27
  have D__law_some : Df K mg "_law_some" s__law_some ["bag", "pool"] f27 _ := ⟨F__law_some, PySem.W.mg_of X G a27, F__law_some.binds (ps := ["bag", "pool"]) fun _ _ _ _ _ _ us hl => match us, hl with | [_, _], _ => rfl⟩
  have F__law_sheet := fun_mk (st := s__law_sheet) l28 c28 k28
  have D__law_sheet : Df K mg "_law_sheet" s__law_sheet ["bag", "upto"] f28 _ := ⟨F__law_sheet, PySem.W.mg_of X G a28, F__law_sheet.binds (ps := ["bag", "upto"]) fun _ _ _ _ _ _ us hl => match us, hl with | [_, _], _ => rfl⟩
  have F__law_word := fun_mk (st := s__law_word) l29 c29 k29
  have D__law_word : Df K mg "_law_word" s__law_word ["thing"] f29 _ := ⟨F__law_word, PySem.W.mg_of X G a29, F__law_word.binds (ps := ["thing"]) fun _ _ _ _ _ _ us hl => match us, hl with | [_], _ => rfl⟩
  have F__law_kind := fun_mk (st := s__law_kind) l30 c30 k30
  have D__law_kind : Df K mg "_law_kind" s__law_kind ["bag"] f30 _ := ⟨F__law_kind, PySem.W.mg_of X G a30, F__law_kind.binds (ps := ["bag"]) fun _ _ _ _ _ _ us hl => match us, hl with | [_], _ => rfl⟩
  have F__law_noted := fun_mk (st := s__law_noted) l31 c31 k31
  have D__law_noted : Df K mg "_law_noted" s__law_noted ["kind", "sheet"] f31 _ := ⟨F__law_noted, PySem.W.mg_of X G a31, F__law_noted.binds (ps := ["kind", "sheet"]) fun _ _ _ _ _ _ us hl => match us, hl with | [_, _], _ => rfl⟩
  have F_law := fun_mk (st := s_law) l32 c32 k32
  have D_law : Df K mg "law" s_law ["script"] fa _ := ⟨F_law, PySem.W.mg_of X G a32, F_law.binds (ps := ["script"]) fun _ _ _ _ _ _ us hl => match us, hl with | [_], _ => rfl⟩
  have T : Nm mg := ⟨PySem.W.mg_none_of X G z0, PySem.W.mg_none_of X G z1, PySem.W.mg_none_of X G z2, PySem.W.mg_none_of X G z3, PySem.W.mg_none_of X G z4, PySem.W.mg_none_of X G z5, PySem.W.mg_none_of X G z6, PySem.W.mg_none_of X G z7, PySem.W.mg_none_of X G z8, PySem.W.mg_none_of X G z9, PySem.W.mg_none_of X G z10, PySem.W.mg_none_of X G z11, PySem.W.mg_none_of X G z12, PySem.W.mg_none_of X G z13⟩
  have TG : Ng K w mg := ⟨dN0, PySem.W.mg_of X G aN0, (by rw [← a_lit]; exact ⟨esN0, nN0, _, lN0, kN0, vN0_0, ⟨_, rfl⟩⟩), (by rw [← b_lit]; exact ⟨esN0, nN0, _, lN0, kN0, vN0_1, ⟨_, rfl⟩⟩)⟩
  refine ⟨PySem.W.fnOf "law" "law" (defArgs s_law) (defBody s_law) (defScope s_law) .none kV32 dc32 pm32 an32 cd32 ct32, fun s v => .of_eq rfl, fun base _ _ => ?_⟩
  have c_lost := cl_is_lost (P := l.prog) (w := w) (base := base) D_is_lost T
  have c_num := cl_is_letter_number (P := l.prog) (w := w) (base := base) D_is_letter_number T
  have c_lac := cl_is_lacks_part (P := l.prog) (w := w) (base := base) D_is_lacks_part T
  have c_low := cl_is_low_part D_is_low_part T c_lost c_num
  have c_high := cl_is_high_part D_is_high_part T c_lost c_num
  have c_rule := cl_is_rule D_is_rule T c_lac c_low c_high
  have c_ist := cl_is_text (P := l.prog) (w := w) (base := base) D_is_text T
  have c_isv := cl_is_value D_is_value T c_ist
  have c_isp := cl_is_page D_is_page T c_isv
  have c_ckt := cl_check_text D_check_text T c_ist
  have c_ckr := cl_check_rule D_check_rule T c_rule
  have c_ckp := cl_check_page D_check_page T c_isp
  have c_bey := cl_beyond D_beyond T TG c_ckt
  have c_asc := cl_ascending (P := l.prog) (w := w) (base := base) D_ascending T
  have c_lan := cl_lacks_note (P := l.prog) (w := w) (base := base) D_lacks_note T
  have c_lon := cl_low_note (P := l.prog) (w := w) (base := base) D_low_note T
  have c_hin := cl_high_note D_high_note T c_bey
  have c_note := cl_note D_note T c_ckr c_ckp c_asc c_lan c_lon c_hin
  have c_bag := cl__law_bag (P := l.prog) (w := w) (base := base) D__law_bag T
  have c_draw := cl__law_draw (P := l.prog) (w := w) (base := base) D__law_draw T
  have c_text := cl__law_text D__law_text T c_draw
  have c_near := cl__law_near D__law_near T c_draw
  have c_some := cl__law_some D__law_some T c_draw c_near c_text
  have c_past := cl__law_pastX (P := l.prog) (w := w) (base := base) D__law_past T
  have c_sheet := cl__law_sheet D__law_sheet T c_draw c_text c_some
  have c_kind := cl__law_kind D__law_kind T c_draw
  have c_dig := cl_digits (P := l.prog) (w := w) (base := base) D_digits T
  have c_vsg := cl_value_signs (P := l.prog) (w := w) (base := base) D_value_signs T
  have c_lsg := cl_lacks_signs D_lacks_signs T c_dig
  have c_nsg := cl_note_signs D_note_signs T c_note c_dig c_lsg c_vsg
  have c_word := cl__law_word (P := l.prog) (w := w) (base := base) D__law_word T
  have c_noted := cl__law_noted D__law_noted T c_past c_word
  exact cl_law D_law T c_bag c_draw c_kind c_sheet c_noted c_nsg
end
end Kq
open PySem PySem.W PyProof.Rows in
set_option maxRecDepth 100000 in
set_option maxHeartbeats 0 in
theorem PySem.Challenge.cw_pageskips_k36_signs_of_notes_holds : PySem.Challenge.rw_pageskips_k36_signs_of_notes.Holds := by
  w_on; o_law; k_head; (case hw => w_witness2)
  k_fill
  refine Pg.walk_g (l := PySem.Challenge.rw_pageskips_k36_signs_of_notes) (n := 63) (k := 7) (x := "script") (sp := fun w => Kq.spLaw _) rfl (by decide) rfl ⟨rfl, by decide, by decide⟩ (fun w h Y => PySem.W.kIn_of Y) ?F (fun _ _ a ns hl _ hS => ⟨a, ns, rfl, hS, hl, fun _ => rfl⟩)
  case F =>
    intro w mg fa h KX G hmg
    refine' Kq.all_mk KX G hmg ?a0 ?l0 ?c0 ?k0 ?a1 ?l1 ?c1 ?k1 ?a2 ?l2 ?c2 ?k2 ?a3 ?l3 ?c3 ?k3 ?a4 ?l4 ?c4 ?k4 ?a5 ?l5 ?c5 ?k5 ?a6 ?l6 ?c6 ?k6 ?a7 ?l7 ?c7 ?k7 ?a8 ?l8 ?c8 ?k8 ?a9 ?l9 ?c9 ?k9 ?a10 ?l10 ?c10 ?k10 ?a11 ?l11 ?c11 ?k11 ?a12 ?l12 ?c12 ?k12 ?a13 ?l13 ?c13 ?k13 ?a14 ?l14 ?c14 ?k14 ?a15 ?l15 ?c15 ?k15 ?a16 ?l16 ?c16 ?k16 ?a17 ?l17 ?c17 ?k17 ?a18 ?l18 ?c18 ?k18 ?a19 ?l19 ?c19 ?k19 ?a20 ?l20 ?c20 ?k20 ?a21 ?l21 ?c21 ?k21 ?a22 ?l22 ?c22 ?k22 ?a23 ?l23 ?c23 ?k23 ?a24 ?l24 ?c24 ?k24 ?a25 ?l25 ?c25 ?k25 ?a26 ?l26 ?c26 ?k26 ?a27 ?l27 ?c27 ?k27 ?a28 ?l28 ?c28 ?k28 ?a29 ?l29 ?c29 ?k29 ?a30 ?l30 ?c30 ?k30 ?a31 ?l31 ?c31 ?k31 ?a32 ?l32 ?c32 ?k32 ?aN0 ?lN0 ?kN0 ?vN0_0 ?vN0_1 ?z0 ?z1 ?z2 ?z3 ?z4 ?z5 ?z6 ?z7 ?z8 ?z9 ?z10 ?z11 ?z12 ?z13
    (case a0 => k_is)
    (case l0 => k_is)
    (case c0 => k_is)
    (case k0 => k_is)
    (case a1 => k_is)
    (case l1 => k_is)
    (case c1 => k_is)
    (case k1 => k_is)
    (case a2 => k_is)
    (case l2 => k_is)
    (case c2 => k_is)
    (case k2 => k_is)
    (case a3 => k_is)
    (case l3 => k_is)
    (case c3 => k_is)
    (case k3 => k_is)
    (case a4 => k_is)
    (case l4 => k_is)
    (case c4 => k_is)
    (case k4 => k_is)
    (case a5 => k_is)
    (case l5 => k_is)
    (case c5 => k_is)
    (case k5 => k_is)
    (case a6 => k_is)
    (case l6 => k_is)
    (case c6 => k_is)
    (case k6 => k_is)
    (case a7 => k_is)
    (case l7 => k_is)
    (case c7 => k_is)
    (case k7 => k_is)
    (case a8 => k_is)
    (case l8 => k_is)
    (case c8 => k_is)
    (case k8 => k_is)
    (case a9 => k_is)
    (case l9 => k_is)
    (case c9 => k_is)
    (case k9 => k_is)
    (case a10 => k_is)
    (case l10 => k_is)
    (case c10 => k_is)
    (case k10 => k_is)
    (case a11 => k_is)
    (case l11 => k_is)
    (case c11 => k_is)
    (case k11 => k_is)
    (case a12 => k_is)
    (case l12 => k_is)
    (case c12 => k_is)
    (case k12 => k_is)
    (case a13 => k_is)
    (case l13 => k_is)
    (case c13 => k_is)
    (case k13 => k_is)
    (case a14 => k_is)
    (case l14 => k_is)
    (case c14 => k_is)
    (case k14 => k_is)
    (case a15 => k_is)
    (case l15 => k_is)
    (case c15 => k_is)
    (case k15 => k_is)
    (case a16 => k_is)
    (case l16 => k_is)
    (case c16 => k_is)
    (case k16 => k_is)
    (case a17 => k_is)
    (case l17 => k_is)
    (case c17 => k_is)
    (case k17 => k_is)
    (case a18 => k_is)
    (case l18 => k_is)
    (case c18 => k_is)
    (case k18 => k_is)
    (case a19 => k_is)
    (case l19 => k_is)
    (case c19 => k_is)
    (case k19 => k_is)
    (case a20 => k_is)
    (case l20 => k_is)
    (case c20 => k_is)
    (case k20 => k_is)
    (case a21 => k_is)
    (case l21 => k_is)
    (case c21 => k_is)
    (case k21 => k_is)
    (case a22 => k_is)
    (case l22 => k_is)
    (case c22 => k_is)
    (case k22 => k_is)
    (case a23 => k_is)
    (case l23 => k_is)
    (case c23 => k_is)
    (case k23 => k_is)
    (case a24 => k_is)
    (case l24 => k_is)
    (case c24 => k_is)
    (case k24 => k_is)
    (case a25 => k_is)
    (case l25 => k_is)
    (case c25 => k_is)
    (case k25 => k_is)
    (case a26 => k_is)
    (case l26 => k_is)
    (case c26 => k_is)
    (case k26 => k_is)
    (case a27 => k_is)
    (case l27 => k_is)
    (case c27 => k_is)
    (case k27 => k_is)
    (case a28 => k_is)
    (case l28 => k_is)
    (case c28 => k_is)
    (case k28 => k_is)
    (case a29 => k_is)
    (case l29 => k_is)
    (case c29 => k_is)
    (case k29 => k_is)
    (case a30 => k_is)
    (case l30 => k_is)
    (case c30 => k_is)
    (case k30 => k_is)
    (case a31 => k_is)
    (case l31 => k_is)
    (case c31 => k_is)
    (case k31 => k_is)
    (case a32 => k_is)
    (case l32 => k_is)
    (case c32 => k_is)
    (case k32 => k_is)
    (case aN0 => k_is)
    (case lN0 => k_is)
    (case kN0 => k_keys)
    (case vN0_0 => k_is)
    (case vN0_1 => k_is)
    (case z0 => k_is)
    (case z1 => k_is)
    (case z2 => k_is)
    (case z3 => k_is)
    (case z4 => k_is)
    (case z5 => k_is)
    (case z6 => k_is)
    (case z7 => k_is)
    (case z8 => k_is)
    (case z9 => k_is)
    (case z10 => k_is)
    (case z11 => k_is)
    (case z12 => k_is)
    (case z13 => k_is)

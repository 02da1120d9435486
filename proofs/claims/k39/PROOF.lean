import PyProof.Rows.All
import Wide.All
import OpenK.AllK
import Wide.FinOn
import HandS.ForMost
import HandS.Wide
import HandS.TupAny
import HandS.ExcValue
import HandS.Style
import HandS.More
import HandS.Defaults
import HandS.EndBits
import HandS.Flow
import HandS.Zip
import HandS.Star
import HandS.StrMore
import HandS.Set
import HandS.SetTxt0
import HandS.IsInst
import HandS.ExcIs
import KE.KRevSl
import PyProof.Rows.SortShellAny
import HandS.RaiseMore
import HandS.Conv
import HandS.IsInst
import HandS.ExcIs
import KE.KRevSl
import PyProof.InstEq
import KE.DataMinMax
import HandS.SortKw
import KE.KDictCopyH
import KE.KDictWalk
import HandS.Walk
import HandS.IterVal
import HandS.Star
import PyProof.StrLaws
import PyProof.Rows.StrFit
import KE.GoesEnumKw
import HandS.RevRange
import PySem.Challenge.RW_pageskips_k39_whole_cheapest_columns
set_option Elab.async false
set_option linter.all false
set_option maxRecDepth 100000
set_option maxHeartbeats 2000000
namespace Pg
open PySem PySem.Spec PyProof.Rows L2
/-! ### heaps: what a piece of the program keeps -/
/-- all that was tracked outside of S stands as it was; in S lists stay lists -/
structure Stp (S : List Addr) (H H' : Hp) : Prop where
  kp : ∀ a o, a ∉ S → H a = some o → H' a = some o
  ls : ∀ a xs, H a = some (.lst xs) → ∃ ys, H' a = some (.lst ys)
theorem Stp.refl (S : List Addr) (H : Hp) : Stp S H H := ⟨fun _ _ _ h => h, fun _ xs h => ⟨xs, h⟩⟩
theorem Stp.trans {S : List Addr} {H H1 H2 : Hp} (a : Stp S H H1) (b : Stp S H1 H2) : Stp S H H2 :=
  ⟨fun x o n h => b.kp x o n (a.kp x o n h), fun x xs h => by
    obtain ⟨ys, h1⟩ := a.ls x xs h
    exact b.ls x ys h1⟩
theorem Stp.sub {S S' : List Addr} {H H' : Hp} (a : Stp S H H') (h : ∀ x ∈ S, x ∈ S') : Stp S' H H' :=
  ⟨fun x o n q => a.kp x o (fun m => n (h x m)) q, a.ls⟩
theorem Stp.nil {S : List Addr} {H H' : Hp} (a : Stp [] H H') : Stp S H H' := a.sub fun _ h => nomatch h
theorem Stp.new {H : Hp} {p : Addr} {o : HO} (h : H p = none) (S : List Addr) : Stp S H (upd H p o) :=
  ⟨fun x u _ q => by rw [upd_ne (ne_of_none q h)]; exact q, fun x xs q => ⟨xs, by rw [upd_ne (ne_of_none q h)]; exact q⟩⟩
theorem Stp.put {S : List Addr} {H : Hp} {p : Addr} {ys : List V} (m : p ∈ S) : Stp S H (upd H p (.lst ys)) :=
  ⟨fun x u n q => by
    rw [upd_ne (fun e => n (by rw [e]; exact m))]
    exact q, fun x xs q => by
    by_cases e : x = p
    · subst e
      exact ⟨ys, upd_same⟩
    · exact ⟨xs, by rw [upd_ne e]; exact q⟩⟩
/-- a local object: it was not there -/
theorem Stp.loc {S : List Addr} {H H' : Hp} {p : Addr} (h : H p = none) (a : Stp (p :: S) H H') : Stp S H H' :=
  ⟨fun x o n q => a.kp x o (fun m => by
    rcases List.mem_cons.mp m with e | m
    · exact ne_of_none q h e
    · exact n m) q, a.ls⟩
theorem Stp.fresh {S : List Addr} {H H' : Hp} {p : Addr} (a : Stp S H H') (n : p ∉ S) (h : H' p = none) : H p = none := by
  cases e : H p with
  | none => rfl
  | some o =>
    rw [a.kp p o n e] at h
    cases h
/-- a list that was not there is changed -/
theorem Stp.mut {S : List Addr} {H H' : Hp} {p : Addr} {ys : List V} (a : Stp S H H') (h : H p = none) : Stp S H (upd H' p (.lst ys)) :=
  ⟨fun x o n q => by
    rw [upd_ne (ne_of_none q h)]
    exact a.kp x o n q, fun x xs q => by
    rw [upd_ne (ne_of_none q h)]
    exact a.ls x xs q⟩
theorem Stp.put' {S : List Addr} {H H' : Hp} {p : Addr} {ys : List V} (a : Stp S H H') (m : p ∈ S) : Stp S H (upd H' p (.lst ys)) := a.trans (Stp.put m)
theorem Stp.new' {S : List Addr} {H H' : Hp} {p : Addr} {o : HO} (a : Stp S H H') (h : H' p = none) : Stp S H (upd H' p o) := a.trans (Stp.new h S)
/-- only the list at p may differ -/
def Only (p : Addr) (H H' : Hp) : Prop := ∃ ys, H' = upd H p (.lst ys)
theorem Only.at {p q : Addr} {H H' : Hp} {o : HO} (h : Only p H H') (e : H q = some o) (n : q ≠ p) : H' q = some o := by
  obtain ⟨ys, rfl⟩ := h
  rw [upd_ne n]
  exact e
theorem Only.stp {p : Addr} {H H' : Hp} {S : List Addr} (h : Only p H H') (m : p ∈ S) : Stp S H H' := by
  obtain ⟨ys, rfl⟩ := h
  exact Stp.put m

/-! ### the draws -/
def BagV (x y z : Int) (n : Nat) : Prop := 0 ≤ x ∧ 0 ≤ y ∧ y < 2 ^ 40 ∧ 0 ≤ z ∧ z ≤ (n : Int)
/-- a bag stands at b, from which at most n draws have been made -/
def Bag (H : Hp) (b : Addr) (n : Nat) : Prop := ∃ x y z, H b = some (.lst [.int x, .int y, .int z]) ∧ BagV x y z n
theorem Bag.mono {H : Hp} {b : Addr} {n m : Nat} (h : Bag H b n) (e : n ≤ m) : Bag H b m := by
  obtain ⟨x, y, z, h1, h2, h3, h4, h5, h6⟩ := h
  exact ⟨x, y, z, h1, h2, h3, h4, h5, by omega⟩
theorem Bag.kp {H H' : Hp} {b : Addr} {n : Nat} {S : List Addr} (h : Bag H b n) (s : Stp S H H') (m : b ∉ S) : Bag H' b n := by
  obtain ⟨x, y, z, h1, h2⟩ := h
  exact ⟨x, y, z, s.kp _ _ m h1, h2⟩
theorem Bag.upd {H : Hp} {b p : Addr} {n : Nat} {o : HO} (h : Bag H b n) (e : b ≠ p) : Bag (L2.upd H p o) b n := by
  obtain ⟨x, y, z, h1, h2⟩ := h
  exact ⟨x, y, z, by rw [upd_ne e]; exact h1, h2⟩
theorem Bag.ne {H : Hp} {b p : Addr} {n : Nat} (h : Bag H b n) (q : H p = none) : b ≠ p := by
  obtain ⟨x, y, z, h1, h2⟩ := h
  exact ne_of_none h1 q
theorem cmul {i j : Int} (a b : Nat) (h1 : 0 ≤ i) (h2 : i < 2 ^ a) (h3 : 0 ≤ j) (h4 : j < 2 ^ b) (ha : 0 < a) (hb : 0 < b) (h : a + b ≤ 1000000) : CMulW i j := by
  refine wide_mul (a := a) (b := b) ?_ ?_ ha hb h
  · have e : ((i.natAbs : Nat) : Int) < ((2 ^ a : Nat) : Int) := by
      rw [Int.natAbs_of_nonneg h1, Int.natCast_pow]
      exact h2
    exact Int.ofNat_lt.mp e
  · have e : ((j.natAbs : Nat) : Int) < ((2 ^ b : Nat) : Int) := by
      rw [Int.natAbs_of_nonneg h3, Int.natCast_pow]
      exact h4
    exact Int.ofNat_lt.mp e
theorem cdiv {i j : Int} (b : Nat) (h1 : 0 < j) (h2 : j < 2 ^ b) (hb : 0 < b) (h9 : b ≤ 9000) : CDivW i j := by
  refine wide_div (b := b) h1 ?_ hb h9
  have e : ((j.natAbs : Nat) : Int) < ((2 ^ b : Nat) : Int) := by
    rw [Int.natAbs_of_nonneg (by omega), Int.natCast_pow]
    exact h2
  exact Int.ofNat_lt.mp e
theorem mul_lt {i j : Int} {a b : Nat} (h1 : 0 ≤ i) (h2 : i < 2 ^ a) (h3 : 0 ≤ j) (h4 : j < 2 ^ b) : 0 ≤ i * j ∧ i * j < 2 ^ (a + b) := by
  refine ⟨Int.mul_nonneg h1 h3, ?_⟩
  have e1 : i * j ≤ i * 2 ^ b := Int.mul_le_mul_of_nonneg_left (Int.le_of_lt h4) h1
  have hp : (0 : Int) < 2 ^ b := Int.pow_pos (by omega)
  have e2 : i * 2 ^ b < 2 ^ a * 2 ^ b := Int.mul_lt_mul_of_pos_right h2 hp
  rw [Int.pow_add]
  omega
/-- a letter for a number -/
theorem genQ {Q : V → Hp → Prop} {H : Hp} {i : Int} (h : ∀ t, t = i → Q (.int t) H) : Q (.int i) H := h i rfl
/-! ### rules of my own -/
section
variable {X : Cx}
/-- 'a' * n -/
theorem op_mul_str : OpR X (binaryOp .Mult) (fun x y H Q => ∃ i j, x = .str i ∧ y = .int j ∧ MulOk i j ∧ Q (.str (Txt.mul i j)) H) := by
  intro pins s σ H x y v u Q I rx ry h
  obtain ⟨i, j, rfl, rfl, hz, q⟩ := h
  obtain ⟨t, rfl⟩ := rx
  obtain ⟨t', rfl⟩ := ry
  exact SB.mul hz (fun t' k => ⟨.str (Txt.mul i j), H, I.tok _, ⟨_, rfl⟩, q⟩)
end
end Pg
namespace Pg
open PySem PySem.Spec PyProof.Rows L2
/-! ### a def of the text: where it stands, what it keeps -/
/-- a def of the text, found by its name -/
structure Df (K : PySem.W.Frag) (mg : Str → Option Value) (x : Str) (st : Stmt) (ps : List Str) (f : Addr) (fd : FuncData) : Prop where
  fn : Fun K x x st f fd
  at_ : mg x = some (.ref f)
  bd : Binds K fd ps []
/-- .. with its promise -/
structure Cl (P : Program) (w : World) (K : PySem.W.Frag) (mg : Str → Option Value) (base : Heap) (k : Nat) (x : Str) (st : Stmt) (ps : List Str) (sp : Sp) : Prop where
  ex : ∃ f fd, Df K mg x st ps f fd ∧ FnOk P w K mg base CX0 k f fd ps sp
theorem Cl.mono {P : Program} {w : World} {K : PySem.W.Frag} {mg : Str → Option Value} {base : Heap} {j k : Nat} {x : Str} {st : Stmt} {ps : List Str} {sp : Sp} (c : Cl P w K mg base j x st ps sp) (h : j ≤ k) : Cl P w K mg base k x st ps sp := by
  obtain ⟨f, fd, D, F⟩ := c.ex
  exact ⟨f, fd, D, F.mono h⟩
theorem Df.cl {P : Program} {w : World} {K : PySem.W.Frag} {mg : Str → Option Value} {base : Heap} {x : Str} {st : Stmt} {f : Addr} {fd : FuncData} {N ps : List Str} {k : Nat} {sp : Sp} (D : Df K mg x st ps f fd) (S : FnScope N ps (defScope st)) (len : ∀ vs H Q E, sp vs H Q E → vs.length = ps.length)
    (hbody : ∀ (cdv : Value) (A : Around) (outer : List Env) (s : Shared) (H : Hp) (vs : List V) (Q : VK) (E : XK), Room k (A.deeper (envOfC x (defScope st) s.heap.objs.size f cdv)) → sp vs H Q E →
      ∃ t, PSs (cxOf CX0 P w K mg base N x (defScope st) f cdv A outer s H E).nox (defBody st) t ∧ t { nx := fun _ H' => Q .non H', rt := Q } (start N vs) H) : Cl P w K mg base (k + 1) x st ps sp :=
  ⟨f, fd, D, D.fn.ok S len hbody⟩
def tCl (sp : Sp) (t : TA) : TE := fun σ H Q => t σ H fun vs H1 => sp vs H1 Q E0
section
variable {X : Cx} {j k : Nat} {st : Stmt} {ps : List Str} {sp : Sp} {x : Str} {p pos : Pos} {e : Expr} {es : List Expr} {t : TA}
theorem pe_cl (c : Cl X.prog X.w X.K X.mg X.base k x st ps sp) (hr : Room j X.A) (hk : k ≤ j) (ha : PA X (e :: es) t) (hg : Gl X x := by rfl) (hdb : (x == ("__debug__" : Str)) = false := by decide)
    (he : starEach (e :: es) X.env = (false, eval e X.env) :: starEach es X.env := by rfl) (hpl : (backTo pos (starEach es X.env)).any (·.1) = false := by rfl) :
    PE X (.Call (.Name x p) (e :: es) [] pos) (tCl sp t) := by
  obtain ⟨f, fd, D, F⟩ := c.ex
  refine ⟨fun pins s σ H Q I h => ?_⟩
  have q := (pe_call (E := E0) (p := p) (F.mono hk) hr hg D.at_ D.fn.kp D.bd .nil pass0 ha hdb he hpl).run pins s σ H Q I
  refine q ?_
  have h' : t σ H (fun vs H1 => sp vs H1 Q E0) := h
  show t σ H fun vs H1 => sp (vs ++ []) H1 Q E0
  simp only [List.append_nil]
  exact h'
theorem pe_cl0 (c : Cl X.prog X.w X.K X.mg X.base k x st ps sp) (hr : Room j X.A) (hk : k ≤ j) (hg : Gl X x := by rfl) (hdb : (x == ("__debug__" : Str)) = false := by decide) :
    PE X (.Call (.Name x p) [] [] pos) (tCl sp tNil) := by
  obtain ⟨f, fd, D, F⟩ := c.ex
  exact pe_call0 (E := E0) (F.mono hk) hr hg D.at_ D.fn.kp D.bd .nil pass0 hdb
/-- f(k = v, ..) -/
def tClK (sp : Sp) (gV : List V → List V → List V) (tk : TA) : TE := fun σ H Q => tk σ H fun zs H1 => sp (gV [] zs) H1 Q E0
theorem pe_clK {ks : List Str} {g : List Value → List Value → List Value} {gV : List V → List V → List V} {kws : List Keyword} {tk : TA} (c : Cl X.prog X.w X.K X.mg X.base k x st ps sp) (hr : Room j X.A) (hk : k ≤ j)
    (hb : ∀ f fd, Fun X.K x x st f fd → KBinds X.K fd ps ks g gV) (hkw : PK X kws tk)
    (hg : Gl X x := by rfl) (hall : (backToKw pos (keywordEach kws X.env)).all (·.1.isSome) = true := by rfl) (hks : (backToKw pos (keywordEach kws X.env)).filterMap (·.1) = ks := by rfl) (hdb : (x == ("__debug__" : Str)) = false := by decide)
    (hpl : ((backTo pos (starEach [] X.env)).any (·.1) || (backToKw pos (keywordEach kws X.env)).any (·.1.isNone)) = false := by rfl) :
    PE X (.Call (.Name x p) [] kws pos) (tClK sp gV tk) := by
  obtain ⟨f, fd, D, F⟩ := c.ex
  refine ⟨fun pins s σ H Q I h => ?_⟩
  refine wpAny_Call_Name_kw (ld_glob I hg D.at_ ?_ hdb)
  refine PySem.W.callWith_KW0 (h₀ := X.base) I.ok.mod.kin D.fn.kp hall ?_ hpl
  refine thn (hkw.run pos pins s σ H _ I h) fun ws s2 ⟨zs, H2, I2, rz, q2⟩ => ⟨I2.kIn, ?_⟩
  rw [hks]
  exact run_fnk (E := E0) (us := []) (vs := []) (F.mono hk) hr (hb f fd D.fn) pass0 I2 .nil rz q2
end
/-- keywords alone, in an order of their own -/
theorem kb_of {K : PySem.W.Frag} {x : Str} {st : Stmt} {f : Addr} {fd : FuncData} {ps ks : List Str} {g : List Value → List Value} {gV : List V → List V} (F : Fun K x x st f fd) (hne : ps ≠ [])
    (h : ∀ (kV doc pm : Value) (an : Option Addr) (cdv ct : Value) (ws : List Value), (g ws).length = ps.length → bindArgs (PySem.W.fnOf x x (defArgs st) (defBody st) (defScope st) .none kV doc pm an cdv ct) ⟨[], ks.zip ws⟩ = pure (ps.zip (g ws)))
    (r : ∀ {zs : List V} {ws : List Value}, Vals zs ws → Vals (gV zs) (g ws)) : KBinds K fd ps ks (fun us ws => match us with | [] => g ws | _ :: _ => []) (fun vs zs => match vs with | [] => gV zs | _ :: _ => []) := by
  obtain ⟨oc, od, kV, doc, pm, an, cdv, ct, osl, rfl, lk, hcd⟩ := F.ex
  refine ⟨fun s us ws _ hl => ?_, fun {vs us zs ws} r1 r2 => ?_⟩
  · cases us with
    | nil => exact .of_eq (h kV doc pm an cdv ct ws hl)
    | cons u us => exact absurd (List.length_eq_zero_iff.mp hl.symm) hne
  · cases r1 with
    | nil => exact r r2
    | cons _ _ => exact .nil
end Pg
namespace Pg
open PySem PySem.Spec PyProof.Rows L2
open Builtin Builtin.Str
/-! ### texts as lists of letters -/
/-- the text of these signs -/
abbrev tx (l : List Nat) : Str := ⟨l.toArray⟩
abbrev Tx (l : List Nat) : V := .str (tx l)
/-- letters a, b, c alone -/
def Abc (l : List Nat) : Prop := ∀ c ∈ l, c = 97 ∨ c = 98 ∨ c = 99
theorem tx_inj {a b : List Nat} (h : tx a = tx b) : a = b := by
  have q : (tx a).cps.toList = (tx b).cps.toList := by rw [h]
  simpa using q
theorem tx_of (s : Str) : ∃ l, s = tx l := ⟨s.cps.toList, by cases s; simp [tx]⟩
theorem tx_len (l : List Nat) : (tx l).length = l.length := by simp [Str.length]
theorem tx_app (a b : List Nat) : tx a ++ tx b = tx (a ++ b) := by
  show (⟨a.toArray ++ b.toArray⟩ : Str) = _
  simp [tx]
theorem tx_cut (l : List Nat) (lo hi : Option Int) : cutS (tx l) lo hi = tx ((l.drop (HT.sIx l.length 0 lo)).take (HT.sIx l.length l.length hi - HT.sIx l.length 0 lo)) := by
  unfold cutS
  rw [tx_len]
theorem tx_upto (l : List Nat) (k : Nat) : cutS (tx l) none (some (k : Int)) = tx (l.take k) := by
  rw [tx_cut, HT.sIx_none, HT.sIx_nat]
  rw [List.drop_zero, Nat.sub_zero]
  rcases Nat.le_total k l.length with h | h
  · rw [Nat.min_eq_left h]
  · rw [Nat.min_eq_right h, List.take_of_length_le (Nat.le_refl _), List.take_of_length_le h]
theorem tx_init (l : List Nat) : cutS (tx l) none (some (-1)) = tx l.dropLast := by
  rw [tx_cut, HT.sIx_none]
  have e : HT.sIx l.length l.length (some (-1)) = l.length - 1 := by
    show (if (-1 : Int) < 0 then ((-1 : Int) + (l.length : Int)).toNat else min (-1 : Int).toNat l.length) = _
    rw [if_pos (by decide)]
    omega
  rw [e, List.drop_zero, Nat.sub_zero, ← List.dropLast_eq_take]
theorem tx_last (l : List Nat) : cutS (tx l) (some (-1)) none = tx (l.drop (l.length - 1)) := by
  rw [tx_cut, HT.sIx_none]
  have e : HT.sIx l.length 0 (some (-1)) = l.length - 1 := by
    show (if (-1 : Int) < 0 then ((-1 : Int) + (l.length : Int)).toNat else min (-1 : Int).toNat l.length) = _
    rw [if_pos (by decide)]
    omega
  rw [e]
  congr 2
  rw [List.take_of_length_le]
  rw [List.length_drop]
  exact Nat.le_refl _
theorem foldl_app_rep {α : Type} (c : α) : ∀ (n : Nat) (acc : Array α), (List.replicate n #[c]).foldl (· ++ ·) acc = acc ++ (List.replicate n c).toArray
  | 0, acc => by simp
  | n + 1, acc => by
    rw [List.replicate_succ, List.foldl_cons, foldl_app_rep c n, List.replicate_succ]
    apply Array.ext'
    simp
theorem tx_mul (c : Nat) (n : Int) : Txt.mul (tx [c]) n = tx (List.replicate n.toNat c) := by
  unfold Txt.mul
  by_cases h : n < 1
  · rw [if_pos h, show n.toNat = 0 by omega]
    rfl
  · rw [if_neg h]
    by_cases h1 : n = 1
    · subst h1
      rfl
    · rw [if_neg (by simp [h1, Str.length])]
      show (⟨(List.replicate n.toNat #[c]).foldl (· ++ ·) #[]⟩ : Str) = _
      rw [foldl_app_rep]
      simp [tx]
theorem mulOk (c : Nat) {n : Int} (h0 : -1000 ≤ n) (h1 : n ≤ 100000) : MulOk (tx [c]) n := by
  refine ⟨by simp; omega, fun a b q => ?_, fun a b => ?_⟩
  · rw [tx_len] at q
    have e : (1 : Int) ≤ (2 ^ 63 - 1) / n := by
      have hp : 0 < n := by omega
      exact (Int.le_ediv_iff_mul_le hp).mpr (by omega)
    have q' : (([c].length : Nat) : Int) = 1 := rfl
    rw [q'] at q
    have e2 : (1 : Int) > (2 ^ 63 - 1) / n := q
    exact absurd e (by omega)
  · rw [tx_len]
    have e : ([c].length * n.toNat) ≤ sizeLine := Nat.le_trans (show [c].length * n.toNat ≤ 100000 by simp; omega) (by decide)
    unfold tooLong
    simpa using e
theorem foldl_app {α : Type} : ∀ (ps : List (List α)) (acc : Array α), (ps.map List.toArray).foldl (fun a p => a ++ p) acc = acc ++ ps.flatten.toArray
  | [], acc => by simp
  | p :: ps, acc => by
    rw [List.map_cons, List.foldl_cons, foldl_app ps, List.flatten_cons]
    apply Array.ext'
    simp
theorem join_abc (cs : List Nat) : Txt.join (tx []) (cs.map fun c => tx [c]) = tx cs := by
  cases cs with
  | nil => rfl
  | cons c cs =>
    show (⟨((cs.map fun c => tx [c])).foldl (fun acc p => acc ++ (tx []).cps ++ p.cps) (tx [c]).cps⟩ : Str) = _
    have e : ∀ (l : List Nat) (acc : Array Nat), (l.map fun c => tx [c]).foldl (fun acc p => acc ++ (tx []).cps ++ p.cps) acc = acc ++ l.toArray := by
      intro l
      induction l with
      | nil => intro acc; simp
      | cons x l ih =>
        intro acc
        rw [List.map_cons, List.foldl_cons, ih]
        apply Array.ext'
        simp
    rw [e]
    simp [tx]
theorem Abc.nil : Abc [] := fun _ h => nomatch h
theorem Abc.app {a b : List Nat} (h : Abc a) (g : Abc b) : Abc (a ++ b) := fun c m => (List.mem_append.mp m).elim (h c) (g c)
theorem Abc.take {a : List Nat} (h : Abc a) (n : Nat) : Abc (a.take n) := fun c m => h c (List.mem_of_mem_take m)
theorem Abc.drop {a : List Nat} (h : Abc a) (n : Nat) : Abc (a.drop n) := fun c m => h c (List.mem_of_mem_drop m)
theorem Abc.init {a : List Nat} (h : Abc a) : Abc a.dropLast := fun c m => h c (List.dropLast_subset _ m)
theorem Abc.rep (n : Nat) {c : Nat} (h : c = 97 ∨ c = 98 ∨ c = 99) : Abc (List.replicate n c) := fun x m => by
  rw [(List.mem_replicate.mp m).2]
  exact h
theorem Abc.one {c : Nat} (h : c = 97 ∨ c = 98 ∨ c = 99) : Abc [c] := fun x m => by
  rw [List.mem_singleton.mp m]
  exact h
theorem abc_lit : ("abc" : Str) = tx [97, 98, 99] := by decide +kernel
theorem nil_lit : ("" : Str) = tx [] := by decide +kernel
theorem goes_abc (c : Nat) : (tx [97, 98, 99]).cps.contains c = true ↔ (c = 97 ∨ c = 98 ∨ c = 99) := by
  simp [tx]
/-- strip('abc') leaves nothing just of letters alone -/
theorem strip_abc (l : List Nat) : (Txt.stripChars (tx l) (tx [97, 98, 99]) = tx []) ↔ Abc l := by
  unfold Txt.stripChars
  rw [stripBy_eq]
  obtain ⟨a1, a2, a3⟩ := lo_facts (tx [97, 98, 99]).cps.contains (tx l)
  obtain ⟨b1, b2, b3, b4⟩ := hi_facts (tx [97, 98, 99]).cps.contains (tx l) _ a1
  generalize stripLo (tx [97, 98, 99]).cps.contains true (tx l) = lo at *
  generalize stripHi (tx [97, 98, 99]).cps.contains true (tx l) lo = hi at *
  have gd : ∀ k, (tx l).cps.getD k 0 = l.getD k 0 := fun k => by rw [← getD_list]
  have hlen : (tx l).length = l.length := tx_len l
  rw [hlen] at a1 a3 b2 b3
  have size : (strSub (tx l) lo hi).length = hi - lo := by
    unfold strSub Str.length
    simp
    omega
  constructor
  · intro h
    have e : hi - lo = 0 := by rw [← size, h]; rfl
    have e2 : hi = lo := by omega
    subst e2
    have all : ∀ k, k < l.length → (tx [97, 98, 99]).cps.contains (l.getD k 0) = true := fun k hk => by
      rw [← gd]
      by_cases q : k < hi
      · exact a2 k q
      · exact b3 k (by omega) hk
    intro c m
    obtain ⟨k, hk, rfl⟩ := List.mem_iff_getElem.mp m
    have := all k hk
    rw [List.getD_eq_getElem?_getD, List.getElem?_eq_getElem hk] at this
    exact (goes_abc _).mp this
  · intro h
    have e : lo = l.length := by
      rcases a3 with e | e
      · exact e
      · by_cases q : lo < l.length
        · rw [gd, List.getD_eq_getElem?_getD, List.getElem?_eq_getElem q] at e
          have := (goes_abc _).mpr (h _ (List.getElem_mem q))
          rw [Option.getD_some] at e
          rw [e] at this
          cases this
        · omega
    have z : (strSub (tx l) lo hi).length = 0 := by omega
    have : (strSub (tx l) lo hi).cps = #[] := Array.eq_empty_of_size_eq_zero z
    cases hh : strSub (tx l) lo hi with
    | mk c =>
      rw [hh] at this
      show (⟨c⟩ : Str) = ⟨#[]⟩
      rw [show c = #[] from this]
/-! ### picking -/
theorem pick {α : Type} {xs : List α} {d : Int} (h0 : 0 ≤ d) (h1 : d < (xs.length : Int)) : ∃ v, v ∈ xs ∧ atI xs d = some v := by
  obtain ⟨k, rfl⟩ := Int.eq_ofNat_of_zero_le h0
  have hk : k < xs.length := by omega
  exact ⟨xs[k], List.getElem_mem hk, atI_nat (List.getElem?_eq_getElem hk)⟩
theorem pick_int {ns : List Int} {d : Int} (h0 : 0 ≤ d) (h1 : d < (ns.length : Int)) : ∃ v, v ∈ ns ∧ atI (ns.map V.int) d = some (.int v) := by
  obtain ⟨v, m, e⟩ := pick (xs := ns.map V.int) h0 (by rw [List.length_map]; exact h1)
  obtain ⟨n, hn, rfl⟩ := List.mem_map.mp m
  exact ⟨n, hn, e⟩
theorem at0 {α : Type} {a : α} {l : List α} : atI (a :: l) 0 = some a := atI_nat (j := 0) rfl
theorem at1 {α : Type} {a b : α} {l : List α} : atI (a :: b :: l) 1 = some b := atI_nat (j := 1) rfl
theorem sz {n : Nat} (h : n ≤ 100000) : n ≤ sizeLine := Nat.le_trans h (by decide)
theorem szt {l : List Nat} (h : l.length ≤ 100000) : (tx l).length ≤ sizeLine := by
  rw [tx_len]
  exact sz h
theorem inV_str (s : Str) : ∀ ws : List Str, inV (.str s) (ws.map V.str) = decide (s ∈ ws)
  | [] => rfl
  | x :: ws => by
    have ih := inV_str s ws
    unfold inV at ih ⊢
    rw [List.map_cons, List.any_cons, ih]
    show ((x == s) || decide (s ∈ ws)) = _
    by_cases e : x = s
    · subst e
      simp
    · have : (x == s) = false := beq_eq_false_iff_ne.mpr e
      rw [this]
      simp
      exact fun q => absurd q.symm e
end Pg
namespace Pg
open PySem PySem.Spec PyProof.Rows L2
/-! ### lists of texts, compared -/
theorem strOk_abc {l : List Nat} (h : Abc l) : PyData.canLay0 (.str (tx l)) = true := by
  unfold PyData.canLay0 PyData.strOk
  simp
  intro c m
  rcases h c m with e | e | e <;> subst e <;> decide
theorem canLay_strs : ∀ {ls : List (List Nat)}, (∀ l ∈ ls, Abc l) → PyData.canLayAll0 (ls.map fun l => .str (tx l)) = true
  | [], _ => rfl
  | l :: ls, h => by
    show (PyData.canLay0 (.str (tx l)) && PyData.canLayAll0 (ls.map fun l => .str (tx l))) = true
    rw [strOk_abc (h l List.mem_cons_self), canLay_strs fun m q => h m (List.mem_cons_of_mem _ q)]
    rfl
theorem depth_strs : ∀ (ls : List (List Nat)), PyData.depthAll (ls.map fun l => .str (tx l)) = 0
  | [] => rfl
  | l :: ls => by
    show max 0 (PyData.depthAll (ls.map fun l => .str (tx l))) = 0
    rw [depth_strs ls]
    rfl
theorem shaped_strs {ls : List (List Nat)} (h : ∀ l ∈ ls, Abc l) : SeqAt.shaped (.list (ls.map fun l => .str (tx l))) = true := by
  unfold SeqAt.shaped
  rw [show PyData.canLay0 (.list (ls.map fun l => .str (tx l))) = true from canLay_strs h]
  rw [show PyData.depth (.list (ls.map fun l => .str (tx l))) = 0 + 1 by show PyData.depthAll _ + 1 = _; rw [depth_strs]]
  rfl
theorem dp_strs {K : PySem.W.Frag} {H : Hp} : ∀ (ls : List (List Nat)), DpAll K H (ls.map Tx) (ls.map fun l => .str (tx l))
  | [] => .nil
  | l :: ls => .cons (.str _) (dp_strs ls)
theorem ne_nil_strs {K : PySem.W.Frag} {H : Hp} {p q : Addr} {ls : List (List Nat)} {Q : VK} (hp : SqL K H p (ls.map Tx)) (h : ∀ l ∈ ls, Abc l) (hq : H q = some (.lst [])) (k : Q (.bl (!ls.isEmpty)) H) : rNeD K (.ref p) (.ref q) H Q := by
  refine ⟨.list (ls.map fun l => .str (tx l)), .list [], .lst hp (dp_strs ls), .lst (SqL.of hq) .nil, shaped_strs h, rfl, ?_⟩
  have e : PyData.eqv (.list (ls.map fun l => .str (tx l))) (.list []) = ls.isEmpty := by
    cases ls with
    | nil => rfl
    | cons l ls => rfl
  rw [e]
  exact k
end Pg
namespace Pg
open PySem PySem.Spec PyProof.Rows L2
/-! ### any values: what they are, as far as the program looks -/
inductive Dt where
  | non | bl (b : Bool) | int (i : Int) | str (l : List Nat) | tup (ds : List Dt) | lst | obj
mutual
def Dt.dep : Dt → Nat
  | .tup ds => Dt.depL ds + 1
  | _ => 0
def Dt.depL : List Dt → Nat
  | [] => 0
  | d :: ds => max d.dep (Dt.depL ds)
end
theorem Dt.dep_mem : ∀ {ds : List Dt} {d : Dt}, d ∈ ds → d.dep ≤ Dt.depL ds
  | e :: ds, d, m => by
    rcases List.mem_cons.mp m with rfl | m
    · exact Nat.le_max_left _ _
    · exact Nat.le_trans (Dt.dep_mem m) (Nat.le_max_right _ _)
theorem Dt.depL_le : ∀ {ds : List Dt} {n : Nat}, (∀ d ∈ ds, d.dep ≤ n) → Dt.depL ds ≤ n
  | [], _, _ => Nat.zero_le _
  | d :: ds, n, h => Nat.max_le.mpr ⟨h d List.mem_cons_self, Dt.depL_le fun e m => h e (List.mem_cons_of_mem _ m)⟩
mutual
inductive Rp (K : PySem.W.Frag) (H : Hp) : V → Dt → Prop
  | non : Rp K H .non .non
  | bl (b : Bool) : Rp K H (.bl b) (.bl b)
  | int (i : Int) : Rp K H (.int i) (.int i)
  | str (l : List Nat) (h : l.length ≤ 100000) : Rp K H (Tx l) (.str l)
  | tup {a : Addr} {vs : List V} {ds : List Dt} : SqT K H a vs → vs.length ≤ 100000 → RpL K H vs ds → Rp K H (.ref a) (.tup ds)
  | lst {a : Addr} {vs : List V} : H a = some (.lst vs) → Rp K H (.ref a) .lst
  | obj {a C : Addr} : H a = some (ExO (.ref C) a) → Rp K H (.ref a) .obj
inductive RpL (K : PySem.W.Frag) (H : Hp) : List V → List Dt → Prop
  | nil : RpL K H [] []
  | cons {v : V} {vs : List V} {d : Dt} {ds : List Dt} : Rp K H v d → RpL K H vs ds → RpL K H (v :: vs) (d :: ds)
end
/-- S has nothing but lists -/
def Lsts (H : Hp) (S : List Addr) : Prop := ∀ p ∈ S, ∃ xs, H p = some (.lst xs)
theorem Lsts.nil {H : Hp} : Lsts H [] := fun _ m => nomatch m
theorem Lsts.one {H : Hp} {p : Addr} {xs : List V} (h : H p = some (.lst xs)) : Lsts H [p] := fun q m => by
  rw [List.mem_singleton.mp m]
  exact ⟨xs, h⟩
theorem Lsts.cons {H : Hp} {p : Addr} {S : List Addr} {xs : List V} (h : H p = some (.lst xs)) (t : Lsts H S) : Lsts H (p :: S) := fun q m => by
  rcases List.mem_cons.mp m with rfl | m
  · exact ⟨xs, h⟩
  · exact t q m
theorem Lsts.stp {H H' : Hp} {S S' : List Addr} (h : Lsts H S) (s : Stp S' H H') : Lsts H' S := fun p m => by
  obtain ⟨xs, e⟩ := h p m
  exact s.ls p xs e
theorem sqt_stp {K : PySem.W.Frag} {H H' : Hp} {S : List Addr} {a : Addr} {vs : List V} (s : Stp S H H') (l : Lsts H S) (h : SqT K H a vs) : SqT K H' a vs := by
  rcases h with (h | ⟨o, h⟩) | h
  · refine .inl (.inl (s.kp a _ (fun m => ?_) h))
    obtain ⟨xs, e⟩ := l a m
    rw [h] at e
    cases e
  · refine .inl (.inr ⟨o, s.kp a _ (fun m => ?_) h⟩)
    obtain ⟨xs, e⟩ := l a m
    rw [h] at e
    cases e
  · exact .inr h
mutual
theorem Rp.stp {K : PySem.W.Frag} {H H' : Hp} {S : List Addr} (s : Stp S H H') (l : Lsts H S) : ∀ {v : V} {d : Dt}, Rp K H v d → Rp K H' v d
  | _, .non, .non => .non
  | _, .bl _, .bl b => .bl b
  | _, .int _, .int i => .int i
  | _, .str _, .str x h => .str x h
  | _, .tup ds, .tup h n r => .tup (sqt_stp s l h) n (RpL.stp s l r)
  | _, .lst, .lst (a := a) (vs := vs) h => by
    obtain ⟨ys, e⟩ := s.ls a vs h
    exact .lst e
  | _, .obj, .obj (a := a) (C := C) h => by
    refine .obj (C := C) (s.kp a _ (fun m => ?_) h)
    obtain ⟨xs, e⟩ := l a m
    rw [h] at e
    cases e
theorem RpL.stp {K : PySem.W.Frag} {H H' : Hp} {S : List Addr} (s : Stp S H H') (l : Lsts H S) : ∀ {vs : List V} {ds : List Dt}, RpL K H vs ds → RpL K H' vs ds
  | _, [], .nil => .nil
  | _, _ :: _, .cons h r => .cons (Rp.stp s l h) (RpL.stp s l r)
end
theorem RpL.len {K : PySem.W.Frag} {H : Hp} : ∀ {vs : List V} {ds : List Dt}, RpL K H vs ds → vs.length = ds.length
  | _, [], .nil => rfl
  | _, _ :: _, .cons _ r => by rw [List.length_cons, List.length_cons, RpL.len r]
theorem RpL.get {K : PySem.W.Frag} {H : Hp} : ∀ {vs : List V} {ds : List Dt} {i : Nat} {v : V}, RpL K H vs ds → vs[i]? = some v → ∃ d, ds[i]? = some d ∧ Rp K H v d
  | _, [], _, _, .nil, e => by simp at e
  | _, d :: _, 0, _, .cons h _, e => by
    simp at e
    subst e
    exact ⟨d, rfl, h⟩
  | _, _ :: _, i + 1, v, .cons _ r, e => RpL.get (i := i) (v := v) r (by simpa using e)
theorem RpL.app {K : PySem.W.Frag} {H : Hp} : ∀ {vs ws : List V} {ds es : List Dt}, RpL K H vs ds → RpL K H ws es → RpL K H (vs ++ ws) (ds ++ es)
  | _, _, [], _, .nil, q => q
  | _, _, _ :: _, _, .cons h r, q => .cons h (RpL.app r q)
theorem RpL.one {K : PySem.W.Frag} {H : Hp} : ∀ {vs : List V} {ds : List Dt}, RpL K H vs ds → vs.length = 1 → ∃ v d, vs = [v] ∧ ds = [d] ∧ Rp K H v d
  | _, [], .nil, h => by simp at h
  | _, [d], .cons h .nil, _ => ⟨_, d, rfl, rfl, h⟩
  | _, _ :: _ :: _, .cons _ (.cons _ _), h => by simp at h
/-! ### type(x), is -/
/-- the name of a value's built-in class; none for an object of the package -/
def Dt.ty : Dt → Option String
  | .non => some "NoneType"
  | .bl _ => some "bool"
  | .int _ => some "int"
  | .str _ => some "str"
  | .tup _ => some "tuple"
  | .lst => some "list"
  | .obj => none
def rTy (K : PySem.W.Frag) : List V → Hp → VK → Prop := fun xs H Q => ∃ x d, xs = [x] ∧ Rp K H x d ∧ ∀ y, (∀ T, d.ty = some T → y = .ty T) → (d.ty = none → ∃ C, y = .ref C) → Q y H
section
variable {X : Cx}
theorem call_type : CallR X (.type "type") (rTy X.K) := by
  intro pins s σ H xs us Q I r h
  obtain ⟨x, d, rfl, rp, q⟩ := h
  have old : ∀ T, TyB X.K H x T → d.ty = some T → wpAny (model X.prog X.w) X.A (call (.type "type") us) (EP X pins σ Q) X.xe s := fun T t e => by
    refine call_type1 pins s σ H [x] us Q I r ⟨x, T, rfl, t, q _ (fun T' e' => ?_) (fun n => ?_)⟩
    · rw [e] at e'
      cases e'
      rfl
    · rw [e] at n
      cases n
  cases rp with
  | non => exact old _ .non rfl
  | bl b => exact old _ (.bl b) rfl
  | int i => exact old _ (.int i) rfl
  | str l hl => exact old _ (.str _) rfl
  | tup hs hn ha => exact old _ (.tup hs) rfl
  | lst hs => exact old _ (.lst (SqL.of hs)) rfl
  | obj ho =>
    rename_i a C
    obtain ⟨u, rfl, rx⟩ := vals1 r
    cases rx
    obtain ⟨⟨oe, vs, e1, ⟨e2, e3⟩, e4, _⟩, _⟩ := I.hok _ _ ho
    obtain ⟨hh, g, dd, t, os⟩ := s
    exact call_type_obj e1 (by rw [e2]; rfl) (by rw [e2]; exact ⟨.ref C, H, I, rfl, q _ (fun T e => nomatch e) (fun _ => ⟨C, rfl⟩)⟩)
def rTyIs (neg : Bool) : R2 := fun x y H Q => ∃ T, y = .ty T ∧ ((∃ T', x = .ty T' ∧ Q (.bl (neg ^^ decide (T' = T))) H) ∨ ∃ C, x = .ref C ∧ Q (.bl neg) H)
theorem op_isTy : OpR X (compareOp .Is) (rTyIs false) := by
  intro pins s σ H x y v u Q I rx ry h
  obtain ⟨T, rfl, ⟨T', rfl, q⟩ | ⟨C, rfl, q⟩⟩ := h
  · exact op_isTyB pins s σ H _ _ _ _ _ I rx ry ⟨T', T, rfl, rfl, by rwa [Bool.false_xor] at q⟩
  · cases (show v = Value.ref C from rx)
    cases (show u = Value.type T from ry)
    exact wpAny_is_other rfl (by intro e; cases e) ⟨.bl false, H, I, rfl, q⟩
theorem op_notTy : OpR X (compareOp .IsNot) (rTyIs true) := by
  intro pins s σ H x y v u Q I rx ry h
  obtain ⟨T, rfl, ⟨T', rfl, q⟩ | ⟨C, rfl, q⟩⟩ := h
  · exact op_notTyB pins s σ H _ _ _ _ _ I rx ry ⟨T', T, rfl, rfl, by rwa [Bool.true_xor] at q⟩
  · cases (show v = Value.ref C from rx)
    cases (show u = Value.type T from ry)
    exact wpAny_isNot_other rfl (by intro e; cases e) ⟨.bl true, H, I, rfl, q⟩
end
/-- type(x) is T, type(x) is not T -/
theorem ty_is {K : PySem.W.Frag} {H : Hp} {x : V} {d : Dt} {T : String} {neg : Bool} {Q : VK} (r : Rp K H x d) (k : Q (.bl (neg ^^ decide (d.ty = some T))) H) : rTy K [x] H fun y H1 => rTyIs neg y (.ty T) H1 Q := by
  refine ⟨x, d, rfl, r, fun y h1 h2 => ⟨T, rfl, ?_⟩⟩
  cases e : d.ty with
  | none =>
    obtain ⟨C, rfl⟩ := h2 e
    refine .inr ⟨C, rfl, ?_⟩
    rw [e] at k
    simpa using k
  | some T' =>
    rw [h1 T' e]
    refine .inl ⟨T', rfl, ?_⟩
    rw [e] at k
    simpa using k
/-! ### type(e) is T as one piece -/
def Mono (te : TE) : Prop := ∀ σ H (Q Q' : VK), (∀ v H', Q v H' → Q' v H') → te σ H Q → te σ H Q'
theorem Mono.var {i : Nat} : Mono (tVar i) := fun σ H Q Q' h ⟨v, e, q⟩ => ⟨v, e, h _ _ q⟩
theorem Mono.c {v : V} : Mono (tC v) := fun σ H Q Q' h q => h _ _ q
theorem Mono.op {r : R2} {ta tb : TE} (ha : Mono ta) (hb : Mono tb) (hr : ∀ x y H (Q Q' : VK), (∀ v H', Q v H' → Q' v H') → r x y H Q → r x y H Q') : Mono (tOp r ta tb) := fun σ H Q Q' h q =>
  ha σ H _ _ (fun x H1 q1 => hb σ H1 _ _ (fun y H2 q2 => hr x y H2 _ _ h q2) q1) q
theorem Mono.ixT {K : PySem.W.Frag} {ta tb : TE} (ha : Mono ta) (hb : Mono tb) : Mono (tOp (rIxT K) ta tb) := Mono.op ha hb fun _ _ _ _ _ h ⟨p, xs, i, v, e1, e2, e3, e4, q⟩ => ⟨p, xs, i, v, e1, e2, e3, e4, h _ _ q⟩
theorem Mono.ixL {K : PySem.W.Frag} {ta tb : TE} (ha : Mono ta) (hb : Mono tb) : Mono (tOp (rIxL K) ta tb) := Mono.op ha hb fun _ _ _ _ _ h ⟨p, xs, i, v, e1, e2, e3, e4, q⟩ => ⟨p, xs, i, v, e1, e2, e3, e4, h _ _ q⟩
def tTyIs (K : PySem.W.Frag) (neg : Bool) (T : String) (te : TE) : TE := fun σ H Q => te σ H fun x H1 => ∃ d, Rp K H1 x d ∧ Q (.bl (neg ^^ decide (d.ty = some T))) H1
def tTTyIs (K : PySem.W.Frag) (neg : Bool) (T : String) (te : TE) : TT := fun σ H Q => te σ H fun x H1 => ∃ d, Rp K H1 x d ∧ Q (neg ^^ decide (d.ty = some T)) H1
section
variable {X : Cx} {e : Expr} {te : TE} {T : String} {x : Str} {p pos q pos2 : Pos}
theorem pe_tyIs (hm : Mono te) (he : PE X e te) (hn : X.mg "type" = none) (hT : X.mg x = none) (hv : bootBuiltins x = some (Value.type T)) (hg : Gl X "type" := by rfl) (hgT : Gl X x := by rfl) (hnn : x ≠ "__name__" := by decide) (hd : (x == ("__debug__" : Str)) = false := by decide)
    (hs : starEach [e] X.env = (false, eval e X.env) :: starEach [] X.env := by rfl) (hpl : (backTo pos (starEach [] X.env)).any (·.1) = false := by rfl) :
    PE X (.Compare (.Call (.Name "type" p) [e] [] pos) [.Is] [.Name x q] pos2) (tTyIs X.K false T te) := by
  have h := pe_cmpR (X := X) (pos := pos2) op_isTy (pe_callTy (p := p) (pos := pos) call_type hg hn (by decide +kernel) (pa_cons he pa_nil (hs := hs)) (he := hs) (hpl := hpl)) (pe_bltn (v := .ty T) (pos := q) hgT hT hv rfl hnn hd) (nomark _)
  refine ⟨fun pins s σ H Q I hw => h.run pins s σ H Q I ?_⟩
  exact hm σ H _ _ (fun v H1 ⟨d, r, k⟩ => ty_is (neg := false) r k) hw
theorem pe_tyNot (hm : Mono te) (he : PE X e te) (hn : X.mg "type" = none) (hT : X.mg x = none) (hv : bootBuiltins x = some (Value.type T)) (hg : Gl X "type" := by rfl) (hgT : Gl X x := by rfl) (hnn : x ≠ "__name__" := by decide) (hd : (x == ("__debug__" : Str)) = false := by decide)
    (hs : starEach [e] X.env = (false, eval e X.env) :: starEach [] X.env := by rfl) (hpl : (backTo pos (starEach [] X.env)).any (·.1) = false := by rfl) :
    PE X (.Compare (.Call (.Name "type" p) [e] [] pos) [.IsNot] [.Name x q] pos2) (tTyIs X.K true T te) := by
  have h := pe_cmpR (X := X) (pos := pos2) op_notTy (pe_callTy (p := p) (pos := pos) call_type hg hn (by decide +kernel) (pa_cons he pa_nil (hs := hs)) (he := hs) (hpl := hpl)) (pe_bltn (v := .ty T) (pos := q) hgT hT hv rfl hnn hd) (nomark _)
  refine ⟨fun pins s σ H Q I hw => h.run pins s σ H Q I ?_⟩
  exact hm σ H _ _ (fun v H1 ⟨d, r, k⟩ => ty_is (neg := true) r k) hw
theorem pt_tyIs (hm : Mono te) (he : PE X e te) (hn : X.mg "type" = none) (hT : X.mg x = none) (hv : bootBuiltins x = some (Value.type T)) (hg : Gl X "type" := by rfl) (hgT : Gl X x := by rfl) (hnn : x ≠ "__name__" := by decide) (hd : (x == ("__debug__" : Str)) = false := by decide)
    (hs : starEach [e] X.env = (false, eval e X.env) :: starEach [] X.env := by rfl) (hpl : (backTo pos (starEach [] X.env)).any (·.1) = false := by rfl) :
    PT X (.Compare (.Call (.Name "type" p) [e] [] pos) [.Is] [.Name x q] pos2) (tTTyIs X.K false T te) := by
  have h := pt_cmpR (X := X) (pos := pos2) op_isTy (pe_callTy (p := p) (pos := pos) call_type hg hn (by decide +kernel) (pa_cons he pa_nil (hs := hs)) (he := hs) (hpl := hpl)) (pe_bltn (v := .ty T) (pos := q) hgT hT hv rfl hnn hd) (nomark _)
  refine ⟨fun pins s σ H Q I hw => h.run pins s σ H Q I ?_⟩
  exact hm σ H _ _ (fun v H1 ⟨d, r, k⟩ => ty_is (neg := false) (Q := fun x H' => ∃ k, x = .bl k ∧ Q k H') r ⟨_, rfl, k⟩) hw
theorem pt_tyNot (hm : Mono te) (he : PE X e te) (hn : X.mg "type" = none) (hT : X.mg x = none) (hv : bootBuiltins x = some (Value.type T)) (hg : Gl X "type" := by rfl) (hgT : Gl X x := by rfl) (hnn : x ≠ "__name__" := by decide) (hd : (x == ("__debug__" : Str)) = false := by decide)
    (hs : starEach [e] X.env = (false, eval e X.env) :: starEach [] X.env := by rfl) (hpl : (backTo pos (starEach [] X.env)).any (·.1) = false := by rfl) :
    PT X (.Compare (.Call (.Name "type" p) [e] [] pos) [.IsNot] [.Name x q] pos2) (tTTyIs X.K true T te) := by
  have h := pt_cmpR (X := X) (pos := pos2) op_notTy (pe_callTy (p := p) (pos := pos) call_type hg hn (by decide +kernel) (pa_cons he pa_nil (hs := hs)) (he := hs) (hpl := hpl)) (pe_bltn (v := .ty T) (pos := q) hgT hT hv rfl hnn hd) (nomark _)
  refine ⟨fun pins s σ H Q I hw => h.run pins s σ H Q I ?_⟩
  exact hm σ H _ _ (fun v H1 ⟨d, r, k⟩ => ty_is (neg := true) (Q := fun x H' => ∃ k, x = .bl k ∧ Q k H') r ⟨_, rfl, k⟩) hw
end
end Pg
namespace Pg
open PySem PySem.Spec PyProof.Rows L2
/-! ### readings are monotone: a piece may be cut off by what it leaves -/
def MonoT (t : TT) : Prop := ∀ σ H (Q Q' : Bool → Hp → Prop), (∀ b H', Q b H' → Q' b H') → t σ H Q → t σ H Q'
def MonoA (t : TA) : Prop := ∀ σ H (Q Q' : List V → Hp → Prop), (∀ vs H', Q vs H' → Q' vs H') → t σ H Q → t σ H Q'
def MonoS (sp : Sp) : Prop := ∀ vs H (Q Q' : VK) E, (∀ v H', Q v H' → Q' v H') → sp vs H Q E → sp vs H Q' E
def MonoR (r : R2) : Prop := ∀ x y H (Q Q' : VK), (∀ v H', Q v H' → Q' v H') → r x y H Q → r x y H Q'
def MonoC (r : List V → Hp → VK → Prop) : Prop := ∀ vs H (Q Q' : VK), (∀ v H', Q v H' → Q' v H') → r vs H Q → r vs H Q'
theorem Mono.cut {te : TE} (m : Mono te) {σ : L2.St} {H : Hp} {Q : VK} (P : V → Hp → Prop) (h : te σ H P) (k : ∀ v H', P v H' → Q v H') : te σ H Q := m σ H P Q k h
theorem MonoT.cut {t : TT} (m : MonoT t) {σ : L2.St} {H : Hp} {Q : Bool → Hp → Prop} (P : Bool → Hp → Prop) (h : t σ H P) (k : ∀ b H', P b H' → Q b H') : t σ H Q := m σ H P Q k h
theorem MonoR.i0 {g : Int → Int → V} : MonoR (rI0 g) := fun _ _ _ _ _ h ⟨i, j, e1, e2, q⟩ => ⟨i, j, e1, e2, h _ _ q⟩
theorem MonoR.i {C : Int → Int → Prop} {g : Int → Int → V} : MonoR (rI C g) := fun _ _ _ _ _ h ⟨i, j, e1, e2, c, q⟩ => ⟨i, j, e1, e2, c, h _ _ q⟩
theorem MonoR.eq : MonoR rEq := fun _ _ _ _ _ h ⟨s, q⟩ => ⟨s, h _ _ q⟩
theorem MonoR.ne : MonoR rNe := fun _ _ _ _ _ h ⟨s, q⟩ => ⟨s, h _ _ q⟩
theorem MonoR.ixL {K : PySem.W.Frag} : MonoR (rIxL K) := fun _ _ _ _ _ h ⟨p, xs, i, v, e1, e2, e3, e4, q⟩ => ⟨p, xs, i, v, e1, e2, e3, e4, h _ _ q⟩
theorem MonoR.ixT {K : PySem.W.Frag} : MonoR (rIxT K) := fun _ _ _ _ _ h ⟨p, xs, i, v, e1, e2, e3, e4, q⟩ => ⟨p, xs, i, v, e1, e2, e3, e4, h _ _ q⟩
theorem MonoR.ixS : MonoR rIxS := fun _ _ _ _ _ h ⟨z, i, c, e1, e2, e3, e4, q⟩ => ⟨z, i, c, e1, e2, e3, e4, h _ _ q⟩
theorem MonoR.inn {K : PySem.W.Frag} {neg : Bool} : MonoR (rIn K neg) := fun _ _ _ _ _ h ⟨p, xs, e1, e2, e3, e4, q⟩ => ⟨p, xs, e1, e2, e3, e4, h _ _ q⟩
theorem MonoR.neD {K : PySem.W.Frag} : MonoR (rNeD K) := fun _ _ _ _ _ h ⟨d, e, a, b, c, f, q⟩ => ⟨d, e, a, b, c, f, h _ _ q⟩
theorem MonoR.eqD {K : PySem.W.Frag} : MonoR (rEqD K) := fun _ _ _ _ _ h ⟨d, e, a, b, c, f, q⟩ => ⟨d, e, a, b, c, f, h _ _ q⟩
theorem MonoR.str {C : Str → Str → Prop} {g : Str → Str → V} : MonoR (fun x y H Q => ∃ i j, x = .str i ∧ y = .str j ∧ C i j ∧ Q (g i j) H) := fun _ _ _ _ _ h ⟨i, j, a, b, c, q⟩ => ⟨i, j, a, b, c, h _ _ q⟩
theorem MonoR.str0 {g : Str → Str → V} : MonoR (fun x y H Q => ∃ i j, x = .str i ∧ y = .str j ∧ Q (g i j) H) := fun _ _ _ _ _ h ⟨i, j, a, b, q⟩ => ⟨i, j, a, b, h _ _ q⟩
theorem Mono.op' {r : R2} {ta tb : TE} (hr : MonoR r) (ha : Mono ta) (hb : Mono tb) : Mono (tOp r ta tb) := Mono.op ha hb hr
theorem Mono.tif {t : TT} {ta tb : TE} (ht : MonoT t) (ha : Mono ta) (hb : Mono tb) : Mono (tIf t ta tb) := fun σ H Q Q' h q => ht σ H _ _ (fun b H1 q1 => by
  cases b with
  | true => exact ha σ H1 _ _ h q1
  | false => exact hb σ H1 _ _ h q1) q
theorem MonoT.test {te : TE} (h : Mono te) : MonoT (tTest te) := fun σ H Q Q' k q => h σ H _ _ (fun x H1 ⟨c, e, q1⟩ => ⟨c, e, k _ _ q1⟩) q
theorem MonoT.b {te : TE} (h : Mono te) : MonoT (tB te) := fun σ H Q Q' k q => h σ H _ _ (fun x H1 ⟨c, e, q1⟩ => ⟨c, e, k _ _ q1⟩) q
theorem MonoT.not {t : TT} (h : MonoT t) : MonoT (tNot t) := fun σ H Q Q' k q => h σ H _ _ (fun b H1 q1 => k _ _ q1) q
theorem MonoT.and {t u : TT} (h : MonoT t) (g : MonoT u) : MonoT (tAnd t u) := fun σ H Q Q' k q => h σ H _ _ (fun b H1 q1 => by
  cases b with
  | true => exact g σ H1 _ _ k q1
  | false => exact k _ _ q1) q
theorem MonoT.or {t u : TT} (h : MonoT t) (g : MonoT u) : MonoT (tOr t u) := fun σ H Q Q' k q => h σ H _ _ (fun b H1 q1 => by
  cases b with
  | true => exact k _ _ q1
  | false => exact g σ H1 _ _ k q1) q
theorem MonoA.nil : MonoA tNil := fun _ _ _ _ h q => h _ _ q
theorem MonoA.cons {te : TE} {ta : TA} (h : Mono te) (g : MonoA ta) : MonoA (tCons te ta) := fun σ H Q Q' k q => h σ H _ _ (fun x H1 q1 => g σ H1 _ _ (fun vs H2 q2 => k _ _ q2) q1) q
theorem Mono.cl {sp : Sp} {ta : TA} (hs : MonoS sp) (ha : MonoA ta) : Mono (tCl sp ta) := fun σ H Q Q' k q => ha σ H _ _ (fun vs H1 q1 => hs vs H1 _ _ E0 k q1) q
theorem Mono.cb {r : List V → Hp → VK → Prop} {ta : TA} (hs : MonoC r) (ha : MonoA ta) : Mono (tCB r ta) := fun σ H Q Q' k q => ha σ H _ _ (fun vs H1 q1 => hs vs H1 _ _ k q1) q
theorem Mono.tup {ta : TA} (ha : MonoA ta) : Mono (tTup ta) := fun σ H Q Q' k q => ha σ H _ _ (fun vs H1 ⟨l, q1⟩ => ⟨l, fun p hp => k _ _ (q1 p hp)⟩) q
theorem Mono.lst {ta : TA} (ha : MonoA ta) : Mono (tLst ta) := fun σ H Q Q' k q => ha σ H _ _ (fun vs H1 ⟨l, q1⟩ => ⟨l, fun p hp => k _ _ (q1 p hp)⟩) q
/-- one of two constants -/
theorem ite_tC {c : Prop} [Decidable c] {a b : V} {σ : L2.St} {H : Hp} {Q : VK} (h : ∀ v, v = a ∨ v = b → Q v H) : if c then tC a σ H Q else tC b σ H Q := by
  split
  · exact h a (.inl rfl)
  · exact h b (.inr rfl)
theorem MonoC.two {g : Int → Int → V} : MonoC (fun xs H Q => ∃ i j, xs = [.int i, .int j] ∧ Q (g i j) H) := fun _ _ _ _ h ⟨i, j, e, q⟩ => ⟨i, j, e, h _ _ q⟩
theorem MonoC.int1 : MonoC (fun xs H Q => (∃ i, xs = [.int i] ∧ Q (.int i) H) ∨ ∃ k : Bool, xs = [.bl k] ∧ Q (.int (if k then 1 else 0)) H) := fun _ _ _ _ h q => by
  rcases q with ⟨i, e, q⟩ | ⟨i, e, q⟩
  · exact .inl ⟨i, e, h _ _ q⟩
  · exact .inr ⟨i, e, h _ _ q⟩
theorem RpL.strs {K : PySem.W.Frag} {H : Hp} : ∀ {ws : List (List Nat)}, (∀ l ∈ ws, l.length ≤ 100000) → RpL K H (ws.map Tx) (ws.map Dt.str)
  | [], _ => .nil
  | l :: ws, h => .cons (.str l (h l List.mem_cons_self)) (RpL.strs fun m q => h m (List.mem_cons_of_mem _ q))
theorem dep_strs : ∀ (ws : List (List Nat)), Dt.depL (ws.map Dt.str) = 0
  | [] => rfl
  | l :: ws => by
    show max 0 (Dt.depL (ws.map Dt.str)) = 0
    rw [dep_strs ws]
    rfl
/-- a text of the program's own as a value -/
theorem Rp.lit {K : PySem.W.Frag} {H : Hp} (s : Str) (h : s.cps.toList.length ≤ 100000 := by decide +kernel) : Rp K H (.str s) (.str s.cps.toList) := by
  have := Rp.str (K := K) (H := H) s.cps.toList h
  have e : tx s.cps.toList = s := by cases s <;> simp [tx]
  rwa [Tx, e] at this
end Pg
namespace Pg
open PySem PySem.Spec PyProof.Rows L2
/-! ### expressions that build data: what they evaluate to -/
def EvD (K : PySem.W.Frag) (te : TE) (σ : L2.St) (H : Hp) (d : Dt) : Prop := ∀ H1, Stp [] H H1 → ∀ Q : VK, (∀ v H2, Stp [] H1 H2 → Rp K H2 v d → Q v H2) → te σ H1 Q
def EvDA (K : PySem.W.Frag) (ta : TA) (σ : L2.St) (H : Hp) (ds : List Dt) : Prop := ∀ H1, Stp [] H H1 → ∀ Q : List V → Hp → Prop, (∀ vs H2, Stp [] H1 H2 → RpL K H2 vs ds → Q vs H2) → ta σ H1 Q
section
variable {K : PySem.W.Frag} {te : TE} {ta : TA} {σ : L2.St} {H : Hp} {d : Dt} {ds : List Dt}
theorem EvD.bl {b : Bool} : EvD K (tC (.bl b)) σ H (.bl b) := fun H1 _ _ k => k _ H1 (Stp.refl _ _) (.bl b)
theorem EvD.int {i : Int} : EvD K (tC (.int i)) σ H (.int i) := fun H1 _ _ k => k _ H1 (Stp.refl _ _) (.int i)
theorem EvD.non : EvD K (tC .non) σ H .non := fun H1 _ _ k => k _ H1 (Stp.refl _ _) .non
theorem EvD.str {s : Str} (h : s.cps.toList.length ≤ 100000 := by decide +kernel) : EvD K (tC (.str s)) σ H (.str s.cps.toList) := fun H1 _ _ k => k _ H1 (Stp.refl _ _) (Rp.lit s h)
theorem EvD.var {i : Nat} {v : V} (r : Rp K H v d) (e : σ[i]? = some (some v) := by rfl) : EvD K (tVar i) σ H d := fun H1 s _ k => ⟨v, e, k v H1 (Stp.refl _ _) (r.stp s Lsts.nil)⟩
theorem EvDA.nil : EvDA K tNil σ H [] := fun H1 _ _ k => k [] H1 (Stp.refl _ _) .nil
theorem EvDA.cons (h : EvD K te σ H d) (g : EvDA K ta σ H ds) : EvDA K (tCons te ta) σ H (d :: ds) := fun H1 s Q k =>
  h H1 s _ fun v H2 s2 r => g H2 (s.trans s2) _ fun vs H3 s3 rs => k (v :: vs) H3 (s2.trans s3) (.cons (r.stp s3 Lsts.nil) rs)
theorem EvD.tup (h : EvDA K ta σ H ds) (hl : ds.length ≤ 1000) : EvD K (tTup ta) σ H (.tup ds) := fun H1 s Q k =>
  h H1 s _ fun vs H2 s2 rs => ⟨sz (by rw [rs.len]; omega), fun p np => k _ _ (s2.new' np) (.tup (SqT.of upd_same) (by rw [rs.len]; omega) (rs.stp (Stp.new np []) Lsts.nil))⟩
theorem EvD.lst (h : EvDA K ta σ H ds) (hl : ds.length ≤ 1000) : EvD K (tLst ta) σ H .lst := fun H1 s Q k =>
  h H1 s _ fun vs H2 s2 rs => ⟨sz (by rw [rs.len]; omega), fun p np => k _ _ (s2.new' np) (.lst upd_same)⟩
theorem EvD.exc {C : Addr} (h : EvD K te σ H d) : EvD K (fun σ H Q => te σ H fun _ H1 => ∀ a, H1 a = none → Q (.ref a) (upd H1 a (ExO (.ref C) a))) σ H .obj := fun H1 s Q k =>
  h H1 s _ fun v H2 s2 _ => fun a na => k _ _ (s2.new' na) (.obj upd_same)
theorem EvD.cat {tb : TE} {a b : List Nat} (h : EvD K te σ H (.str a)) (g : EvD K tb σ H (.str b)) (hl : a.length + b.length ≤ 100000) : EvD K (tOp (fun x y H Q => ∃ i j, x = .str i ∧ y = .str j ∧ i.length + j.length ≤ sizeLine ∧ Q (.str (i ++ j)) H) te tb) σ H (.str (a ++ b)) := fun H1 s Q k =>
  h H1 s _ fun v H2 s2 r => g H2 (s.trans s2) _ fun u H3 s3 q => by
    cases r with
    | str _ h1 =>
      cases q with
      | str _ h2 =>
        refine ⟨tx a, tx b, rfl, rfl, by rw [tx_len, tx_len]; exact sz hl, ?_⟩
        rw [tx_app]
        exact k _ _ (s2.trans s3) (.str _ (by rw [List.length_append]; exact hl))
theorem EvD.pow {i j : Int} (h : CPow i j) : EvD K (tOp (rI CPow fun i j => .int (i ^ j.toNat)) (tC (.int i)) (tC (.int j))) σ H (.int (i ^ j.toNat)) := fun H1 s Q k =>
  ⟨i, j, rfl, rfl, h, k _ _ (Stp.refl _ _) (.int _)⟩
theorem EvD.neg {i : Int} : EvD K (tUn (rU fun i => .int (-i)) (tC (.int i))) σ H (.int (-i)) := fun H1 s Q k => ⟨i, rfl, k _ _ (Stp.refl _ _) (.int _)⟩
/-- list(t) of a tuple -/
theorem EvD.list (h : EvD K te σ H (.tup ds)) : EvD K (tCB (fun xs H Q => ∃ p ys, xs = [.ref p] ∧ (SqL K H p ys ∨ SqT K H p ys) ∧ ∀ l, H l = none → Q (.ref l) (upd H l (.lst ys))) (tCons te tNil)) σ H .lst := fun H1 s Q k =>
  h H1 s _ fun v H2 s2 r => by
    cases r with
    | tup hs hn rl => exact ⟨_, _, rfl, .inr hs, fun l nl => k _ _ (s2.new' nl) (.lst upd_same)⟩
theorem EvDA.use (h : EvDA K ta σ H ds) {Q : List V → Hp → Prop} (k : ∀ vs H2, Stp [] H H2 → RpL K H2 vs ds → Q vs H2) : ta σ H Q := h H (Stp.refl _ _) Q k
theorem EvD.use (h : EvD K te σ H d) {Q : VK} (k : ∀ v H2, Stp [] H H2 → Rp K H2 v d → Q v H2) : te σ H Q := h H (Stp.refl _ _) Q k
/-- a new list of data -/
theorem EvDA.newl (h : EvDA K ta σ H ds) (hl : ds.length ≤ 1000) {Q : VK} (k : ∀ p vs H2, Stp [] H H2 → H p = none → H2 p = some (.lst vs) → RpL K H2 vs ds → Q (.ref p) H2) : tLst ta σ H Q :=
  h.use fun vs H2 s rs => ⟨sz (by rw [rs.len]; omega), fun p np => k p vs _ (s.new' np) (s.fresh (fun m => nomatch m) np) upd_same (rs.stp (Stp.new np []) Lsts.nil)⟩
end
/-! ### tuples put together, cut -/
theorem catA_use {K : PySem.W.Frag} {H : Hp} {a b : Addr} {xs ys : List V} {Q : VK} (ha : SqT K H a xs) (hb : SqT K H b ys) (hl : xs.length + ys.length ≤ 100000) (k : ∀ p H', Stp [] H H' → SqT K H' p (xs ++ ys) → Q (.ref p) H') : rCatA K (.ref a) (.ref b) H Q := by
  refine ⟨a, b, xs, ys, rfl, rfl, ha, hb, sz hl, fun e => ?_, fun _ e => ?_, fun _ _ p np => ?_⟩
  · subst e
    exact k b H (Stp.refl _ _) hb
  · subst e
    refine k a H (Stp.refl _ _) ?_
    rw [List.append_nil]
    exact ha
  · exact k p _ (Stp.new np _) (SqT.of upd_same)
theorem slA_use {K : PySem.W.Frag} {H : Hp} {a : Addr} {xs : List V} {lo hi : Option Int} {Q : VK} (ha : SqT K H a xs) (k : ∀ p H', Stp [] H H' → SqT K H' p (cutV xs lo hi) → Q (.ref p) H') : rSlA K (.ref a) lo hi H Q := by
  refine ⟨a, xs, rfl, ha, fun ⟨e1, e2⟩ => ?_, fun _ p np => ?_⟩
  · refine k a H (Stp.refl _ _) ?_
    have e : cutV xs lo hi = xs := by
      unfold cutV
      rw [e1, e2, List.drop_zero, Nat.sub_zero, List.take_length]
    rw [e]
    exact ha
  · exact k p _ (Stp.new np _) (SqT.of upd_same)
theorem cut_upto {xs : List V} (k : Nat) : cutV xs none (some (k : Int)) = xs.take k := by
  unfold cutV
  rw [HT.sIx_none, HT.sIx_nat, List.drop_zero, Nat.sub_zero]
  rcases Nat.le_total k xs.length with h | h
  · rw [Nat.min_eq_left h]
  · rw [Nat.min_eq_right h, List.take_of_length_le (Nat.le_refl _), List.take_of_length_le h]
theorem cut_from {xs : List V} (k : Nat) : cutV xs (some (k : Int)) none = xs.drop k := by
  unfold cutV
  rw [HT.sIx_none, HT.sIx_nat]
  rcases Nat.le_total k xs.length with h | h
  · rw [Nat.min_eq_left h, List.take_of_length_le (by rw [List.length_drop]; exact Nat.le_refl _)]
  · rw [Nat.min_eq_right h, List.drop_length, List.drop_of_length_le h, List.take_nil]
theorem RpL.take {K : PySem.W.Frag} {H : Hp} : ∀ {vs : List V} {ds : List Dt} (n : Nat), RpL K H vs ds → RpL K H (vs.take n) (ds.take n)
  | _, _, 0, _ => by rw [List.take_zero, List.take_zero]; exact .nil
  | _, [], _ + 1, .nil => .nil
  | _, _ :: _, n + 1, .cons h r => .cons h (RpL.take n r)
theorem RpL.drop {K : PySem.W.Frag} {H : Hp} : ∀ {vs : List V} {ds : List Dt} (n : Nat), RpL K H vs ds → RpL K H (vs.drop n) (ds.drop n)
  | _, _, 0, r => r
  | _, [], _ + 1, .nil => .nil
  | _, _ :: _, n + 1, .cons _ r => RpL.drop n r
/-! ### heads of statements -/
theorem asg_name {te : TE} {i : Nat} {u : TS} {D : Ends} {σ : L2.St} {H : Hp} (h : te σ H fun x H1 => u D (σ.set i (some x)) H1) : tSeq (tAsg te (gName i)) u D σ H := h
theorem op_var {r : R2} {i : Nat} {tb : TE} {σ : L2.St} {H : Hp} {Q : VK} {v : V} (e : σ[i]? = some (some v)) (h : tb σ H fun y H2 => r v y H2 Q) : tOp r (tVar i) tb σ H Q := ⟨v, e, h⟩
theorem nopart {σ : L2.St} {H : Hp} {Q : Option Int → Hp → Prop} (h : Q none H) : tNoPart σ H Q := h
end Pg
namespace Pv
open PySem PySem.Spec PyProof.Rows L2 Pg
/-! ### values with all that is in them -/
inductive D where
  | non | bl (b : Bool) | int (i : Int) | str (l : List Nat) | tup (ds : List D) | lst (ds : List D) | obj (C : Addr)
mutual
def D.old : D → Dt
  | .non => .non
  | .bl b => .bl b
  | .int i => .int i
  | .str l => .str l
  | .tup ds => .tup (D.olds ds)
  | .lst _ => .lst
  | .obj _ => .obj
def D.olds : List D → List Dt
  | [] => []
  | d :: ds => d.old :: D.olds ds
end
def D.ty (d : D) : Option String := d.old.ty
/-- isinstance(d, T) -/
def D.isi (T : String) : D → Bool
  | .bl _ => T == "bool" || T == "int"
  | .int _ => T == "int"
  | .str _ => T == "str"
  | .tup _ => T == "tuple"
  | .lst _ => T == "list"
  | _ => false
/-- what the class of an object says -/
structure OkC (K : PySem.W.Frag) (C : Addr) : Prop where
  exc : ExcC K C
  is_str : PySem.W.kitOne K (.ref C) (.type "str") = some false
  is_int : PySem.W.kitOne K (.ref C) (.type "int") = some false
  is_bool : PySem.W.kitOne K (.ref C) (.type "bool") = some false
  is_tuple : PySem.W.kitOne K (.ref C) (.type "tuple") = some false
  is_list : PySem.W.kitOne K (.ref C) (.type "list") = some false
mutual
/-- v is d; no list in it stands at an address of S -/
inductive Rv (K : PySem.W.Frag) (S : List Addr) (H : Hp) : V → D → Prop
  | non : Rv K S H .non .non
  | bl (b : Bool) : Rv K S H (.bl b) (.bl b)
  | int (i : Int) : Rv K S H (.int i) (.int i)
  | str (l : List Nat) (h : l.length ≤ 100000) : Rv K S H (Tx l) (.str l)
  | tup {a : Addr} {vs : List V} {ds : List D} : SqT K H a vs → vs.length ≤ 100000 → RvL K S H vs ds → Rv K S H (.ref a) (.tup ds)
  | lst {a : Addr} {vs : List V} {ds : List D} : H a = some (.lst vs) → a ∉ S → vs.length ≤ 100000 → RvL K S H vs ds → Rv K S H (.ref a) (.lst ds)
  | obj {a C : Addr} : H a = some (ExO (.ref C) a) → OkC K C → Rv K S H (.ref a) (.obj C)
inductive RvL (K : PySem.W.Frag) (S : List Addr) (H : Hp) : List V → List D → Prop
  | nil : RvL K S H [] []
  | cons {v : V} {vs : List V} {d : D} {ds : List D} : Rv K S H v d → RvL K S H vs ds → RvL K S H (v :: vs) (d :: ds)
end
section
variable {K : PySem.W.Frag} {S : List Addr} {H H' : Hp}
mutual
theorem Rv.old : ∀ {v : V} {d : D}, Rv K S H v d → Rp K H v d.old
  | _, .non, .non => .non
  | _, .bl _, .bl b => .bl b
  | _, .int _, .int i => .int i
  | _, .str _, .str x h => .str x h
  | _, .tup ds, .tup h n r => .tup h n (RvL.old r)
  | _, .lst _, .lst h _ _ _ => .lst h
  | _, .obj _, .obj h _ => .obj h
theorem RvL.old : ∀ {vs : List V} {ds : List D}, RvL K S H vs ds → RpL K H vs (D.olds ds)
  | _, [], .nil => .nil
  | _, _ :: _, .cons h r => .cons (Rv.old h) (RvL.old r)
end
mutual
theorem Rv.fr {S' : List Addr} (s : Stp S' H H') (l : Lsts H S') (sub : ∀ x ∈ S', x ∈ S) : ∀ {v : V} {d : D}, Rv K S H v d → Rv K S H' v d
  | _, .non, .non => .non
  | _, .bl _, .bl b => .bl b
  | _, .int _, .int i => .int i
  | _, .str _, .str x h => .str x h
  | _, .tup ds, .tup h n r => .tup (sqt_stp s l h) n (RvL.fr s l sub r)
  | _, .lst ds, .lst h o n r => .lst (s.kp _ _ (fun m => o (sub _ m)) h) o n (RvL.fr s l sub r)
  | _, .obj _, .obj (a := a) (C := C) h k => by
    refine .obj (C := C) (s.kp a _ (fun m => ?_) h) k
    obtain ⟨xs, e⟩ := l a m
    rw [h] at e
    cases e
theorem RvL.fr {S' : List Addr} (s : Stp S' H H') (l : Lsts H S') (sub : ∀ x ∈ S', x ∈ S) : ∀ {vs : List V} {ds : List D}, RvL K S H vs ds → RvL K S H' vs ds
  | _, [], .nil => .nil
  | _, _ :: _, .cons h r => .cons (Rv.fr s l sub h) (RvL.fr s l sub r)
end
theorem Rv.stp {v : V} {d : D} (r : Rv K S H v d) (s : Stp S H H') (l : Lsts H S) : Rv K S H' v d := Rv.fr s l (fun _ m => m) r
theorem RvL.stp {vs : List V} {ds : List D} (r : RvL K S H vs ds) (s : Stp S H H') (l : Lsts H S) : RvL K S H' vs ds := RvL.fr s l (fun _ m => m) r
theorem Rv.up {v : V} {d : D} (r : Rv K S H v d) (s : Stp [] H H') : Rv K S H' v d := Rv.fr s Lsts.nil (fun _ m => nomatch m) r
theorem RvL.up {vs : List V} {ds : List D} (r : RvL K S H vs ds) (s : Stp [] H H') : RvL K S H' vs ds := RvL.fr s Lsts.nil (fun _ m => nomatch m) r
mutual
theorem Rv.sub {S' : List Addr} (h : ∀ x ∈ S', x ∈ S) : ∀ {v : V} {d : D}, Rv K S H v d → Rv K S' H v d
  | _, .non, .non => .non
  | _, .bl _, .bl b => .bl b
  | _, .int _, .int i => .int i
  | _, .str _, .str x h => .str x h
  | _, .tup ds, .tup q n r => .tup q n (RvL.sub h r)
  | _, .lst ds, .lst q o n r => .lst q (fun m => o (h _ m)) n (RvL.sub h r)
  | _, .obj _, .obj q k => .obj q k
theorem RvL.sub {S' : List Addr} (h : ∀ x ∈ S', x ∈ S) : ∀ {vs : List V} {ds : List D}, RvL K S H vs ds → RvL K S' H vs ds
  | _, [], .nil => .nil
  | _, _ :: _, .cons q r => .cons (Rv.sub h q) (RvL.sub h r)
end
theorem RvL.len : ∀ {vs : List V} {ds : List D}, RvL K S H vs ds → vs.length = ds.length
  | _, [], .nil => rfl
  | _, _ :: _, .cons _ r => by rw [List.length_cons, List.length_cons, RvL.len r]
theorem RvL.get : ∀ {vs : List V} {ds : List D} {i : Nat} {v : V}, RvL K S H vs ds → vs[i]? = some v → ∃ d, ds[i]? = some d ∧ Rv K S H v d
  | _, [], _, _, .nil, e => by simp at e
  | _, d :: _, 0, _, .cons h _, e => by
    simp at e
    subst e
    exact ⟨d, rfl, h⟩
  | _, _ :: _, i + 1, v, .cons _ r, e => RvL.get (i := i) (v := v) r (by simpa using e)
theorem RvL.app : ∀ {vs ws : List V} {ds es : List D}, RvL K S H vs ds → RvL K S H ws es → RvL K S H (vs ++ ws) (ds ++ es)
  | _, _, [], _, .nil, q => q
  | _, _, _ :: _, _, .cons h r, q => .cons h (RvL.app r q)
theorem RvL.take : ∀ {vs : List V} {ds : List D} (n : Nat), RvL K S H vs ds → RvL K S H (vs.take n) (ds.take n)
  | _, _, 0, _ => by rw [List.take_zero, List.take_zero]; exact .nil
  | _, [], _ + 1, .nil => .nil
  | _, _ :: _, n + 1, .cons h r => .cons h (RvL.take n r)
theorem RvL.drop : ∀ {vs : List V} {ds : List D} (n : Nat), RvL K S H vs ds → RvL K S H (vs.drop n) (ds.drop n)
  | _, _, 0, r => r
  | _, [], _ + 1, .nil => .nil
  | _, _ :: _, n + 1, .cons _ r => RvL.drop n r
theorem RvL.rev : ∀ {vs : List V} {ds : List D}, RvL K S H vs ds → RvL K S H vs.reverse ds.reverse
  | _, [], .nil => .nil
  | _, _ :: _, .cons h r => by
    rw [List.reverse_cons, List.reverse_cons]
    exact RvL.app (RvL.rev r) (.cons h .nil)
theorem RvL.pick {vs : List V} {ds : List D} {i : Int} (r : RvL K S H vs ds) (h0 : 0 ≤ i) (h1 : i < (ds.length : Int)) : ∃ v d, d ∈ ds ∧ Rv K S H v d ∧ atI vs i = some v := by
  obtain ⟨k, rfl⟩ := Int.eq_ofNat_of_zero_le h0
  have hk : k < vs.length := by rw [r.len]; omega
  obtain ⟨d, hd, rd⟩ := r.get (List.getElem?_eq_getElem hk)
  exact ⟨vs[k], d, List.mem_of_getElem? hd, rd, atI_nat (List.getElem?_eq_getElem hk)⟩
/-- a text of the program's own -/
def wd (s : Str) : D := .str s.cps.toList
theorem tx_cps (s : Str) : tx s.cps.toList = s := by cases s <;> simp [tx]
theorem Rv.lit (s : Str) (h : s.cps.toList.length ≤ 100000 := by decide +kernel) : Rv K S H (.str s) (wd s) := by
  have := Rv.str (K := K) (S := S) (H := H) s.cps.toList h
  rwa [Tx, tx_cps] at this
theorem out_new {p : Addr} (l : Lsts H S) (h : H p = none) : p ∉ S := fun m => by
  obtain ⟨xs, e⟩ := l p m
  rw [h] at e
  cases e
/-- a new tuple, a new list -/
theorem Rv.newT {p : Addr} {vs : List V} {ds : List D} (np : H p = none) (r : RvL K S H vs ds) (h : ds.length ≤ 100000) : Rv K S (upd H p (.tup vs)) (.ref p) (.tup ds) := .tup (SqT.of upd_same) (by rw [r.len]; exact h) (r.up (Stp.new np []))
theorem Rv.newL {p : Addr} {vs : List V} {ds : List D} (l : Lsts H S) (np : H p = none) (r : RvL K S H vs ds) (h : ds.length ≤ 100000) : Rv K S (upd H p (.lst vs)) (.ref p) (.lst ds) := .lst upd_same (out_new l np) (by rw [r.len]; exact h) (r.up (Stp.new np []))
theorem Lsts.up {H H' : Hp} (l : Lsts H S) (s : Stp [] H H') : Lsts H' S := l.stp s
end
/-! ### type(x) is T -/
theorem D.ty_old (d : D) : d.old.ty = d.ty := rfl
theorem ty_non : D.non.ty = some "NoneType" := rfl
theorem ty_bl {b : Bool} : (D.bl b).ty = some "bool" := rfl
theorem ty_int {i : Int} : (D.int i).ty = some "int" := rfl
theorem ty_str {l : List Nat} : (D.str l).ty = some "str" := rfl
theorem ty_tup {ds : List D} : (D.tup ds).ty = some "tuple" := by unfold D.ty D.old; rfl
theorem ty_lst {ds : List D} : (D.lst ds).ty = some "list" := by unfold D.ty D.old; rfl
theorem ty_obj {C : Addr} : (D.obj C).ty = none := rfl
theorem D.lst_of {d : D} (h : d.ty = some "list") : ∃ ds, d = .lst ds := by
  cases d with
  | lst ds => exact ⟨ds, rfl⟩
  | tup ds => rw [ty_tup] at h; exact absurd h (by decide)
  | obj C => rw [ty_obj] at h; cases h
  | non => exact absurd h (by rw [ty_non]; decide)
  | bl b => exact absurd h (by rw [ty_bl]; decide)
  | int i => exact absurd h (by rw [ty_int]; decide)
  | str l => exact absurd h (by rw [ty_str]; decide)
theorem D.tup_of {d : D} (h : d.ty = some "tuple") : ∃ ds, d = .tup ds := by
  cases d with
  | tup ds => exact ⟨ds, rfl⟩
  | lst ds => rw [ty_lst] at h; exact absurd h (by decide)
  | obj C => rw [ty_obj] at h; cases h
  | non => exact absurd h (by rw [ty_non]; decide)
  | bl b => exact absurd h (by rw [ty_bl]; decide)
  | int i => exact absurd h (by rw [ty_int]; decide)
  | str l => exact absurd h (by rw [ty_str]; decide)
theorem D.str_of {d : D} (h : d.ty = some "str") : ∃ l, d = .str l := by
  cases d with
  | str ds => exact ⟨ds, rfl⟩
  | lst ds => rw [ty_lst] at h; exact absurd h (by decide)
  | tup ds => rw [ty_tup] at h; exact absurd h (by decide)
  | obj C => rw [ty_obj] at h; cases h
  | non => exact absurd h (by rw [ty_non]; decide)
  | bl b => exact absurd h (by rw [ty_bl]; decide)
  | int i => exact absurd h (by rw [ty_int]; decide)
theorem D.int_of {d : D} (h : d.ty = some "int") : ∃ i, d = .int i := by
  cases d with
  | int i => exact ⟨i, rfl⟩
  | lst ds => rw [ty_lst] at h; exact absurd h (by decide)
  | tup ds => rw [ty_tup] at h; exact absurd h (by decide)
  | obj C => rw [ty_obj] at h; cases h
  | non => exact absurd h (by rw [ty_non]; decide)
  | bl b => exact absurd h (by rw [ty_bl]; decide)
  | str l => exact absurd h (by rw [ty_str]; decide)
/-! ### isinstance -/
def rIsD (K : PySem.W.Frag) (T : String) : List V → Hp → VK → Prop := fun xs H Q => ∃ (S : List Addr) (x : V) (d : D), xs = [x, .ty T] ∧ Rv K S H x d ∧ Q (.bl (d.isi T)) H
section
variable {X : Cx} {T : String}
theorem tyx_of {K : PySem.W.Frag} {S : List Addr} {H : Hp} {x : V} {d : D} (r : Rv K S H x d) (t : String) (h : d.ty = some t) : TyX K H x (.type t) := by
  cases r with
  | non => rw [ty_non] at h; cases h; exact .base .non
  | bl b => rw [ty_bl] at h; cases h; exact .base (.bl b)
  | int i => rw [ty_int] at h; cases h; exact .base (.int i)
  | str l hl => rw [ty_str] at h; cases h; exact .base (.str _)
  | lst hs _ _ _ => rw [ty_lst] at h; cases h; exact .base (.lst hs)
  | obj ho _ => rw [ty_obj] at h; cases h
  | tup hs _ _ =>
    rw [ty_tup] at h
    cases h
    rcases hs with (hs | ⟨o, hs⟩) | ⟨o, its, n, e, c, _⟩
    · exact .base (.tup hs)
    · exact .fTuple hs
    · exact .kTuple e c
theorem kit_str : ∀ t : String, t ∈ ["NoneType", "bool", "int", "str", "tuple", "list"] → kitB t "str" = some (t == "str") := by decide +kernel
theorem kit_int : ∀ t : String, t ∈ ["NoneType", "bool", "int", "str", "tuple", "list"] → kitB t "int" = some (t == "bool" || t == "int") := by decide +kernel
theorem kit_bool : ∀ t : String, t ∈ ["NoneType", "bool", "int", "str", "tuple", "list"] → kitB t "bool" = some (t == "bool") := by decide +kernel
theorem kit_tuple : ∀ t : String, t ∈ ["NoneType", "bool", "int", "str", "tuple", "list"] → kitB t "tuple" = some (t == "tuple") := by decide +kernel
theorem kit_list : ∀ t : String, t ∈ ["NoneType", "bool", "int", "str", "tuple", "list"] → kitB t "list" = some (t == "list") := by decide +kernel
theorem kit_d {d : D} {t : String} (h : d.ty = some t) (hT : T ∈ ["str", "int", "bool", "tuple", "list"]) : kitB t T = some (d.isi T) := by
  simp only [List.mem_cons, List.not_mem_nil, or_false] at hT
  have go : ∀ u, d.ty = some u → u = t := fun u e => by rw [h] at e; exact (Option.some.inj e).symm
  rcases hT with rfl | rfl | rfl | rfl | rfl <;> cases d
  all_goals first
    | (have q := go _ ty_non; subst q; first | exact kit_str _ (by decide) | exact kit_int _ (by decide) | exact kit_bool _ (by decide) | exact kit_tuple _ (by decide) | exact kit_list _ (by decide))
    | (have q := go _ ty_bl; subst q; first | exact kit_str _ (by decide) | exact kit_int _ (by decide) | exact kit_bool _ (by decide) | exact kit_tuple _ (by decide) | exact kit_list _ (by decide))
    | (have q := go _ ty_int; subst q; first | exact kit_str _ (by decide) | exact kit_int _ (by decide) | exact kit_bool _ (by decide) | exact kit_tuple _ (by decide) | exact kit_list _ (by decide))
    | (have q := go _ ty_str; subst q; first | exact kit_str _ (by decide) | exact kit_int _ (by decide) | exact kit_bool _ (by decide) | exact kit_tuple _ (by decide) | exact kit_list _ (by decide))
    | (have q := go _ ty_tup; subst q; first | exact kit_str _ (by decide) | exact kit_int _ (by decide) | exact kit_bool _ (by decide) | exact kit_tuple _ (by decide) | exact kit_list _ (by decide))
    | (have q := go _ ty_lst; subst q; first | exact kit_str _ (by decide) | exact kit_int _ (by decide) | exact kit_bool _ (by decide) | exact kit_tuple _ (by decide) | exact kit_list _ (by decide))
    | (rw [ty_obj] at h; cases h)
theorem D.has_ty (d : D) : (∃ t, d.ty = some t) ∨ ∃ C, d = .obj C := by
  cases d with
  | obj C => exact .inr ⟨C, rfl⟩
  | non => exact .inl ⟨_, ty_non⟩
  | bl b => exact .inl ⟨_, ty_bl⟩
  | int i => exact .inl ⟨_, ty_int⟩
  | str l => exact .inl ⟨_, ty_str⟩
  | tup ds => exact .inl ⟨_, ty_tup⟩
  | lst ds => exact .inl ⟨_, ty_lst⟩
theorem call_isiD (hT : T ∈ ["str", "int", "bool", "tuple", "list"]) : CallR X (.builtin "isinstance") (rIsD X.K T) := by
  intro pins s σ H xs us Q I r h
  obtain ⟨S, x, d, rfl, rv, q⟩ := h
  rcases d.has_ty with ⟨t, ht⟩ | ⟨C, rfl⟩
  · exact call_isi pins s σ H _ us Q I r ⟨x, .ty T, _, _, d.isi T, rfl, .ty T, tyx_of rv t ht, kit_ty (kit_d ht hT), q⟩
  · cases rv with
    | obj ho ok =>
      rename_i a
      obtain ⟨u1, u2, rfl, r1, r2⟩ := vals2 r
      cases r1
      cases (show u2 = Value.type T from r2)
      obtain ⟨⟨oe, vs, e1, ⟨e2, e3⟩, e4, _⟩, _⟩ := I.hok _ _ ho
      have J : PySem.W.InstAt s.heap a oe C none := by
        obtain ⟨oc, od, oda, osl⟩ := oe
        dsimp only at e2 e3 e4
        subst e2 e3 e4
        exact ⟨e1, rfl, rfl, trivial⟩
      have kit : PySem.W.kitOne X.K (.ref C) (.type T) = some ((D.obj C).isi T) := by
        simp only [List.mem_cons, List.not_mem_nil, or_false] at hT
        rcases hT with rfl | rfl | rfl | rfl | rfl
        · exact ok.is_str
        · exact ok.is_int
        · exact ok.is_bool
        · exact ok.is_tuple
        · exact ok.is_list
      exact PySem.W.kia_one (PySem.W.handS_kitx_exc ok.exc.hg ok.exc.hk ok.exc.hs ok.exc.hd ok.exc.ha ok.exc.hn ok.exc.ht ok.exc.hm) I.kIn J kit (fun z => nomatch z) fun tk => ⟨.bl ((D.obj C).isi T), H, I.kept (t' := tk) fun _ _ z => z, rfl, q⟩
end
theorem call_isiDK {X : Cx} {T : String} {K : PySem.W.Frag} (hK : X.K = K) (hT : T ∈ ["str", "int", "bool", "tuple", "list"]) : CallR X (.builtin "isinstance") (rIsD K T) := by
  subst hK
  exact call_isiD hT
/-! ### t[::-1] -/
section
variable {prog : Program} {w : World} {A : Around} {E : Value → Shared → Prop} {s : Shared}
open HT
theorem sliceApplied_rev {sl : Addr} {vl vu vs : Value} {n : Nat} {Q : Int × Int × Nat → Shared → Prop} (hs : s.heap.IsSliceOf sl vl vu vs) (pl : IsPart vl none) (pu : IsPart vu none) (ps : IsPart vs (some (-1)))
    (h : Q ((n : Int) - 1, -1, n) s) : wpAny (model prog w) A (Builtin.Slice.sliceApplied (.ref sl) (pure (n : Int))) Q E s := by
  obtain ⟨os, hos, hcs, hds⟩ := id hs
  unfold Builtin.Slice.sliceApplied Builtin.Slice.sliceFields
  refine wpAny_bind (wpAny_bind (wpAny_field hos hds (x := vl) rfl (wpAny_bind (wpAny_field hos hds (x := vu) rfl (wpAny_bind (wpAny_field hos hds (x := vs) rfl (wpAny_pure ?_)))))))
  refine wpAny_bind (slicePart_ ps ?_)
  show wpAny _ _ (if ((-1 : Int) == 0) = true then _ else _) _ _ s
  rw [if_neg (by decide)]
  refine wpAny_bind (slicePart_ pl (wpAny_bind (slicePart_ pu (wpAny_bind (wpAny_pure ?_)))))
  show wpAny _ _ (pure ((n : Int) - 1, (-1 : Int), Builtin.Slice.slicePlaces ((n : Int) - 1) (-1) (-1))) _ _ s
  have e : Builtin.Slice.slicePlaces ((n : Int) - 1) (-1) (-1) = n := by
    unfold Builtin.Slice.slicePlaces
    rw [if_neg (by decide)]
    by_cases c : (n : Int) - 1 > -1
    · rw [if_pos c, show (- -1 : Int) = 1 by decide, Int.ediv_one]
      omega
    · rw [if_neg c]
      omega
  rw [e]
  exact wpAny_pure h
theorem pick_rev (xs : Array Value) : ((List.range xs.size).filterMap fun (k : Nat) => xs[((xs.size : Int) - 1 + (k : Int) * (-1)).toNat]?).toArray = xs.toList.reverse.toArray := by
  have e : (fun (k : Nat) => xs[((xs.size : Int) - 1 + (k : Int) * (-1)).toNat]?) = (fun k => xs[xs.size - 1 - k]?) := by
    funext k
    have : ((xs.size : Int) - 1 + (k : Int) * (-1)).toNat = xs.size - 1 - k := by omega
    rw [this]
  rw [e]
  have e2 : (fun k => xs[xs.size - 1 - k]?) = (fun k => xs[k]?) ∘ fun k => xs.size - 1 - k := rfl
  rw [e2, ← List.filterMap_map, PySem.W.krv_range, List.filterMap_reverse, PySem.W.krv_all]
theorem getItem_tuple_rev {t sl : Addr} {items : Array Value} {vl vu vs : Value} {Q : Value → Shared → Prop} (ht : IsTup s.heap t items) (hs : s.heap.IsSliceOf sl vl vu vs) (pl : IsPart vl none) (pu : IsPart vu none) (ps : IsPart vs (some (-1)))
    (h : Q (.ref s.heap.objs.size) { s with heap := s.heap.push { cls := .type "tuple", data := .seq items.toList.reverse.toArray } })
    (hsz : items.size ≤ sizeLine) : wpAny (model prog w) A (getItem (.ref t) (.ref sl)) Q E s := by
  have htake : sizeOk (.seq items.toList.reverse.toArray) := by
    show items.toList.reverse.toArray.size ≤ sizeLine
    rw [List.size_toArray, List.length_reverse, Array.length_toList]
    exact hsz
  obtain ⟨os, hos, hcs, hds⟩ := id hs
  have hTs : s.TypeIs (.ref sl) "slice" := ⟨os, hos, hcs⟩
  unfold getItem
  try with_reducible refine wpAny_holding ?_
  first | refine wpAny_bind (wpAny_pure ?_) | skip
  refine wpAny_bind (wpAny_sequenceKey ht.typeIs (by decide) ?_)
  refine wpAny_bind (wpAny_callSpecial?_slot (name := Str.ofString "__getitem__") ht.typeIs PyProof.Rows.slot_tuple_getitem
    (wpAny_call_entry PyProof.Rows.slot_tuple_getitem ht.typeIs entry_tuple_getitem ?_ (args_tuple_getitem _ _)))
  show wpAny _ _ (Builtin.Tuple.tupleItemsOf (.ref t) >>= _) _ _ s
  refine wpAny_bind (tupleItemsOf_ ht ?_)
  refine wpAny_bind (wpAny_typeOf hTs ?_)
  rw [if_pos (by decide)]
  refine wpAny_bind (sliceApplied_rev hs pl pu ps ?_)
  have hno : ¬ ((((items.size : Int) - 1) == 0 && (-1 : Int) == 1 && items.size == items.size) = true) := by
    intro q
    rw [Bool.and_eq_true, Bool.and_eq_true] at q
    exact absurd q.1.2 (by decide)
  show wpAny _ _ (if (((items.size : Int) - 1) == 0 && (-1 : Int) == 1 && items.size == items.size) = true then _ else _) _ _ s
  rw [if_neg hno, pick_rev]
  first
    | exact wpAny_bind (m := Builtin.Tuple.tupleExact _) (wpAny_newObj_type (wpAny_pure ⟨_, rfl, wpAny_pure h⟩) htake)
    | exact wpAny_bind (m := Builtin.Tuple.tupleExact _) (wpAny_newObj_type (wpAny_bind (wpAny_pure (wpAny_pure ⟨_, rfl, wpAny_pure h⟩))) htake)
    | exact wpAny_bind (wpAny_bind (m := Builtin.Tuple.tupleExact _) (wpAny_newObj_type (wpAny_pure (wpAny_pure ⟨_, rfl, wpAny_pure h⟩)) htake))
    | exact wpAny_bind (wpAny_bind (m := Builtin.Tuple.tupleExact _) (wpAny_newObj_type (wpAny_pure ⟨_, rfl, wpAny_pure h⟩) htake))
end
section
variable {X : Cx}
def tRevT (K : PySem.W.Frag) (te : TE) : TE := fun σ H Q => te σ H fun x H1 => ∃ a xs, x = .ref a ∧ SqT K H1 a xs ∧ ∀ p, H1 p = none → Q (.ref p) (upd H1 p (.tup xs.reverse))
theorem pe_revT {e : Expr} {te : TE} {k : Nat} {p1 p2 p3 pos : Pos} (he : PE X e te) : PE X (.Subscript e (.Slice none none (some (.UnaryOp .USub (.Constant (.int 1) k p1) p2)) p3) pos) (tRevT X.K te) := by
  refine ⟨fun pins s σ H Q I h => ?_⟩
  refine Subscript_ (thn (he.run pins s σ H _ I h) fun v s1 ⟨x, H1, I1, r1, q1⟩ => ?_)
  obtain ⟨a, xs, ex, hx, q⟩ := q1
  subst ex
  cases r1
  have hst : PO X (some (.UnaryOp .USub (.Constant (.int 1) k p1) p2)) (tPart (tUn (rU fun i => .int (-i)) (tC (.int 1)))) := po_some (pe_un un_neg pe_int)
  refine wpAny_Slice (thn (po_none.run pins s1 σ H1 (fun o H2 => o = none ∧ H2 = H1) I1 ⟨rfl, rfl⟩) fun vl s2 ⟨l, H2, I2, pl, el, e2⟩ => ?_)
  subst el e2
  refine thn (po_none.run pins s2 σ H2 (fun o H3 => o = none ∧ H3 = H2) I2 ⟨rfl, rfl⟩) fun vu s3 ⟨u, H3, I3, pu, eu, e3⟩ => ?_
  subst eu e3
  refine thn (hst.run pins s3 σ H3 (fun o H4 => o = some (-1) ∧ H4 = H3) I3 ⟨1, rfl, -1, rfl, rfl, rfl⟩) fun vs s4 ⟨o, H4, I4, ps, eo, e4⟩ => ?_
  subst eo e4
  have I5 : Inv X pins σ H4 { s4 with heap := s4.heap.push { cls := .type "slice", data := .fields #[vl, vu, vs] } } := I4.kept (t' := s4.toks) fun b ob q => Heap.get?_push_of_some _ q
  obtain ⟨its, r, ht, hz⟩ := I5.tuple hx
  have hlen := r.length
  show wpAny (model X.prog X.w) X.A (subscriptTail e (.Slice none none (some (.UnaryOp .USub (.Constant (.int 1) k p1) p2)) p3) (.ref a) (.ref s4.heap.objs.size)) (EP X pins σ Q) X.xe { s4 with heap := s4.heap.push { cls := .type "slice", data := .fields #[vl, vu, vs] } }
  refine tail_any (ops := [.ref a, .ref s4.heap.objs.size]) ht.typeIs (PyProof.Rows.slot_tuple_getitem.lookup) ?_ (by with_unfolding_all rfl)
  refine getItem_tuple_rev ht (Heap.IsSliceOf.new _ vl vu vs) pl pu ps ?_ (by rw [List.size_toArray]; omega)
  refine ⟨.ref _, _, I5.laid (t' := s4.toks) (o := .tup xs.reverse) (fun b ob q => Heap.get?_push_of_some _ q) (Nat.le_refl _) ?_, rfl, q _ (I5.hok.fresh (Nat.le_refl _))⟩
  exact ⟨by rw [List.length_reverse]; exact hz, _, r.reverse, IsTup.new _ _⟩
end
/-! ### expressions that build values -/
def EvD (K : PySem.W.Frag) (S : List Addr) (te : TE) (σ : L2.St) (H : Hp) (d : D) : Prop := ∀ H1, Stp [] H H1 → ∀ Q : VK, (∀ v H2, Stp [] H1 H2 → Rv K S H2 v d → Q v H2) → te σ H1 Q
def EvDA (K : PySem.W.Frag) (S : List Addr) (ta : TA) (σ : L2.St) (H : Hp) (ds : List D) : Prop := ∀ H1, Stp [] H H1 → ∀ Q : List V → Hp → Prop, (∀ vs H2, Stp [] H1 H2 → RvL K S H2 vs ds → Q vs H2) → ta σ H1 Q
section
variable {K : PySem.W.Frag} {S : List Addr} {te : TE} {ta : TA} {σ : L2.St} {H : Hp} {d : D} {ds : List D}
theorem EvD.bl {b : Bool} : EvD K S (tC (.bl b)) σ H (.bl b) := fun H1 _ _ k => k _ H1 (Stp.refl _ _) (.bl b)
theorem EvD.int {i : Int} : EvD K S (tC (.int i)) σ H (.int i) := fun H1 _ _ k => k _ H1 (Stp.refl _ _) (.int i)
theorem EvD.non : EvD K S (tC .non) σ H .non := fun H1 _ _ k => k _ H1 (Stp.refl _ _) .non
theorem EvD.str {s : Str} (h : s.cps.toList.length ≤ 100000 := by decide +kernel) : EvD K S (tC (.str s)) σ H (wd s) := fun H1 _ _ k => k _ H1 (Stp.refl _ _) (Rv.lit s h)
theorem EvD.var {i : Nat} {v : V} (r : Rv K S H v d) (e : σ[i]? = some (some v) := by rfl) : EvD K S (tVar i) σ H d := fun H1 s _ k => ⟨v, e, k v H1 (Stp.refl _ _) (r.up s)⟩
theorem EvDA.nil : EvDA K S tNil σ H [] := fun H1 _ _ k => k [] H1 (Stp.refl _ _) .nil
theorem EvDA.cons (h : EvD K S te σ H d) (g : EvDA K S ta σ H ds) : EvDA K S (tCons te ta) σ H (d :: ds) := fun H1 s Q k =>
  h H1 s _ fun v H2 s2 r => g H2 (s.trans s2) _ fun vs H3 s3 rs => k (v :: vs) H3 (s2.trans s3) (.cons (r.up s3) rs)
theorem EvD.tup (h : EvDA K S ta σ H ds) (hl : ds.length ≤ 1000) : EvD K S (tTup ta) σ H (.tup ds) := fun H1 s Q k =>
  h H1 s _ fun vs H2 s2 rs => ⟨sz (by rw [rs.len]; omega), fun p np => k _ _ (s2.new' np) (Rv.newT np rs (by omega))⟩
theorem EvD.lst (L : Lsts H S) (h : EvDA K S ta σ H ds) (hl : ds.length ≤ 1000) : EvD K S (tLst ta) σ H (.lst ds) := fun H1 s Q k =>
  h H1 s _ fun vs H2 s2 rs => ⟨sz (by rw [rs.len]; omega), fun p np => k _ _ (s2.new' np) (Rv.newL (Pv.Lsts.up L (s.trans s2)) np rs (by omega))⟩
theorem EvD.exc {C : Addr} (ok : OkC K C) (h : EvD K S te σ H d) : EvD K S (fun σ H Q => te σ H fun _ H1 => ∀ a, H1 a = none → Q (.ref a) (upd H1 a (ExO (.ref C) a))) σ H (.obj C) := fun H1 s Q k =>
  h H1 s _ fun v H2 s2 _ => fun a na => k _ _ (s2.new' na) (.obj upd_same ok)
theorem EvD.pow {i j : Int} (h : CPow i j) : EvD K S (tOp (rI CPow fun i j => .int (i ^ j.toNat)) (tC (.int i)) (tC (.int j))) σ H (.int (i ^ j.toNat)) := fun H1 s Q k =>
  ⟨i, j, rfl, rfl, h, k _ _ (Stp.refl _ _) (.int _)⟩
theorem EvD.neg {i : Int} : EvD K S (tUn (rU fun i => .int (-i)) (tC (.int i))) σ H (.int (-i)) := fun H1 s Q k => ⟨i, rfl, k _ _ (Stp.refl _ _) (.int _)⟩
theorem EvDA.use (h : EvDA K S ta σ H ds) {Q : List V → Hp → Prop} (k : ∀ vs H2, Stp [] H H2 → RvL K S H2 vs ds → Q vs H2) : ta σ H Q := h H (Stp.refl _ _) Q k
theorem EvD.use (h : EvD K S te σ H d) {Q : VK} (k : ∀ v H2, Stp [] H H2 → Rv K S H2 v d → Q v H2) : te σ H Q := h H (Stp.refl _ _) Q k
theorem EvDA.newl (h : EvDA K S ta σ H ds) (hl : ds.length ≤ 1000) {Q : VK} (k : ∀ p vs H2, Stp [] H H2 → H p = none → H2 p = some (.lst vs) → RvL K S H2 vs ds → Q (.ref p) H2) : tLst ta σ H Q :=
  h.use fun vs H2 s rs => ⟨sz (by rw [rs.len]; omega), fun p np => k p vs _ (s.new' np) (s.fresh (fun m => nomatch m) np) upd_same (rs.up (Stp.new np []))⟩
end
/-! ### lists of truths, compared -/
theorem dp_bools {K : PySem.W.Frag} {H : Hp} : ∀ (bs : List Bool), DpAll K H (bs.map V.bl) (bs.map PyData.bool)
  | [] => .nil
  | b :: bs => .cons (.bl b) (dp_bools bs)
theorem lay_bools : ∀ (bs : List Bool), PyData.canLayAll0 (bs.map PyData.bool) = true
  | [] => rfl
  | b :: bs => by
    show (PyData.canLay0 (.bool b) && PyData.canLayAll0 (bs.map PyData.bool)) = true
    rw [lay_bools bs]
    rfl
theorem dep_bools : ∀ (bs : List Bool), PyData.depthAll (bs.map PyData.bool) = 0
  | [] => rfl
  | b :: bs => by
    show max 0 (PyData.depthAll (bs.map PyData.bool)) = 0
    rw [dep_bools bs]
    rfl
theorem shaped_bools (bs : List Bool) : SeqAt.shaped (.list (bs.map PyData.bool)) = true := by
  unfold SeqAt.shaped
  rw [show PyData.canLay0 (.list (bs.map PyData.bool)) = true from lay_bools bs]
  rw [show PyData.depth (.list (bs.map PyData.bool)) = 0 + 1 by show PyData.depthAll _ + 1 = _; rw [dep_bools]]
  rfl
/-- the same list of truths twice: != says no -/
theorem ne_bools {K : PySem.W.Frag} {H : Hp} {p q : Addr} {bs : List Bool} {Q : VK} (hp : SqL K H p (bs.map V.bl)) (hq : SqL K H q (bs.map V.bl)) (k : Q (.bl false) H) : rNeD K (.ref p) (.ref q) H Q := by
  refine ⟨.list (bs.map PyData.bool), .list (bs.map PyData.bool), .lst hp (dp_bools bs), .lst hq (dp_bools bs), shaped_bools bs, shaped_bools bs, ?_⟩
  rw [SeqAt.eqv_refl _ (show PyData.canLay0 (.list (bs.map PyData.bool)) = true from lay_bools bs)]
  exact k
end Pv
namespace Pv
open PySem PySem.Spec PyProof.Rows L2 Pg
/-- the ways of an expression, joined by what they leave -/
theorem te_join {te : TE} {σ : L2.St} {H : Hp} {Q : VK} (I : V → Hp → Prop) (h : (∀ v H', I v H' → Q v H') → te σ H Q) (k : ∀ v H', I v H' → Q v H') : te σ H Q := h k
/-- xs + ys, new lists of values -/
theorem cat_use {K : PySem.W.Frag} {S : List Addr} {H : Hp} {a b : Addr} {xs ys : List V} {ds es : List D} {Q : VK} (ha : H a = some (.lst xs)) (hb : H b = some (.lst ys)) (ra : RvL K S H xs ds) (rb : RvL K S H ys es) (hl : ds.length + es.length ≤ 100000)
    (k : ∀ p, H p = none → ∀ H' zs, Stp [] H H' → H' p = some (.lst zs) → RvL K S H' zs (ds ++ es) → Q (.ref p) H') : rCat (.ref a) (.ref b) H Q :=
  ⟨a, b, xs, ys, rfl, rfl, ha, hb, by rw [ra.len, rb.len]; exact sz hl, fun p np => k p np _ _ (Stp.new np _) upd_same ((ra.app rb).up (Stp.new np _))⟩
/-- xs + ys, also of a list that is locked -/
def rCatS (K : PySem.W.Frag) : R2 := fun x y H Q => ∃ l b xs zs, x = .ref l ∧ y = .ref b ∧ SqL K H l xs ∧ SqL K H b zs ∧ xs.length + zs.length ≤ sizeLine ∧ ∀ p, H p = none → Q (.ref p) (upd H p (.lst (xs ++ zs)))
theorem op_catS {X : Cx} : OpR X (binaryOp .Add) (rCatS X.K) := by
  intro pins s σ H x y v u Q I rx ry h
  obtain ⟨l, b, xs, zs, rfl, rfl, hH, hB, hz, q⟩ := h
  cases rx
  cases ry
  obtain ⟨its, r, pl, _⟩ := I.list hH
  obtain ⟨its2, r2, pl2, _⟩ := I.list hB
  have hl := r.length
  have hl2 := r2.length
  have ea : its.toArray ++ its2.toArray = (its ++ its2).toArray := by simp
  obtain ⟨⟨cls, dd, data, sl⟩, ho, hc, n, hd⟩ := pl.isList
  obtain ⟨⟨cls2, dd2, data2, sl2⟩, ho2, hc2, n2, hd2⟩ := pl2.isList
  simp only at hc hd hc2 hd2
  subst hc hd hc2 hd2
  refine concat_meets ⟨_, ho, rfl⟩ ⟨_, ho2, rfl⟩ noFill_list_add seq_list_add PySem.F.slot_list_add PySem.F.entry_list_add (PySem.F.args_list_add_2 _ _) (list_addW l b its.toArray its2.toArray n n2 dd dd2 sl sl2 (by rw [List.size_toArray, List.size_toArray]; omega)) ⟨ho, ho2, ?_⟩
  rw [ea]
  exact ⟨.ref _, _, I.lnew (t' := s.toks) (r.append r2) (by rw [List.length_append]; omega), rfl, q _ I.fresh⟩
theorem out_of {b p : Addr} {H : Hp} {o : HO} (h : H b = some o) (np : H p = none) : p ∉ [b] := fun m => by
  rw [List.mem_singleton.mp m, h] at np
  cases np
end Pv
namespace Pv
open PySem PySem.Spec PyProof.Rows L2 Pg
section
variable {K : PySem.W.Frag} {S : List Addr} {te : TE} {ta : TA} {σ : L2.St} {H : Hp} {d : D} {ds es : List D}
theorem catT {a b : Addr} {xs ys : List V} {Q : VK} (ha : SqT K H a xs) (hb : SqT K H b ys) (ra : RvL K S H xs ds) (rb : RvL K S H ys es) (hl : ds.length + es.length ≤ 100000)
    (k : ∀ p zs H', Stp [] H H' → SqT K H' p zs → RvL K S H' zs (ds ++ es) → Q (.ref p) H') : rCatA K (.ref a) (.ref b) H Q :=
  catA_use ha hb (by rw [ra.len, rb.len]; exact hl) fun p H' s h => k p _ H' s h ((ra.app rb).up s)
theorem upT {a : Addr} {xs : List V} {n : Nat} {Q : VK} (ha : SqT K H a xs) (ra : RvL K S H xs ds) (k : ∀ p zs H', Stp [] H H' → SqT K H' p zs → RvL K S H' zs (ds.take n) → Q (.ref p) H') : rSlA K (.ref a) none (some (n : Int)) H Q :=
  slA_use ha fun p H' s h => k p _ H' s (by rwa [cut_upto] at h) ((ra.take n).up s)
theorem fromT {a : Addr} {xs : List V} {n : Nat} {Q : VK} (ha : SqT K H a xs) (ra : RvL K S H xs ds) (k : ∀ p zs H', Stp [] H H' → SqT K H' p zs → RvL K S H' zs (ds.drop n) → Q (.ref p) H') : rSlA K (.ref a) (some (n : Int)) none H Q :=
  slA_use ha fun p H' s h => k p _ H' s (by rwa [cut_from] at h) ((ra.drop n).up s)
theorem fromT1 {a : Addr} {xs : List V} {n : Nat} {Q : VK} (ha : SqT K H a xs) (ra : RvL K S H xs ds) (k : ∀ p zs H', Stp [] H H' → SqT K H' p zs → RvL K S H' zs (ds.drop (n + 1)) → Q (.ref p) H') : rSlA K (.ref a) (some ((n : Int) + 1)) none H Q :=
  Pv.fromT (n := n + 1) ha ra k
/-! more expressions -/
theorem Rv.tupE {a : V} (r : Rv K S H a (.tup ds)) : ∃ p vs, a = .ref p ∧ SqT K H p vs ∧ vs.length ≤ 100000 ∧ RvL K S H vs ds := by
  cases r with
  | tup h n r => exact ⟨_, _, rfl, h, n, r⟩
theorem EvD.list (L : Lsts H S) (h : EvD K S te σ H (.tup ds)) : EvD K S (tCB (fun xs H Q => ∃ p ys, xs = [.ref p] ∧ (SqL K H p ys ∨ SqT K H p ys) ∧ ∀ l, H l = none → Q (.ref l) (upd H l (.lst ys))) (tCons te tNil)) σ H (.lst ds) := fun H1 s Q k =>
  h H1 s _ fun v H2 s2 r => by
    obtain ⟨p, vs, rfl, hs, n, rl⟩ := r.tupE
    exact ⟨_, _, rfl, .inr hs, fun l nl => k _ _ (s2.new' nl) (Rv.newL (Pg.Lsts.stp L (s.trans s2)) nl rl (by rw [← rl.len]; exact n))⟩
theorem EvD.upT {n : Nat} (h : EvD K S te σ H (.tup ds)) : EvD K S (tSl (rSlA K) te tNoPart (tPart (tC (.int (n : Int))))) σ H (.tup (ds.take n)) := fun H1 s Q k =>
  h H1 s _ fun v H2 s2 r => by
    obtain ⟨p, vs, rfl, hs, n, rl⟩ := r.tupE
    exact ⟨_, rfl, Pv.upT hs rl fun p zs H' s3 h2 r2 => k _ _ (s2.trans s3) (.tup h2 (by rw [r2.len, List.length_take, ← rl.len]; omega) r2)⟩
theorem EvD.fromT {n : Nat} (h : EvD K S te σ H (.tup ds)) : EvD K S (tSl (rSlA K) te (tPart (tC (.int (n : Int)))) tNoPart) σ H (.tup (ds.drop n)) := fun H1 s Q k =>
  h H1 s _ fun v H2 s2 r => by
    obtain ⟨p, vs, rfl, hs, n, rl⟩ := r.tupE
    exact ⟨_, rfl, Pv.fromT hs rl fun p zs H' s3 h2 r2 => k _ _ (s2.trans s3) (.tup h2 (by rw [r2.len, List.length_drop, ← rl.len]; omega) r2)⟩
theorem EvD.catT {tb : TE} (h : EvD K S te σ H (.tup ds)) (g : EvD K S tb σ H (.tup es)) (hl : ds.length + es.length ≤ 100000) : EvD K S (tOp (rCatA K) te tb) σ H (.tup (ds ++ es)) := fun H1 s Q k =>
  h H1 s _ fun v H2 s2 r => g H2 (s.trans s2) _ fun u H3 s3 q => by
    obtain ⟨p, vs, rfl, hs, n, rl⟩ := (r.up s3).tupE
    obtain ⟨p2, vs2, rfl, hs2, n2, rl2⟩ := q.tupE
    exact Pv.catT hs hs2 rl rl2 hl fun p zs H' s4 h2 r2 => k _ _ ((s2.trans s3).trans s4) (.tup h2 (by rw [r2.len, List.length_append]; exact hl) r2)
theorem EvD.ixT {i : Nat} (h : EvD K S te σ H (.tup ds)) (e : ds[i]? = some d) : EvD K S (tOp (rIxT K) te (tC (.int (i : Int)))) σ H d := fun H1 s Q k =>
  h H1 s _ fun v H2 s2 r => by
    obtain ⟨p, vs, rfl, hs, n, rl⟩ := r.tupE
    have hi : i < vs.length := by
      rw [rl.len]
      exact (List.getElem?_eq_some_iff.mp e).1
    obtain ⟨d', e', r'⟩ := rl.get (List.getElem?_eq_getElem hi)
    rw [e] at e'
    cases e'
    exact ⟨p, vs, _, _, rfl, rfl, hs, atI_nat (List.getElem?_eq_getElem hi), k _ _ s2 r'⟩
theorem EvD.revT (h : EvD K S te σ H (.tup ds)) : EvD K S (tRevT K te) σ H (.tup ds.reverse) := fun H1 s Q k =>
  h H1 s _ fun v H2 s2 r => by
    obtain ⟨p, vs, rfl, hs, n, rl⟩ := r.tupE
    exact ⟨p, vs, rfl, hs, fun p np => k _ _ (s2.new' np) (Rv.newT np rl.rev (by rw [List.length_reverse, ← rl.len]; exact n))⟩
theorem op_newl {r : R2} {tb : TE} {Q : VK} (h : EvDA K S ta σ H ds) (hl : ds.length ≤ 1000) (k : ∀ p vs H2, Stp [] H H2 → H p = none → H2 p = some (.lst vs) → RvL K S H2 vs ds → tb σ H2 fun y H3 => r (.ref p) y H3 Q) : tOp r (tLst ta) tb σ H Q := h.newl hl k
theorem EvDA.one (h : EvD K S te σ H d) : EvDA K S (tCons te tNil) σ H [d] := .cons h .nil
end
end Pv
namespace Pv
open PySem PySem.Spec PyProof.Rows L2 Pg
/-! ### xs == [], xs any values -/
def rEqNil (K : PySem.W.Frag) : R2 := fun x y H Q => ∃ a b xs, x = .ref a ∧ y = .ref b ∧ a ≠ b ∧ SqL K H a xs ∧ SqL K H b [] ∧ Q (.bl xs.isEmpty) H
def rNeNil (K : PySem.W.Frag) : R2 := fun x y H Q => ∃ a b xs, x = .ref a ∧ y = .ref b ∧ a ≠ b ∧ SqL K H a xs ∧ SqL K H b [] ∧ Q (.bl (!xs.isEmpty)) H
theorem op_eqNil {X : Cx} (hu : X.A.units + 64 < cLine) : OpR X (compareOp .Eq) (rEqNil X.K) := by
  intro pins s σ H x y v u Q I rx ry h
  obtain ⟨a, b, xs, rfl, rfl, ne, hH, hB, q⟩ := h
  cases rx
  cases ry
  obtain ⟨its, r, pl, _⟩ := I.list hH
  obtain ⟨its2, r2, pl2, _⟩ := I.list hB
  cases r2
  cases xs with
  | nil =>
    cases r
    refine SeqAt.RcAt.lists (e := fun _ => true) pl.isList pl2.isList rfl (by omega) (fun j h1 h2 => absurd h1 (by simp)) _ _ _ _ ?_
    exact ⟨.bl true, H, I, rfl, q⟩
  | cons x xs =>
    cases r with
    | cons r1 r =>
      refine SeqAt.RcAt.lists_lengths pl.isList pl2.isList (by simp) (by omega) _ _ _ _ ?_
      exact ⟨.bl false, H, I, rfl, q⟩
theorem op_neNil {X : Cx} (hu : X.A.units + 64 < cLine) : OpR X (compareOp .NotEq) (rNeNil X.K) := by
  intro pins s σ H x y v u Q I rx ry h
  obtain ⟨a, b, xs, rfl, rfl, ne, hH, hB, q⟩ := h
  cases rx
  cases ry
  obtain ⟨its, r, pl, _⟩ := I.list hH
  obtain ⟨its2, r2, pl2, _⟩ := I.list hB
  cases r2
  cases xs with
  | nil =>
    cases r
    refine SeqAt.RcNeAt.lists (e := fun _ => true) pl.isList pl2.isList rfl (by omega) (fun j h1 h2 => absurd h1 (by simp)) _ _ _ _ ?_
    exact ⟨.bl false, H, I, rfl, q⟩
  | cons x xs =>
    cases r with
    | cons r1 r =>
      refine SeqAt.RcNeAt.lists_lengths pl.isList pl2.isList (by simp) (by omega) _ _ _ _ ?_
      exact ⟨.bl true, H, I, rfl, q⟩
/-- one value told twice -/
theorem eq_rel {v : V} {d : D} {K : PySem.W.Frag} {S : List Addr} {H : Hp} {u u' : Value} (h : Rv K S H v d) (r : RelV v u) (r' : RelV v u') (A : Around) (s : Shared) : SeqAt.EqAt A s u u' true := by
  cases h with
  | non => cases r; cases r'; exact SeqAt.EqAt.same _
  | bl b => cases r; cases r'; exact SeqAt.EqAt.same _
  | int i =>
    obtain ⟨t, rfl⟩ := r
    obtain ⟨t', rfl⟩ := r'
    have := (MeetsSeq.EqGives.int i i t t').at A s
    rwa [show (i == i) = true from beq_self_eq_true i] at this
  | str l hl =>
    obtain ⟨t, rfl⟩ := r
    obtain ⟨t', rfl⟩ := r'
    have := (SeqRoads2.EqGives.str (tx l) (tx l) t t').at A s
    rwa [show ((tx l).cps.toList == (tx l).cps.toList) = true from beq_self_eq_true _] at this
  | tup _ _ _ => cases r; cases r'; exact SeqAt.EqAt.same _
  | lst _ _ _ _ => cases r; cases r'; exact SeqAt.EqAt.same _
  | obj _ _ => cases r; cases r'; exact SeqAt.EqAt.same _
theorem vals_at : ∀ {vs : List V} {us us' : List Value} {ds : List D} {K : PySem.W.Frag} {S : List Addr} {H : Hp}, RvL K S H vs ds → Vals vs us → Vals vs us' → ∀ (A : Around) (s : Shared) (j : Nat) (h1 : j < us.length) (h2 : j < us'.length), SeqAt.EqAt A s us[j] us'[j] true
  | _, _, _, _, _, _, _, .nil, .nil, .nil, _, _, _, h1, _ => absurd h1 (Nat.not_lt_zero _)
  | _, _, _, _, _, _, _, .cons h _, .cons r _, .cons r' _, A, s, 0, _, _ => eq_rel h r r' A s
  | _, _, _, _, _, _, _, .cons _ h, .cons _ r, .cons _ r', A, s, j + 1, h1, h2 => vals_at h r r' A s j (Nat.lt_of_succ_lt_succ h1) (Nat.lt_of_succ_lt_succ h2)
/-- xs != ys, both hold the same values -/
def rNeL (K : PySem.W.Frag) : R2 := fun x y H Q => ∃ (S : List Addr) (a b : Addr) (xs : List V) (ds : List D), x = .ref a ∧ y = .ref b ∧ SqL K H a xs ∧ SqL K H b xs ∧ RvL K S H xs ds ∧ Q (.bl false) H
theorem op_neL {X : Cx} (hu : X.A.units + 64 < cLine) : OpR X (compareOp .NotEq) (rNeL X.K) := by
  intro pins s σ H x y v u Q I rx ry h
  obtain ⟨S, a, b, xs, ds, rfl, rfl, hH, hB, rv, q⟩ := h
  cases rx
  cases ry
  obtain ⟨its, r, pl, _⟩ := I.list hH
  obtain ⟨its2, r2, pl2, _⟩ := I.list hB
  have e1 := Vals.length r
  have e2 := Vals.length r2
  refine SeqAt.RcNeAt.lists (e := fun _ => true) pl.isList pl2.isList (by simp; omega) (by omega) (fun j h1 h2 => ?_) _ _ _ _ ?_
  · have := vals_at rv r r2 X.A.in1 s j (by simpa using h1) (by simpa using h2)
    simpa using this
  · refine ⟨.bl _, H, I, rfl, ?_⟩
    rw [show ((List.range its.toArray.size).all fun _ => true) = true from by simp]
    exact q
end Pv
namespace PySem.W
open PySem PySem.Spec PySem.Calls PyProof.Rows Sem
/-- what a class says of == and != : no own ones -/
structure SameC (K : Frag) (D : Addr) : Prop where
  eq : findIn K (.ref D) "__eq__" = some (some (.builtin "object.__eq__"))
  ne : findIn K (.ref D) "__ne__" = some (some (.builtin "object.__ne__"))
  sub : subIn K (.ref D) (.type "object") = some true
section
variable {prog : Program} {w : World} {A : Around} {E : Value → Shared → Prop} {K : Frag} {x D : Addr} {ox : Obj} {h : Heap} {g : Array GenState} {d : Drawn} {t : Nat} {os : OsState}
theorem sp_same {name : Str} {id : String} {args : List Value} {Q : Option Value → Shared → Prop} (LS : Looks (model prog w) h (specialOf (.ref x) name) (some (.builtin id))) (S : PySem.Slot "object" name id)
    (hcall : wpAny (model prog w) A (call (.builtin id) (.ref x :: args)) (fun v => Q (some v)) E ⟨h, g, d, t, os⟩) : wpAny (model prog w) A (callSpecialIfBound? (.ref x) name args) Q E ⟨h, g, d, t, os⟩ := by
  simp only [callSpecialIfBound?, bindSpecialIfBound?]
  refine wpAny_holding (wpAny_bind (wpAny_bind (LS.at ?_)))
  simp only [S.bind]
  refine wpAny_bind (wpAny_askSetting (wpAny_ite ?_))
  have fin : wpAny (model prog w) A (call (.builtin id) ([.ref x] ++ args) >>= fun v => Pure.pure (some v)) Q E ⟨h, g, d, t, os⟩ :=
    wpAny_bind (wpAny_mono hcall (fun v s' h' => wpAny_pure h') fun _ _ h' => h')
  split
  · exact wpAny_bind (wpAny_pure (wpAny_pure fin))
  · exact wpAny_tryCatch (wpAny_bind (wpAny_pure (wpAny_pure fin)))
theorem eq_same (C : SameC K D) (X : K.In h) (I : InstAt h x ox D none) {Q : Option Value → Shared → Prop} (hq : Q (some (.bool true)) ⟨h, g, d, t, os⟩) :
    wpAny (model prog w) A (callSpecialIfBound? (.ref x) "__eq__" [.ref x]) Q E ⟨h, g, d, t, os⟩ := by
  have L0 := I.type (M := model prog w)
  have sub : Looks (model prog w) h (isInstance (.ref x) (.type "object")) true := L0.andThen (looks_subIn X C.sub)
  refine sp_same (L0.andThen (looks_findIn X C.eq)) PySem.F.cmp_object.eq ?_
  refine wpAny_call (codeAny_call_builtin PySem.F.cmp_object.eq.plain PySem.F.cmpEntry_eq ?_)
  exact @check_slot (model prog w) _ _ ⟨h, g, d, t, os⟩ "object.__eq__" "object" "__eq__" (.ref x) [.ref x] [] _ PySem.F.cmpKind_eq PySem.F.cmpSplit_eq sub (PySem.F.cmpArgs_eq _ _) (objEq_entry_same hq)
theorem ne_same (C : SameC K D) (X : K.In h) (I : InstAt h x ox D none) (hu : A.units + 1 < cLine) {Q : Option Value → Shared → Prop} (hq : Q (some (.bool false)) ⟨h, g, d, t, os⟩) :
    wpAny (model prog w) A (callSpecialIfBound? (.ref x) "__ne__" [.ref x]) Q E ⟨h, g, d, t, os⟩ := by
  have L0 := I.type (M := model prog w)
  have sub : Looks (model prog w) h (isInstance (.ref x) (.type "object")) true := L0.andThen (looks_subIn X C.sub)
  refine sp_same (L0.andThen (looks_findIn X C.ne)) PySem.F.cmp_object.ne ?_
  refine wpAny_call (codeAny_call_builtin PySem.F.cmp_object.ne.plain PySem.F.cmpEntry_ne ?_)
  refine @check_slot (model prog w) _ _ ⟨h, g, d, t, os⟩ "object.__ne__" "object" "__ne__" (.ref x) [.ref x] [] _ PySem.F.cmpKind_ne PySem.F.cmpSplit_ne sub (PySem.F.cmpArgs_ne _ _) ?_
  unfold Builtin.«object.__ne__»
  repeat (first | with_reducible refine wpAny_cRoomFor hu ?_ | with_reducible refine eq_same C X I ?_ | wp_step)
  exact hq
theorem compare_ne_same (C : SameC K D) (X : K.In h) (I : InstAt h x ox D none) (hu : A.units + 1 < cLine) {Q : Value → Shared → Prop} (hq : Q (.bool false) ⟨h, g, d, t, os⟩) :
    wpAny (model prog w) A (compareOp .NotEq (.ref x) (.ref x)) Q E ⟨h, g, d, t, os⟩ := by
  have hu0 : A.units < cLine := Nat.lt_of_succ_lt hu
  show wpAny (model prog w) A (richCompare .NotEq (.ref x) (.ref x)) Q E ⟨h, g, d, t, os⟩
  simp only [richCompare, cmpInfo_NotEq, oneThing_ref]
  have L0 := I.type (M := model prog w)
  have tc : ∀ {Q : Option Value → Shared → Prop}, Q (some (.bool false)) ⟨h, g, d, t, os⟩ → wpAny (model prog w) A (tryCompare (.ref x) "__ne__" (.ref x)) Q E ⟨h, g, d, t, os⟩ := fun hq => by
    simp only [tryCompare]
    exact wpAny_bind (ne_same C X I hu (wpAny_pure hq))
  repeat (first | with_reducible refine wpAny_cRoomFor hu0 ?_ | with_reducible refine L0.at ?_ | with_reducible refine tc ?_ | wp_step)
  exact hq
end
end PySem.W
namespace Pv
open PySem PySem.Spec PyProof.Rows L2 Pg
/-- x != x, any value -/
def rNeV (K : PySem.W.Frag) : R2 := fun x y H Q => x = y ∧ ∃ (S : List Addr) (d : D), Rv K S H x d ∧ (∀ C, d = .obj C → PySem.W.SameC K C) ∧ Q (.bl false) H
/-- kept != due: lists of the same values, or one value -/
def rNeK (K : PySem.W.Frag) : R2 := fun x y H Q => rNeL K x y H Q ∨ rNeV K x y H Q
theorem op_neK {X : Cx} (hu : X.A.units + 64 < cLine) : OpR X (compareOp .NotEq) (rNeK X.K) := by
  intro pins s σ H x y v u Q I rx ry h
  rcases h with h | ⟨rfl, S, d, rv, ob, q⟩
  · exact op_neL hu pins s σ H x y v u Q I rx ry h
  · have sc := fun e => op_ne pins s σ H x x v u Q I rx ry ⟨e, by rw [decide_eq_true rfl]; exact q⟩
    cases rv with
    | non => exact sc rfl
    | bl b => exact sc rfl
    | int i => exact sc rfl
    | str l hl => exact sc rfl
    | lst ha hn hl rl => exact op_neL hu pins s σ H _ _ v u Q I rx ry ⟨S, _, _, _, _, rfl, rfl, SqL.of ha, SqL.of ha, rl, q⟩
    | tup hs hl rl =>
      cases rx
      cases ry
      obtain ⟨its, r, pl, _⟩ := I.tuple hs
      refine SeqAt.RcNeAt.tuples (e := fun _ => true) pl pl (by omega) (fun j h1 h2 => SeqAt.EqAt.same _) _ _ _ _ ?_
      refine ⟨.bl _, H, I, rfl, ?_⟩
      have e : ∀ n : Nat, ((List.range n).all fun _ => true) = true := fun n => List.all_eq_true.mpr fun _ _ => rfl
      rw [e]
      simpa using q
    | obj ho ok =>
      rename_i a C
      cases rx
      cases ry
      obtain ⟨⟨oe, vs, e1, ⟨e2, e3⟩, e4, _⟩, _⟩ := I.hok _ _ ho
      have J : PySem.W.InstAt s.heap a oe C none := by
        obtain ⟨oc, od, oda, osl⟩ := oe
        dsimp only at e2 e3 e4
        subst e2 e3 e4
        exact ⟨e1, rfl, rfl, trivial⟩
      obtain ⟨hp, g, d, t, os⟩ := s
      refine PySem.W.compare_ne_same (ob C rfl) I.kIn J (by omega) ⟨.bl false, H, I, rfl, q⟩
end Pv
namespace Pg
open PySem PySem.Spec PyProof.Rows L2 PySem.Froz
/-! ### sets of texts, with what their order leans on -/
/-- the payload D holds the texts l; its table rises, and its order is to be told -/
structure TxR (P : Program) (w : World) (D : SD) (l : List Str) : Prop where
  ok : TxOk P w D l
  all : ∃ us : List Tok, us.length = l.length ∧ D.1.toList.Perm ((l.zip us).map fun p => (hashStr w p.1, Value.str p.1 p.2))
  nd : l.Nodup
  ris : Ris D.2.2.place.toList
  led : w.params.followText "set-order" = true ∨ D.2.2.led = true
section
variable {P : Program} {w : World} {A : Around} {E : Value → Shared → Prop} {s : Shared}
theorem tail_ris {ep : Nat} {xs : Array (Int × Value)} {t : SetTable} {b : Bool} (h : Ris t.place.toList) : Ris (tailTx ep xs t b).2.2.place.toList := by
  unfold tailTx
  by_cases c : (!b && t.tooFull) = true
  · rw [if_pos c]; exact relayAll_ris _ _ _
  · rw [if_neg c]; exact h
theorem tail_led {ep : Nat} {xs : Array (Int × Value)} {t : SetTable} {b : Bool} : (tailTx ep xs t b).2.2.led = t.led := by
  unfold tailTx
  by_cases c : (!b && t.tooFull) = true
  · rw [if_pos c]; exact relayAll_led _ _ _
  · rw [if_neg c]
theorem tail_all {ep : Nat} {xs : Array (Int × Value)} {t : SetTable} {b : Bool} : (tailTx ep xs t b).1.toList.Perm xs.toList := by
  unfold tailTx
  by_cases c : (!b && t.tooFull) = true
  · rw [if_pos c]; exact relayAll_perm _ _ _
  · rw [if_neg c]
theorem TxR.add {D : SD} {l : List Str} {k : Str} (u : Tok) (R : TxR P w D l) (hk : k ∉ l) : TxR P w (addTx (hashStr w k) (.str k u) D) (k :: l) := by
  obtain ⟨us, hu, hp⟩ := R.all
  refine ⟨add_ok u R.ok, ⟨u :: us, by rw [List.length_cons, List.length_cons, hu], ?_⟩, List.nodup_cons.mpr ⟨hk, R.nd⟩, ?_, ?_⟩
  · have p1 : (addTx (hashStr w k) (.str k u) D).1.toList.Perm (D.1.push (hashStr w k, .str k u)).toList := tail_all.trans (layNew_perm _ _ _ _)
    rw [Array.toList_push] at p1
    exact p1.trans ((List.perm_append_singleton _ _).trans (hp.cons _))
  · refine tail_ris ?_
    have q := layNew_ris D.2.2 D.1 (hashStr w k) (.str k u) R.ris
    split
    · exact q
    · exact q
  · have e1 : (addTx (hashStr w k) (.str k u) D).2.2.led = D.2.2.led := by
      unfold addTx
      rw [tail_led]
      have q := layNew_led D.2.2 D.1 (hashStr w k) (.str k u)
      split
      · exact q
      · exact q
    exact R.led.imp id fun z => e1.trans z
/-- a text that is there already is put in -/
theorem add_old {a : Addr} {T : String} {D : SD} {l : List Str} {k : Str} {u : Tok} {Q : Bool → Shared → Prop} (at_ : s.heap.get? a = some (sObj T D)) (F : TxOk P w D l) (hk : k ∈ l) (hb : l.length < scanBound)
    (h : Q false s) : wpAny (model P w) A (setAddHashed a (.str k u) (hashStr w k)) Q E s := by
  obtain ⟨xs, ep, t⟩ := D
  obtain ⟨e, he, hq⟩ := (F.mem k).mp hk
  have size : xs.size < scanBound := by have e : xs.size = l.length := F.sz; omega
  obtain ⟨j, hj⟩ : ∃ j, List.findIdx? (fun e => (strKind P w).is k e.2) xs.toList = some j := by
    cases c : List.findIdx? (fun e => (strKind P w).is k e.2) xs.toList with
    | some j => exact ⟨j, rfl⟩
    | none =>
      have := List.findIdx?_eq_none_iff.mp c e he
      rw [hq] at this
      cases this
  have dat : (sObj T (xs, ep, t)).data = .set xs ep t := rfl
  unfold setAddHashed setAddHashedIn
  refine wpAny_holding (wpAny_bind (wpAny_setState_of at_ dat F.fit ?_)); dsimp only
  rw [byScan_of rfl size F.el]; simp only [↓reduceIte]
  unfold setAddByScan
  refine wpAny_bind (wpAny_bind (wpAny_rule (wpAny_bind (wpAny_setScan_of (knd := strKind P w) (k := k) (is_str k u) at_ dat F.fit F.el ?_))))
  rw [hj]; dsimp only
  exact wpAny_pure (wpAny_pure h)
end
end Pg
namespace Pg
open PySem PySem.Spec PyProof.Rows L2 PySem.Froz
/-- of some texts each once: in the order in which a set takes them -/
def onceL (acc : List Str) : List Str → List Str
  | [] => acc
  | x :: xs => onceL (if x ∈ acc then acc else x :: acc) xs
theorem once_mem : ∀ (xs acc : List Str) (k : Str), k ∈ onceL acc xs ↔ k ∈ acc ∨ k ∈ xs
  | [], acc, k => by show k ∈ acc ↔ _; simp
  | x :: xs, acc, k => by
    show k ∈ onceL (if x ∈ acc then acc else x :: acc) xs ↔ _
    rw [once_mem xs]
    by_cases h : x ∈ acc
    · rw [if_pos h, List.mem_cons]
      constructor
      · rintro (q | q)
        · exact .inl q
        · exact .inr (.inr q)
      · rintro (q | rfl | q)
        · exact .inl q
        · exact .inl h
        · exact .inr q
    · rw [if_neg h, List.mem_cons, List.mem_cons]
      constructor
      · rintro ((q | q) | q)
        · exact .inr (.inl q)
        · exact .inl q
        · exact .inr (.inr q)
      · rintro (q | q | q)
        · exact .inl (.inr q)
        · exact .inl (.inl q)
        · exact .inr q
theorem once_len : ∀ (xs acc : List Str), (onceL acc xs).length ≤ acc.length + xs.length
  | [], acc => Nat.le_refl _
  | x :: xs, acc => by
    have h := once_len xs (if x ∈ acc then acc else x :: acc)
    show (onceL (if x ∈ acc then acc else x :: acc) xs).length ≤ _
    have e : (if x ∈ acc then acc else x :: acc).length ≤ acc.length + 1 := by split <;> simp
    rw [List.length_cons]
    omega
/-- a set of these texts stands at a -/
def SetS (P : Program) (w : World) (h : Heap) (a : Addr) (l : List Str) : Prop := ∃ D, h.get? a = some (sObj "set" D) ∧ TxR P w D l
section
variable {P : Program} {w : World} {A : Around} {E : Value → Shared → Prop} {s : Shared}
/-- one text is put in, new or not -/
theorem put_txt {a : Addr} {l : List Str} {k : Str} {u : Tok} {Q : Bool → Shared → Prop} (R : SetS P w s.heap a l) (hb : l.length + 1 < scanBound)
    (h : ∀ (b : Bool) h', Heap.SameBut a s.heap h' → SetS P w h' a (if k ∈ l then l else k :: l) → Q b { s with heap := h' }) : wpAny (model P w) A (setAddHashed a (.str k u) (hashStr w k)) Q E s := by
  obtain ⟨D, at_, R⟩ := R
  by_cases hk : k ∈ l
  · refine add_old at_ R.ok hk (by omega) ?_
    exact h false s.heap (Heap.SameBut.refl _ _) (by rw [if_pos hk]; exact ⟨D, at_, R⟩)
  · refine add_x at_ R.ok hk hb ?_
    refine h true _ (Heap.SameBut.update s.heap a _) ?_
    rw [if_neg hk]
    exact ⟨_, get_upd _ at_ rfl, R.add u hk⟩
end
section
variable {prog : Program} {w : World} {A : Around} {R : Result → Shared → Prop} {I : Addr} {fp wr : List Addr} {G : Array GenState → Array GenState → Prop} {n : Nat} {P : Nat → Value → Prop} {St : Nat → Shared → Prop}
theorem SetS.moved {h h' : Heap} {a : Addr} {l : List Str} (R : SetS prog w h a l) (k : ∀ o, h.get? a = some o → h'.get? a = some o) : SetS prog w h' a l := by
  obtain ⟨D, at_, q⟩ := R
  exact ⟨D, k _ at_, q⟩
/-- the loop that puts the items of a walk in -/
theorem puts (W : WalksS prog w A.in1 I fp wr G n P St) {D : Addr} (out : D ∉ fp) (xs : List Str) (len : xs.length = n) (few : n + 1 < scanBound) (is : ∀ i v, P i v → ∃ t, v = .str (xs.getD i Str.empty) t) :
    ∀ (m i : Nat) (s : Shared) (acc : List Str), n - i = m → i ≤ n → acc.length ≤ i → St i s → SetS prog w s.heap D acc →
      (∀ s', Moved (D :: wr) G s s' → SetS prog w s'.heap D (onceL acc (xs.drop i)) → R (.ok (.ret .none)) s') →
      codeAny (model prog w) A (.builtin "set.update.loop" ⟨[.ref D, .ref I], []⟩) R s := by
  have offw : D ∉ wr := fun q => out (W.sub _ q)
  have up : ∀ b ∈ wr, b ∈ D :: wr := fun b q => List.mem_cons_of_mem _ q
  intro m
  induction m with
  | zero =>
    intro i s acc hm hi _ st S fin
    obtain rfl : i = n := by omega
    refine codeAny_builtin PyProof.Rows.F.entry_set_update_loop ?_
    rw [Around.under_plainId PyProof.Rows.F.plain_set_update_loop _]
    refine wpAny_bind (W.done s _ _ st fun s' mv => wpAny_pure (fin s' (mv.mono up) ?_))
    rw [List.drop_of_length_le (by omega)]
    exact S.moved fun o e => mv.heap D o offw e
  | succ m ih =>
    intro i s acc hm hi ha st S fin
    have lt : i < n := by omega
    refine codeAny_builtin PyProof.Rows.F.entry_set_update_loop ?_
    rw [Around.under_plainId PyProof.Rows.F.plain_set_update_loop _]
    refine wpAny_bind (W.item i s _ _ lt st fun v s' pv st' mv => ?_)
    obtain ⟨t, rfl⟩ := is i v pv
    have S' : SetS prog w s'.heap D acc := S.moved fun o e => mv.heap D o offw e
    show wpAny _ A.in1 (holding [Value.str (xs.getD i Str.empty) t] (setAdd D (.str (xs.getD i Str.empty) t)) >>= _) _ _ s'
    refine wpAny_bind (wpAny_holding ?_)
    unfold setAdd
    refine wpAny_holding (wpAny_bind ((PySem.strKind prog w).pyHash (k := xs.getD i Str.empty) (strKind_is _ _ _ _) ?_))
    refine put_txt (s := { s' with toks := s'.toks + 1 }) S' (by omega) fun b h' sb S2 => ?_
    have dr : xs.drop i = xs.getD i Str.empty :: xs.drop (i + 1) := by
      rw [List.drop_eq_getElem_cons (by omega), List.getD_eq_getElem?_getD, List.getElem?_eq_getElem (by omega)]
      rfl
    refine wpAny_pure ⟨plainId_quiet PyProof.Rows.F.plain_set_update_loop _, ih (i + 1) _ (if xs.getD i Str.empty ∈ acc then acc else xs.getD i Str.empty :: acc) (by omega) lt ?_ (W.frame _ s' _ _ st' (Nat.le_succ _) fun b hb o e => ?_) S2 fun s'' mv2 S3 => ?_⟩
    · split
      · omega
      · rw [List.length_cons]; omega
    · rw [sb.2 b fun z => out (z ▸ hb)]; exact e
    · refine fin s'' (Moved.trans W.gtrans ((mv.mono up).then_heap (Nat.le_succ _) fun b o hb e => ?_) mv2) ?_
      · rw [sb.2 b fun z => hb (z ▸ List.mem_cons_self)]; exact e
      · rw [dr]; exact S3
end
end Pg
namespace Pg
open PySem PySem.Spec PyProof.Rows L2 PySem.Froz
section
variable {prog : Program} {w : World} {A : Around} {E : Value → Shared → Prop} {s : Shared}
/-- an empty set as it is laid -/
abbrev set0 (w : World) : Obj := { cls := .type "set", dict := none, data := .set #[] 0 (.fresh 0 0 (!w.params.followText "set-order")) }
theorem code_new1 (x : Value) {Z : Value → Shared → Prop} (h : Z (.ref s.heap.objs.size) { s with heap := s.heap.push (set0 w) }) : codeAny (model prog w) A (.call (.builtin "set.__new__") ⟨[.type "set", x], []⟩) (wants Z E) s := by
  refine codeAny_of_tree ?_
  show wpAny _ A.in1 (do checkBuiltinCall "set.__new__" ⟨[.type "set", x], []⟩; again (.builtin "set.__new__" ⟨[.type "set", x], []⟩)) _ _ s
  refine wpAny_bind (wpAny_of_eq (PySem.F.newCall_set_1 x) (wpAny_pure ⟨plainId_quiet PySem.F.plain_set_new _, codeAny_builtin PySem.F.entry_set_new ?_⟩)); rw [Around.under_plainId PySem.F.plain_set_new _]
  unfold Builtin.«set.__new__» Builtin.Frozenset.newClass
  have _sub := sub_set_self
  obtain ⟨heap, gens, drawn, toks, os⟩ := s; dsimp only; wp_walk
  refine wpAny_askSetting (wpAny_pure ?_); dsimp only; simp only [newObj]
  exact wpAny_bind (wpAny_alloc (wpAny_pure (wpAny_pure h)))
theorem set0_ok {h : Heap} : SetS prog w (h.push (set0 w)) h.objs.size [] := by
  refine ⟨(#[], 0, .fresh 0 0 (!w.params.followText "set-order")), Heap.get?_push_size _ rfl, TxOk.nil (by rfl), ⟨[], rfl, List.Perm.refl _⟩, List.nodup_nil, List.Pairwise.nil, ?_⟩
  show _ ∨ (!w.params.followText "set-order") = true
  cases w.params.followText "set-order" with
  | true => exact .inl rfl
  | false => exact .inr rfl
theorem str_at : ∀ {vs : List Value} {xs : List Str}, StrsAre vs xs → ∀ (i : Nat) (v : Value), vs[i]? = some v → ∃ t, v = .str (xs.getD i Str.empty) t
  | _, _, .nil, i, v, h => by simp at h
  | _, _, .cons n t r, 0, v, h => by
    rw [List.getElem?_cons_zero] at h
    exact ⟨t, (Option.some.inj h).symm⟩
  | _, _, .cons n t r, i + 1, v, h => str_at r i v h
set_option maxHeartbeats 4000000 in
/-- set(xs), xs a list of texts -/
theorem call_set_txt {l : Addr} {items : Array Value} {xs : List Str} {Q : Value → Shared → Prop} (hh : A.handled = none) (hl : s.heap.IsList l items) (his : StrsAre items.toList xs) (few : xs.length + 1 < scanBound)
    (h : ∀ (h' : Heap) (tk : Nat), SetS prog w h' s.heap.objs.size (onceL [] xs) → (∀ b o, s.heap.get? b = some o → h'.get? b = some o) → Q (.ref s.heap.objs.size) { s with heap := h', toks := tk }) :
    wpAny (model prog w) A (call (.type "set") [.ref l]) Q E s := by
  obtain ⟨cc, tt, mro⟩ := PySem.F.called_set.mro
  have g1 := PySem.F.called_set.made; have g2 := PySem.F.called_set.sub
  refine wpAny_call (codeAny_of_tree (wpAny_pure ⟨Code.quiet_builtin _ (by decide +kernel), codeAny_builtin PySem.F.entry_type_call ?_⟩))
  rw [Around.under_plain (weight_type_call_type "set" [.ref l] []) rfl]
  have g3 := PySem.F.called_set.notType; have g4 := PySem.F.called_set.canCreate; have g5 := PySem.F.typeCall_set_1 (.ref l)
  repeat (any_goals (first | assumption | wp_step))
  refine codeAny_mono (code_new1 (prog := prog) (.ref l) (E := E) (Z := fun obj z => obj = .ref s.heap.objs.size ∧ z = { s with heap := s.heap.push (set0 w) }) ⟨rfl, rfl⟩) fun r z hr => ?_
  cases r with
  | error e => exact hr
  | ok fl =>
    cases fl with
    | ret obj =>
      obtain ⟨rfl, rfl⟩ := hr
      have at0 : (s.heap.push (set0 w)).get? s.heap.objs.size = some (set0 w) := Heap.get?_push_size _ rfl
      have ty : Shared.TypeIs { s with heap := s.heap.push (set0 w) } (.ref s.heap.objs.size) "set" := ⟨_, at0, rfl⟩
      have g6 := PySem.F.called_set.init.lookup; have g7 := PySem.F.called_set.init.bind (.ref s.heap.objs.size)
      repeat (any_goals (first | assumption | wp_step))
      refine codeAny_mono (codeAny_call_builtin (R := wants (fun r z => r = .none ∧ ∃ h' tk, z = { s with heap := h', toks := tk } ∧ SetS prog w h' s.heap.objs.size (onceL [] xs) ∧ (∀ b o, s.heap.get? b = some o → h'.get? b = some o)) E)
        PySem.F.called_set.init.plain PySem.F.entry_set_init (check_set_init_1 ty ?_)) fun r2 z2 hr2 => ?_
      · obtain ⟨⟨oc, od, odata, osl⟩, hol, hcl, nl, hdl⟩ := hl
        simp only at hcl hdl
        subst hcl hdl
        have hol2 : (s.heap.push (set0 w)).get? l = some { cls := .type "list", dict := od, data := .seq items nl, slots := osl } := Heap.get?_push_of_some _ hol
        have hl2 : (s.heap.push (set0 w)).IsList l items := ⟨_, hol2, rfl, nl, rfl⟩
        have q1 := PySem.F.sub_list_set; have q2 := PySem.F.sub_list_frozenset
        have q3 : (Value.type "list" == Value.type "dict") = false := by decide
        unfold Builtin.«set.__init__» noKeywords Builtin.Frozenset.updateFrom
        generalize hp : pyIter = pi
        wp_walk
        subst hp
        refine wpAny_pyIter_list hl2 (wpAny_bind (wpAny_runValue ?_))
        have lt : l < s.heap.objs.size := Heap.lt_size hol
        have handled : A.in1.in1.in1.handled = none := by simp [hh]
        have sz1 : (s.heap.push (set0 w)).objs.size = s.heap.objs.size + 1 := Heap.size_push _ _
        have ne : l ≠ (s.heap.push (set0 w)).objs.size := by rw [sz1]; exact Nat.ne_of_lt (Nat.lt_succ_of_lt lt)
        have out : s.heap.objs.size ∉ [(s.heap.push (set0 w)).objs.size, l] := by
          rw [sz1]
          intro m
          rcases List.mem_cons.mp m with m | m
          · exact absurd m (Nat.ne_of_lt (Nat.lt_succ_self _))
          · exact absurd (List.mem_singleton.mp m) (Nat.ne_of_gt lt)
        have len : xs.length = items.size := by rw [← StrsAre.len_eq his, Array.length_toList]
        have is : ∀ (i : Nat) (v : Value), items[i]? = some v → ∃ t, v = .str (xs.getD i Str.empty) t := fun i v hv => str_at his i v (by rw [Array.getElem?_toList]; exact hv)
        refine puts ((Walks.list handled _ l ne items).toS) out xs len (by rw [← len]; exact few) is (items.size - 0) 0 _ [] (by omega) (Nat.zero_le _) (Nat.le_refl _) ⟨⟨_, Heap.get?_push_size _ rfl, rfl, rfl⟩, hl2.push _⟩ (set0_ok.moved fun o e => Heap.get?_push_of_some _ e) ?_
        rintro ⟨h', g', d', tk', os'⟩ mv S
        obtain rfl : g' = s.gens := mv.gens
        obtain rfl : d' = s.drawn := mv.drawn
        obtain rfl : os' = s.os := mv.os
        refine wpAny_pure ?_
        refine wpAny_pure ⟨rfl, h', tk', rfl, S, fun b o e => ?_⟩
        have hb : b < s.heap.objs.size := Heap.lt_size e
        refine mv.heap b o (fun m => ?_) (Heap.get?_push_of_some _ (Heap.get?_push_of_some _ e))
        rcases List.mem_cons.mp m with m | m
        · exact absurd m (Nat.ne_of_lt hb)
        · have q := List.mem_singleton.mp m
          rw [sz1] at q
          exact absurd q (Nat.ne_of_lt (Nat.lt_succ_of_lt hb))
      · cases r2 with
        | error e => exact hr2
        | ok fl2 =>
          cases fl2 with
          | ret r =>
            obtain ⟨rfl, h', tk, rfl, a1, a2⟩ := hr2
            repeat (any_goals (first | assumption | wp_step))
            exact h _ _ a1 a2
          | _ => exact hr2.elim
    | _ => exact hr.elim
end
end Pg
namespace Pg
open PySem PySem.Spec PyProof.Rows L2 PySem.Froz
section
variable {prog : Program} {w : World} {A : Around} {E : Value → Shared → Prop} {s : Shared}
/-- the values of a set of texts, in some order, are texts -/
theorem vals_strs : ∀ {vs : List Value} {ps : List (Str × Tok)}, vs.Perm (ps.map fun p => Value.str p.1 p.2) → StrsAre vs (vs.map strOf) ∧ (vs.map strOf).Perm (ps.map Prod.fst) := fun {vs ps} h => by
  refine ⟨strsAre_map vs fun v m => ?_, ?_⟩
  · obtain ⟨p, _, rfl⟩ := List.mem_map.mp (h.mem_iff.mp m)
    exact ⟨p.1, p.2, rfl⟩
  · have q := h.map strOf
    rw [List.map_map] at q
    exact q.trans (List.Perm.of_eq rfl)
theorem zip_fst {α β : Type} : ∀ (l : List α) (us : List β), us.length = l.length → (l.zip us).map Prod.fst = l
  | [], _, _ => rfl
  | x :: l, [], h => by simp at h
  | x :: l, u :: us, h => by rw [List.zip_cons_cons, List.map_cons, zip_fst l us (by simpa using h)]
/-- sorted(a), a set of texts -/
theorem sorted_txt {a : Addr} {l : List Str} {Q : Value → Shared → Prop} (R : SetS prog w s.heap a l) (hh : A.handled = none) (few : l.length < 4000)
    (h : ∀ z p (out : Array Value) (n : Nat) (ys : List Str), (∀ b o, s.heap.get? b = some o → z.heap.get? b = some o) → z.gens = s.gens → z.os = s.os → s.heap.objs.size ≤ p → z.heap.get? p = some (seqObj "list" out n) →
      StrsAre out.toList ys → ys.Perm l → sortedS ys = true → Q (.ref p) z) : wpAny (model prog w) A (call (.builtin "sorted") [.ref a]) Q E s := by
  obtain ⟨⟨es, ep, t⟩, at_, R⟩ := R
  obtain ⟨us, hu, pm⟩ := R.all
  have sz : es.size = l.length := R.ok.sz
  have scan : es.size < scanBound := by rw [sz]; exact Nat.lt_of_lt_of_le few (by decide)
  refine Calls.call_function_entry kind_sorted plain_sorted entry_sorted (args_sorted1 _) ?_
  unfold Builtin.«sorted»
  refine wpAny_bind (m := checkCount "sorted" 1 1 _) (wpAny_pure (wpAny_bind (collect_set (A := A.in1) hh ⟨_, at_, rfl, rfl⟩ R.ok.fit scan R.ris R.led fun z vs k1 hz g1 o1 pv => ?_)))
  have pv2 : vs.Perm ((l.zip us).map fun p => Value.str p.1 p.2) := by
    have q := pv.trans (pm.map (·.2))
    rw [List.map_map] at q
    exact q
  obtain ⟨st, ps⟩ := vals_strs pv2
  rw [zip_fst l us hu] at ps
  have vlen : vs.length = l.length := by
    have := ps.length_eq
    rwa [List.length_map] at this
  refine wpAny_bind (wpAny_newList ?_ (by rw [vlen, sizeLine_eq]; omega))
  have new : (z.heap.push (seqObj "list" vs.toArray 0)).get? z.heap.objs.size = some (seqObj "list" vs.toArray 0) := Heap.get?_push_size _ rfl
  refine wpAny_bind (wpAny_holding (wpAny_call_entry slot_list_sort ⟨_, new, rfl⟩ entry_list_sort (list_sort_treeKAny strKind_oneLt new st.keysOf (fun v1 v2 rest e => keyKind_strs (by rw [← e]; exact st)) (by rw [vlen, sizeLine_eq]; omega) fun st' hp hs => ?_) (args_list_sort _)))
  obtain ⟨ys, y1, y2, y3⟩ := sorted_out_str st hp hs
  obtain ⟨n, hn⟩ := sortedHeap_at (vs := vs) (out := (arrOf st').map (·.2)) new
  refine ⟨_, rfl, wpAny_pure ⟨_, rfl, h _ z.heap.objs.size _ n ys (fun b o e => ?_) g1 o1 hz hn y1 (y2.trans ps) y3⟩⟩
  have q := k1 b o e
  have lt := Heap.lt_size q
  show (sortedHeap (z.heap.push (seqObj "list" vs.toArray 0)) z.heap.objs.size vs _).get? b = some o
  rw [sortedHeap_old (Nat.ne_of_lt lt) (by rw [size_push']; exact Nat.lt_succ_of_lt lt)]
  exact Heap.get?_push_of_some _ q
end
end Pg
namespace Pg
open PySem PySem.Spec PyProof.Rows L2
/-! ### defs that are called where no text is being written of anything -/
structure FnG (P : Program) (w : World) (K : PySem.W.Frag) (mg : Str → Option Value) (base : Heap) (k : Nat) (f : Addr) (fd : FuncData) (ps : List Str) (sp : Sp) : Prop where
  ln : ∀ vs H Q E, sp vs H Q E → vs.length = ps.length
  go : ∀ (A : Around), A.guards = some [] → Room k A → ∀ (outer : List Env) (s : Shared) (H : Hp), Env0 P w K mg base A outer s H →
    ∀ (args : Args) (us : List Value) (vs : List V) (Q : VK) (E : XK), BindsTo s fd args (ps.zip us) → Vals vs us → sp vs H Q E →
    codeAny (model P w) A (.call (.ref f) args) (CR CX0 outer P w H s Q E) s
section
variable {P : Program} {w : World} {K : PySem.W.Frag} {mg : Str → Option Value} {base : Heap}
theorem FnG.of {k : Nat} {f : Addr} {fd : FuncData} {ps : List Str} {sp : Sp} (F : FnOk P w K mg base CX0 k f fd ps sp) : FnG P w K mg base k f fd ps sp :=
  ⟨F.len, fun A _ r outer s H e args us vs Q E b v h => F.run A outer s H args us vs Q E r e b v h⟩
theorem FnG.mono {j k : Nat} {f : Addr} {fd : FuncData} {ps : List Str} {sp : Sp} (F : FnG P w K mg base j f fd ps sp) (h : j ≤ k) : FnG P w K mg base k f fd ps sp :=
  ⟨F.ln, fun A g r => F.go A g (r.mono h)⟩
/-- a def by its body -/
theorem Df.g {x : Str} {st : Stmt} {f : Addr} {fd : FuncData} {N ps : List Str} {k : Nat} {sp : Sp} (D : Df K mg x st ps f fd) (S : FnScope N ps (defScope st)) (len : ∀ vs H Q E, sp vs H Q E → vs.length = ps.length)
    (hb : ∀ (cdv : Value) (A : Around) (outer : List Env) (s : Shared) (H : Hp) (vs : List V) (Q : VK) (E : XK), (A.deeper (envOfC x (defScope st) s.heap.objs.size f cdv)).guards = some [] →
      Room k (A.deeper (envOfC x (defScope st) s.heap.objs.size f cdv)) → sp vs H Q E →
      ∃ t, PSs (cxOf CX0 P w K mg base N x (defScope st) f cdv A outer s H E).nox (defBody st) t ∧ t { nx := fun _ H' => Q .non H', rt := Q } (start N vs) H) : FnG P w K mg base (k + 1) f fd ps sp := by
  obtain ⟨oc, od, kV, doc, pm, an, cdv, ct, osl, rfl, lk, hcd⟩ := D.fn.ex
  refine ⟨len, fun A g hr outer s H e0 args us vs Q E bt rv hsp => ?_⟩
  have hlen := len _ _ _ _ hsp
  have KX : K.In s.heap := e0.mod.kin.keeps fun b o e => (e0.bs b o e).1
  have lim : s.heap.NoLimit := e0.mod.nolimit.keeps fun b o e => (e0.bs b o e).1
  refine codeAny_call_function hr.depth (KX _ _ lk) rfl S.co S.gen rfl (PySem.W.codeRec_of KX hcd) (bt _ _ _ _ ?_)
  refine wpAny_newFunctionEnv_cells S.kind (fun y hy => ?_) fun env he s1 x1 => ?_
  · have hp : y.1 ∈ ps := (List.of_mem_zip (show (y.1, y.2) ∈ ps.zip us from hy)).1
    refine (S.par y.1 hp).imp id fun q => ⟨q, ?_⟩
    exact PySem.W.cellsFrom_some _ _ _ (.inl q)
  subst he
  refine ⟨lim.keeps x1.toInCall.keep, codeAny_func ?_⟩
  obtain ⟨t, ht, hq⟩ := hb cdv A outer s H vs Q E (by rw [← g]; rfl) (hr.deeper _) hsp
  refine wpAny_mono (ht.nox.run [] s1 (start N vs) H _ (inv_start S hr.hd e0 hlen rv x1) hq) (fun fl s' hs => ?_) fun e s' hs => hs
  cases fl with
  | ret u =>
    obtain ⟨v, σ', H', J, rv', q⟩ := hs
    exact ⟨v, H', J.os, J.bare, J.base, J.hok, rv', q⟩
  | next =>
    obtain ⟨σ', H', J, q⟩ := hs
    exact ⟨.non, H', J.os, J.bare, J.base, J.hok, rfl, q⟩
  | brk =>
    obtain ⟨_, _, _, q⟩ := hs
    exact q.elim
  | cont =>
    obtain ⟨_, _, _, q⟩ := hs
    exact q.elim
end
/-- a def of the text with such a promise -/
structure ClG (P : Program) (w : World) (K : PySem.W.Frag) (mg : Str → Option Value) (base : Heap) (k : Nat) (x : Str) (st : Stmt) (ps : List Str) (sp : Sp) : Prop where
  ex : ∃ f fd, Df K mg x st ps f fd ∧ FnG P w K mg base k f fd ps sp
section
variable {X : Cx} {j k : Nat} {st : Stmt} {f : Addr} {fd : FuncData} {ps : List Str} {sp : Sp} {x : Str} {p pos : Pos} {e : Expr} {es : List Expr} {t : TA}
theorem run_g {pins : List (Addr × Obj)} {σ : L2.St} {H : Hp} {s : Shared} {Q : VK} {us : List Value} {vs : List V} (F : FnG X.prog X.w X.K X.mg X.base k f fd ps sp) (hG : X.A.guards = some []) (hr : Room k X.A) (hb : Binds X.K fd ps [])
    (I : Inv X pins σ H s) (r : Vals vs us) (h : sp vs H Q E0) : wpAny (model X.prog X.w) X.A (call (.ref f) us) (EP X pins σ Q) X.xe s := by
  have hl : (us ++ []).length = ps.length := by rw [List.append_nil, ← r.length]; exact F.ln _ _ _ _ h
  have bt := hb s us I.kIn hl
  rw [List.append_nil] at bt
  refine wpAny_call (codeAny_mono (F.go X.A hG hr X.stack s H I.env0 ⟨us, []⟩ us vs Q E0 bt r h) fun r s' hq => ?_)
  cases r with
  | error e => exact (pass0 (X := X) pins σ H s e s' I hq)
  | ok fl =>
    cases fl with
    | ret u => exact I.after hq
    | next => exact hq.elim
    | brk => exact hq.elim
    | cont => exact hq.elim
theorem pe_clG (c : ClG X.prog X.w X.K X.mg X.base k x st ps sp) (hG : X.A.guards = some []) (hr : Room j X.A) (hk : k ≤ j) (ha : PA X (e :: es) t) (hg : Gl X x := by rfl) (hdb : (x == ("__debug__" : Str)) = false := by decide)
    (he : starEach (e :: es) X.env = (false, eval e X.env) :: starEach es X.env := by rfl) (hpl : (backTo pos (starEach es X.env)).any (·.1) = false := by rfl) :
    PE X (.Call (.Name x p) (e :: es) [] pos) (tCl sp t) := by
  obtain ⟨f, fd, D, F⟩ := c.ex
  refine ⟨fun pins s σ H Q I h => ?_⟩
  refine wpAny_Call_Name_kw (ld_glob I hg D.at_ ?_ hdb)
  refine PySem.W.callWith_K (h₀ := X.base) I.ok.mod.kin D.fn.kp (thn (ha.run pos pins s σ H _ I h) fun us s1 ⟨vs, H1, I1, r, q⟩ => ⟨I1.kIn, ?_⟩) he hpl
  exact run_g (F.mono hk) hG hr D.bd I1 r q
end
end Pg
namespace Pg
open PySem PySem.Spec PyProof.Rows L2
/-! ### the end of a law, from a promise that is kept where no text is being written -/
section
variable {P : Program} {w : World} {K : PySem.W.Frag} {mg mb : Str → Option Value} {h : Heap} {a : Addr} {ob : Obj} {xs : List V}
/-- what is known of the store at first: the script, where it is no object of the module -/
def H0 (K : PySem.W.Frag) (a : Addr) (ob : Obj) (xs : List V) : Hp := fun b => if b = a ∧ K.lookup a = none then some (.frz ob (.lst xs)) else none
theorem h0_cases (b : Addr) : H0 K a ob xs b = none ∨ (b = a ∧ K.lookup a = none ∧ H0 K a ob xs b = some (.frz ob (.lst xs))) := by
  by_cases c : b = a ∧ K.lookup a = none
  · exact .inr ⟨c.1, c.2, if_pos c⟩
  · exact .inl (if_neg c)
theorem h0_none {b : Addr} (n : b ≠ a) : H0 K a ob xs b = none := if_neg fun c => n c.1
theorem h0_base {b : Addr} {o : Obj} (e : h.get? b = some o) (n : H0 K a ob xs b = none) : (hidT h (H0 K a ob xs)).get? b = some o := hidT_get e n
theorem h0_ns {b : Addr} {m : Str → Option Value} {l : List Value} {n : Nat} (ha : h.get? a = some { cls := .type "list", data := .seq l.toArray n }) (q : h.Ns b m) : (hidT h (H0 K a ob xs)).Ns b m := by
  obtain ⟨o, es, ep, e, d, r⟩ := q
  refine ⟨o, es, ep, h0_base e (h0_none fun z => ?_), d, r⟩
  subst z
  rw [ha] at e
  cases e
  exact Data.noConfusion d
theorem law_g {k : Nat} {fa : Addr} {fd : FuncData} {x : Str} {sp : Sp} {s₁ : Shared} {vs : List Value} {ns : List Int}
    (KX : K.In s₁.heap) (hns : s₁.heap.Ns mainGlobals mg) (hb : s₁.heap.Ns builtinsNs mb) (hbb : ∀ x : Str, x ≠ "__name__" → mb x = bootBuiltins x) (hlim : s₁.heap.NoLimit) (hg : s₁.gens = #[])
    (ha : s₁.heap.get? a = some { cls := .type "list", data := .seq vs.toArray }) (hi : IntsAre vs ns) (hl : ns.length ≤ sizeLine) (hr : Room k callerA)
    (F : ∀ base : Heap, K.In base → base.Ns mainGlobals mg → FnG P w K mg base k fa fd [x] sp) (hbind : ∀ (s : Shared) (u : Value), BindsTo s fd ⟨[u], []⟩ [(x, u)])
    (hsp : ∀ H : Hp, L2.Only H → SqL K H a (ns.map V.int) → sp [.ref a] H (fun v _ => v = .bl true) fun _ _ _ => False) :
    codeAny (model P w) callerA (.call (.ref fa) ⟨[.ref a], []⟩) (fun r s' => r = .ok (.ret (.bool true)) ∧ OldK s₁.heap s'.heap ∧ s'.os = s₁.os ∧ AllBare s'.gens) s₁ := by
  have rv := vals_ints hi
  have hlen : (ns.map V.int).length ≤ sizeLine := by rw [List.length_map]; exact hl
  have hK : K.In (hidT s₁.heap (H0 K a { cls := .type "list", data := .seq vs.toArray } (ns.map V.int))) := fun b o e => h0_base (KX b o e) (by
    rcases h0_cases (K := K) (a := a) (ob := { cls := .type "list", data := .seq vs.toArray }) (xs := ns.map V.int) b with q | ⟨rfl, q, _⟩
    · exact q
    · rw [q] at e
      cases e)
  have hM : Mod K mg (hidT s₁.heap (H0 K a { cls := .type "list", data := .seq vs.toArray } (ns.map V.int))) := by
    obtain ⟨mc, l1, l2⟩ := hlim
    exact ⟨hK, h0_ns ha hns, ⟨mb, h0_ns ha hb, hbb⟩, ⟨mc, h0_ns ha l1, l2⟩⟩
  have hok : HOk P w (H0 K a { cls := .type "list", data := .seq vs.toArray } (ns.map V.int)) s₁.heap := fun b u z => by
    rcases h0_cases (K := K) (a := a) (ob := { cls := .type "list", data := .seq vs.toArray }) (xs := ns.map V.int) b with q | ⟨rfl, _, q⟩
    · rw [q] at z
      cases z
    · rw [q] at z
      cases z
      exact ⟨ha, hlen, vs, _, rv, ha⟩
  have e0 : Env0 P w K mg (hidT s₁.heap (H0 K a { cls := .type "list", data := .seq vs.toArray } (ns.map V.int))) callerA [] s₁ (H0 K a { cls := .type "list", data := .seq vs.toArray } (ns.map V.int)) :=
    ⟨rfl, hM, fun b o e => of_hidT e, Nat.le_of_eq (hidT_size _ _), trivial, fun b z => absurd (show b ∈ ([] : List Addr) from z) (by simp), hok, .of_eq hg⟩
  have hO : L2.Only (H0 K a { cls := .type "list", data := .seq vs.toArray } (ns.map V.int)) := fun b => by
    rcases h0_cases (K := K) (a := a) (ob := { cls := .type "list", data := .seq vs.toArray }) (xs := ns.map V.int) b with q | ⟨_, _, q⟩
    · exact .inl q
    · exact .inr ⟨_, _, q⟩
  have hS : SqL K (H0 K a { cls := .type "list", data := .seq vs.toArray } (ns.map V.int)) a (ns.map V.int) := by
    cases hk : K.lookup a with
    | none => exact .inl (.inr ⟨_, if_pos ⟨rfl, hk⟩⟩)
    | some o =>
      have e := KX a o hk
      rw [ha] at e
      cases e
      exact .inr ⟨_, vs.toArray, _, hk, rfl, rfl, rfl, by rw [List.size_toArray, hi.length]; exact hl, by simpa using rv⟩
  refine codeAny_mono ((F _ hK (h0_ns ha hns)).go callerA rfl hr [] s₁ _ e0 ⟨[.ref a], []⟩ [.ref a] [.ref a] _ _ (hbind s₁ (.ref a)) (.cons rfl .nil) (hsp _ hO hS)) fun r s' q => ?_
  cases r with
  | error e => exact q.elim
  | ok fl =>
    cases fl with
    | next => exact q.elim
    | brk => exact q.elim
    | cont => exact q.elim
    | ret u =>
      obtain ⟨v, H', os, bare, un, hok', r', q⟩ := q
      have q' : v = .bl true := q
      subst q'
      obtain rfl : u = Value.bool true := r'
      refine ⟨rfl, OldK.of_keep fun b o e => ?_, os, bare⟩
      rcases h0_cases (K := K) (a := a) (ob := { cls := .type "list", data := .seq vs.toArray }) (xs := ns.map V.int) b with z | ⟨_, _, z⟩
      · exact un.keep b o e z (fun z => absurd (show b ∈ ([] : List Addr) from z) (by simp)) (by simp)
      · obtain ⟨e1, _⟩ := hok b _ z
        obtain ⟨e2, _⟩ := hok' b _ (un.frzs b _ _ z)
        rw [e] at e1
        cases e1
        exact e2
end
/-- the goal that the end of a law leaves -/
theorem walk_g {l : PySem.W.OpenLaw} {n k : Nat} {q : Program} {loose : List Str} {XP : (Str → Option Value) → Heap → Prop} {YP : World → Heap → Prop} {d : DefRec} {K : Params → PySem.W.Frag} {sp : World → Sp} {x : Str}
    (hn : l.most = some n) (hn2 : n ≤ sizeLine) (hdf : d.params.defaults = []) (hr : Room k callerA) (hY : ∀ (w : World) (h : Heap), YP w h → (K w.params).In h)
    (F : ∀ (w : World) (mg : Str → Option Value) (fa : Addr) (h : Heap), (K w.params).In h → h.Ns mainGlobals mg → mg d.name = some (.ref fa) →
      ∃ fd : FuncData, (∀ (s : Shared) (u : Value), BindsTo s fd ⟨[u], []⟩ [(x, u)]) ∧ ∀ base : Heap, (K w.params).In base → base.Ns mainGlobals mg → FnG l.prog w (K w.params) mg base k fa fd [x] (sp w))
    (hsp : ∀ (w : World) (H : Hp) (a : Addr) (ns : List Int), ns.length ≤ n → L2.Only H → SqL (K w.params) H a (ns.map V.int) → sp w [.ref a] H (fun v _ => v = .bl true) fun _ _ _ => False) :
    PySem.W.WalkO q loose XP YP l.row.toRowW d [] (fun f vs => PySem.call f vs) :=
  Att.attach_call hn hdf fun w _ s₁ mg _ fa _ _ _ _ a _ ns G Y _ _ _ hmg hobj hints hlen hg => by
    obtain ⟨fd, hb, hF⟩ := F w mg fa _ (hY w _ Y) G.T.g hmg
    exact law_g (hY w _ Y) G.T.g G.T.b G.T.builtins G.T.nolimit hg hobj hints (Nat.le_trans hlen hn2) hr hF hb fun H hO hS => hsp w H a ns hlen hO hS
end Pg
namespace Pg
open PySem PySem.Spec PyProof.Rows L2
/-! ### repr of data -/
mutual
theorem dp_plain {K : PySem.W.Frag} {H : Hp} : ∀ (d : PyData) {v : V}, Dp K H v d → d.hasDict = false
  | .none, _, _ => by simp only [PyData.hasDict]
  | .bool _, _, _ => by simp only [PyData.hasDict]
  | .int _, _, _ => by simp only [PyData.hasDict]
  | .str _, _, _ => by simp only [PyData.hasDict]
  | .list ds, _, h => by
    cases h with
    | lst _ q =>
      simp only [PyData.hasDict]
      exact dps_plain ds q
  | .tuple ds, _, h => by
    cases h with
    | tup _ q =>
      simp only [PyData.hasDict]
      exact dps_plain ds q
  | .dict _, _, h => by cases h
theorem dps_plain {K : PySem.W.Frag} {H : Hp} : ∀ (ds : List PyData) {vs : List V}, DpAll K H vs ds → PyData.hasDictAll ds = false
  | [], _, _ => by simp only [PyData.hasDictAll]
  | d :: ds, _, h => by
    cases h with
    | cons a b => simp only [PyData.hasDictAll, dp_plain d a, dps_plain ds b, Bool.or_self]
end
def rRepr (K : PySem.W.Frag) : List V → Hp → VK → Prop := fun xs H Q => ∃ v d, xs = [v] ∧ Dp K H v d ∧ d.showable = true ∧ d.depth ≤ 100 ∧ d.shown.length ≤ sizeLine ∧ Q (.str d.shown) H
theorem call_repr {X : Cx} {j : Nat} (hG : X.A.guards = some []) (hr : Room j X.A) : CallR X (.builtin "repr") (rRepr X.K) := by
  intro pins s σ H xs us Q I r h
  obtain ⟨v, d, rfl, dp, sh, dd, sz, q⟩ := h
  obtain ⟨u, rfl, rv⟩ := vals1 r
  have hu : X.A.units + (d.depth + 1) < cLine := by have := hr.un; omega
  obtain ⟨as, rd⟩ := Dp.reads I d v u dp rv
  have nd : d.hasDict = true → sysModules ∉ as := PyData.noDict_hsm (dp_plain d dp)
  have deep : ∀ a, u = .ref a → wpAny (model X.prog X.w) X.A (call (.builtin "repr") [u]) (EP X pins σ Q) X.xe s := fun a e => by
    subst e
    exact repr_of_reads' rd sh nd hG hu (fun _ _ e => e) (fun h' t tk k => ⟨.str d.shown, H, I.kept k, ⟨t, rfl⟩, q⟩) sz
  cases rd with
  | none => exact PySem.P.repr_of_none ⟨.str _, H, I.tok _, ⟨_, rfl⟩, by simpa only [PyData.shown] using q⟩
  | bool b => exact PySem.P.repr_of_bool ⟨.str _, H, I.tok _, ⟨_, rfl⟩, by simpa only [PyData.shown] using q⟩
  | int i t => exact PySem.P.repr_of_int (by simpa [PyData.showable] using sh) ⟨.str _, H, I.tok _, ⟨_, rfl⟩, by simpa only [PyData.shown] using q⟩
  | str x t => exact PySem.P.repr_of_str ⟨.str _, H, I.tok _, ⟨_, rfl⟩, by simpa only [PyData.shown] using q⟩ (by simpa only [PyData.shown] using sz)
  | list _ _ _ _ => exact deep _ rfl
  | tuple _ _ _ _ => exact deep _ rfl
  | dict _ _ _ _ _ => exact deep _ rfl
-- a bound for the signs of data whose texts are short: 4 more for every part, 402 for a text
mutual
def dW : PyData → Nat
  | .none => 4
  | .bool _ => 5
  | .int _ => 30
  | .str _ => 402
  | .list ds => dWs ds + 4
  | .tuple ds => dWs ds + 4
  | .dict _ => 0
def dWs : List PyData → Nat
  | [] => 0
  | d :: ds => dW d + 2 + dWs ds
end
-- no ints, texts of 40 letters at most
mutual
inductive Neat : PyData → Prop
  | non : Neat .none
  | bl (b : Bool) : Neat (.bool b)
  | str {x : Str} (h : x.length ≤ 40) (c : ∀ n ∈ x.cps.toList, n < 16 ^ 8) : Neat (.str x)
  | lst {ds : List PyData} : Neats ds → Neat (.list ds)
  | tup {ds : List PyData} : Neats ds → Neat (.tuple ds)
inductive Neats : List PyData → Prop
  | nil : Neats []
  | cons {d : PyData} {ds : List PyData} : Neat d → Neats ds → Neats (d :: ds)
end
mutual
theorem neat_sh : ∀ (d : PyData), Neat d → d.showable = true
  | .none, _ => by simp only [PyData.showable]
  | .bool _, _ => by simp only [PyData.showable]
  | .str _, _ => by simp only [PyData.showable]
  | .int _, h => by cases h
  | .list ds, .lst q => by
    simp only [PyData.showable]
    exact neats_sh ds q
  | .tuple ds, .tup q => by
    simp only [PyData.showable]
    exact neats_sh ds q
  | .dict _, h => by cases h
theorem neats_sh : ∀ (ds : List PyData), Neats ds → PyData.showableAll ds = true
  | [], _ => by simp only [PyData.showableAll]
  | d :: ds, .cons a b => by simp only [PyData.showableAll, neat_sh d a, neats_sh ds b, Bool.and_self]
end
theorem textFrom_le : ∀ (ts : List Str) (k : Nat) (acc : Str), (textFrom k acc ts).length ≤ acc.length + (ts.map fun t => t.length + 2).sum
  | [], k, acc => by
    show acc.length ≤ _
    simp
  | t :: ts, k, acc => by
    have ih := textFrom_le ts (k + 1) (acc ++ (if k > 0 then ", " else "" : String) ++ t)
    have e : (acc ++ (if k > 0 then ", " else "" : String) ++ t).length ≤ acc.length + 2 + t.length := by
      rw [strLen_append, strLen_append]
      by_cases c : k > 0
      · rw [if_pos c]
        have : (Str.ofString ", ").length = 2 := rfl
        omega
      · rw [if_neg c]
        have : (Str.ofString "").length = 0 := rfl
        omega
    rw [List.map_cons, List.sum_cons]
    show (textFrom (k + 1) (acc ++ (if k > 0 then ", " else "" : String) ++ t) ts).length ≤ _
    omega
theorem piled_sum : ∀ ts : List Str, piled ts = (ts.map fun t => t.length + 2).sum
  | [] => rfl
  | t :: ts => by simp [piled, piled_sum ts]
theorem tupleText_le (ts : List Str) : (tupleText ts).length ≤ (ts.map fun t => t.length + 2).sum + 4 := by
  have e1 : (Str.ofString "(").length = 1 := rfl
  have e2 : (Str.ofString (if ts.length == 1 then ",)" else ")")).length ≤ 2 := by split <;> decide
  have e3 : (Str.join (Str.ofString ", ") ts).length ≤ (ts.map fun t => t.length + 2).sum := by
    cases ts with
    | nil => exact Nat.zero_le _
    | cons t ts =>
      have q := join_length_add (t :: ts) (by simp)
      rw [piled_sum] at q
      omega
  unfold tupleText
  rw [strLen_append, strLen_append]
  omega
theorem listText_le (ts : List Str) : (listText ts).length ≤ (ts.map fun t => t.length + 2).sum + 4 := by
  have e1 : (Str.ofString "[").length = 1 := rfl
  have e2 : (Str.ofString "]").length = 1 := rfl
  have q := textFrom_le ts 0 (Str.ofString "[")
  show (textFrom 0 "[" ts ++ "]").length ≤ _
  rw [strLen_append]
  omega
mutual
theorem neat_le : ∀ (d : PyData), Neat d → d.shown.length ≤ dW d
  | .none, _ => by
    simp only [PyData.shown, dW]
    decide
  | .bool b, _ => by
    cases b <;> simp only [PyData.shown, dW] <;> decide
  | .str x, .str h c => by
    simp only [PyData.shown, dW]
    have := StrLaws.reprText_len x c
    omega
  | .int _, h => by cases h
  | .list ds, .lst q => by
    simp only [PyData.shown, dW]
    have a := listText_le (PyData.shownAll ds)
    have b := neats_le ds q
    omega
  | .tuple ds, .tup q => by
    simp only [PyData.shown, dW]
    have a := tupleText_le (PyData.shownAll ds)
    have b := neats_le ds q
    omega
  | .dict _, h => by cases h
theorem neats_le : ∀ (ds : List PyData), Neats ds → ((PyData.shownAll ds).map fun t => t.length + 2).sum ≤ dWs ds
  | [], _ => by
    simp only [PyData.shownAll, dWs]
    decide
  | d :: ds, .cons a b => by
    have p := neat_le d a
    have q := neats_le ds b
    simp only [PyData.shownAll, dWs, List.map_cons, List.sum_cons]
    omega
end
/-- repr of data with short texts and no ints -/
def rNeat (K : PySem.W.Frag) : List V → Hp → VK → Prop := fun xs H Q => ∃ v d, xs = [v] ∧ Dp K H v d ∧ Neat d ∧ d.depth ≤ 100 ∧ dW d ≤ 10000000 ∧ Q (.str d.shown) H
theorem call_repr_neat {X : Cx} {j : Nat} (hG : X.A.guards = some []) (hr : Room j X.A) : CallR X (.builtin "repr") (rNeat X.K) := fun pins s σ H xs us Q I r h => by
  obtain ⟨v, d, e, dp, n, dd, sz, q⟩ := h
  exact call_repr hG hr pins s σ H xs us Q I r ⟨v, d, e, dp, neat_sh d n, dd, Nat.le_trans (neat_le d n) (Nat.le_trans sz (by decide)), q⟩
end Pg
namespace Pg
open PySem PySem.Spec PyProof.Rows L2
/-! ### sorted(set(xs)), texts -/
theorem once_nodup : ∀ (xs acc : List Str), acc.Nodup → (onceL acc xs).Nodup
  | [], _, h => h
  | x :: xs, acc, h => by
    show (onceL (if x ∈ acc then acc else x :: acc) xs).Nodup
    refine once_nodup xs _ ?_
    by_cases c : x ∈ acc
    · rw [if_pos c]
      exact h
    · rw [if_neg c]
      exact List.nodup_cons.mpr ⟨c, h⟩
theorem txt_lt_of {a b : List Nat} (n : ¬ b < a) (d : a ≠ b) : a < b := by
  by_cases h : a < b
  · exact h
  · exact absurd (List.le_antisymm (List.not_lt.mp n) (List.not_lt.mp h)) d
theorem rising_pw : ∀ (zs : List (List Nat)) (p : List Nat), (p :: zs).Nodup → risingS (tx p) (zs.map tx) = true → (p :: zs).Pairwise (· < ·)
  | [], p, _, _ => List.pairwise_singleton _ _
  | z :: zs, p, nd, h => by
    have h' : (!ltCps z p && risingS (tx z) (zs.map tx)) = true := by simpa [risingS] using h
    rw [ltCps_eq] at h'
    obtain ⟨h1, h2⟩ := Bool.and_eq_true_iff.mp h'
    obtain ⟨n1, n2⟩ := List.nodup_cons.mp nd
    have ih := rising_pw zs z n2 h2
    have pz : p < z := txt_lt_of (by simpa using h1) fun e => n1 (by rw [e]; exact List.mem_cons_self)
    refine List.pairwise_cons.mpr ⟨fun y m => ?_, ih⟩
    rcases List.mem_cons.mp m with rfl | m
    · exact pz
    · exact List.lt_trans pz ((List.pairwise_cons.mp ih).1 y m)
theorem sorted_pw {ls : List (List Nat)} {ys : List Str} (pm : ys.Perm (onceL [] (ls.map tx))) (so : sortedS ys = true) : ∃ zs : List (List Nat), ys = zs.map tx ∧ zs.Pairwise (· < ·) ∧ (∀ l, l ∈ zs ↔ l ∈ ls) ∧ zs.length ≤ ls.length := by
  have e : ys = (ys.map fun s => s.cps.toList).map tx := by
    rw [List.map_map]
    conv => lhs; rw [← List.map_id ys]
    rfl
  have nd : ys.Nodup := pm.nodup_iff.mpr (once_nodup _ _ List.nodup_nil)
  have mem : ∀ s, s ∈ ys ↔ s ∈ ls.map tx := fun s => by
    rw [pm.mem_iff, once_mem]
    simp
  refine ⟨ys.map fun s => s.cps.toList, e, ?_, fun l => ?_, ?_⟩
  · have nd2 : (ys.map fun s => s.cps.toList).Nodup := by
      rw [e] at nd
      exact List.Pairwise.of_map tx (fun a b h e => h (by rw [e])) nd
    revert nd2
    rw [e] at so
    generalize (ys.map fun s => s.cps.toList) = zs at so
    intro nd2
    cases zs with
    | nil => exact List.Pairwise.nil
    | cons z zs => exact rising_pw zs z nd2 so
  · constructor
    · intro m
      obtain ⟨s, m1, rfl⟩ := List.mem_map.mp m
      obtain ⟨l, m2, rfl⟩ := List.mem_map.mp ((mem s).mp m1)
      simpa using m2
    · intro m
      exact List.mem_map.mpr ⟨tx l, (mem _).mpr (List.mem_map.mpr ⟨l, m, rfl⟩), by simp⟩
  · rw [List.length_map, pm.length_eq]
    have := once_len (ls.map tx) []
    simpa using this
/-- sorted(set(xs)): xs texts, under 64 of them; strictly ascending -/
def tSS (K : PySem.W.Frag) (te : TE) : TE := fun σ H Q => te σ H fun v H1 => ∃ (a : Addr) (ls : List (List Nat)), v = .ref a ∧ SqL K H1 a (ls.map Tx) ∧ ls.length < 4000 ∧
  ∀ (zs : List (List Nat)) (p : Addr), zs.Pairwise (· < ·) → (∀ l, l ∈ zs ↔ l ∈ ls) → zs.length ≤ ls.length → H1 p = none → Q (.ref p) (upd H1 p (.lst (zs.map Tx)))
theorem pe_sortset {X : Cx} {e : Expr} {te : TE} {p p2 pos pos2 : Pos} (hh : X.A.handled = none) (g1 : Gl X "sorted") (m1 : X.mg "sorted" = none) (g2 : Gl X "set") (m2 : X.mg "set" = none) (he : PE X e te)
    (hs : starEach [e] X.env = (false, eval e X.env) :: starEach [] X.env := by rfl)
    (hs2 : starEach [Expr.Call (.Name "set" p2) [e] [] pos2] X.env = (false, eval (Expr.Call (.Name "set" p2) [e] [] pos2) X.env) :: starEach [] X.env := by rfl) :
    PE X (.Call (.Name "sorted" p) [.Call (.Name "set" p2) [e] [] pos2] [] pos) (tSS X.K te) := by
  refine ⟨fun pins s σ H Q I h => ?_⟩
  refine wpAny_Call_Name_kw (ld_blt I g1 m1 (by rfl) ?_ (by decide) (by decide))
  refine PyProof.Rows.callWith_builtin1 ?_ hs2 (by rfl)
  rw [hs2]
  show wpAny _ _ (spliced ((false, eval (Expr.Call (.Name "set" p2) [e] [] pos2) X.env) :: backTo pos (starEach [] X.env))) _ _ s
  refine Calls.spliced_cons ?_
  refine wpAny_Call_Name_kw (ld_blt I g2 m2 (by rfl) ?_ (by decide) (by decide))
  refine PyProof.Rows.callWith_type1 ?_ hs (by rfl)
  rw [hs]
  show wpAny _ _ (spliced ((false, eval e X.env) :: backTo pos2 (starEach [] X.env))) _ _ s
  refine Calls.spliced_cons (thn (he.run pins s σ H _ I h) fun u s1 ⟨v, H1, I1, r1, q1⟩ => Calls.spliced_nil ?_)
  obtain ⟨a, ls, rfl, hl, few, q⟩ := q1
  obtain rfl : u = .ref a := r1
  obtain ⟨its, rv, pl, _⟩ := I1.list hl
  have st : StrsAre its.toArray.toList (ls.map tx) := by
    have : ls.map Tx = (ls.map tx).map V.str := by rw [List.map_map]; rfl
    rw [this] at rv
    exact rv.strs
  refine call_set_txt hh pl.isList st (by rw [List.length_map]; exact Nat.lt_of_lt_of_le (Nat.succ_lt_succ few) (by decide)) fun h' tk S k => ?_
  refine Calls.spliced_nil ?_
  have few2 : (onceL [] (ls.map tx)).length < 4000 := by
    have := once_len (ls.map tx) []
    rw [List.length_map] at this
    simp at this
    omega
  refine sorted_txt (s := { s1 with heap := h', toks := tk }) S hh few2 fun z p out n ys k2 hg ho hp hat hst pm so => ?_
  obtain ⟨zs, rfl, pw, mem, len⟩ := sorted_pw pm so
  have k3 : ∀ b u, s1.heap.get? b = some u → z.heap.get? b = some u := fun b u e => k2 b u (k b u e)
  have sz : s1.heap.objs.size ≤ p := by
    obtain ⟨D, at_, _⟩ := S
    exact Nat.le_trans (Nat.le_of_lt (Heap.lt_size at_)) hp
  have fr := I1.hok.fresh sz
  refine ⟨.ref p, upd H1 p (.lst (zs.map Tx)), ?_, rfl, q zs p pw mem len fr⟩
  have ok : ObjOk X.prog X.w (upd H1 p (.lst (zs.map Tx))) z.heap p (.lst (zs.map Tx)) :=
    ⟨by rw [List.length_map]; exact Nat.le_trans len (Nat.le_of_lt (Nat.lt_of_lt_of_le few (by decide))), out.toList, n, by
      have := vals_of_strs hst
      rw [List.map_map] at this
      exact this, hat⟩
  exact I1.call' (ch := []) ho (Un.laid k3 sz fr) (I1.hok.laid k3 sz ok) (by rw [hg]; exact I1.bare) (fun b z => absurd z (by simp))
end Pg
namespace Pg
open PySem PySem.Spec PyProof.Rows L2
/-! ### comprehensions that give values -/
theorem sql_up {K : PySem.W.Frag} {H H' : Hp} {a : Addr} {xs : List V} (s : Stp [] H H') (h : SqL K H a xs) : SqL K H' a xs := by
  rcases h with (h | ⟨o, h⟩) | h
  · exact .inl (.inl (s.kp _ _ (fun m => nomatch m) h))
  · exact .inl (.inr ⟨o, s.kp _ _ (fun m => nomatch m) h⟩)
  · exact .inr h
theorem ix_listK {X : Cx} {K : PySem.W.Frag} (hK : X.K = K) : IxR X (rIxL K) := by
  subst hK
  exact ix_list
theorem tn {σ : L2.St} {H : Hp} {Q : List V → Hp → Prop} (h : Q [] H) : tNil σ H Q := h
theorem RpL.snoc {K : PySem.W.Frag} {H : Hp} {vs : List V} {ds : List Dt} {i : Nat} {v : V} {d : Dt} (r : RpL K H vs (ds.take i)) (e : ds[i]? = some d) (h : Rp K H v d) : RpL K H (vs ++ [v]) (ds.take (i + 1)) := by
  rw [List.take_add_one, e]
  exact r.app (.cons h .nil)
theorem rpl_strs {K : PySem.W.Frag} {H : Hp} : ∀ {ls : List (List Nat)} {vs : List V}, RpL K H vs (ls.map Dt.str) → vs = ls.map Tx
  | [], _, .nil => rfl
  | l :: ls, _, .cons h r => by
    cases h
    rw [List.map_cons, rpl_strs r]
theorem rpl_bls {K : PySem.W.Frag} {H : Hp} : ∀ {bs : List Bool} {vs : List V}, RpL K H vs (bs.map Dt.bl) → vs = bs.map V.bl
  | [], _, .nil => rfl
  | b :: bs, _, .cons h r => by
    cases h
    rw [List.map_cons, rpl_bls r]
section
variable {K : PySem.W.Frag} {a : Addr} {xs : List V} {ds : List Dt} {g : TG} {te : TE} {vs : List Nat} {σ : L2.St} {H1 : Hp} {D : Addr} {Qd : Hp → Prop}
theorem lc_mapL (nD : H1 D = none) (hs : SqL K H1 a xs) (hl : ds.length = xs.length) (hz : xs.length ≤ 90000)
    (step : ∀ (i : Nat) x d H, xs[i]? = some x → ds[i]? = some d → Stp [] H1 H → ∀ Q : VK, (∀ y H', Stp [] H H' → Rp K H' y d → Q y H') → g x (wipe σ vs) H fun σ2 H2 => wipe σ2 vs = wipe σ vs ∧ te σ2 H2 Q)
    (hd : ∀ ws H, Stp [] H1 H → H D = some (.lst ws) → RpL K H ws ds → Qd H) :
    ∃ W : Nat → Nat → Hp → Prop, (∃ m, W 0 m (upd H1 D (.lst []))) ∧ ∀ i m H, W i m H →
      ((Itl K a).stop i H ∧ Qd H) ∨ ((Itl K a).go i H ∧ ∃ Nx : Hp → Prop, (∀ H', Nx H' → ∃ m', m' < m ∧ W (i + 1) m' H') ∧ ∀ x H', (Itl K a).yld i H x H' → g x (wipe σ vs) H' fun σ2 H2 => wipe σ2 vs = wipe σ vs ∧ tYes σ2 H2 fun b H3 =>
        if b = true then te σ2 H3 fun y H4 => ∃ acc, H4 D = some (.lst acc) ∧ acc.length < sizeLine ∧ Nx (upd H4 D (.lst (acc ++ [y]))) else Nx H3) := by
  refine lc_list (a := a) (xs := xs) (fun i H => ∃ ws, H D = some (.lst ws) ∧ RpL K H ws (ds.take i) ∧ Stp [] H1 H) ⟨[], upd_same, .nil, Stp.new nD _⟩ (fun i H _ ⟨_, _, _, S⟩ => sql_up S hs) ?_ ?_
  · rintro i x H hi ⟨ws, hL, rv, S⟩
    have il : i < ds.length := by rw [hl]; exact (List.getElem?_eq_some_iff.mp hi).1
    refine step i x ds[i] H hi (List.getElem?_eq_getElem il) S _ fun y H' S' ry => ?_
    refine ⟨ws, S'.kp _ _ (fun m => nomatch m) hL, ?_, ws ++ [y], upd_same, ?_, (S.trans S').mut nD⟩
    · rw [rv.len, List.length_take]
      exact Nat.lt_of_le_of_lt (show min i ds.length ≤ 90000 by omega) (by decide)
    · have s4 : Stp [D] H' (upd H' D (.lst (ws ++ [y]))) := Stp.put (by simp)
      have hL' := S'.kp _ _ (fun m => nomatch m) hL
      exact RpL.snoc ((rv.stp S' Lsts.nil).stp s4 (.one hL')) (List.getElem?_eq_getElem il) (ry.stp s4 (.one hL'))
  · rintro H ⟨ws, hL, rv, S⟩
    rw [← hl, List.take_length] at rv
    exact hd ws H S hL rv
theorem lc_mapT (nD : H1 D = none) (hs : SqT K H1 a xs) (hl : ds.length = xs.length) (hz : xs.length ≤ 90000)
    (step : ∀ (i : Nat) x d H, xs[i]? = some x → ds[i]? = some d → Stp [] H1 H → ∀ Q : VK, (∀ y H', Stp [] H H' → Rp K H' y d → Q y H') → g x (wipe σ vs) H fun σ2 H2 => wipe σ2 vs = wipe σ vs ∧ te σ2 H2 Q)
    (hd : ∀ ws H, Stp [] H1 H → H D = some (.lst ws) → RpL K H ws ds → Qd H) :
    ∃ W : Nat → Nat → Hp → Prop, (∃ m, W 0 m (upd H1 D (.lst []))) ∧ ∀ i m H, W i m H →
      ((Itt K a).stop i H ∧ Qd H) ∨ ((Itt K a).go i H ∧ ∃ Nx : Hp → Prop, (∀ H', Nx H' → ∃ m', m' < m ∧ W (i + 1) m' H') ∧ ∀ x H', (Itt K a).yld i H x H' → g x (wipe σ vs) H' fun σ2 H2 => wipe σ2 vs = wipe σ vs ∧ tYes σ2 H2 fun b H3 =>
        if b = true then te σ2 H3 fun y H4 => ∃ acc, H4 D = some (.lst acc) ∧ acc.length < sizeLine ∧ Nx (upd H4 D (.lst (acc ++ [y]))) else Nx H3) := by
  refine lc_tup (a := a) (xs := xs) (fun i H => ∃ ws, H D = some (.lst ws) ∧ RpL K H ws (ds.take i) ∧ Stp [] H1 H) ⟨[], upd_same, .nil, Stp.new nD _⟩ (fun i H _ ⟨_, _, _, S⟩ => sqt_stp S Lsts.nil hs) ?_ ?_
  · rintro i x H hi ⟨ws, hL, rv, S⟩
    have il : i < ds.length := by rw [hl]; exact (List.getElem?_eq_some_iff.mp hi).1
    refine step i x ds[i] H hi (List.getElem?_eq_getElem il) S _ fun y H' S' ry => ?_
    refine ⟨ws, S'.kp _ _ (fun m => nomatch m) hL, ?_, ws ++ [y], upd_same, ?_, (S.trans S').mut nD⟩
    · rw [rv.len, List.length_take]
      exact Nat.lt_of_le_of_lt (show min i ds.length ≤ 90000 by omega) (by decide)
    · have s4 : Stp [D] H' (upd H' D (.lst (ws ++ [y]))) := Stp.put (by simp)
      have hL' := S'.kp _ _ (fun m => nomatch m) hL
      exact RpL.snoc ((rv.stp S' Lsts.nil).stp s4 (.one hL')) (List.getElem?_eq_getElem il) (ry.stp s4 (.one hL'))
  · rintro H ⟨ws, hL, rv, S⟩
    rw [← hl, List.take_length] at rv
    exact hd ws H S hL rv
theorem lc_mapR {n : Nat} (nD : H1 D = none) (hl : ds.length = n) (hz : n ≤ 90000)
    (step : ∀ (i : Nat) d H, ds[i]? = some d → Stp [] H1 H → ∀ Q : VK, (∀ y H', Stp [] H H' → Rp K H' y d → Q y H') → g (.int ((0 : Int) + (i : Int))) (wipe σ vs) H fun σ2 H2 => wipe σ2 vs = wipe σ vs ∧ te σ2 H2 Q)
    (hd : ∀ ws H, Stp [] H1 H → H D = some (.lst ws) → RpL K H ws ds → Qd H) :
    ∃ W : Nat → Nat → Hp → Prop, (∃ m, W 0 m (upd H1 D (.lst []))) ∧ ∀ i m H, W i m H →
      ((Itr 0 n).stop i H ∧ Qd H) ∨ ((Itr 0 n).go i H ∧ ∃ Nx : Hp → Prop, (∀ H', Nx H' → ∃ m', m' < m ∧ W (i + 1) m' H') ∧ ∀ x H', (Itr 0 n).yld i H x H' → g x (wipe σ vs) H' fun σ2 H2 => wipe σ2 vs = wipe σ vs ∧ tYes σ2 H2 fun b H3 =>
        if b = true then te σ2 H3 fun y H4 => ∃ acc, H4 D = some (.lst acc) ∧ acc.length < sizeLine ∧ Nx (upd H4 D (.lst (acc ++ [y]))) else Nx H3) := by
  refine lc_range (lo := 0) (n := n) (fun i H => ∃ ws, H D = some (.lst ws) ∧ RpL K H ws (ds.take i) ∧ Stp [] H1 H) ⟨[], upd_same, .nil, Stp.new nD _⟩ ?_ ?_
  · rintro i H hi ⟨ws, hL, rv, S⟩
    have il : i < ds.length := by rw [hl]; exact hi
    refine step i ds[i] H (List.getElem?_eq_getElem il) S _ fun y H' S' ry => ?_
    refine ⟨ws, S'.kp _ _ (fun m => nomatch m) hL, ?_, ws ++ [y], upd_same, ?_, (S.trans S').mut nD⟩
    · rw [rv.len, List.length_take]
      exact Nat.lt_of_le_of_lt (show min i ds.length ≤ 90000 by omega) (by decide)
    · have s4 : Stp [D] H' (upd H' D (.lst (ws ++ [y]))) := Stp.put (by simp)
      have hL' := S'.kp _ _ (fun m => nomatch m) hL
      exact RpL.snoc ((rv.stp S' Lsts.nil).stp s4 (.one hL')) (List.getElem?_eq_getElem il) (ry.stp s4 (.one hL'))
  · rintro H ⟨ws, hL, rv, S⟩
    rw [← hl, List.take_length] at rv
    exact hd ws H S hL rv
end
end Pg
namespace Pg
open PySem PySem.Spec PyProof.Rows L2
/-- a new object is changed -/
theorem Stp.mutO {S : List Addr} {H H' : Hp} {p : Addr} {o : HO} (a : Stp S H H') (h : H p = none) : Stp S H (upd H' p o) :=
  ⟨fun x u n q => by
    rw [upd_ne (ne_of_none q h)]
    exact a.kp x u n q, fun x xs q => by
    rw [upd_ne (ne_of_none q h)]
    exact a.ls x xs q⟩
/-- sorted(xs), texts, any number of them -/
def rSortedSA (K : PySem.W.Frag) : List V → Hp → VK → Prop := fun vs H Q => ∃ (a : Addr) (ls : List (List Nat)), vs = [V.ref a] ∧ SqL K H a (ls.map Tx) ∧
  ∀ (zs : List (List Nat)) (p : Addr), zs.Perm ls → zs.Pairwise (· ≤ ·) → H p = none → Q (.ref p) (upd H p (.lst (zs.map Tx)))
theorem rising_le : ∀ (zs : List (List Nat)) (p : List Nat), risingS (tx p) (zs.map tx) = true → (p :: zs).Pairwise (· ≤ ·)
  | [], p, _ => List.pairwise_singleton _ _
  | z :: zs, p, h => by
    have h' : (!ltCps z p && risingS (tx z) (zs.map tx)) = true := by simpa [risingS] using h
    rw [ltCps_eq] at h'
    obtain ⟨h1, h2⟩ := Bool.and_eq_true_iff.mp h'
    have ih := rising_le zs z h2
    have pz : p ≤ z := List.not_lt.mp (by simpa using h1)
    refine List.pairwise_cons.mpr ⟨fun y m => ?_, ih⟩
    rcases List.mem_cons.mp m with rfl | m
    · exact pz
    · exact List.le_trans pz ((List.pairwise_cons.mp ih).1 y m)
theorem cr_sortedSA {X : Cx} : CallR X (.builtin "sorted") (rSortedSA X.K) := by
  intro pins s σ H vs us Q I r h
  obtain ⟨a, ls, rfl, hs, q⟩ := h
  obtain ⟨its, rv, hl, hz⟩ := I.list hs
  rw [Vals.ref1 r]
  have st : StrsAre its (ls.map tx) := by
    have : ls.map Tx = (ls.map tx).map V.str := by rw [List.map_map]; rfl
    rw [this] at rv
    exact rv.strs
  refine sorted_strsAny hl.isList st (by rw [← rv.length]; exact hz) fun out ys h1 h2 h3 => ?_
  have e : ys = (ys.map fun s => s.cps.toList).map tx := by
    rw [List.map_map]
    conv => lhs; rw [← List.map_id ys]
    rfl
  have pm : (ys.map fun s => s.cps.toList).Perm ls := by
    have := h2.map fun s : Str => s.cps.toList
    rw [List.map_map] at this
    refine this.trans (List.Perm.of_eq ?_)
    conv => rhs; rw [← List.map_id ls]
    refine List.map_congr_left fun l _ => ?_
    simp
  have so : (ys.map fun s => s.cps.toList).Pairwise (· ≤ ·) := by
    rw [e] at h3
    generalize (ys.map fun s => s.cps.toList) = zs at h3
    cases zs with
    | nil => exact List.Pairwise.nil
    | cons z zs => exact rising_le zs z h3
  obtain ⟨ep, he'⟩ := PyProof.Rows.sortedAll_at s.heap its out
  rw [e] at h1
  have hv := vals_of_strs h1
  rw [List.map_map] at hv
  have hv : Vals ((ys.map fun s => s.cps.toList).map Tx) out.toList := hv
  have hlen : ((ys.map fun s => s.cps.toList).map Tx).length ≤ sizeLine := by
    rw [List.length_map, pm.length_eq]
    rw [List.length_map] at hz
    exact hz
  exact ⟨.ref _, upd H (s.heap.objs.size + 1) (.lst ((ys.map fun s => s.cps.toList).map Tx)), I.laid (t' := s.toks) (fun _ _ => PyProof.Rows.sortedAll_old) (Nat.le_succ _) ⟨hlen, out.toList, ep, hv, he'⟩, rfl, q _ _ pm so (I.hok.fresh (Nat.le_succ _))⟩
end Pg
namespace Pg
open PySem PySem.Spec PyProof.Rows L2
theorem RpL.rev {K : PySem.W.Frag} {H : Hp} : ∀ {vs : List V} {ds : List Dt}, RpL K H vs ds → RpL K H vs.reverse ds.reverse
  | _, [], .nil => .nil
  | _, _ :: _, .cons h r => by
    rw [List.reverse_cons, List.reverse_cons]
    exact RpL.app (RpL.rev r) (.cons h .nil)
theorem RpL.erase {K : PySem.W.Frag} {H : Hp} {α : Type} {f : α → Dt} : ∀ {vs : List V} {ps : List α} {k : Nat}, RpL K H vs (ps.map f) → RpL K H (vs.eraseIdx k) ((ps.eraseIdx k).map f)
  | _, [], _, .nil => .nil
  | _, _ :: _, 0, .cons _ r => r
  | _, _ :: _, k + 1, .cons h r => .cons h (RpL.erase (k := k) r)
theorem seqIx {n : Nat} {d : Int} (h0 : 0 ≤ d) (h1 : d < (n : Int)) : seqIndex? d n = some d.toNat := (ixN_seq (by unfold ixN; rw [if_pos h0, if_pos h1])).1
/-! ### t[::-1] -/
section
variable {prog : Program} {w : World} {A : Around} {E : Value → Shared → Prop} {s : Shared}
open HT
theorem sliceApplied_rev {sl : Addr} {vl vu vs : Value} {n : Nat} {Q : Int × Int × Nat → Shared → Prop} (hs : s.heap.IsSliceOf sl vl vu vs) (pl : IsPart vl none) (pu : IsPart vu none) (ps : IsPart vs (some (-1)))
    (h : Q ((n : Int) - 1, -1, n) s) : wpAny (model prog w) A (Builtin.Slice.sliceApplied (.ref sl) (pure (n : Int))) Q E s := by
  obtain ⟨os, hos, hcs, hds⟩ := id hs
  unfold Builtin.Slice.sliceApplied Builtin.Slice.sliceFields
  refine wpAny_bind (wpAny_bind (wpAny_field hos hds (x := vl) rfl (wpAny_bind (wpAny_field hos hds (x := vu) rfl (wpAny_bind (wpAny_field hos hds (x := vs) rfl (wpAny_pure ?_)))))))
  refine wpAny_bind (slicePart_ ps ?_)
  show wpAny _ _ (if ((-1 : Int) == 0) = true then _ else _) _ _ s
  rw [if_neg (by decide)]
  refine wpAny_bind (slicePart_ pl (wpAny_bind (slicePart_ pu (wpAny_bind (wpAny_pure ?_)))))
  show wpAny _ _ (pure ((n : Int) - 1, (-1 : Int), Builtin.Slice.slicePlaces ((n : Int) - 1) (-1) (-1))) _ _ s
  have e : Builtin.Slice.slicePlaces ((n : Int) - 1) (-1) (-1) = n := by
    unfold Builtin.Slice.slicePlaces
    rw [if_neg (by decide)]
    by_cases c : (n : Int) - 1 > -1
    · rw [if_pos c, show (- -1 : Int) = 1 by decide, Int.ediv_one]
      omega
    · rw [if_neg c]
      omega
  rw [e]
  exact wpAny_pure h
theorem pick_rev (xs : Array Value) : ((List.range xs.size).filterMap fun (k : Nat) => xs[((xs.size : Int) - 1 + (k : Int) * (-1)).toNat]?).toArray = xs.toList.reverse.toArray := by
  have e : (fun (k : Nat) => xs[((xs.size : Int) - 1 + (k : Int) * (-1)).toNat]?) = (fun k => xs[xs.size - 1 - k]?) := by
    funext k
    have : ((xs.size : Int) - 1 + (k : Int) * (-1)).toNat = xs.size - 1 - k := by omega
    rw [this]
  rw [e]
  have e2 : (fun k => xs[xs.size - 1 - k]?) = (fun k => xs[k]?) ∘ fun k => xs.size - 1 - k := rfl
  rw [e2, ← List.filterMap_map, PySem.W.krv_range, List.filterMap_reverse, PySem.W.krv_all]
theorem getItem_tuple_rev {t sl : Addr} {items : Array Value} {vl vu vs : Value} {Q : Value → Shared → Prop} (ht : IsTup s.heap t items) (hs : s.heap.IsSliceOf sl vl vu vs) (pl : IsPart vl none) (pu : IsPart vu none) (ps : IsPart vs (some (-1)))
    (h : Q (.ref s.heap.objs.size) { s with heap := s.heap.push { cls := .type "tuple", data := .seq items.toList.reverse.toArray } })
    (hsz : items.size ≤ sizeLine) : wpAny (model prog w) A (getItem (.ref t) (.ref sl)) Q E s := by
  have htake : sizeOk (.seq items.toList.reverse.toArray) := by
    show items.toList.reverse.toArray.size ≤ sizeLine
    rw [List.size_toArray, List.length_reverse, Array.length_toList]
    exact hsz
  obtain ⟨os, hos, hcs, hds⟩ := id hs
  have hTs : s.TypeIs (.ref sl) "slice" := ⟨os, hos, hcs⟩
  unfold getItem
  try with_reducible refine wpAny_holding ?_
  first | refine wpAny_bind (wpAny_pure ?_) | skip
  refine wpAny_bind (wpAny_sequenceKey ht.typeIs (by decide) ?_)
  refine wpAny_bind (wpAny_callSpecial?_slot (name := Str.ofString "__getitem__") ht.typeIs PyProof.Rows.slot_tuple_getitem
    (wpAny_call_entry PyProof.Rows.slot_tuple_getitem ht.typeIs entry_tuple_getitem ?_ (args_tuple_getitem _ _)))
  show wpAny _ _ (Builtin.Tuple.tupleItemsOf (.ref t) >>= _) _ _ s
  refine wpAny_bind (tupleItemsOf_ ht ?_)
  refine wpAny_bind (wpAny_typeOf hTs ?_)
  rw [if_pos (by decide)]
  refine wpAny_bind (sliceApplied_rev hs pl pu ps ?_)
  have hno : ¬ ((((items.size : Int) - 1) == 0 && (-1 : Int) == 1 && items.size == items.size) = true) := by
    intro q
    rw [Bool.and_eq_true, Bool.and_eq_true] at q
    exact absurd q.1.2 (by decide)
  show wpAny _ _ (if (((items.size : Int) - 1) == 0 && (-1 : Int) == 1 && items.size == items.size) = true then _ else _) _ _ s
  rw [if_neg hno, pick_rev]
  first
    | exact wpAny_bind (m := Builtin.Tuple.tupleExact _) (wpAny_newObj_type (wpAny_pure ⟨_, rfl, wpAny_pure h⟩) htake)
    | exact wpAny_bind (m := Builtin.Tuple.tupleExact _) (wpAny_newObj_type (wpAny_bind (wpAny_pure (wpAny_pure ⟨_, rfl, wpAny_pure h⟩))) htake)
    | exact wpAny_bind (wpAny_bind (m := Builtin.Tuple.tupleExact _) (wpAny_newObj_type (wpAny_pure (wpAny_pure ⟨_, rfl, wpAny_pure h⟩)) htake))
    | exact wpAny_bind (wpAny_bind (m := Builtin.Tuple.tupleExact _) (wpAny_newObj_type (wpAny_pure ⟨_, rfl, wpAny_pure h⟩) htake))
end
section
variable {X : Cx}
def tRevT (K : PySem.W.Frag) (te : TE) : TE := fun σ H Q => te σ H fun x H1 => ∃ a xs, x = .ref a ∧ SqT K H1 a xs ∧ ∀ p, H1 p = none → Q (.ref p) (upd H1 p (.tup xs.reverse))
theorem pe_revT {e : Expr} {te : TE} {k : Nat} {p1 p2 p3 pos : Pos} (he : PE X e te) : PE X (.Subscript e (.Slice none none (some (.UnaryOp .USub (.Constant (.int 1) k p1) p2)) p3) pos) (tRevT X.K te) := by
  refine ⟨fun pins s σ H Q I h => ?_⟩
  refine Subscript_ (thn (he.run pins s σ H _ I h) fun v s1 ⟨x, H1, I1, r1, q1⟩ => ?_)
  obtain ⟨a, xs, ex, hx, q⟩ := q1
  subst ex
  cases r1
  have hst : PO X (some (.UnaryOp .USub (.Constant (.int 1) k p1) p2)) (tPart (tUn (rU fun i => .int (-i)) (tC (.int 1)))) := po_some (pe_un un_neg pe_int)
  refine wpAny_Slice (thn (po_none.run pins s1 σ H1 (fun o H2 => o = none ∧ H2 = H1) I1 ⟨rfl, rfl⟩) fun vl s2 ⟨l, H2, I2, pl, el, e2⟩ => ?_)
  subst el e2
  refine thn (po_none.run pins s2 σ H2 (fun o H3 => o = none ∧ H3 = H2) I2 ⟨rfl, rfl⟩) fun vu s3 ⟨u, H3, I3, pu, eu, e3⟩ => ?_
  subst eu e3
  refine thn (hst.run pins s3 σ H3 (fun o H4 => o = some (-1) ∧ H4 = H3) I3 ⟨1, rfl, -1, rfl, rfl, rfl⟩) fun vs s4 ⟨o, H4, I4, ps, eo, e4⟩ => ?_
  subst eo e4
  have I5 : Inv X pins σ H4 { s4 with heap := s4.heap.push { cls := .type "slice", data := .fields #[vl, vu, vs] } } := I4.kept (t' := s4.toks) fun b ob q => Heap.get?_push_of_some _ q
  obtain ⟨its, r, ht, hz⟩ := I5.tuple hx
  have hlen := r.length
  show wpAny (model X.prog X.w) X.A (subscriptTail e (.Slice none none (some (.UnaryOp .USub (.Constant (.int 1) k p1) p2)) p3) (.ref a) (.ref s4.heap.objs.size)) (EP X pins σ Q) X.xe { s4 with heap := s4.heap.push { cls := .type "slice", data := .fields #[vl, vu, vs] } }
  refine tail_any (ops := [.ref a, .ref s4.heap.objs.size]) ht.typeIs (PyProof.Rows.slot_tuple_getitem.lookup) ?_ (by with_unfolding_all rfl)
  refine getItem_tuple_rev ht (Heap.IsSliceOf.new _ vl vu vs) pl pu ps ?_ (by rw [List.size_toArray]; omega)
  refine ⟨.ref _, _, I5.laid (t' := s4.toks) (o := .tup xs.reverse) (fun b ob q => Heap.get?_push_of_some _ q) (Nat.le_refl _) ?_, rfl, q _ (I5.hok.fresh (Nat.le_refl _))⟩
  exact ⟨by rw [List.length_reverse]; exact hz, _, r.reverse, IsTup.new _ _⟩
end
end Pg
namespace Pg
open PySem PySem.Spec PyProof.Rows L2
theorem pe_clG0 {X : Cx} {j k : Nat} {st : Stmt} {ps : List Str} {sp : Sp} {x : Str} {p pos : Pos} (c : ClG X.prog X.w X.K X.mg X.base k x st ps sp) (hG : X.A.guards = some []) (hr : Room j X.A) (hk : k ≤ j) (hg : Gl X x := by rfl) (hdb : (x == ("__debug__" : Str)) = false := by decide) :
    PE X (.Call (.Name x p) [] [] pos) (tCl sp tNil) := by
  obtain ⟨f, fd, D, F⟩ := c.ex
  refine ⟨fun pins s σ H Q I h => ?_⟩
  refine wpAny_Call_Name_kw (ld_glob I hg D.at_ ?_ hdb)
  exact PySem.W.callWith_K0 I.kIn D.fn.kp (run_g (us := []) (F.mono hk) hG hr D.bd I .nil h)
end Pg
namespace Pv
open PySem PySem.Spec PyProof.Rows L2 Pg
/-! ### values as data, told by repr -/
mutual
def D.py : D → PyData
  | .non => .none
  | .bl b => .bool b
  | .int i => .int i
  | .str l => .str (tx l)
  | .tup ds => .tuple (D.pys ds)
  | .lst ds => .list (D.pys ds)
  | .obj _ => .none
def D.pys : List D → List PyData
  | [] => []
  | d :: ds => d.py :: D.pys ds
end
mutual
/-- signs at most -/
def D.wt : D → Nat
  | .non => 4
  | .bl _ => 5
  | .int _ => 12
  | .str l => 10 * l.length + 2
  | .tup ds => D.wts ds + 4
  | .lst ds => D.wts ds + 4
  | .obj _ => 0
def D.wts : List D → Nat
  | [] => 0
  | d :: ds => d.wt + 2 + D.wts ds
end
mutual
def D.deep : D → Nat
  | .tup ds => D.deeps ds + 1
  | .lst ds => D.deeps ds + 1
  | _ => 0
def D.deeps : List D → Nat
  | [] => 0
  | d :: ds => max d.deep (D.deeps ds)
end
mutual
/-- no objects, small numbers, signs that are signs -/
def D.fair : D → Bool
  | .non => true
  | .bl _ => true
  | .int i => decide (i.natAbs < 10 ^ 10)
  | .str l => l.all fun n => decide (n < 16 ^ 8)
  | .tup ds => D.fairs ds
  | .lst ds => D.fairs ds
  | .obj _ => false
def D.fairs : List D → Bool
  | [] => true
  | d :: ds => d.fair && D.fairs ds
end
section
variable {K : PySem.W.Frag} {S : List Addr} {H : Hp}
mutual
theorem rv_dp : ∀ {v : V} {d : D}, Rv K S H v d → d.fair = true → Dp K H v d.py
  | _, .non, .non, _ => by unfold D.py; exact .non
  | _, .bl _, .bl b, _ => by unfold D.py; exact .bl b
  | _, .int _, .int i, _ => by unfold D.py; exact .int i
  | _, .str _, .str x h, _ => by unfold D.py; exact .str _
  | _, .tup ds, .tup h n r, f => by
    unfold D.py
    unfold D.fair at f
    exact .tup h (rvs_dp r f)
  | _, .lst ds, .lst h o n r, f => by
    unfold D.py
    unfold D.fair at f
    exact .lst (SqL.of h) (rvs_dp r f)
  | _, .obj _, .obj _ _, f => by
    unfold D.fair at f
    cases f
theorem rvs_dp : ∀ {vs : List V} {ds : List D}, RvL K S H vs ds → D.fairs ds = true → DpAll K H vs (D.pys ds)
  | _, [], .nil, _ => by unfold D.pys; exact .nil
  | _, _ :: _, .cons h r, f => by
    unfold D.pys
    unfold D.fairs at f
    obtain ⟨f1, f2⟩ := Bool.and_eq_true_iff.mp f
    exact .cons (rv_dp h f1) (rvs_dp r f2)
end
end
mutual
theorem D.shw : ∀ (d : D), d.fair = true → d.py.showable = true
  | .non, _ => by unfold D.py; simp only [PyData.showable]
  | .bl _, _ => by unfold D.py; simp only [PyData.showable]
  | .int i, f => by
    unfold D.py
    unfold D.fair at f
    simp only [PyData.showable]
    have h := of_decide_eq_true f
    refine decide_eq_true ?_
    by_cases z : i.natAbs = 0
    · rw [z]; decide
    · exact (Nat.log2_lt z).mpr (Nat.lt_trans h (by decide +kernel))
  | .str _, _ => by unfold D.py; simp only [PyData.showable]
  | .tup ds, f => by
    unfold D.py
    unfold D.fair at f
    simp only [PyData.showable]
    exact D.shws ds f
  | .lst ds, f => by
    unfold D.py
    unfold D.fair at f
    simp only [PyData.showable]
    exact D.shws ds f
  | .obj _, f => by
    unfold D.fair at f
    cases f
theorem D.shws : ∀ (ds : List D), D.fairs ds = true → PyData.showableAll (D.pys ds) = true
  | [], _ => by unfold D.pys; simp only [PyData.showableAll]
  | d :: ds, f => by
    unfold D.pys
    unfold D.fairs at f
    obtain ⟨f1, f2⟩ := Bool.and_eq_true_iff.mp f
    simp only [PyData.showableAll, D.shw d f1, D.shws ds f2, Bool.and_self]
end
mutual
theorem D.dpt : ∀ (d : D), d.py.depth = d.deep
  | .non => by unfold D.py D.deep; rfl
  | .bl _ => by unfold D.py D.deep; rfl
  | .int _ => by unfold D.py D.deep; rfl
  | .str _ => by unfold D.py D.deep; rfl
  | .obj _ => by unfold D.py D.deep; rfl
  | .tup ds => by
    unfold D.py D.deep
    show PyData.depthAll _ + 1 = _
    rw [D.dpts ds]
  | .lst ds => by
    unfold D.py D.deep
    show PyData.depthAll _ + 1 = _
    rw [D.dpts ds]
theorem D.dpts : ∀ (ds : List D), PyData.depthAll (D.pys ds) = D.deeps ds
  | [] => by unfold D.pys D.deeps; rfl
  | d :: ds => by
    unfold D.pys D.deeps
    show max d.py.depth (PyData.depthAll (D.pys ds)) = _
    rw [D.dpt d, D.dpts ds]
end
mutual
theorem D.sgn : ∀ (d : D), d.fair = true → d.py.shown.length ≤ d.wt
  | .non, _ => by
    unfold D.py D.wt
    simp only [PyData.shown]
    decide
  | .bl b, _ => by
    unfold D.py D.wt
    cases b <;> simp only [PyData.shown] <;> decide
  | .int i, f => by
    unfold D.py D.wt
    unfold D.fair at f
    simp only [PyData.shown]
    have h := int_text_length_le10 (k := 10) (by decide) (of_decide_eq_true f)
    show (Str.ofString (toString i)).length ≤ 12
    rw [PySem.ofString_length]
    omega
  | .str l, f => by
    unfold D.py D.wt
    unfold D.fair at f
    simp only [PyData.shown]
    have := StrLaws.reprText_len (tx l) (fun c m => of_decide_eq_true (List.all_eq_true.mp f c (by simpa using m)))
    rw [tx_len] at this
    exact this
  | .tup ds, f => by
    unfold D.py D.wt
    unfold D.fair at f
    simp only [PyData.shown]
    have a := tupleText_le (PyData.shownAll (D.pys ds))
    have b := D.sgns ds f
    omega
  | .lst ds, f => by
    unfold D.py D.wt
    unfold D.fair at f
    simp only [PyData.shown]
    have a := listText_le (PyData.shownAll (D.pys ds))
    have b := D.sgns ds f
    omega
  | .obj _, f => by
    unfold D.fair at f
    cases f
theorem D.sgns : ∀ (ds : List D), D.fairs ds = true → ((PyData.shownAll (D.pys ds)).map fun t => t.length + 2).sum ≤ D.wts ds
  | [], _ => by
    unfold D.pys D.wts
    simp only [PyData.shownAll]
    decide
  | d :: ds, f => by
    unfold D.pys D.wts
    unfold D.fairs at f
    obtain ⟨f1, f2⟩ := Bool.and_eq_true_iff.mp f
    have p := D.sgn d f1
    have q := D.sgns ds f2
    simp only [PyData.shownAll, List.map_cons, List.sum_cons]
    omega
end
/-- what repr tells of a value -/
def D.told (d : D) : Str := d.py.shown
structure D.Fine (d : D) : Prop where
  fair : d.fair = true
  deep : d.deep ≤ 100
  wt : d.wt ≤ 1000000
/-- repr of values -/
def rReprD (K : PySem.W.Frag) : List V → Hp → VK → Prop := fun xs H Q => ∃ (S : List Addr) (v : V) (d : D), xs = [v] ∧ Rv K S H v d ∧ d.Fine ∧ Q (.str d.told) H
theorem call_reprD {X : Cx} {j : Nat} (hG : X.A.guards = some []) (hr : Room j X.A) : CallR X (.builtin "repr") (rReprD X.K) := fun pins s σ H xs us Q I r h => by
  obtain ⟨S, v, d, e, rv, ⟨f, dd, sz⟩, q⟩ := h
  exact call_repr hG hr pins s σ H xs us Q I r ⟨v, d.py, e, rv_dp rv f, D.shw d f, by rw [D.dpt]; exact dd, Nat.le_trans (D.sgn d f) (Nat.le_trans sz (by decide)), q⟩
/-! ### list.count of flat items -/
def rCntF (K : PySem.W.Frag) : V → List V → Hp → VK → Prop := fun x xs H Q => ∃ (p : Addr) (ys : List V) (y : V), x = .ref p ∧ xs = [y] ∧ SqL K H p ys ∧ flatV y = true ∧ ys.all flatV = true ∧ Q (.int ((ys.countP fun z => eqV z y : Nat) : Int)) H
theorem count_eqU {x : V} : ∀ {ys : List V} {us : List Value}, Vals ys us → ys.all flatV = true → us.countP (eqU x) = ys.countP fun z => eqV z x
  | [], _, .nil, _ => rfl
  | y :: ys, _, .cons r t, f => by
    rw [List.all_cons, Bool.and_eq_true] at f
    rw [List.countP_cons, List.countP_cons, count_eqU t f.2, eqU_of r f.1]
theorem mt_lcountF {X : Cx} : MtR X "list.count" (rCntF X.K) := by
  intro pins s σ H x xs v us Q I rx rxs h
  obtain ⟨p, ys, y, rfl, rfl, hs, fy, fys, q⟩ := h
  cases rx
  obtain ⟨u, rfl, ru⟩ := rxs.one
  obtain ⟨its, rv, ⟨⟨cls, dd, data, sl⟩, n, ho, hc, hdn, hd⟩, hlen⟩ := I.list hs
  simp only at hc hd
  subst hc hd
  refine call_meets PySem.F.slot_list_count ⟨_, ho, rfl⟩ PySem.F.entry_list_count (PySem.F.args_list_count_2 _ _)
    (SeqAt.list_countAt p its.toArray n dd sl u (eqU y)) ⟨ho, fun u' hu' => mem_eqAt ru fy rv fys u' (by simpa using hu'), ?_⟩
  have ec : its.toArray.toList.countP (eqU y) = ys.countP fun z => eqV z y := count_eqU rv fys
  refine ⟨.int ((ys.countP fun z => eqV z y : Nat) : Int), H, I.tok _, ⟨s.toks, ?_⟩, q⟩
  show Value.int ((its.toArray.toList.countP (eqU y) : Nat) : Int) s.toks = _
  rw [ec]
/-! ### str.index of what is there -/
def rIdxS : V → List V → Hp → VK → Prop := fun x xs H Q => ∃ (a b : Str) (k : Nat), x = .str a ∧ xs = [.str b] ∧ Txt.index0 a b = some k ∧ Q (.int (k : Int)) H
theorem mt_idxS {X : Cx} : MtR X "str.index" rIdxS := by
  intro pins s σ H x xs v us Q I rx rs h
  obtain ⟨a, b, k, rfl, rfl, hk, w⟩ := h
  obtain ⟨t, rfl⟩ := rx
  cases rs with
  | cons r1 rs =>
    cases rs
    obtain ⟨u, rfl⟩ := r1
    cases q : Builtin.Str.occurrences a b 0 a.length 1 with
    | nil =>
      unfold Txt.index0 at hk
      rw [q] at hk
      cases hk
    | cons k' rest =>
      unfold Txt.index0 at hk
      rw [q] at hk
      cases hk
      exact PySem.SC.index q ⟨.int (k : Nat), H, I.tok _, ⟨_, rfl⟩, w⟩
/-! ### xs == ys, both hold the same values -/
def rEqL (K : PySem.W.Frag) : R2 := fun x y H Q => ∃ (S : List Addr) (a b : Addr) (xs : List V) (ds : List D), x = .ref a ∧ y = .ref b ∧ SqL K H a xs ∧ SqL K H b xs ∧ RvL K S H xs ds ∧ Q (.bl true) H
theorem op_eqL {X : Cx} (hu : X.A.units + 64 < cLine) : OpR X (compareOp .Eq) (rEqL X.K) := by
  intro pins s σ H x y v u Q I rx ry h
  obtain ⟨S, a, b, xs, ds, rfl, rfl, hH, hB, rv, q⟩ := h
  cases rx
  cases ry
  obtain ⟨its, r, pl, _⟩ := I.list hH
  obtain ⟨its2, r2, pl2, _⟩ := I.list hB
  have e1 := Vals.length r
  have e2 := Vals.length r2
  refine SeqAt.RcAt.lists (e := fun _ => true) pl.isList pl2.isList (by simp; omega) (by omega) (fun j h1 h2 => ?_) _ _ _ _ ?_
  · have := vals_at rv r r2 X.A.in1 s j (by simpa using h1) (by simpa using h2)
    simpa using this
  · refine ⟨.bl _, H, I, rfl, ?_⟩
    rw [show ((List.range its.toArray.size).all fun _ => true) = true from by simp]
    exact q
/-! ### letters c at the end -/
/-- without the letters c at its end -/
def cOff (l : List Nat) : List Nat := l.take (l.length - (l.reverse.takeWhile fun c => c == 99).length)
theorem cOff_rev (l : List Nat) : cOff l = (l.reverse.dropWhile fun c => c == 99).reverse := by
  unfold cOff
  have e := List.takeWhile_append_dropWhile (p := fun c => c == 99) (l := l.reverse)
  have e2 : l = (l.reverse.dropWhile fun c => c == 99).reverse ++ (l.reverse.takeWhile fun c => c == 99).reverse := by
    rw [← List.reverse_append, e, List.reverse_reverse]
  have hl : l.length = (l.reverse.dropWhile fun c => c == 99).length + (l.reverse.takeWhile fun c => c == 99).length := by
    have := congrArg List.length e2
    simpa using this
  generalize (l.reverse.dropWhile fun c => c == 99) = A at *
  generalize (l.reverse.takeWhile fun c => c == 99) = B at *
  rw [e2, List.length_append, List.length_reverse, List.length_reverse, Nat.add_sub_cancel, ← List.length_reverse (as := A), List.take_left]
theorem contains_c (n : Nat) : (tx [99]).cps.contains n = (n == 99) := by
  by_cases h : n = 99
  · subst h
    decide +kernel
  · rw [show (n == 99) = false from beq_eq_false_iff_ne.mpr h]
    simp [tx]
    exact fun q => h (by omega)
theorem rstrip_c (l : List Nat) : Txt.rstripChars (tx l) (tx [99]) = tx (cOff l) := by
  unfold Txt.rstripChars
  rw [PyProof.Rows.stripBy_eq]
  have e : (tx [99]).cps.contains = fun n => n == 99 := funext contains_c
  rw [e]
  unfold stripLo stripHi Builtin.Str.strSub cOff
  simp [tx, Str.length]
theorem drop_all : ∀ {l : List Nat}, (l.dropWhile fun c => c == 99) = [] → ∀ c ∈ l, c = 99
  | x :: l, h, c, m => by
    rw [List.dropWhile_cons] at h
    by_cases z : (x == 99) = true
    · rw [if_pos z] at h
      rcases List.mem_cons.mp m with rfl | m
      · exact beq_iff_eq.mp z
      · exact drop_all h c m
    · rw [if_neg z] at h
      cases h
theorem cOff_nil {l : List Nat} (h : cOff l = []) : ∀ c ∈ l, c = 99 := fun c m => by
  rw [cOff_rev] at h
  exact drop_all (List.reverse_eq_nil_iff.mp h) c (List.mem_reverse.mpr m)
theorem cOff_last {l : List Nat} (h : cOff l ≠ []) : ∃ i c, cOff l = i ++ [c] ∧ c ≠ 99 := by
  rw [cOff_rev] at h ⊢
  cases e : (l.reverse.dropWhile fun c => c == 99) with
  | nil => rw [e] at h; exact absurd rfl h
  | cons c t =>
    refine ⟨t.reverse, c, by rw [List.reverse_cons], fun z => ?_⟩
    have := List.head?_dropWhile_not (fun c => c == 99) l.reverse
    rw [e] at this
    simp at this
    exact this z
theorem abc_cOff {l : List Nat} (h : Abc l) : Abc (cOff l) := h.take _
theorem cOff_len (l : List Nat) : (cOff l).length ≤ l.length := by
  unfold cOff
  rw [List.length_take]
  omega
/-- the text beyond -/
def bey (l : List Nat) : Option (List Nat) := if cOff l = [] then none else some ((cOff l).dropLast ++ [(cOff l).getLastD 0 + 1])
theorem abc_bey {l m : List Nat} (h : Abc l) (e : bey l = some m) : Abc m ∧ m.length ≤ l.length := by
  unfold bey at e
  by_cases z : cOff l = []
  · rw [if_pos z] at e; cases e
  · rw [if_neg z] at e
    obtain ⟨i, c, hc, n⟩ := cOff_last z
    have hl := cOff_len l
    have ha := abc_cOff h
    rw [hc] at e hl ha
    simp at e
    subst e
    refine ⟨Abc.app (fun x m => ha x (List.mem_append_left _ m)) (Abc.one ?_), by simpa using hl⟩
    rcases ha c (List.mem_append_right _ List.mem_cons_self) with q | q | q <;> omega
end Pv
namespace Pv
open PySem PySem.Spec PyProof.Rows L2 Pg
theorem bag_ls {H : Hp} {b : Addr} {n : Nat} (B : Bag H b n) : Lsts H [b] := by
  obtain ⟨x, y, z, hb, _⟩ := B
  exact .one hb
theorem catle {a b : List Nat} (h : a.length ≤ 12) (g : b.length ≤ 1000) : a.length + b.length ≤ 100000 := by omega
theorem catle' {a b : List Nat} (h : a.length ≤ 1000) (g : b.length ≤ 12) : a.length + b.length ≤ 100000 := by omega
theorem EvD.cat {K : PySem.W.Frag} {S : List Addr} {te tb : TE} {σ : L2.St} {H : Hp} {a b : List Nat} (h : EvD K S te σ H (.str a)) (g : EvD K S tb σ H (.str b)) (hl : a.length + b.length ≤ 100000) : EvD K S (tOp (fun x y H Q => ∃ i j, x = .str i ∧ y = .str j ∧ i.length + j.length ≤ sizeLine ∧ Q (.str (i ++ j)) H) te tb) σ H (.str (a ++ b)) := fun H1 s Q k =>
  h H1 s _ fun v H2 s2 r => g H2 (s.trans s2) _ fun u H3 s3 q => by
    cases r with
    | str _ h1 =>
      cases q with
      | str _ h2 =>
        refine ⟨tx a, tx b, rfl, rfl, by rw [tx_len, tx_len]; exact sz hl, ?_⟩
        rw [tx_app]
        exact k _ _ (s2.trans s3) (.str _ (by rw [List.length_append]; exact hl))
/-! ### t == () -/
def rEqNilT (K : PySem.W.Frag) : R2 := fun x y H Q => ∃ a b xs, x = .ref a ∧ y = .ref b ∧ SqT K H a xs ∧ SqT K H b [] ∧ Q (.bl xs.isEmpty) H
theorem op_eqNilT {X : Cx} (hu : X.A.units + 64 < cLine) : OpR X (compareOp .Eq) (rEqNilT X.K) := by
  intro pins s σ H x y v u Q I rx ry h
  obtain ⟨a, b, xs, rfl, rfl, hH, hB, q⟩ := h
  cases rx
  cases ry
  obtain ⟨its, r, pl, _⟩ := I.tuple hH
  obtain ⟨its2, r2, pl2, _⟩ := I.tuple hB
  cases r2
  have e1 := Vals.length r
  refine SeqAt.RcAt.tuples (e := fun _ => true) pl pl2 (by omega) (fun j h1 h2 => absurd h2 (by simp)) _ _ _ _ ?_
  refine ⟨.bl _, H, I, rfl, ?_⟩
  have e : ((List.range (min its.toArray.size ([] : List Value).toArray.size)).all (fun _ => true) && its.toArray.size == ([] : List Value).toArray.size) = xs.isEmpty := by
    cases r with
    | nil => rfl
    | cons _ _ => simp
  rw [e]
  exact q
end Pv
namespace Pg
open PySem PySem.Spec PyProof.Rows L2
/-! ### min, max of a list of ints with default= -/
theorem ints_reads {h : Heap} : ∀ {its : List Value} {ns : List Int}, IntsAre its ns → ∃ as, ReadsAll h its (ns.map PyData.int) as
  | _, _, .nil => ⟨_, ReadsAll.nil⟩
  | _, _, .cons a t hi => by
    obtain ⟨as, r⟩ := ints_reads (h := h) hi
    exact ⟨_, ReadsAll.cons (Reads.int a t) r⟩
def foldMin (ns : List Int) (d : Int) : Int := match ns with | [] => d | n :: r => r.foldl min n
def foldMax (ns : List Int) (d : Int) : Int := match ns with | [] => d | n :: r => r.foldl max n
theorem alike_ints (ns : List Int) : PySem.W.AlikeAll (ns.map PyData.int) := by
  refine ⟨fun x hx y hy => ?_, fun x hx => ?_⟩
  · obtain ⟨i, _, rfl⟩ := List.mem_map.mp hx
    obtain ⟨j, _, rfl⟩ := List.mem_map.mp hy
    rfl
  · obtain ⟨i, _, rfl⟩ := List.mem_map.mp hx
    exact fun e => nomatch e
theorem depth_ints : ∀ ns : List Int, PyData.depthAll (ns.map PyData.int) ≤ 1
  | [] => Nat.zero_le _
  | n :: ns => Nat.max_le.mpr ⟨(Nat.zero_le 1 : PyData.depth (.int n) ≤ 1), depth_ints ns⟩
section
variable {X : Cx}
def rMinDf (K : PySem.W.Frag) : List V → List V → Hp → VK → Prop := fun vs zs H Q => ∃ (a : Addr) (ns : List Int) (d : Int), vs = [V.ref a] ∧ zs = [.int d] ∧ SqL K H a (ns.map V.int) ∧ Q (.int (foldMin ns d)) H
def rMaxDf (K : PySem.W.Frag) : List V → List V → Hp → VK → Prop := fun vs zs H Q => ∃ (a : Addr) (ns : List Int) (d : Int), vs = [V.ref a] ∧ zs = [.int d] ∧ SqL K H a (ns.map V.int) ∧ Q (.int (foldMax ns d)) H
theorem cr_minDf (hc : X.calm = true) (hu : X.A.units + 64 < cLine) : CallRK X (.builtin "min") [Str.ofString "default"] (rMinDf X.K) := by
  intro pins s σ H vs zs us ws Q I r rz h
  obtain ⟨a, ns, d, rfl, rfl, hs, q⟩ := h
  obtain rfl := Vals.ref1 r
  obtain ⟨w1, rfl, e1⟩ := vals1 rz
  obtain ⟨t1, rfl⟩ := e1
  obtain ⟨its, rv, hl, _⟩ := I.list hs
  obtain ⟨as, ra⟩ := ints_reads (h := s.heap) rv.ints
  refine PySem.W.min_list_default (I.ok.hd hc) hl.isList ra ?_ ?_ (fun e h' tk hk => ?_) fun y ys i v h' tk bs e hv rd hk => ?_
  · exact alike_ints ns
  · have := depth_ints ns
    omega
  · have : ns = [] := List.map_eq_nil_iff.mp e
    subst this
    exact ⟨.int _, H, I.kept hk, ⟨_, rfl⟩, q⟩
  · cases ns with
    | nil => cases e
    | cons n ns =>
      cases e
      rw [PySem.W.minD_ints] at rd
      cases rd
      exact ⟨.int _, H, I.kept hk, ⟨_, rfl⟩, q⟩
theorem cr_maxDf (hc : X.calm = true) (hu : X.A.units + 64 < cLine) : CallRK X (.builtin "max") [Str.ofString "default"] (rMaxDf X.K) := by
  intro pins s σ H vs zs us ws Q I r rz h
  obtain ⟨a, ns, d, rfl, rfl, hs, q⟩ := h
  obtain rfl := Vals.ref1 r
  obtain ⟨w1, rfl, e1⟩ := vals1 rz
  obtain ⟨t1, rfl⟩ := e1
  obtain ⟨its, rv, hl, _⟩ := I.list hs
  obtain ⟨as, ra⟩ := ints_reads (h := s.heap) rv.ints
  refine PySem.W.max_list_default (I.ok.hd hc) hl.isList ra ?_ ?_ (fun e h' tk hk => ?_) fun y ys i v h' tk bs e hv rd hk => ?_
  · exact alike_ints ns
  · have := depth_ints ns
    omega
  · have : ns = [] := List.map_eq_nil_iff.mp e
    subst this
    exact ⟨.int _, H, I.kept hk, ⟨_, rfl⟩, q⟩
  · cases ns with
    | nil => cases e
    | cons n ns =>
      cases e
      rw [PySem.W.maxD_ints] at rd
      cases rd
      exact ⟨.int _, H, I.kept hk, ⟨_, rfl⟩, q⟩
end
section
variable {K : PySem.W.Frag} {a : Addr} {xs : List V} {ds : List Dt} {g : TG} {te : TE} {vs : List Nat} {σ : L2.St} {H1 : Hp} {D : Addr} {Qd : Hp → Prop}
theorem lc_mapT9 (nD : H1 D = none) (hs : SqT K H1 a xs) (hl : ds.length = xs.length) (hz : xs.length ≤ 100000)
    (step : ∀ (i : Nat) x d H, xs[i]? = some x → ds[i]? = some d → Stp [] H1 H → ∀ Q : VK, (∀ y H', Stp [] H H' → Rp K H' y d → Q y H') → g x (wipe σ vs) H fun σ2 H2 => wipe σ2 vs = wipe σ vs ∧ te σ2 H2 Q)
    (hd : ∀ ws H, Stp [] H1 H → H D = some (.lst ws) → RpL K H ws ds → Qd H) :
    ∃ W : Nat → Nat → Hp → Prop, (∃ m, W 0 m (upd H1 D (.lst []))) ∧ ∀ i m H, W i m H →
      ((Itt K a).stop i H ∧ Qd H) ∨ ((Itt K a).go i H ∧ ∃ Nx : Hp → Prop, (∀ H', Nx H' → ∃ m', m' < m ∧ W (i + 1) m' H') ∧ ∀ x H', (Itt K a).yld i H x H' → g x (wipe σ vs) H' fun σ2 H2 => wipe σ2 vs = wipe σ vs ∧ tYes σ2 H2 fun b H3 =>
        if b = true then te σ2 H3 fun y H4 => ∃ acc, H4 D = some (.lst acc) ∧ acc.length < sizeLine ∧ Nx (upd H4 D (.lst (acc ++ [y]))) else Nx H3) := by
  refine lc_tup (a := a) (xs := xs) (fun i H => ∃ ws, H D = some (.lst ws) ∧ RpL K H ws (ds.take i) ∧ Stp [] H1 H) ⟨[], upd_same, .nil, Stp.new nD _⟩ (fun i H _ ⟨_, _, _, S⟩ => sqt_stp S Lsts.nil hs) ?_ ?_
  · rintro i x H hi ⟨ws, hL, rv, S⟩
    have il : i < ds.length := by rw [hl]; exact (List.getElem?_eq_some_iff.mp hi).1
    refine step i x ds[i] H hi (List.getElem?_eq_getElem il) S _ fun y H' S' ry => ?_
    refine ⟨ws, S'.kp _ _ (fun m => nomatch m) hL, ?_, ws ++ [y], upd_same, ?_, (S.trans S').mut nD⟩
    · rw [rv.len, List.length_take]
      exact Nat.lt_of_lt_of_le (show min i ds.length < 100000 by omega) (by decide)
    · have s4 : Stp [D] H' (upd H' D (.lst (ws ++ [y]))) := Stp.put (by simp)
      have hL' := S'.kp _ _ (fun m => nomatch m) hL
      exact RpL.snoc ((rv.stp S' Lsts.nil).stp s4 (.one hL')) (List.getElem?_eq_getElem il) (ry.stp s4 (.one hL'))
  · rintro H ⟨ws, hL, rv, S⟩
    rw [← hl, List.take_length] at rv
    exact hd ws H S hL rv
end
end Pg
namespace Pg
open PySem PySem.Spec PyProof.Rows L2
/-! ### a dict whose keys are None and texts -/
def lfV : V → Leaf
  | .str s => .text s
  | _ => .none
def lfOk : V → Bool
  | .non => true
  | .str _ => true
  | _ => false
theorem lf_is {P : Program} {w : World} {x : V} {v : Value} (p : lfOk x = true) (r : RelV x v) : (leafKind P w).is (lfV x) v = true := by
  cases x with
  | non => cases (show v = Value.none from r); rfl
  | str s => obtain ⟨t, rfl⟩ := r; exact beq_self_eq_true s
  | _ => cases p
theorem lf_of {P : Program} {w : World} {x : V} {v : Value} (p : lfOk x = true) (i : (leafKind P w).is (lfV x) v = true) : RelV x v := by
  cases x with
  | non =>
    have i : Leaf.isOf .none v = true := i
    cases v <;> first | rfl | cases i
  | str s =>
    have i : Leaf.isOf (.text s) v = true := i
    cases v with
    | str y t =>
      have e : (y == s) = true := i
      rw [eq_of_beq e]
      exact ⟨t, rfl⟩
    | _ => cases i
  | _ => cases p
theorem lf_inj {x y : V} (p : lfOk x = true) (q : lfOk y = true) (e : lfV x = lfV y) : x = y := by
  cases x with
  | non =>
    cases y with
    | non => rfl
    | str s => exact Leaf.noConfusion (show Leaf.none = Leaf.text s from e)
    | _ => exact Bool.noConfusion (show false = true from q)
  | str s =>
    cases y with
    | non => exact Leaf.noConfusion (show Leaf.text s = Leaf.none from e)
    | str t => rw [Leaf.text.inj (show Leaf.text s = Leaf.text t from e)]
    | _ => exact Bool.noConfusion (show false = true from q)
  | _ => exact Bool.noConfusion (show false = true from p)
abbrev LEnt := V × V
def LEntR (p : LEnt) (q : Leaf × Value) : Prop := lfV p.1 = q.1 ∧ RelV p.2 q.2
/-- what stands at d: the dict's own object -/
def RawL (P : Program) (w : World) (d : Addr) (es : List LEnt) (h : Heap) : Prop := (d == sysModules) = false ∧ (∀ e ∈ es, lfOk e.1 = true) ∧ ∃ kvs : List (Leaf × Value), Paired LEntR es kvs ∧ Heap.DictOf (leafKind P w) h d kvs
theorem rawL_ok {P : Program} {w : World} {H : Hp} {d : Addr} {es : List LEnt} {h : Heap} (r : RawL P w d es h) : ObjOk P w H h d (.ext (RawL P w d es)) := by
  refine ⟨r, ?_, ?_⟩
  · obtain ⟨_, _, kvs, _, o, _, _, g, _⟩ := r
    exact ⟨o, g⟩
  · rintro g1 g2 ⟨k0, k1, kvs, k2, k3⟩ st
    exact ⟨k0, k1, kvs, k2, k3.at fun o e => st o e⟩
def tDNewL (P : Program) (w : World) : TE := fun _ H Q => ∀ p, H p = none → Q (.ref p) (upd H p (.ext (RawL P w p [])))
theorem pe_dnewL {X : Cx} {pos : Pos} : PE X (.Dict [] [] pos) (tDNewL X.prog X.w) := ⟨fun pins s σ H Q I h =>
  wpAny_Dict_empty ⟨.ref s.heap.objs.size, _, I.laid (a := s.heap.objs.size) (o := .ext (RawL X.prog X.w s.heap.objs.size [])) (t' := s.toks) (fun _ _ q => Heap.get?_push_of_some _ q) (Nat.le_refl _)
    (rawL_ok ⟨beq_eq_false_iff_ne.mpr (Ne.symm (Nat.ne_of_lt I.big)), fun _ m => (nomatch m), [], .nil, Heap.DictOf.new _⟩), rfl, h _ (I.hok.fresh (Nat.le_refl _))⟩⟩
/-- what stands there for a key -/
def lfAt : List LEnt → V → Option V
  | [], _ => none
  | e :: es, x => if e.1 = x then some e.2 else lfAt es x
theorem lf_at {es : List LEnt} {kvs : List (Leaf × Value)} {x : V} (h : Paired LEntR es kvs) (p : lfOk x = true) (ok : ∀ e ∈ es, lfOk e.1 = true) :
    (∀ y, lfAt es x = some y → ∃ v, valueAt kvs (lfV x) = some v ∧ RelV y v) ∧ (lfAt es x = none → valueAt kvs (lfV x) = none) := by
  induction h with
  | nil => exact ⟨fun _ e => (nomatch e), fun _ => rfl⟩
  | @cons a b l1 l2 r t ih =>
    obtain ⟨r1, r2⟩ := r
    by_cases c : a.1 = x
    · have e1 : lfAt (a :: l1) x = some a.2 := if_pos c
      have e2 : valueAt (b :: l2) (lfV x) = some b.2 := by
        unfold valueAt
        rw [List.find?_cons_of_pos (by rw [← r1, c]; simp)]
        rfl
      rw [e1, e2]
      exact ⟨fun y e => by cases e; exact ⟨_, rfl, r2⟩, fun e => (nomatch e)⟩
    · have e1 : lfAt (a :: l1) x = lfAt l1 x := if_neg c
      have nk : ¬ b.1 = lfV x := fun e => c (lf_inj (ok a List.mem_cons_self) p (r1.trans e))
      have e2 : valueAt (b :: l2) (lfV x) = valueAt l2 (lfV x) := by
        unfold valueAt
        rw [List.find?_cons_of_neg (by simpa using nk)]
      rw [e1, e2]
      exact ih fun e m => ok e (List.mem_cons_of_mem _ m)
theorem lf_none {es : List LEnt} {kvs : List (Leaf × Value)} {x : V} (h : Paired LEntR es kvs) (p : lfOk x = true) (ok : ∀ e ∈ es, lfOk e.1 = true) : (valueAt kvs (lfV x)).isSome = (lfAt es x).isSome := by
  obtain ⟨a, b⟩ := lf_at h p ok
  cases e : lfAt es x with
  | none => rw [b e]; rfl
  | some y => obtain ⟨v, e2, _⟩ := a y e; rw [e2]; rfl
theorem lf_len {es : List LEnt} {kvs : List (Leaf × Value)} (h : Paired LEntR es kvs) : es.length = kvs.length := by
  induction h with
  | nil => rfl
  | cons _ _ ih => simp [ih]
theorem lf_add {es : List LEnt} {kvs : List (Leaf × Value)} (h : Paired LEntR es kvs) {p : LEnt} {q : Leaf × Value} (r : LEntR p q) : Paired LEntR (es ++ [p]) (kvs ++ [q]) := by
  induction h with
  | nil => exact .cons r .nil
  | cons r' _ ih => exact .cons r' ih
theorem vals_idx : ∀ {xs : List V} {us : List Value}, xs.length = us.length → (∀ (j : Nat) x u, xs[j]? = some x → us[j]? = some u → RelV x u) → Vals xs us
  | [], [], _, _ => .nil
  | x :: xs, u :: us, l, h => .cons (h 0 x u rfl rfl) (vals_idx (Nat.succ.inj l) fun j y v a b => h (j + 1) y v a b)
  | [], _ :: _, l, _ => nomatch l
  | _ :: _, [], l, _ => nomatch l
theorem vals_get {xs : List V} {us : List Value} (h : Vals xs us) : ∀ {j : Nat} {x : V}, xs[j]? = some x → ∃ u, us[j]? = some u ∧ RelV x u := by
  induction h with
  | nil => exact fun e => (nomatch e)
  | cons r _ ih =>
    intro j x e
    cases j with
    | zero => cases e; exact ⟨_, rfl, r⟩
    | succ j => exact ih e
theorem lf_idx {es : List LEnt} {kvs : List (Leaf × Value)} (h : Paired LEntR es kvs) : ∀ (j : Nat) (e : LEnt), es[j]? = some e → ∃ q, kvs[j]? = some q ∧ LEntR e q := by
  induction h with
  | nil => exact fun j e x => (nomatch x)
  | cons r _ ih =>
    intro j e x
    cases j with
    | zero => cases x; exact ⟨_, rfl, r⟩
    | succ j => exact ih j e x
section
variable {X : Cx}
def rInL (P : Program) (w : World) : R2 := fun x y H Q => ∃ d es, y = .ref d ∧ H d = some (.ext (RawL P w d es)) ∧ lfOk x = true ∧ Q (.bl (lfAt es x).isSome) H
def rNotInL (P : Program) (w : World) : R2 := fun x y H Q => ∃ d es, y = .ref d ∧ H d = some (.ext (RawL P w d es)) ∧ lfOk x = true ∧ Q (.bl (!(lfAt es x).isSome)) H
theorem op_inL : OpR X (compareOp .In) (rInL X.prog X.w) := by
  intro pins s σ H x y v u Q I rx ry h
  obtain ⟨d, es, rfl, hH, p, k⟩ := h
  cases ry
  obtain ⟨⟨h0, ok, kvs, hp, hd⟩, _, _⟩ := I.hok d _ hH
  refine wpAny_in_of (lf_is p rx) h0 hd.mapOf ⟨.bl (valueAt kvs (lfV x)).isSome, H, I.tok _, rfl, ?_⟩
  rw [lf_none hp p ok]
  exact k
theorem op_notInL : OpR X (compareOp .NotIn) (rNotInL X.prog X.w) := by
  intro pins s σ H x y v u Q I rx ry h
  obtain ⟨d, es, rfl, hH, p, k⟩ := h
  cases ry
  obtain ⟨⟨h0, ok, kvs, hp, hd⟩, _, _⟩ := I.hok d _ hH
  refine wpAny_notIn_of (lf_is p rx) h0 hd.mapOf ⟨.bl (!(valueAt kvs (lfV x)).isSome), H, I.tok _, rfl, ?_⟩
  rw [lf_none hp p ok]
  exact k
def rIxL (P : Program) (w : World) : R2 := fun x y H Q => ∃ d es z, x = .ref d ∧ H d = some (.ext (RawL P w d es)) ∧ lfOk y = true ∧ lfAt es y = some z ∧ Q z H
theorem ix_L : IxR X (rIxL X.prog X.w) := by
  intro value slice pins s σ H x y v u Q I rx ry h hs
  obtain ⟨d, es, z, rfl, hH, p, e, k⟩ := h
  cases rx
  obtain ⟨⟨h0, ok, kvs, hp, hd⟩, _, _⟩ := I.hok d _ hH
  obtain ⟨v, ev, rv⟩ := (lf_at hp p ok).1 z e
  refine tail_any hd.typeIs (by rfl) ?_ hs
  exact wpAny_getItem_of (lf_is p ry) hd.mapOf ev ⟨_, H, I.tok _, rv, k⟩
theorem ix_LK {P : Program} {w : World} (hP : X.prog = P) (hw : X.w = w) : IxR X (rIxL P w) := by
  subst hP
  subst hw
  exact ix_L
def rSetNL (P : Program) (w : World) : TSet := fun o i v H Q => ∃ d es, o = .ref d ∧ H d = some (.ext (RawL P w d es)) ∧ lfOk i = true ∧ lfAt es i = none ∧ es.length ≤ 1000 ∧ Q (upd H d (.ext (RawL P w d (es ++ [(i, v)]))))
theorem set_NL : PSet X (rSetNL X.prog X.w) := by
  intro pins s σ H o i v ov iv u Q I ro ri rv h
  obtain ⟨d, es, rfl, hH, p, e, few, k⟩ := h
  cases ro
  obtain ⟨⟨h0, ok, kvs, hp, hd⟩, _, _⟩ := I.hok d _ hH
  have hn := (lf_at hp p ok).2 e
  have lx := lf_len hp
  have st : stored kvs (lfV i) u = kvs ++ [(lfV i, u)] := by
    unfold stored
    have : (kvs.any fun kv => decide (kv.fst = lfV i)) = false := by
      cases c : kvs.any fun kv => decide (kv.fst = lfV i) with
      | false => rfl
      | true =>
        obtain ⟨q, m, e⟩ := List.any_eq_true.mp c
        unfold valueAt at hn
        cases f : kvs.find? (fun kv => decide (kv.fst = lfV i)) with
        | none => exact absurd e (List.find?_eq_none.mp f q m)
        | some q => rw [f] at hn; cases hn
    rw [this]
    rfl
  refine wpAny_setItem_pairs (lf_is p ri) hd (fun h' hd' hs => ?_) (Nat.le_trans (show kvs.length ≤ 1000 by omega) (by decide))
  rw [st] at hd'
  have ex : ∃ q, h'.get? d = some q := by
    obtain ⟨o, _, _, g, _⟩ := hd'
    exact ⟨o, g⟩
  refine ⟨_, d_write I (by rw [hH]; exact True.intro) hs ex (rawL_ok ⟨h0, fun q m => ?_, _, lf_add hp ⟨rfl, rv⟩, hd'⟩), k⟩
  rcases List.mem_append.mp m with m | m
  · exact ok q m
  · rw [List.mem_singleton.mp m]; exact p
def rLenL (P : Program) (w : World) : List V → Hp → VK → Prop := fun xs H Q => ∃ d es, xs = [V.ref d] ∧ H d = some (.ext (RawL P w d es)) ∧ es.length ≤ 1000 ∧ Q (.int (es.length : Int)) H
theorem call_lenL : CallR X (.builtin "len") (rLenL X.prog X.w) := by
  intro pins s σ H xs us Q I r h
  obtain ⟨d, es, rfl, hH, few, k⟩ := h
  obtain rfl := Vals.ref1 r
  obtain ⟨⟨h0, ok, kvs, hp, hd⟩, _, _⟩ := I.hok d _ hH
  have lx := lf_len hp
  refine call_len_dict h0 hd (by omega) ⟨.int (es.length : Int), H, I.tok _, ⟨_, by rw [lx]⟩, k⟩
def rListL (P : Program) (w : World) : List V → Hp → VK → Prop := fun xs H Q => ∃ d es, xs = [V.ref d] ∧ H d = some (.ext (RawL P w d es)) ∧ es.length ≤ 1000 ∧ ∀ q, H q = none → Q (.ref q) (upd H q (.lst (es.map (·.1))))
theorem call_listL (hc : X.calm = true) : CallR X (.type "list") (rListL X.prog X.w) := by
  intro pins s σ H xs us Q I r h
  obtain ⟨d, es, rfl, hH, few, k⟩ := h
  obtain rfl := Vals.ref1 r
  obtain ⟨⟨h0, ok, kvs, hp, hd⟩, _, _⟩ := I.hok d _ hH
  have lx := lf_len hp
  obtain ⟨ees, ep, hr, hsz, hk⟩ := hd.raw
  refine PySem.W.kdl_call (KdlSrc.rawDict h0) (I.ok.hd hc) hr (Nat.le_trans (show ees.size ≤ 1000 by omega) (by decide)) fun h' tk acc c' hkp hg io => ?_
  have vals : Vals (es.map (·.1)) acc.toList := by
    refine vals_idx (by rw [List.length_map]; have e := io.1; show es.length = acc.size; omega) fun j x u ex eu => ?_
    rw [List.getElem?_map] at ex
    cases e : es[j]? with
    | none => rw [e] at ex; cases ex
    | some q =>
      rw [e] at ex
      cases ex
      rw [Array.getElem?_toList] at eu
      obtain ⟨hi, rfl⟩ := io.2 j u eu
      obtain ⟨⟨k2, v2⟩, e2, r2, _⟩ := lf_idx hp j q e
      obtain ⟨i2, _⟩ := hk j hi k2 v2 e2
      have oq := ok q (List.mem_of_getElem? e)
      have r2 : lfV q.1 = k2 := r2
      rw [← r2] at i2
      exact lf_of oq i2
  refine ⟨.ref s.heap.objs.size, _, I.laid (a := s.heap.objs.size) (o := .lst (es.map (·.1))) hkp (Nat.le_refl _) ?_, rfl, k _ (I.hok.fresh (Nat.le_refl _))⟩
  simp only [ObjOk]
  refine ⟨by rw [List.length_map]; exact Nat.le_trans few (by decide), acc.toList, c', vals, ?_⟩
  exact hg
end
/-! ### the keys of a dict of the module -/
structure KKeys (K : PySem.W.Frag) (d : Addr) (vs : List V) : Prop where
  ex : ∃ es n, K.lookup d = some ⟨.type "dict", none, .dict es n, #[]⟩ ∧ (d == sysModules) = false ∧ Vals vs (es.toList.map (·.key))
def Itkk (vs : List V) : It := ⟨fun i _ => i < vs.length, fun i H x H' => H' = H ∧ vs[i]? = some x, fun i _ => vs.length ≤ i⟩
theorem walk_kk {vs : List V} : Walk (Itkk vs) vs.length (fun _ => True) (fun i H x H' => H' = H ∧ vs[i]? = some x) :=
  ⟨fun _ _ h _ => h, fun _ _ => Nat.le_refl _, fun _ _ _ _ _ _ h => h⟩
theorem turn_kk {P : Program} {w : World} {K : PySem.W.Frag} {tg : Expr} {d it : Addr} {vs : List V} {es : Array DictEntry} {n : Nat} (lk : K.lookup d = some ⟨.type "dict", none, .dict es n, #[]⟩) (ne : d ≠ it) (hv : Vals vs (es.toList.map (·.key))) :
    Turn P w K tg (Itkk vs) [it] it fun i h => i ≤ vs.length ∧ h.IsKeyIter it d i es.size n := by
  have lv : vs.length = es.size := by rw [Vals.length hv, List.length_map, Array.length_toList]
  refine ⟨List.mem_singleton.mpr rfl, fun i h ⟨_, o, e, _, dt⟩ b m => ?_, fun i h h' ⟨l, o, e, c, dt⟩ kp => ⟨l, o, kp it (List.mem_singleton.mpr rfl) o e, c, dt⟩, ?_, ?_, ?_⟩
  · rw [List.mem_singleton.mp m]
    exact ⟨o, e, fun v => by rw [dt]; exact Data.noConfusion⟩
  · rintro X rfl rfl rfl hc i pins s σ H E I fp ⟨_, tn⟩ go
    have W := Walks.rawKeys (prog := X.prog) (w := X.w) (A := X.A) (I.ok.hd hc) it d ne es n
    have raw : s.heap.DictRaw d es n := ⟨_, I.kIn d _ lk, ⟨rfl, rfl, rfl⟩, rfl⟩
    have go : i < vs.length := go
    refine W.item i s _ E (by rw [← lv]; exact go) ⟨tn, raw⟩ fun v h' tk ⟨hi, ev⟩ ⟨tn', _⟩ kp => ⟨v, rfl, ?_⟩
    have I' := I.turnedL (h' := h') (t' := tk) (ch := [it]) (fun b o nb e => kp b o nb e) fp
    have rv : RelV vs[i] v := by
      obtain ⟨u, eu, ru⟩ := vals_get hv (List.getElem?_eq_getElem go)
      rw [List.getElem?_map, Array.getElem?_toList, Array.getElem?_eq_getElem hi] at eu
      cases eu
      rw [ev]
      exact ru
    exact letGo_keyiter tn' ⟨vs[i], H, I', rv, ⟨rfl, List.getElem?_eq_getElem go⟩, ⟨go, tn'⟩, fun b m => (fp b m).1⟩
  · rintro X rfl rfl rfl hc i pins s σ H E I fp ⟨l, tn⟩ st
    have W := Walks.rawKeys (prog := X.prog) (w := X.w) (A := X.A) (I.ok.hd hc) it d ne es n
    have raw : s.heap.DictRaw d es n := ⟨_, I.kIn d _ lk, ⟨rfl, rfl, rfl⟩, rfl⟩
    have st : vs.length ≤ i := st
    obtain rfl : i = es.size := by omega
    exact W.done s _ E ⟨tn, raw⟩ fun h' tk kp => ⟨rfl, I.turnedL (ch := [it]) (fun b o nb e => kp b o nb e) fp⟩
  · exact fun A i s Q E ⟨_, tn⟩ q => wpAny_pyIter_keyiter tn q
def iKeysK (K : PySem.W.Frag) (te : TE) : TI := fun σ H R => te σ H fun x H1 => ∃ d vs, x = .ref d ∧ KKeys K d vs ∧ R (Itkk vs) H1
theorem pi_keysK {X : Cx} {tg e : Expr} {te : TE} (h : PE X e te) : PI X tg e (iKeysK X.K te) := ⟨fun pins s σ H R I q =>
  thn (h.run pins s σ H _ I q) fun v s1 ⟨x, H1, I1, r1, d, vs, ex, ⟨es, n, lk, hd, hv⟩, k⟩ => by
    subst ex
    cases r1
    have raw : s1.heap.DictRaw d es n := ⟨_, I1.kIn d _ lk, ⟨rfl, rfl, rfl⟩, rfl⟩
    have lt : d ≠ s1.heap.objs.size := fun e => by
      have := I1.kIn d _ lk
      rw [e] at this
      exact absurd this (by simp [Heap.get?])
    exact wpAny_pyIter_dict_raw hd raw (pi_one I1 _ (turn_kk lk lt hv) ⟨Nat.zero_le _, ⟨_, Heap.get?_push_size _ rfl, rfl, rfl⟩⟩ k)⟩
/-! ### one of several trees -/
theorem pe_or {X : Cx} {e : Expr} {t u : TE} (a : PE X e t) (b : PE X e u) : PE X e (fun σ H Q => t σ H Q ∨ u σ H Q) := ⟨fun pins s σ H Q I h =>
  h.elim (fun h => a.run pins s σ H Q I h) fun h => b.run pins s σ H Q I h⟩
/-- a call of a name that holds a def of the text -/
def tClV (i : Nat) (f : Addr) (sp : Sp) (t : TA) : TE := fun σ H Q => σ[i]? = some (some (.ref f)) ∧ t σ H fun vs H1 => sp vs H1 Q E0
theorem pe_clV {X : Cx} {j k i : Nat} {f : Addr} {fd : FuncData} {st : Stmt} {ps : List Str} {sp : Sp} {y x : Str} {p pos : Pos} {e : Expr} {es : List Expr} {t : TA} (D : Df X.K X.mg y st ps f fd) (c : Cl X.prog X.w X.K X.mg X.base k y st ps sp) (hr : Room j X.A) (hk : k ≤ j) (hN : X.N[i]? = some x) (hv : Vis X.env.scope x) (ha : PA X (e :: es) t)
    (hdb : (x == ("__debug__" : Str)) = false := by decide) (hcb : (x == ("__classdict__" : Str)) = false := by decide)
    (he : starEach (e :: es) X.env = (false, eval e X.env) :: starEach es X.env := by rfl) (hpl : (backTo pos (starEach es X.env)).any (·.1) = false := by rfl) :
    PE X (.Call (.Name x p) (e :: es) [] pos) (tClV i f sp t) := by
  obtain ⟨g, gd, D', F⟩ := c.ex
  have e1 := D.at_.symm.trans D'.at_
  cases e1
  have R : FnR X.prog X.w X.K X.mg X.base CX0 j f sp := fun A outer s H us vs Q E r0 e0 rv q => (F.mono hk).raw D'.bd .nil A outer s H us vs Q E r0 e0 rv (by simp only [List.append_nil]; exact q)
  exact ItX.pe_callV (E := E0) R hr D.fn.kp pass0 hN hv ha hdb hcb he hpl
/-! ### a method of a list within a comprehension -/
theorem mt_indexK {X : Cx} {K : PySem.W.Frag} (hK : X.K = K) : MtR X "list.index" (rIndex K) := by
  subst hK
  exact mt_index
theorem pe_bmK {X : Cx} {K : PySem.W.Frag} (hK : X.K = K) {o e : Expr} {es : List Expr} {to : TE} {t : TA} {name : Str} {apos cpos : Pos} {T id : String} {r : V → List V → Hp → VK → Prop} (hp : PlainAttrs T) (hs : Slot T name id)
    (ht : typeOf (Value.builtin id) = pure (Value.type "method_descriptor")) (hm : MtR X id r) (ho : PE X o to) (ha : PA X (e :: es) t)
    (hbase : attributeBase o name X.env (eval o X.env) = eval o X.env := by rfl)
    (hfew : ((backTo cpos (starEach (e :: es) X.env)).all (fun x => !x.1) && (backToKw cpos (keywordEach [] X.env)).all (fun x => x.1.isSome)
      && decide ((e :: es).length + ([] : List Keyword).length + (if ([] : List Keyword).isEmpty then 0 else 1) < 30)) = true := by rfl)
    (hline : (apos.endLine == cpos.line) = true := by rfl) (hst : starEach (e :: es) X.env = (false, eval e X.env) :: starEach es X.env := by rfl) (hplain : (backTo cpos (starEach es X.env)).any (·.1) = false := by rfl) :
    PE X (.Call (.Attribute o name apos) (e :: es) [] cpos) (tBM K T r to t) := by
  subst hK
  exact pe_bm hp hs ht hm ho ha hbase hfew hline hst hplain
end Pg
namespace Pg
open PySem PySem.Spec PyProof.Rows L2
/-! ### enumerate(xs, start=1) -/
theorem draws_up {P : Program} {w : World} {A : Around} {it : Addr} {fp : List Addr} {n : Nat} {Y : Nat → Value → Prop} {St : Nat → Heap → Prop} (D : Draws P w A it fp n Y St) :
    Draws P w A it fp (n + 1) (fun i v => ∃ j, i = j + 1 ∧ Y j v) (fun i h => ∃ j, i = j + 1 ∧ St j h) := by
  refine ⟨fun i h ⟨j, _, s⟩ => D.live j h s, fun i h h' ⟨j, e, s⟩ k => ⟨j, e, D.frame j h h' s k⟩, ?_, ?_⟩
  · rintro i s Q E hi ⟨j, rfl, st⟩ k
    exact D.item j s Q E (by omega) st fun x h' tk y st' sb => k x h' tk ⟨j, rfl, y⟩ ⟨j + 1, rfl, st'⟩ sb
  · rintro s Q E ⟨j, e, st⟩ k
    obtain rfl : n = j := by omega
    exact D.done s Q E st k
def Ite1 (K : PySem.W.Frag) (a : Addr) : It := ⟨fun i H => ∃ xs x, SqL K H a xs ∧ xs[i]? = some x,
  fun i H v H' => ∃ T x, v = .ref T ∧ H T = none ∧ H' = upd H T (.tup [.int ((i + 1 : Nat) : Int), x]) ∧ ∀ xs, SqL K H a xs → xs[i]? = some x, fun i H => ∃ xs, SqL K H a xs ∧ xs.length = i⟩
theorem walk_enum1 {K : PySem.W.Frag} {a : Addr} {xs : List V} : Walk (Ite1 K a) xs.length (fun H => SqL K H a xs) (YPair (fun i => some (.int ((i + 1 : Nat) : Int))) (fun i => xs[i]?)) :=
  ⟨fun i H hi s => ⟨xs, xs[i], s, List.getElem?_eq_getElem hi⟩, fun H s => ⟨xs, s, rfl⟩, fun i H x H' _ s ⟨T, y, e, n, eh, g⟩ => ⟨T, _, y, e, n, eh, rfl, g xs s⟩⟩
theorem turn_enum1 {P : Program} {w : World} {K : PySem.W.Frag} {elts : List Expr} {kk : Nat} {tpos : Pos} (a e it : Addr) :
    Turn P w K (.Tuple elts kk tpos) (Ite1 K a) [e, it] e fun i h => (∃ old, IsEnum h e it ((i + 1 : Nat) : Int) old) ∧ h.IsListIter it a i ∧ e ≠ it ∧ a ≠ it ∧ a ≠ e := by
  refine ⟨by simp, fun i h ⟨⟨old, en⟩, ⟨o, g, _, d⟩, _⟩ b m => ?_, fun i h h' ⟨⟨old, en⟩, ⟨o, g, c, d⟩, ne⟩ kp => ⟨⟨old, kp e (by simp) _ en⟩, ⟨o, kp it (by simp) o g, c, d⟩, ne⟩, ?_, ?_, ?_⟩
  · simp only [List.mem_cons, List.not_mem_nil, or_false] at m
    rcases m with rfl | rfl
    · exact ⟨_, en, fun v => Data.noConfusion⟩
    · exact ⟨o, g, fun v => by rw [d]; exact Data.noConfusion⟩
  · rintro X rfl rfl rfl hc i pins s σ H E I fp ⟨⟨old, en⟩, li, ne, nit, nea⟩ ⟨xs, x, hs, hx⟩
    obtain ⟨its, rv, hl, _⟩ := I.list hs
    have hi : i < its.toArray.size := by
      have := (List.getElem?_eq_some_iff.mp hx).1
      rw [List.size_toArray, ← rv.length]
      exact this
    have D := draws_up (Draws.list (prog := X.prog) (w := X.w) (A := X.A.in1) (I.ok.hd hc) it a nit its.toArray)
    refine wpAny_pyNext_enum_itemD D en ⟨i, rfl, li, hl.isList⟩ (Nat.succ_lt_succ hi) ne (by simp [ne, nea.symm]) fun v h' tk ⟨j, ej, ev⟩ out ⟨j2, ej2, li2, _⟩ ht sz kp => ⟨_, rfl, ?_⟩
    obtain rfl : i = j := by omega
    obtain rfl : i + 1 = j2 := by omega
    refine wpAny_letOwnedTupleGo_enum out fun h2 en2 ⟨sz2, sb⟩ => ?_
    obtain ⟨u, eu, ru⟩ := vals_get rv hx
    have evu : v = u := by
      have ev : its.toArray[i]? = some v := ev
      rw [List.getElem?_toArray, eu] at ev
      exact (Option.some.inj ev).symm
    subst evu
    have lite : it < s.heap.objs.size := by
      obtain ⟨o, g, _⟩ := li
      exact Heap.lt_size g
    have le : e < s.heap.objs.size := Heap.lt_size en
    have nT : s.heap.objs.size ≠ e := (Nat.ne_of_lt le).symm
    have nT2 : s.heap.objs.size ≠ it := (Nat.ne_of_lt lite).symm
    have kp2 : ∀ (b : Addr) (o : Obj), b ∉ [e, it] → s.heap.get? b = some o → h2.get? b = some o := fun b o nb g => by
      simp only [List.mem_cons, List.not_mem_nil, or_false, not_or] at nb
      rw [sb b nb.1]
      exact kp b o nb.1 nb.2 g
    have hT : h2.get? s.heap.objs.size = some { cls := Value.type "tuple", data := Data.seq #[Value.int ((i + 1 : Nat) : Int) tk, v] } := by
      rw [sb _ nT]
      exact ht
    have frT : H s.heap.objs.size = none := I.hok.fresh (Nat.le_refl _)
    refine ⟨.ref s.heap.objs.size, _, I.turnedNew (ch := [e, it]) (T := s.heap.objs.size) (ob := .tup [.int ((i + 1 : Nat) : Int), x]) kp2 fp (Nat.le_refl _) ?_, rfl, ⟨_, x, rfl, frT, rfl, fun ys hy => ?_⟩, ⟨⟨_, en2⟩, ?_, ne, nit, nea⟩, fun b m => ?_⟩
    · simp only [ObjOk]
      exact ⟨by show 2 ≤ sizeLine; decide, [Value.int ((i + 1 : Nat) : Int) tk, v], .cons ⟨tk, rfl⟩ (.cons ru .nil), ⟨_, hT, rfl, 0, rfl⟩⟩
    · rw [L2.Inv.list_inj I hy hs]
      exact hx
    · obtain ⟨o, g, c, d⟩ := li2
      exact ⟨o, by rw [sb it ne.symm]; exact g, c, d⟩
    · simp only [List.mem_cons, List.not_mem_nil, or_false] at m
      have hb := (fp b (by simp; exact m)).1
      rcases m with rfl | rfl
      · rw [upd_ne nT.symm]; exact hb
      · rw [upd_ne nT2.symm]; exact hb
  · rintro X rfl rfl rfl hc i pins s σ H E I fp ⟨⟨old, en⟩, li, ne, nit, nea⟩ ⟨xs, hs, hx⟩
    obtain ⟨its, rv, hl, _⟩ := I.list hs
    have hi : its.toArray.size = i := by
      rw [List.size_toArray, ← rv.length]
      exact hx
    have D := Draws.list (prog := X.prog) (w := X.w) (A := X.A.in1) (I.ok.hd hc) it a nit its.toArray
    rw [hi] at D
    refine wpAny_pyNext_enum_endD D en ⟨li, hl.isList⟩ fun h' eb => ⟨rfl, I.turnedL (ch := [e, it]) (fun b o nb g => eb b o (fun q => nb (by simp [q])) g) fp⟩
  · exact fun A i s Q E ⟨⟨old, en⟩, _⟩ q => wpAny_pyIter_enum en q
def iEnum1 (K : PySem.W.Frag) (ta tk : TA) : TI := fun σ H R => ta σ H fun vs H1 => tk σ H1 fun zs H2 => ∃ a xs, vs = [V.ref a] ∧ zs = [.int 1] ∧ SqL K H2 a xs ∧ R (Ite1 K a) H2
theorem pi_enum1 {X : Cx} {e k : Expr} {kpos p pos tpos : Pos} {elts : List Expr} {kk : Nat} {ta tk : TA} (hg : Gl X "enumerate") (hm : X.mg "enumerate" = none) (ha : PA X [e] ta) (hk : PK X [⟨some "start", k, kpos⟩] tk)
    (hpl : (((backTo pos (starEach [e] X.env)).any fun x => x.1) || (backToKw pos (keywordEach [⟨some "start", k, kpos⟩] X.env)).any fun x => x.1.isNone) = false := by rfl)
    (hall : ((backToKw pos (keywordEach [⟨some "start", k, kpos⟩] X.env)).all fun x => x.1.isSome) = true := by rfl) (he : starEach [e] X.env = (false, eval e X.env) :: starEach [] X.env := by rfl)
    (hks : (backToKw pos (keywordEach [⟨some "start", k, kpos⟩] X.env)).filterMap (·.1) = [("start" : Str)] := by rfl) :
    PI X (.Tuple elts kk tpos) (.Call (.Name "enumerate" p) [e] [⟨some "start", k, kpos⟩] pos) (iEnum1 X.K ta tk) := by
  refine ⟨fun pins s σ H R I h => ?_⟩
  refine wpAny_Call_Name_kw (ld_blt I hg hm (u := .type "enumerate") (by rfl) ?_)
  refine PySem.W.callWith_of (P := fun _ => True) hpl (fun h _ => ⟨.machine, .inr (.inl rfl), fun A Q E s _ q => wpAny_pure q⟩) ?_
  refine evalArgs_kw2 hall ?_ he
  refine thn (ha.run pos pins s σ H _ I h) fun us s1 ⟨vs, H1, I1, r1, q1⟩ => ?_
  refine thn (hk.run pos pins s1 σ H1 _ I1 q1) fun ws s2 ⟨zs, H2, I2, r2, a, xs, e1, e2, hs, q2⟩ => ⟨trivial, ?_⟩
  rw [hks]
  subst e1
  subst e2
  obtain rfl := Vals.ref1 r1
  obtain ⟨w1, rfl, t, rfl⟩ : ∃ w1, ws = [w1] ∧ ∃ t, w1 = Value.int 1 t := by
    cases r2 with
    | cons r r' =>
      cases r'
      exact ⟨_, rfl, r⟩
  obtain ⟨its, rv, hl, _⟩ := I2.list hs
  have bl := begins_list a its.toArray
  refine enum_begins_start bl hl.isList (by decide) (by decide) fun h' en hit sz kp => ?_
  obtain ⟨o, ga, _⟩ := hl.isList
  have lta : a < s2.heap.objs.size := Heap.lt_size ga
  have I3 := I2.kept (h' := h') (t' := s2.toks) kp
  refine wpAny_pyIter_enum en ⟨s2.heap.objs.size + 1, [s2.heap.objs.size + 1, s2.heap.objs.size], _, Ite1 X.K a, H2, rfl, I3, turn_enum1 a (s2.heap.objs.size + 1) s2.heap.objs.size, ⟨⟨_, en⟩, ⟨_, hit, rfl, rfl⟩, Nat.succ_ne_self _, Nat.ne_of_lt lta, by have : a < s2.heap.objs.size := lta; exact Nat.ne_of_lt (Nat.lt_succ_of_lt this)⟩, fun b m => ?_, q2⟩
  simp only [List.mem_cons, List.not_mem_nil, or_false] at m
  have fr : ∀ c : Nat, s2.heap.objs.size ≤ c → FpOk X pins H2 c := fun c hc => I2.fpOk hc (I2.hok.fresh hc)
  rcases m with rfl | rfl
  · exact fr _ (Nat.le_succ _)
  · exact fr _ (Nat.le_refl _)
end Pg
namespace Kq
open PySem PySem.Spec PyProof.Rows L2 Pg Pv
def topS (i : Nat) : Stmt := PySem.Challenge.pw_pageskips_k39_whole_cheapest_columns.main.body.getD i (.Pass ⟨0, 0, 0, 0⟩)
structure Nm (mg : Str → Option Value) : Prop where
  n_int : mg "int" = none
  n_len : mg "len" = none
  n_max : mg "max" = none
  n_range : mg "range" = none
  n_type : mg "type" = none
  n_tuple : mg "tuple" = none
  n_list : mg "list" = none
  n_str : mg "str" = none
  n_bool : mg "bool" = none
  n_all : mg "all" = none
  n_sorted : mg "sorted" = none
  n_set : mg "set" = none
  n_repr : mg "repr" = none
  n_min : mg "min" = none
  n_zip : mg "zip" = none
  n_sum : mg "sum" = none
  n_any : mg "any" = none
  n_enumerate : mg "enumerate" = none
  n_reversed : mg "reversed" = none
def KHas (K : PySem.W.Frag) (w : World) (d : Addr) (z : Str) (b : Bool) : Prop := ∃ es n r, KDict K w d es n ∧ PySem.W.nsIn K d z = some r ∧ r.isSome = b
theorem op_notInKd {X : Cx} : OpR X (compareOp .NotIn) (fun x y H Q => ∃ (z : Str) (d : Addr) (b : Bool), x = .str z ∧ y = .ref d ∧ KHas X.K X.w d z b ∧ Q (.bl (!b)) H) := by
  intro pins s σ H x y v u Q I rx ry h
  obtain ⟨z, d, b, rfl, rfl, ⟨es, n, r, D, e, rfl⟩, q⟩ := h
  exact op_notIn_kd D pins s σ H _ _ v u Q I rx ry ⟨z, r, rfl, rfl, e, q⟩
section
variable {P : Program} {w : World} {K : PySem.W.Frag} {mg : Str → Option Value} {base : Heap}
abbrev s__law_bag : Stmt := topS 55
abbrev N__law_bag : List Str := ["cell"]
theorem sc__law_bag : FnScope ["cell"] ["cell"] (defScope s__law_bag) := ⟨rfl, rfl, rfl, by decide +kernel, rfl, by decide +kernel, by decide +kernel⟩

abbrev s__law_draw : Stmt := topS 56
abbrev N__law_draw : List Str := ["bag", "upto", "digit", "turn", "mixed"]
theorem sc__law_draw : FnScope ["bag", "upto", "digit", "turn", "mixed"] ["bag", "upto"] (defScope s__law_draw) := ⟨rfl, rfl, rfl, by decide +kernel, rfl, by decide +kernel, by decide +kernel⟩

/-! ### the bag, the draws -/
def spBag : Sp := fun vs H Q _ => ∃ c : Int, vs = [.int c] ∧ ∀ b H', H b = none → Stp [] H H' → Bag H' b 0 → Q (.ref b) H'
theorem cl__law_bag {f : Addr} {fd : FuncData} (D : Df K mg "_law_bag" s__law_bag ["cell"] f fd) (T : Nm mg) : Cl P w K mg base 1 "_law_bag" s__law_bag ["cell"] spBag := by
  refine D.cl sc__law_bag (fun vs H Q E h => ?_) (fun cdv A outer s H vs Q E hr h => ?_)
  · obtain ⟨c, rfl, _⟩ := h
    rfl
  · obtain ⟨c, rfl, k⟩ := h
    refine ⟨_, (pss_one (ps_ret (pe_lst (pa_cons (pe_callB (call_max2 rfl) (by rfl) T.n_max (by decide +kernel) (pa_cons pe_int (pa_cons (pe_op op_sub (pe_callTy call_int1 (by rfl) T.n_int (by decide +kernel) (pa_cons (pv 0) pa_nil)) (pe_op op_pow pe_int pe_int)) pa_nil))) (pa_cons (pe_op op_mod (pe_callTy call_int1 (by rfl) T.n_int (by decide +kernel) (pa_cons (pv 0) pa_nil)) pe_int) (pa_cons pe_int pa_nil)))))), ?_⟩
    refine ⟨_, rfl, .inl ⟨c, rfl, _, _, rfl, rfl, ⟨by decide, by decide, by decide⟩, _, _, rfl, rfl, _, _, rfl, ?_⟩⟩
    refine ⟨_, rfl, .inl ⟨c, rfl, _, _, rfl, rfl, (by show (0 : Int) < 999999999989; decide), (by show 3 ≤ sizeLine; decide), fun b nb => ?_⟩⟩
    refine k b _ nb (Stp.new nb _) ⟨_, _, _, upd_same, ?_⟩
    have m1 : 0 ≤ c % 999999999989 := Int.emod_nonneg _ (by decide)
    have m2 : c % 999999999989 < 999999999989 := Int.emod_lt_of_pos _ (by decide)
    refine ⟨?_, m1, by omega, by omega, by omega⟩
    split <;> omega
def spDraw : Sp := fun vs H Q _ => ∃ (b : Addr) (up : Int) (n : Nat), vs = [.ref b, .int up] ∧ Bag H b n ∧ n < 2 ^ 30 ∧ 0 < up ∧ up < 2 ^ 30 ∧
  ∀ d H', 0 ≤ d → d < up → Only b H H' → Bag H' b (n + 1) → Q (.int d) H'
theorem cl__law_draw {f : Addr} {fd : FuncData} (D : Df K mg "_law_draw" s__law_draw ["bag", "upto"] f fd) (T : Nm mg) : Cl P w K mg base 1 "_law_draw" s__law_draw ["bag", "upto"] spDraw := by
  refine D.cl sc__law_draw (fun vs H Q E h => ?_) (fun cdv A outer s H vs Q E hr h => ?_)
  · obtain ⟨b, up, n, rfl, _⟩ := h
    rfl
  · obtain ⟨b, up, n, rfl, ⟨x, y, z, hb, x0, y0, y1, z0, z1⟩, hn, u0, u1, k⟩ := h
    refine ⟨_, (pss_cons (ps_if (pt_cmpR op_gt (pe_ix ix_list (pv 0) pe_int (fun _ _ => rfl)) pe_int (by first | exact nomark _ | rfl)) (pss_cons (ps_set (i := 2) sc__law_draw.nd rfl (by first | exact Or.inl rfl | exact Or.inr rfl) (pe_op op_mod (pe_callTy call_int1 (by rfl) T.n_int (by decide +kernel) (pa_cons (pe_ix ix_list (pv 0) pe_int (fun _ _ => rfl)) pa_nil)) (pv 1)))
      (pss_cons (ps_asg (pe_op op_fdivW (pe_ix ix_list (pv 0) pe_int (fun _ _ => rfl)) (pv 1)) (pg_sub (pv 0) pe_int set_list))
      (pss_one (ps_ret (pv 2))))) pss_nil)
      (pss_cons (ps_set (i := 3) sc__law_draw.nd rfl (by first | exact Or.inl rfl | exact Or.inr rfl) (pe_op op_add (pe_ix ix_list (pv 0) pe_int (fun _ _ => rfl)) pe_int))
      (pss_cons (ps_asg (pv 3) (pg_sub (pv 0) pe_int set_list))
      (pss_cons (ps_set (i := 4) sc__law_draw.nd rfl (by first | exact Or.inl rfl | exact Or.inr rfl) (pe_op op_add (pe_op op_mulW (pe_op op_add (pe_ix ix_list (pv 0) pe_int (fun _ _ => rfl)) pe_int) (pe_op op_add (pe_op op_add (pe_op op_mulW (pv 3) (pv 3)) (pe_op op_mulW pe_int (pv 3))) pe_int)) (pe_op op_mulW pe_int (pv 3))))
      (pss_cons (ps_set (i := 4) sc__law_draw.nd rfl (by first | exact Or.inl rfl | exact Or.inr rfl) (pe_op op_fdivW (pe_op op_mod (pe_callTy call_int1 (by rfl) T.n_int (by decide +kernel) (pa_cons (pe_op op_add (pe_op op_add (pe_op op_mulW (pv 4) (pv 4)) (pe_op op_mulW pe_int (pv 4))) (pv 3)) pa_nil)) pe_int) pe_int))
      (pss_one (ps_ret (pe_op op_mod (pe_op op_fdivW (pe_op op_mod (pe_callTy call_int1 (by rfl) T.n_int (by decide +kernel) (pa_cons (pe_op op_add (pe_op op_add (pe_op op_mulW (pv 4) (pv 4)) (pe_op op_mulW pe_int (pv 4))) (pv 3)) pa_nil)) pe_int) pe_int) (pv 1))))))))), ?_⟩
    refine ⟨_, rfl, b, _, 0, .int x, rfl, rfl, SqL.of hb, rfl, _, _, rfl, rfl, _, rfl, ite2 (fun hx => ?_) (fun hx => ?_)⟩
    · refine ⟨_, rfl, b, _, 0, .int x, rfl, rfl, SqL.of hb, rfl, .inl ⟨x, rfl, _, rfl, _, _, rfl, rfl, u0, ?_⟩⟩
      refine ⟨_, rfl, b, _, 0, .int x, rfl, rfl, SqL.of hb, rfl, _, rfl, _, _, rfl, rfl, cdiv 30 u0 u1 (by decide) (by decide), ?_⟩
      refine ⟨_, rfl, b, _, 0, 0, rfl, rfl, hb, rfl, ?_⟩
      refine ⟨_, rfl, k _ _ (Int.emod_nonneg _ (by omega)) (Int.emod_lt_of_pos _ u0) ⟨_, rfl⟩ ⟨_, _, _, upd_same, ?_⟩⟩
      exact ⟨Int.ediv_nonneg x0 (by omega), y0, y1, z0, by omega⟩
    · refine ⟨_, rfl, b, _, 2, .int z, rfl, rfl, SqL.of hb, rfl, _, _, rfl, rfl, ?_⟩
      obtain ⟨t, et⟩ : ∃ t, t = z + 1 := ⟨_, rfl⟩
      dsimp only
      rw [← et]
      have t0 : 0 ≤ t := by omega
      have t1 : t < 2 ^ 31 := by omega
      refine ⟨_, rfl, _, rfl, b, _, 2, 2, rfl, rfl, hb, rfl, ?_⟩
      have a1 := mul_lt (a := 31) (b := 31) t0 t1 t0 t1
      have a2 := mul_lt (i := 1009) (a := 10) (b := 31) (by decide) (by decide) t0 t1
      have a3 := mul_lt (i := y + 5) (j := t * t + 1009 * t + 61) (a := 41) (b := 63) (by omega) (by omega) (by omega) (by omega)
      have a4 := mul_lt (i := 9176) (a := 14) (b := 31) (by decide) (by decide) t0 t1
      refine ⟨_, rfl, b, _, 1, .int y, rfl, rfl, SqL.of upd_same, rfl, _, _, rfl, rfl,
        _, rfl, _, rfl, _, _, rfl, rfl, cmul 31 31 t0 t1 t0 t1 (by decide) (by decide) (by decide),
        _, rfl, _, _, rfl, rfl, cmul 10 31 (by decide) (by decide) t0 t1 (by decide) (by decide) (by decide), _, _, rfl, rfl, _, _, rfl, rfl,
        _, _, rfl, rfl, cmul 41 63 (by omega) (by omega) (by omega) (by omega) (by decide) (by decide) (by decide),
        _, rfl, _, _, rfl, rfl, cmul 14 31 (by decide) (by decide) t0 t1 (by decide) (by decide) (by decide), _, _, rfl, rfl, ?_⟩
      obtain ⟨m, em⟩ : ∃ m, m = (y + 5) * (t * t + 1009 * t + 61) + 9176 * t := ⟨_, rfl⟩
      dsimp only
      rw [← em]
      have m0 : 0 ≤ m := by omega
      have m1 : m < 2 ^ 105 := by omega
      refine ⟨_, rfl, _, rfl, _, _, rfl, rfl, cmul 105 105 m0 m1 m0 m1 (by decide) (by decide) (by decide),
        _, rfl, _, _, rfl, rfl, cmul 20 105 (by decide) (by decide) m0 m1 (by decide) (by decide) (by decide), _, _, rfl, rfl,
        _, rfl, _, _, rfl, rfl, .inl ⟨_, rfl, _, _, rfl, rfl, (by show (0 : Int) < 1000000000039; decide), _, _, rfl, rfl, cdiv 8 (by decide) (by decide) (by decide) (by decide), ?_⟩⟩
      obtain ⟨v, ev⟩ : ∃ v, v = (m * m + 524287 * m + t) % 1000000000039 / 131 := ⟨_, rfl⟩
      dsimp only
      rw [← ev]
      have w0 : 0 ≤ (m * m + 524287 * m + t) % 1000000000039 := Int.emod_nonneg _ (by decide)
      have w1 : (m * m + 524287 * m + t) % 1000000000039 < 1000000000039 := Int.emod_lt_of_pos _ (by decide)
      have v0 : 0 ≤ v := by omega
      have v1 : v < 2 ^ 40 := by omega
      refine ⟨_, rfl, _, rfl, _, _, rfl, rfl, cmul 40 40 v0 v1 v0 v1 (by decide) (by decide) (by decide),
        _, rfl, _, _, rfl, rfl, cmul 13 40 (by decide) (by decide) v0 v1 (by decide) (by decide) (by decide), _, _, rfl, rfl,
        _, rfl, _, _, rfl, rfl, .inl ⟨_, rfl, _, _, rfl, rfl, (by show (0 : Int) < 2147483587; decide), _, _, rfl, rfl, cdiv 5 (by decide) (by decide) (by decide) (by decide), _, rfl, _, _, rfl, rfl, u0, ?_⟩⟩
      exact k _ _ (Int.emod_nonneg _ (by omega)) (Int.emod_lt_of_pos _ u0) ⟨_, rfl⟩ ⟨_, _, _, upd_same, x0, y0, y1, by omega, by omega⟩
abbrev s__law_text : Stmt := topS 57
abbrev N__law_text : List Str := ["bag", "size", "k"]
theorem sc__law_text : FnScope ["bag", "size", "k"] ["bag"] (defScope s__law_text) := ⟨rfl, rfl, rfl, by decide +kernel, rfl, by decide +kernel, by decide +kernel⟩

/-! ### drawn texts -/
def spText : Sp := fun vs H Q _ => ∃ (b : Addr) (n : Nat), vs = [.ref b] ∧ Bag H b n ∧ n + 20 < 2 ^ 30 ∧ ∀ l H', Abc l → l.length ≤ 12 → Stp [b] H H' → Bag H' b (n + 14) → Q (Tx l) H'
theorem cl__law_text {f : Addr} {fd : FuncData} (D : Df K mg "_law_text" s__law_text ["bag"] f fd) (T : Nm mg) (c__law_draw : Cl P w K mg base 1 "_law_draw" s__law_draw ["bag", "upto"] spDraw) : Cl P w K mg base 2 "_law_text" s__law_text ["bag"] spText := by
  refine D.cl sc__law_text (fun vs H Q E h => ?_) (fun cdv A outer s H vs Q E hr h => ?_)
  · obtain ⟨b, n, rfl, _⟩ := h
    rfl
  · obtain ⟨b, n, rfl, B, hn, k⟩ := h
    refine ⟨_, (pss_cons (ps_set (i := 1) sc__law_text.nd rfl (by first | exact Or.inl rfl | exact Or.inr rfl) (pe_cl c__law_draw hr (by omega) (pa_cons (pv 0) (pa_cons (pe_ix ix_list (pe_lst (pa_cons pe_int (pa_cons pe_int (pa_cons pe_int (pa_cons pe_int pa_nil))))) (pe_cl c__law_draw hr (by omega) (pa_cons (pv 0) (pa_cons pe_int pa_nil))) (fun _ _ => rfl)) pa_nil))))
      (pss_one (ps_ret (pe_join pe_str (pe_lc (own := [("k", 2)]) rfl sc__law_text.nd (pi_range1 (by rfl) T.n_range (pa_cons (pv 1) pa_nil)) (blkOk_by (own := [("k", 2)]) (N := N__law_text) (sc := defScope s__law_text) (by decide +kernel)) (fun _ _ _ _ _ => (pg_name (i := 2) sc__law_text.nd rfl (by first | exact Or.inl rfl | exact Or.inr rfl))) (fun _ _ _ _ _ => pts_nil) (fun _ _ _ _ _ => (pe_ix ix_str pe_str (pe_cl c__law_draw hr (by omega) (pa_cons (pv 0) (pa_cons pe_int pa_nil))) (fun _ _ => rfl)))))))), ?_⟩
    refine ⟨_, rfl, (by show 4 ≤ sizeLine; decide), fun l nl => ?_⟩
    have S1 : Stp [b] H (upd H l (.lst [.int 3, .int 4, .int 6, .int 13])) := Stp.new nl _
    refine ⟨_, rfl, b, 4, n, rfl, B.upd (B.ne nl), by omega, by decide, by decide, fun d H2 d0 d1 o1 B1 => ?_⟩
    have S2 : Stp [b] H H2 := S1.trans (o1.stp (List.mem_singleton.mpr rfl))
    have hl : H2 l = some (.lst [.int 3, .int 4, .int 6, .int 13]) := o1.at upd_same (B.ne nl).symm
    obtain ⟨u, mu, eu⟩ := pick_int (ns := [3, 4, 6, 13]) d0 d1
    have u0 : 0 < u ∧ u ≤ 13 := by
      simp at mu
      omega
    refine ⟨l, _, d, .int u, rfl, rfl, SqL.of hl, eu, b, u, n + 1, rfl, B1, by omega, u0.1, by omega, fun z H3 z0 z1 o2 B2 => ?_⟩
    have S3 : Stp [b] H H3 := S2.trans (o2.stp (List.mem_singleton.mpr rfl))
    refine ⟨⟨_, rfl⟩, _, rfl, z, rfl, by omega, by omega, fun L nL => ?_⟩
    refine lc_range (lo := 0) (n := z.toNat) (fun i H4 => ∃ cs : List Nat, Abc cs ∧ cs.length = i ∧ H4 L = some (.lst (cs.map fun c => Tx [c])) ∧ Stp [b] H3 H4 ∧ Bag H4 b (n + 2 + i))
      ⟨[], Abc.nil, rfl, upd_same, Stp.new nL _, B2.upd (B2.ne nL)⟩ ?_ ?_
    · rintro i H4 hi ⟨cs, ha, hcl, hL, S4, B4⟩
      refine ⟨rfl, _, rfl, b, 3, _, rfl, B4, by omega, by decide, by decide, fun d H5 d0 d1 o3 B5 => ?_⟩
      obtain ⟨c, mc, ec⟩ := pick (xs := [97, 98, 99]) d0 d1
      have nLb : L ≠ b := (B2.ne nL).symm
      have hL5 : H5 L = some (.lst (cs.map fun c => Tx [c])) := o3.at hL nLb
      have S5 : Stp [b] H4 H5 := o3.stp (List.mem_singleton.mpr rfl)
      have hc : c = 97 ∨ c = 98 ∨ c = 99 := by
        simp at mc
        exact mc
      refine ⟨("abc" : Str), d, c, rfl, rfl, (by rw [abc_lit]; exact szt (by decide)), (by rw [abc_lit]; exact ec), cs.map fun c => Tx [c], hL5, ?_, ?_⟩
      · rw [List.length_map, hcl]
        exact Nat.lt_of_lt_of_le (show i < 100000 by omega) (by decide)
      · refine ⟨cs ++ [c], ha.app (Abc.one hc), by simp [hcl], ?_, ?_, ?_⟩
        · rw [List.map_append]
          exact upd_same
        · exact (S4.trans S5).mut nL
        · exact B5.upd nLb.symm
    · rintro H4 ⟨cs, ha, hcl, hL, S4, B4⟩
      refine ⟨_, L, cs.map (fun c => tx [c]), rfl, rfl, .inl (SqL.of (by rw [List.map_map]; exact hL)), ?_, ?_⟩
      · rw [List.map_map, nil_lit]
        have e : ∀ l : List Nat, (l.map ((fun x : Str => x.length) ∘ fun c => tx [c])).sum = l.length := by
          intro l
          induction l with
          | nil => rfl
          | cons x l ih =>
            rw [List.map_cons, List.sum_cons, ih, List.length_cons]
            show (tx [x]).length + l.length = l.length + 1
            rw [tx_len]
            simp
            omega
        rw [e, List.length_map, tx_len]
        simp
        omega
      · rw [nil_lit, join_abc]
        exact k _ _ ha (by omega) (S3.trans S4) (B4.mono (by omega))
abbrev s__law_near : Stmt := topS 58
abbrev N__law_near : List Str := ["bag", "word", "way", "sign"]
theorem sc__law_near : FnScope ["bag", "word", "way", "sign"] ["bag", "word"] (defScope s__law_near) := ⟨rfl, rfl, rfl, by decide +kernel, rfl, by decide +kernel, by decide +kernel⟩

abbrev s__law_some : Stmt := topS 60
abbrev N__law_some : List Str := ["bag", "pool"]
theorem sc__law_some : FnScope ["bag", "pool"] ["bag", "pool"] (defScope s__law_some) := ⟨rfl, rfl, rfl, by decide +kernel, rfl, by decide +kernel, by decide +kernel⟩

theorem a_lit : ("a" : Str) = tx [97] := by decide +kernel
theorem atx {l m : List Nat} (h : Abc l) (e : l = m) : Abc m := e ▸ h
def spNear : Sp := fun vs H Q _ => ∃ (b : Addr) (n : Nat) (l : List Nat), vs = [.ref b, Tx l] ∧ Bag H b n ∧ n + 10 < 2 ^ 30 ∧ Abc l ∧ l.length ≤ 12 ∧ ∀ m H', Abc m → m.length ≤ 12 → Stp [b] H H' → Bag H' b (n + 3) → Q (Tx m) H'
theorem cl__law_near {f : Addr} {fd : FuncData} (D : Df K mg "_law_near" s__law_near ["bag", "word"] f fd) (T : Nm mg) (c__law_draw : Cl P w K mg base 1 "_law_draw" s__law_draw ["bag", "upto"] spDraw) : Cl P w K mg base 2 "_law_near" s__law_near ["bag", "word"] spNear := by
  refine D.cl sc__law_near (fun vs H Q E h => ?_) (fun cdv A outer s H vs Q E hr h => ?_)
  · obtain ⟨b, n, l, rfl, _⟩ := h
    rfl
  · obtain ⟨b, n, l, rfl, B, hn, ha, hl, k⟩ := h
    refine ⟨_, (pss_cons (ps_par (i := 2) (j := 3) rfl sc__law_near.nd rfl rfl (by decide) rfl rfl (pa_cons (pe_cl c__law_draw hr (by omega) (pa_cons (pv 0) (pa_cons pe_int pa_nil))) (pa_cons (pe_ix ix_str pe_str (pe_cl c__law_draw hr (by omega) (pa_cons (pv 0) (pa_cons pe_int pa_nil))) (fun _ _ => rfl)) pa_nil)) (by rfl))
      (pss_cons (ps_if (pt_cmpR op_lt (pv 2) pe_int (by first | exact nomark _ | rfl)) (pss_one (ps_ret (pv 1))) pss_nil)
      (pss_cons (ps_if (pt_cmpR op_lt (pv 2) pe_int (by first | exact nomark _ | rfl)) (pss_one (ps_ret (pe_slice sl_str (pe_op op_add_str (pe_op op_add_str (pv 1) (pe_op Pg.op_mul_str pe_str (pe_op op_sub (pv 2) pe_int))) (pv 3)) po_none (po_some pe_int)))) pss_nil)
      (pss_cons (ps_if (pt_cmpR op_eq (pv 2) pe_int (by first | exact nomark _ | rfl)) (pss_one (ps_ret (pe_slice sl_str (pe_op op_add_str (pv 1) (pe_op Pg.op_mul_str (pv 3) pe_int)) po_none (po_some pe_int)))) pss_nil)
      (pss_cons (ps_if (pt_cmpR op_eq (pv 2) pe_int (by first | exact nomark _ | rfl)) (pss_one (ps_ret (pe_op op_add_str (pe_slice sl_str (pv 1) po_none (po_some (pe_un un_neg pe_int))) (pv 3)))) pss_nil)
      (pss_cons (ps_if (pt_cmpR op_eq (pv 2) pe_int (by first | exact nomark _ | rfl)) (pss_one (ps_ret (pe_slice sl_str (pv 1) po_none (po_some (pe_un un_neg pe_int))))) pss_nil)
      (pss_one (ps_ret (pe_slice sl_str (pv 1) po_none (po_some (pe_cl c__law_draw hr (by omega) (pa_cons (pv 0) (pa_cons (pe_op op_add (pe_callB call_len_str (by rfl) T.n_len (by decide +kernel) (pa_cons (pv 1) pa_nil)) pe_int) pa_nil))))))))))))), ?_⟩
    refine ⟨_, rfl, b, 8, n, rfl, B, by omega, by decide, by decide, fun way H1 w0 w1 o1 B1 => ?_⟩
    refine ⟨_, rfl, b, 3, n + 1, rfl, B1, by omega, by decide, by decide, fun d H2 d0 d1 o2 B2 => ?_⟩
    have S2 : Stp [b] H H2 := (o1.stp (List.mem_singleton.mpr rfl)).trans (o2.stp (List.mem_singleton.mpr rfl))
    obtain ⟨c, mc, ec⟩ := pick (xs := [97, 98, 99]) d0 d1
    have hc : c = 97 ∨ c = 98 ∨ c = 99 := by
      simp at mc
      exact mc
    refine ⟨("abc" : Str), d, c, rfl, rfl, (by rw [abc_lit]; exact szt (by decide)), (by rw [abc_lit]; exact ec), _, _, rfl, ?_⟩
    refine ⟨_, rfl, _, _, rfl, rfl, _, rfl, ite2 (fun h1 => ?_) (fun h1 => ?_)⟩
    · exact ⟨_, rfl, k _ _ ha hl S2 (B2.mono (by omega))⟩
    have h1 : ¬ way < 2 := fun q => h1 (decide_eq_true q)
    refine ⟨_, rfl, _, _, rfl, rfl, _, rfl, ite2 (fun h2 => ?_) (fun h2 => ?_)⟩
    · have h2 : way < 4 := of_decide_eq_true h2
      refine ⟨_, rfl, _, rfl, _, _, rfl, rfl, tx [97], way - 2, congrArg V.str a_lit, rfl, mulOk 97 (by omega) (by omega), ?_⟩
      refine ⟨tx l, tx (List.replicate (way - 2).toNat 97), rfl, congrArg V.str (tx_mul _ _), (by rw [tx_len, tx_len, List.length_replicate]; exact sz (by omega)), ?_⟩
      refine ⟨_, rfl, tx (l ++ List.replicate (way - 2).toNat 97), tx [c], congrArg V.str (tx_app _ _), rfl, (by rw [tx_len, tx_len, List.length_append, List.length_replicate, List.length_singleton]; exact sz (by omega)), 12, rfl, ?_⟩
      refine ⟨tx (l ++ List.replicate (way - 2).toNat 97 ++ [c]), congrArg V.str (tx_app _ _), szt (by simp; omega), ?_⟩
      show Q _ _
      rw [show cutS _ none (some 12) = _ from tx_upto _ 12]
      exact k _ _ (((ha.app (Abc.rep _ (.inl rfl))).app (Abc.one hc)).take 12) (by rw [List.length_take]; omega) S2 (B2.mono (by omega))
    have h2 : ¬ way < 4 := fun q => h2 (decide_eq_true q)
    refine ⟨_, rfl, rfl, _, rfl, ite2 (fun h3 => ?_) (fun h3 => ?_)⟩
    · refine ⟨_, rfl, _, rfl, tx [c], 12, rfl, rfl, mulOk c (by decide) (by decide), ?_⟩
      refine ⟨tx l, tx (List.replicate (12 : Int).toNat c), rfl, congrArg V.str (tx_mul _ _), (by rw [tx_len, tx_len, List.length_replicate]; exact sz (by simp; omega)), 12, rfl, ?_⟩
      refine ⟨tx (l ++ List.replicate (12 : Int).toNat c), congrArg V.str (tx_app _ _), szt (by simp; omega), ?_⟩
      show Q _ _
      rw [show cutS _ none (some 12) = _ from tx_upto _ 12]
      exact k _ _ ((ha.app (Abc.rep _ hc)).take 12) (by rw [List.length_take]; omega) S2 (B2.mono (by omega))
    refine ⟨_, rfl, rfl, _, rfl, ite2 (fun h4 => ?_) (fun h4 => ?_)⟩
    · refine ⟨_, rfl, 1, rfl, -1, rfl, tx l, rfl, szt (by omega), _, rfl, tx l.dropLast, tx [c], congrArg V.str (tx_init l), rfl, (by rw [tx_len, tx_len, List.length_dropLast, List.length_singleton]; exact sz (by omega)), ?_⟩
      show Q _ _
      rw [tx_app]
      exact k _ _ (ha.init.app (Abc.one hc)) (by rw [List.length_append, List.length_dropLast, List.length_singleton]; omega) S2 (B2.mono (by omega))
    refine ⟨_, rfl, rfl, _, rfl, ite2 (fun h5 => ?_) (fun h5 => ?_)⟩
    · refine ⟨_, rfl, 1, rfl, -1, rfl, tx l, rfl, szt (by omega), ?_⟩
      show Q _ _
      rw [show cutS _ none (some (-1)) = _ from tx_init l]
      exact k _ _ ha.init (by rw [List.length_dropLast]; omega) S2 (B2.mono (by omega))
    · refine ⟨_, rfl, _, rfl, _, rfl, tx l, rfl, szt (by omega), _, _, rfl, rfl, b, _, n + 2, rfl, B2, by omega, ?_, ?_, fun d H3 d0 d1 o3 B3 => ?_⟩
      · have := tx_len l
        omega
      · have := tx_len l
        omega
      obtain ⟨e, rfl⟩ := Int.eq_ofNat_of_zero_le d0
      refine ⟨_, rfl, tx l, rfl, szt (by omega), ?_⟩
      show Q _ _
      rw [show cutS _ none (some (e : Int)) = _ from tx_upto l e]
      exact k _ _ (ha.take _) (by rw [List.length_take]; omega) (S2.trans (o3.stp (List.mem_singleton.mpr rfl))) B3
/-- a pool: some texts -/
def Pool (H : Hp) (p : Addr) (ls : List (List Nat)) : Prop := H p = some (.lst (ls.map Tx)) ∧ ∀ l ∈ ls, Abc l ∧ l.length ≤ 12
def spSome : Sp := fun vs H Q _ => ∃ (b p : Addr) (n : Nat) (ls : List (List Nat)), vs = [.ref b, .ref p] ∧ Bag H b n ∧ n + 40 < 2 ^ 30 ∧ Pool H p ls ∧ ls.length < 2 ^ 20 ∧ b ≠ p ∧ ∀ m H', Abc m → m.length ≤ 12 → Stp [b] H H' → Bag H' b (n + 20) → Q (Tx m) H'
theorem cl__law_some {f : Addr} {fd : FuncData} (D : Df K mg "_law_some" s__law_some ["bag", "pool"] f fd) (T : Nm mg) (c__law_draw : Cl P w K mg base 1 "_law_draw" s__law_draw ["bag", "upto"] spDraw)
    (c__law_near : Cl P w K mg base 2 "_law_near" s__law_near ["bag", "word"] spNear) (c__law_text : Cl P w K mg base 2 "_law_text" s__law_text ["bag"] spText) : Cl P w K mg base 3 "_law_some" s__law_some ["bag", "pool"] spSome := by
  refine D.cl sc__law_some (fun vs H Q E h => ?_) (fun cdv A outer s H vs Q E hr h => ?_)
  · obtain ⟨b, p, n, ls, rfl, _⟩ := h
    rfl
  · obtain ⟨b, p, n, ls, rfl, B, hn, ⟨hp, ha⟩, hls, ne, k⟩ := h
    refine ⟨_, (pss_cons (ps_if (PW.pt (pw_and (pt_cmpR (op_neD hr.units) (pv 1) (pe_lst pa_nil) (by first | exact nomark _ | rfl)) (pw_and1 (pt_cmpR op_gt (pe_cl c__law_draw hr (by omega) (pa_cons (pv 0) (pa_cons pe_int pa_nil))) pe_int (by first | exact nomark _ | rfl))))) (pss_one (ps_ret (pe_cl c__law_near hr (by omega) (pa_cons (pv 0) (pa_cons (pe_ix ix_list (pv 1) (pe_cl c__law_draw hr (by omega) (pa_cons (pv 0) (pa_cons (pe_callB call_len_seq (by rfl) T.n_len (by decide +kernel) (pa_cons (pv 1) pa_nil)) pa_nil))) (fun _ _ => rfl)) pa_nil))))) pss_nil)
      (pss_one (ps_ret (pe_cl c__law_text hr (by omega) (pa_cons (pv 0) pa_nil))))), ?_⟩
    have npb : p ∉ [b] := fun m => ne (List.mem_singleton.mp m).symm
    have fin : ∀ H1 m, Stp [b] H H1 → Bag H1 b m → m ≤ n + 2 → tRet (tCl spText (tCons (tVar 0) tNil)) { nx := fun _ H' => Q .non H', rt := Q } (start N__law_some [.ref b, .ref p]) H1 := fun H1 m S1 B1 hm => by
      refine ⟨_, rfl, b, m, rfl, B1, by omega, fun l H2 hl hll S2 B2 => ?_⟩
      exact k l H2 hl hll (S1.trans S2) (B2.mono (by omega))
    refine ⟨_, rfl, Nat.zero_le _, fun q hq => ?_⟩
    have S0 : Stp [b] H (upd H q (.lst [])) := Stp.new hq _
    have B0 := B.upd (o := .lst []) (B.ne hq)
    refine ne_nil_strs (SqL.of (S0.kp _ _ npb hp)) (fun l m => (ha l m).1) upd_same ?_
    cases ls with
    | nil => exact ⟨false, rfl, fin _ n S0 B0 (by omega)⟩
    | cons l0 ls =>
    refine ⟨true, rfl, ?_⟩
    refine ⟨_, rfl, b, 3, n, rfl, B0, by omega, by decide, by decide, fun d H1 d0 d1 o1 B1 => ?_⟩
    have S1 : Stp [b] H H1 := S0.trans (o1.stp (List.mem_singleton.mpr rfl))
    refine ⟨_, _, rfl, rfl, _, rfl, ite2 (fun h1 => ?_) (fun h1 => ?_)⟩
    · refine ⟨_, rfl, _, rfl, _, rfl, _, rfl, p, _, rfl, .inl (SqL.of (S1.kp _ _ npb hp)), b, _, n + 1, rfl, B1, by omega, ?_, ?_, fun e H2 e0 e1 o2 B2 => ?_⟩
      · rw [List.length_map, List.length_cons]
        omega
      · rw [List.length_map]
        omega
      have S2 : Stp [b] H H2 := S1.trans (o2.stp (List.mem_singleton.mpr rfl))
      obtain ⟨v, mv, ev⟩ := pick e0 e1
      obtain ⟨m, mm, rfl⟩ := List.mem_map.mp mv
      refine ⟨p, _, e, Tx m, rfl, rfl, SqL.of (S2.kp _ _ npb hp), ev, b, n + 2, m, rfl, B2, by omega, (ha m mm).1, (ha m mm).2, fun m' H3 a3 l3 S3 B3 => ?_⟩
      exact k m' H3 a3 l3 (S2.trans S3) (B3.mono (by omega))
    · exact fin H1 (n + 1) S1 B1 (by omega)
/-- values of a column -/
def vD : Option (List Nat) → D
  | none => .non
  | some l => .str l
def vV : Option (List Nat) → V
  | none => .non
  | some l => Tx l
theorem rv_vs {K : PySem.W.Frag} {S : List Addr} {H : Hp} : ∀ (os : List (Option (List Nat))), (∀ l, some l ∈ os → l.length ≤ 100000) → RvL K S H (os.map vV) (os.map vD)
  | [], _ => .nil
  | none :: os, h => .cons .non (rv_vs os fun l m => h l (List.mem_cons_of_mem _ m))
  | some x :: os, h => .cons (.str x (h x List.mem_cons_self)) (rv_vs os fun l m => h l (List.mem_cons_of_mem _ m))
abbrev s_is_rule : Stmt := topS 25
abbrev N_is_rule : List Str := ["value", "lacks", "low", "high"]
theorem sc_is_rule : FnScope ["value", "lacks", "low", "high"] ["value"] (defScope s_is_rule) := ⟨rfl, rfl, rfl, by decide +kernel, rfl, by decide +kernel, by decide +kernel⟩

abbrev s_is_lacks_part : Stmt := topS 26
abbrev N_is_lacks_part : List Str := ["part"]
theorem sc_is_lacks_part : FnScope ["part"] ["part"] (defScope s_is_lacks_part) := ⟨rfl, rfl, rfl, by decide +kernel, rfl, by decide +kernel, by decide +kernel⟩

abbrev s_is_low_part : Stmt := topS 27
abbrev N_is_low_part : List Str := ["part"]
theorem sc_is_low_part : FnScope ["part"] ["part"] (defScope s_is_low_part) := ⟨rfl, rfl, rfl, by decide +kernel, rfl, by decide +kernel, by decide +kernel⟩

abbrev s_is_high_part : Stmt := topS 28
abbrev N_is_high_part : List Str := ["part"]
theorem sc_is_high_part : FnScope ["part"] ["part"] (defScope s_is_high_part) := ⟨rfl, rfl, rfl, by decide +kernel, rfl, by decide +kernel, by decide +kernel⟩

abbrev s_is_lost : Stmt := topS 29
abbrev N_is_lost : List Str := ["part"]
theorem sc_is_lost : FnScope ["part"] ["part"] (defScope s_is_lost) := ⟨rfl, rfl, rfl, by decide +kernel, rfl, by decide +kernel, by decide +kernel⟩

abbrev s_is_letter_number : Stmt := topS 30
abbrev N_is_letter_number : List Str := ["part"]
theorem sc_is_letter_number : FnScope ["part"] ["part"] (defScope s_is_letter_number) := ⟨rfl, rfl, rfl, by decide +kernel, rfl, by decide +kernel, by decide +kernel⟩

/-! ### what is a rule -/
def isIn (ss : List Str) : D → Bool
  | .str l => decide (tx l ∈ ss)
  | _ => false
def isLost : D → Bool
  | .str l => decide (tx l = ("lost" : Str))
  | _ => false
def isNum : D → Bool
  | .int i => decide (0 ≤ i) && decide (i ≤ 6)
  | _ => false
def isLow (d : D) : Bool := isLost d || isNum d
def isHigh : D → Bool
  | .tup [a, b] => isIn ["cut", "beyond"] a && isNum b
  | d => isLost d
def isRule : D → Bool
  | .tup [a, b, c] => isIn ["many", "some", "hidden"] a && isLow b && isHigh c
  | _ => false
/-- a def that tells a truth of any value -/
def spTell (K : PySem.W.Frag) (t : D → Bool) : Sp := fun vs H Q _ => ∃ (S : List Addr) (v : V) (d : D), vs = [v] ∧ Rv K S H v d ∧ ∀ H' b, Stp [] H H' → b = t d → Q (.bl b) H'
theorem spTell.len {K : PySem.W.Frag} {t : D → Bool} {vs : List V} {H : Hp} {Q : VK} {E : XK} (h : spTell K t vs H Q E) : vs.length = 1 := by
  obtain ⟨S, v, d, rfl, _⟩ := h
  rfl
theorem bl_str {l : List Nat} {s : Str} : decide (Tx l = V.str s) = decide (tx l = s) := by
  by_cases h : tx l = s
  · rw [decide_eq_true (congrArg V.str h), decide_eq_true h]
  · rw [decide_eq_false h, decide_eq_false (fun q => h (V.str.inj q))]
/-- x in (..), texts: the tuple is made on the way -/
theorem in_strs {K : PySem.W.Frag} {H : Hp} {l : List Nat} {ss : List Str} {p : Addr} {Q : VK} (hp : SqL K H p (ss.map V.str) ∨ SqT K H p (ss.map V.str)) (k : Q (.bl (decide (tx l ∈ ss))) H) : rIn K false (Tx l) (.ref p) H Q := by
  refine ⟨p, ss.map V.str, rfl, hp, rfl, ?_, ?_⟩
  · rw [List.all_map]
    exact List.all_eq_true.mpr fun _ _ => rfl
  · show Q (.bl (inV (.str (tx l)) (ss.map V.str))) H
    rw [inV_str]
    exact k
theorem cl_is_lost {f : Addr} {fd : FuncData} (D : Df K mg "is_lost" s_is_lost ["part"] f fd) (T : Nm mg) : Cl P w K mg base 1 "is_lost" s_is_lost ["part"] (spTell K isLost) := by
  refine D.cl sc_is_lost (fun vs H Q E h => h.len) (fun cdv A outer s H vs Q E hr h => ?_)
  obtain ⟨S, v, d, rfl, r, k⟩ := h
  refine ⟨_, (pss_one (ps_ret (pe_and (pe_tyIs (T := "str") Mono.var (pv 0) T.n_type T.n_str (by decide +kernel)) (pe_one (pe_cmpR op_eq (pv 0) pe_str (by first | exact nomark _ | rfl)))))), ?_⟩
  refine ⟨_, rfl, d.old, r.old, _, rfl, ?_⟩
  cases r with
  | str l hl => exact ⟨_, rfl, rfl, by
      show Q (.bl (decide (Tx l = V.str "lost"))) H
      exact k H _ (Stp.refl _ _) bl_str⟩
  | _ => exact k H _ (Stp.refl _ _) rfl
theorem cl_is_letter_number {f : Addr} {fd : FuncData} (D : Df K mg "is_letter_number" s_is_letter_number ["part"] f fd) (T : Nm mg) : Cl P w K mg base 1 "is_letter_number" s_is_letter_number ["part"] (spTell K isNum) := by
  refine D.cl sc_is_letter_number (fun vs H Q E h => h.len) (fun cdv A outer s H vs Q E hr h => ?_)
  obtain ⟨S, v, d, rfl, r, k⟩ := h
  refine ⟨_, (pss_one (ps_ret (pe_and (pe_tyIs (T := "int") Mono.var (pv 0) T.n_type T.n_int (by decide +kernel)) (pe_one (pe_chain op_le op_le pe_int (pv 0) pe_int))))), ?_⟩
  refine ⟨_, rfl, d.old, r.old, _, rfl, ?_⟩
  cases r with
  | int i =>
    refine ⟨_, rfl, _, _, rfl, rfl, _, rfl, ite2 (fun h => ?_) (fun h => ?_)⟩
    · exact ⟨_, _, rfl, rfl, k H _ (Stp.refl _ _) (by show _ = (decide (0 ≤ i) && decide (i ≤ 6)); rw [h]; rfl)⟩
    · exact k H _ (Stp.refl _ _) (by show _ = (decide (0 ≤ i) && decide (i ≤ 6)); rw [Bool.eq_false_iff.mpr h]; rfl)
  | _ => exact k H _ (Stp.refl _ _) rfl
theorem cl_is_lacks_part {f : Addr} {fd : FuncData} (D : Df K mg "is_lacks_part" s_is_lacks_part ["part"] f fd) (T : Nm mg) : Cl P w K mg base 1 "is_lacks_part" s_is_lacks_part ["part"] (spTell K (isIn ["many", "some", "hidden"])) := by
  refine D.cl sc_is_lacks_part (fun vs H Q E h => h.len) (fun cdv A outer s H vs Q E hr h => ?_)
  obtain ⟨S, v, d, rfl, r, k⟩ := h
  refine ⟨_, (pss_one (ps_ret (pe_and (pe_tyIs (T := "str") Mono.var (pv 0) T.n_type T.n_str (by decide +kernel)) (pe_one (pe_cmpR op_in_seq (pv 0) (pe_tup (pa_cons pe_str (pa_cons pe_str (pa_cons pe_str pa_nil)))) (by first | exact nomark _ | rfl)))))), ?_⟩
  refine ⟨_, rfl, d.old, r.old, _, rfl, ?_⟩
  cases r with
  | str l hl => exact ⟨_, rfl, (by show 3 ≤ sizeLine; decide), fun p np => in_strs (ss := ["many", "some", "hidden"]) (.inr (SqT.of upd_same)) (k _ _ (Stp.new np _) rfl)⟩
  | _ => exact k H _ (Stp.refl _ _) rfl
theorem cl_is_low_part {f : Addr} {fd : FuncData} (D : Df K mg "is_low_part" s_is_low_part ["part"] f fd) (T : Nm mg) (c_is_lost : Cl P w K mg base 1 "is_lost" s_is_lost ["part"] (spTell K isLost)) (c_is_letter_number : Cl P w K mg base 1 "is_letter_number" s_is_letter_number ["part"] (spTell K isNum)) :
    Cl P w K mg base 2 "is_low_part" s_is_low_part ["part"] (spTell K isLow) := by
  refine D.cl sc_is_low_part (fun vs H Q E h => h.len) (fun cdv A outer s H vs Q E hr h => ?_)
  obtain ⟨S, v, d, rfl, r, k⟩ := h
  refine ⟨_, (pss_one (ps_ret (pe_or (pe_cl c_is_lost hr (by omega) (pa_cons (pv 0) pa_nil)) (pe_one (pe_cl c_is_letter_number hr (by omega) (pa_cons (pv 0) pa_nil)))))), ?_⟩
  refine ⟨_, rfl, S, v, d, rfl, r, fun H1 b S1 eb => ⟨_, rfl, ite2 (fun h => ?_) (fun h => ?_)⟩⟩
  · exact k H1 _ S1 (by unfold isLow; rw [← eb, h]; rfl)
  · exact ⟨_, rfl, S, v, d, rfl, r.up S1, fun H2 b2 S2 eb2 => k H2 _ (S1.trans S2) (by unfold isLow; rw [← eb, ← eb2, Bool.eq_false_iff.mpr h]; rfl)⟩
theorem isHigh_no {d : D} (h : ∀ a b, d ≠ .tup [a, b]) : isHigh d = isLost d := by
  cases d with
  | tup ds => match ds, h with
    | [], _ => rfl
    | [_], _ => rfl
    | [a, b], h => exact absurd rfl (h a b)
    | _ :: _ :: _ :: _, _ => rfl
  | _ => rfl
theorem two {α : Type} {l : List α} (h : l.length = 2) : ∃ a b, l = [a, b] := by
  match l, h with
  | [a, b], _ => exact ⟨a, b, rfl⟩
theorem three {α : Type} {l : List α} (h : l.length = 3) : ∃ a b c, l = [a, b, c] := by
  match l, h with
  | [a, b, c], _ => exact ⟨a, b, c, rfl⟩
theorem RvL.two {K : PySem.W.Frag} {S : List Addr} {H : Hp} {vs : List V} {a b : D} (r : RvL K S H vs [a, b]) : ∃ u v, vs = [u, v] ∧ Rv K S H u a ∧ Rv K S H v b := by
  cases r with
  | cons h1 r => cases r with
    | cons h2 r => cases r; exact ⟨_, _, rfl, h1, h2⟩
theorem RvL.three {K : PySem.W.Frag} {S : List Addr} {H : Hp} {vs : List V} {a b c : D} (r : RvL K S H vs [a, b, c]) : ∃ u v w, vs = [u, v, w] ∧ Rv K S H u a ∧ Rv K S H v b ∧ Rv K S H w c := by
  cases r with
  | cons h1 r => cases r with
    | cons h2 r => cases r with
      | cons h3 r => cases r; exact ⟨_, _, _, rfl, h1, h2, h3⟩
theorem at2 {α : Type} {a b c : α} {l : List α} : atI (a :: b :: c :: l) 2 = some c := atI_nat (j := 2) rfl
theorem cl_is_high_part {f : Addr} {fd : FuncData} (D : Df K mg "is_high_part" s_is_high_part ["part"] f fd) (T : Nm mg) (c_is_lost : Cl P w K mg base 1 "is_lost" s_is_lost ["part"] (spTell K isLost)) (c_is_letter_number : Cl P w K mg base 1 "is_letter_number" s_is_letter_number ["part"] (spTell K isNum)) :
    Cl P w K mg base 2 "is_high_part" s_is_high_part ["part"] (spTell K isHigh) := by
  refine D.cl sc_is_high_part (fun vs H Q E h => h.len) (fun cdv A outer s H vs Q E hr h => ?_)
  obtain ⟨S, v, d, rfl, r, k⟩ := h
  refine ⟨_, (pss_cons (ps_if (PW.pt (pw_or (pt_tyNot (T := "tuple") Mono.var (pv 0) T.n_type T.n_tuple (by decide +kernel)) (pw_or1 (pt_cmpR op_ne (pe_callB call_len_seq (by rfl) T.n_len (by decide +kernel) (pa_cons (pv 0) pa_nil)) pe_int (by first | exact nomark _ | rfl))))) (pss_one (ps_ret (pe_cl c_is_lost hr (by omega) (pa_cons (pv 0) pa_nil)))) pss_nil)
      (pss_one (ps_ret (pe_and (pe_tyIs (T := "str") (Mono.ixT Mono.var Mono.c) (pe_ix ix_tup (pv 0) pe_int (fun _ _ => rfl)) T.n_type T.n_str (by decide +kernel)) (pe_and (pe_cmpR op_in_seq (pe_ix ix_tup (pv 0) pe_int (fun _ _ => rfl)) (pe_tup (pa_cons pe_str (pa_cons pe_str pa_nil))) (by first | exact nomark _ | rfl)) (pe_one (pe_cl c_is_letter_number hr (by omega) (pa_cons (pe_ix ix_tup (pv 0) pe_int (fun _ _ => rfl)) pa_nil)))))))), ?_⟩
  have no : (∀ a b, d ≠ .tup [a, b]) → ∀ H1, H1 = H → ∃ x, (L2.start N_is_high_part [v])[0]? = some (some x) ∧ spTell K isLost [x] H1 Q E0 := fun n H1 e => by
    subst e
    exact ⟨v, rfl, S, v, d, rfl, r, fun H2 b S2 eb => k H2 b S2 (by rw [isHigh_no n]; exact eb)⟩
  refine ⟨_, rfl, d.old, r.old, ite2 (fun h => ?_) (fun h => ?_)⟩
  · refine no (fun a b e => ?_) H rfl
    rw [e] at h
    exact absurd h (by simp [Pv.D.old, Dt.ty])
  · obtain ⟨ds, rfl⟩ : ∃ ds, d = .tup ds   := Pv.D.tup_of (by
      have h2 := Bool.eq_false_iff.mpr h
      simpa [Pv.D.ty] using h2)
    cases r with
    | tup hs hl rl =>
      rename_i a vs
      refine ⟨_, rfl, a, _, rfl, .inr hs, rfl, _, rfl, ite2 (fun h3 => ?_) (fun h3 => ?_)⟩
      · refine no (fun x y e => ?_) H rfl
        cases e
        rw [rl.len] at h3
        exact absurd h3 (by simp)
      · obtain ⟨x, y, rfl⟩ := two (l := ds) (by
          rw [rl.len] at h3
          have h2 := Bool.eq_false_iff.mpr h3
          simp at h2
          omega)
        obtain ⟨u, v, rfl, r1, r2⟩ := RvL.two rl
        refine ⟨_, rfl, a, _, 0, u, rfl, rfl, hs, at0, x.old, r1.old, _, rfl, ?_⟩
        cases r1 with
        | str l hl =>
          refine ⟨_, rfl, a, _, 0, Tx l, rfl, rfl, hs, at0, (by show 2 ≤ sizeLine; decide), fun p np => in_strs (ss := ["cut", "beyond"]) (.inr (SqT.of upd_same)) ⟨_, rfl, ite2 (fun h => ?_) (fun h => ?_)⟩⟩
          · have S1 : Stp [] H (upd H p (.tup [.str "cut", .str "beyond"])) := Stp.new np _
            refine ⟨_, rfl, a, _, 1, v, rfl, rfl, sqt_stp S1 Lsts.nil hs, at1, S, v, y, rfl, r2.up S1, fun H2 b S2 eb => k H2 b (S1.trans S2) ?_⟩
            show b = (decide (tx l ∈ _) && isNum y)
            rw [h, eb]
            rfl
          · refine k _ _ (Stp.new np _) ?_
            show false = (decide (tx l ∈ _) && isNum y)
            rw [Bool.eq_false_iff.mpr h]
            rfl
        | _ => exact k H _ (Stp.refl _ _) rfl
theorem nt {b : Bool} (h : (!b) = true) : b = false := by simpa using h
theorem nf {b : Bool} (h : ¬ (!b) = true) : b = true := by simpa using h
theorem notin_strs {K : PySem.W.Frag} {H : Hp} {l : List Nat} {ss : List Str} {p : Addr} {Q : VK} (hp : SqL K H p (ss.map V.str) ∨ SqT K H p (ss.map V.str)) (k : Q (.bl (!decide (tx l ∈ ss))) H) : rIn K true (Tx l) (.ref p) H Q := by
  refine ⟨p, ss.map V.str, rfl, hp, rfl, ?_, ?_⟩
  · rw [List.all_map]
    exact List.all_eq_true.mpr fun _ _ => rfl
  · show Q (.bl (!inV (.str (tx l)) (ss.map V.str))) H
    rw [inV_str]
    exact k
theorem isRule_no {d : D} (h : ∀ a b c, d ≠ .tup [a, b, c]) : isRule d = false := by
  cases d with
  | tup ds => match ds, h with
    | [], _ => rfl
    | [_], _ => rfl
    | [_, _], _ => rfl
    | [a, b, c], h => exact absurd rfl (h a b c)
    | _ :: _ :: _ :: _ :: _, _ => rfl
  | _ => rfl
theorem cl_is_rule {f : Addr} {fd : FuncData} (D : Df K mg "is_rule" s_is_rule ["value"] f fd) (T : Nm mg) (c_is_lacks_part : Cl P w K mg base 1 "is_lacks_part" s_is_lacks_part ["part"] (spTell K (isIn ["many", "some", "hidden"])))
    (c_is_low_part : Cl P w K mg base 2 "is_low_part" s_is_low_part ["part"] (spTell K isLow)) (c_is_high_part : Cl P w K mg base 2 "is_high_part" s_is_high_part ["part"] (spTell K isHigh)) : Cl P w K mg base 3 "is_rule" s_is_rule ["value"] (spTell K isRule) := by
  refine D.cl sc_is_rule (fun vs H Q E h => h.len) (fun cdv A outer s H vs Q E hr h => ?_)
  obtain ⟨S, v, d, rfl, r, k⟩ := h
  refine ⟨_, (pss_cons (ps_if (PW.pt (pw_or (pt_tyNot (T := "tuple") Mono.var (pv 0) T.n_type T.n_tuple (by decide +kernel)) (pw_or1 (pt_cmpR op_ne (pe_callB call_len_seq (by rfl) T.n_len (by decide +kernel) (pa_cons (pv 0) pa_nil)) pe_int (by first | exact nomark _ | rfl))))) (pss_one (ps_ret pe_bl)) pss_nil)
      (pss_cons (ps_asg (pv 0) (pg_tup rfl (pgs_cons (pg_name (i := 1) sc_is_rule.nd rfl (by first | exact Or.inl rfl | exact Or.inr rfl)) (pgs_cons (pg_name (i := 2) sc_is_rule.nd rfl (by first | exact Or.inl rfl | exact Or.inr rfl)) (pgs_cons (pg_name (i := 3) sc_is_rule.nd rfl (by first | exact Or.inl rfl | exact Or.inr rfl)) pgs_nil (by rfl)) (by rfl)) (by rfl)) (by rfl) (by rfl)))
      (pss_one (ps_ret (pe_and (pe_cl c_is_lacks_part hr (by omega) (pa_cons (pv 1) pa_nil)) (pe_and (pe_cl c_is_low_part hr (by omega) (pa_cons (pv 2) pa_nil)) (pe_one (pe_cl c_is_high_part hr (by omega) (pa_cons (pv 3) pa_nil))))))))), ?_⟩
  refine ⟨_, rfl, d.old, r.old, ite2 (fun h => ?_) (fun h => ?_)⟩
  · exact k H _ (Stp.refl _ _) (isRule_no fun a b c e => by rw [e] at h; exact absurd h (by simp [Pv.D.old, Dt.ty])).symm
  · obtain ⟨ds, rfl⟩ : ∃ ds, d = .tup ds := Pv.D.tup_of (by
      have h2 := Bool.eq_false_iff.mpr h
      simpa [Pv.D.ty] using h2)
    cases r with
    | tup hs hl rl =>
      rename_i a vs
      refine ⟨_, rfl, a, _, rfl, .inr hs, rfl, _, rfl, ite2 (fun h3 => ?_) (fun h3 => ?_)⟩
      · exact k H _ (Stp.refl _ _) (isRule_no fun x y z e => by
          cases e
          rw [rl.len] at h3
          exact absurd h3 (by simp)).symm
      · obtain ⟨x, y, z, rfl⟩ := three (l := ds) (by
          rw [rl.len] at h3
          have h2 := Bool.eq_false_iff.mpr h3
          simp at h2
          omega)
        obtain ⟨u1, u2, u3, rfl, r1, r2, r3⟩ := RvL.three rl
        refine ⟨_, rfl, a, _, rfl, hs, rfl, _, _, rfl, _, _, rfl, _, _, rfl, rfl, ?_⟩
        refine ⟨_, rfl, S, u1, x, rfl, r1, fun H1 b1 S1 e1 => ⟨_, rfl, ite2 (fun h4 => ?_) (fun h4 => ?_)⟩⟩
        · refine ⟨_, rfl, S, u2, y, rfl, r2.up S1, fun H2 b2 S2 e2 => ⟨_, rfl, ite2 (fun h5 => ?_) (fun h5 => ?_)⟩⟩
          · refine ⟨_, rfl, S, u3, z, rfl, (r3.up S1).up S2, fun H3 b3 S3 e3 => k H3 _ ((S1.trans S2).trans S3) ?_⟩
            show b3 = (isIn _ x && isLow y && isHigh z)
            rw [← e1, ← e2, ← e3, h4, h5]
            rfl
          · refine k H2 _ (S1.trans S2) ?_
            show false = (isIn _ x && isLow y && isHigh z)
            rw [← e1, ← e2, h4, Bool.eq_false_iff.mpr h5]
            rfl
        · refine k H1 _ S1 ?_
          show false = (isIn _ x && isLow y && isHigh z)
          rw [← e1, Bool.eq_false_iff.mpr h4]
          rfl
abbrev s_is_text : Stmt := topS 10
abbrev N_is_text : List Str := ["value"]
theorem sc_is_text : FnScope ["value"] ["value"] (defScope s_is_text) := ⟨rfl, rfl, rfl, by decide +kernel, rfl, by decide +kernel, by decide +kernel⟩

abbrev s_is_value : Stmt := topS 22
abbrev N_is_value : List Str := ["value"]
theorem sc_is_value : FnScope ["value"] ["value"] (defScope s_is_value) := ⟨rfl, rfl, rfl, by decide +kernel, rfl, by decide +kernel, by decide +kernel⟩

abbrev s_is_page : Stmt := topS 31
abbrev N_is_page : List Str := ["value", "inner"]
theorem sc_is_page : FnScope ["value", "inner"] ["value"] (defScope s_is_page) := ⟨rfl, rfl, rfl, by decide +kernel, rfl, by decide +kernel, by decide +kernel⟩

/-! ### what is a page -/
def abcB (l : List Nat) : Bool := l.all fun c => decide (c = 97 ∨ c = 98 ∨ c = 99)
theorem abcB_iff {l : List Nat} : abcB l = true ↔ Abc l := by
  unfold abcB
  rw [List.all_eq_true]
  exact ⟨fun h c m => of_decide_eq_true (h c m), fun h c m => decide_eq_true (h c m)⟩
def isTxt : D → Bool
  | .str l => abcB l
  | _ => false
def isVal : D → Bool
  | .non => true
  | d => isTxt d
def isPage : D → Bool
  | .lst ds => !ds.isEmpty && ds.all isVal
  | _ => false
theorem cl_is_text {f : Addr} {fd : FuncData} (D : Df K mg "is_text" s_is_text ["value"] f fd) (T : Nm mg) : Cl P w K mg base 1 "is_text" s_is_text ["value"] (spTell K isTxt) := by
  refine D.cl sc_is_text (fun vs H Q E h => h.len) (fun cdv A outer s H vs Q E hr h => ?_)
  obtain ⟨S, v, d, rfl, r, k⟩ := h
  refine ⟨_, (pss_one (ps_ret (pe_and (pe_tyIs (T := "str") Mono.var (pv 0) T.n_type T.n_str (by decide +kernel)) (pe_one (pe_cmpR op_eq (pe_bm PySem.F.plainAttrs_str PySem.F.slot_str_strip PySem.F.type_str_strip mt_stripChars (pv 0) (pa_cons pe_str pa_nil)) pe_str (by first | exact nomark _ | rfl)))))), ?_⟩
  refine ⟨_, rfl, d.old, r.old, _, rfl, ?_⟩
  cases r with
  | str l hl =>
    refine ⟨_, rfl, rfl, tx l, ("abc" : Str), rfl, rfl, szt hl, rfl, ?_⟩
    refine k H _ (Stp.refl _ _) ?_
    rw [abc_lit, nil_lit, Bool.eq_iff_iff]
    show _ ↔ abcB l = true
    rw [abcB_iff]
    exact ⟨fun h => (strip_abc l).mp (V.str.inj (of_decide_eq_true h)), fun h => decide_eq_true (congrArg V.str ((strip_abc l).mpr h))⟩
  | _ => exact k H _ (Stp.refl _ _) rfl
theorem cl_is_value {f : Addr} {fd : FuncData} (D : Df K mg "is_value" s_is_value ["value"] f fd) (T : Nm mg) (c_is_text : Cl P w K mg base 1 "is_text" s_is_text ["value"] (spTell K isTxt)) : Cl P w K mg base 2 "is_value" s_is_value ["value"] (spTell K isVal) := by
  refine D.cl sc_is_value (fun vs H Q E h => h.len) (fun cdv A outer s H vs Q E hr h => ?_)
  obtain ⟨S, v, d, rfl, r, k⟩ := h
  refine ⟨_, (pss_one (ps_ret (pe_or (pe_cmpR op_isN (pv 0) pe_non (by first | exact nomark _ | rfl)) (pe_one (pe_cl c_is_text hr (by omega) (pa_cons (pv 0) pa_nil)))))), ?_⟩
  refine ⟨_, rfl, rfl, _, rfl, ite2 (fun h => ?_) (fun h => ?_)⟩
  · have e : v = .non := of_decide_eq_true h
    subst e
    cases r
    exact k H _ (Stp.refl _ _) rfl
  · have e : isVal d = isTxt d := by
      cases r with
      | non => exact absurd (decide_eq_true rfl) h
      | _ => rfl
    exact ⟨_, rfl, S, v, d, rfl, r, fun H1 b S1 eb => k H1 b S1 (by rw [e]; exact eb)⟩
def Small : D → Prop
  | .lst ds => ds.length ≤ 5000
  | _ => True
def spTellP (K : PySem.W.Frag) : Sp := fun vs H Q _ => ∃ (S : List Addr) (v : V) (d : D), vs = [v] ∧ Rv K S H v d ∧ Small d ∧ ∀ H' b, Stp [] H H' → b = isPage d → Q (.bl b) H'
theorem spTellP.len {K : PySem.W.Frag} {vs : List V} {H : Hp} {Q : VK} {E : XK} (h : spTellP K vs H Q E) : vs.length = 1 := by
  obtain ⟨S, v, d, rfl, _⟩ := h
  rfl
theorem cl_is_page {f : Addr} {fd : FuncData} (D : Df K mg "is_page" s_is_page ["value"] f fd) (T : Nm mg) (c_is_value : Cl P w K mg base 2 "is_value" s_is_value ["value"] (spTell K isVal)) : Cl P w K mg base 3 "is_page" s_is_page ["value"] (spTellP K) := by
  refine D.cl sc_is_page (fun vs H Q E h => h.len) (fun cdv A outer s H vs Q E hr h => ?_)
  obtain ⟨S, v, d, rfl, r, sm, k⟩ := h
  refine ⟨_, (pss_one (ps_ret (pe_and (pe_tyIs (T := "list") Mono.var (pv 0) T.n_type T.n_list (by decide +kernel)) (pe_and (pe_cmpR op_gt (pe_callB call_len_seq (by rfl) T.n_len (by decide +kernel) (pa_cons (pv 0) pa_nil)) pe_int (by first | exact nomark _ | rfl)) (pe_one (pe_callB (cr_all rfl) (by rfl) T.n_all (by decide +kernel) (pa_cons (pe_lc (own := [("inner", 1)]) rfl sc_is_page.nd (pi_list (pv 0)) (blkOk_by (own := [("inner", 1)]) (N := N_is_page) (sc := defScope s_is_page) (by decide +kernel)) (fun _ _ _ _ _ => (pg_name (i := 1) sc_is_page.nd rfl (by first | exact Or.inl rfl | exact Or.inr rfl))) (fun _ _ _ _ _ => pts_nil) (fun _ _ _ _ _ => (pe_cl c_is_value hr (by omega) (pa_cons (pv 1) pa_nil)))) pa_nil))))))), ?_⟩
  refine ⟨_, rfl, d.old, r.old, _, rfl, ?_⟩
  cases r with
  | lst ha hn hl rl =>
    rename_i a vs ds
    refine ⟨_, rfl, a, vs, rfl, .inl (SqL.of ha), _, _, rfl, rfl, _, rfl, ite2 (fun h => ?_) (fun h => ?_)⟩
    · have h : (0 : Int) < (vs.length : Int) := of_decide_eq_true h
      refine ⟨_, rfl, a, rfl, ⟨_, SqL.of ha⟩, fun L nL => ?_⟩
      refine lc_mapL (K := K) (ds := (ds.map isVal).map Dt.bl) nL (SqL.of ha) (by simp [rl.len]) (by have : ds.length ≤ 5000 := sm; rw [rl.len]; omega) (fun j x e H3 hx hd S3 Q2 q => ?_) fun ws H3 S3 h3 r3 => ?_
      · obtain ⟨e', he, re⟩ := rl.get hx
        rw [List.getElem?_map, List.getElem?_map, he] at hd
        cases hd
        exact ⟨rfl, _, rfl, S, x, e', rfl, re.up S3, fun H4 b S4 eb => q _ _ S4 (by rw [eb]; exact .bl _)⟩
      obtain rfl := rpl_bls r3
      refine ⟨L, _, rfl, SqL.of h3, k _ _ S3 ?_⟩
      rw [rl.len] at h
      show _ = (!ds.isEmpty && ds.all isVal)
      cases ds with
      | nil => simp at h
      | cons d ds => simp [List.all_map]
    · refine k H _ (Stp.refl _ _) ?_
      have h : ¬ (0 : Int) < (vs.length : Int) := fun q => h (decide_eq_true q)
      rw [rl.len] at h
      show _ = (!ds.isEmpty && ds.all isVal)
      cases ds with
      | nil => rfl
      | cons d ds => simp at h
  | _ => exact k H _ (Stp.refl _ _) rfl
/-! ### drawn rules -/
def lk : Nat → Str
  | 0 => "many"
  | 1 => "some"
  | _ => "hidden"
def wy : Nat → Str
  | 0 => "cut"
  | _ => "beyond"
/-- a rule: which word of lacks, letters of the low bound, the way and the letters of the high one -/
structure Ru where
  lacks : Nat
  low : Option Nat
  high : Option (Nat × Nat)
def loD : Option Nat → D
  | none => wd "lost"
  | some n => .int (n : Int)
def hiD : Option (Nat × Nat) → D
  | none => wd "lost"
  | some (k, n) => .tup [wd (wy k), .int (n : Int)]
def ruD (r : Ru) : D := .tup [wd (lk r.lacks), loD r.low, hiD r.high]
structure RuOk (r : Ru) : Prop where
  lacks : r.lacks < 3
  low : ∀ n, r.low = some n → n ≤ 6
  high : ∀ k n, r.high = some (k, n) → k < 2 ∧ n ≤ 6
theorem pick_at {α : Type} {x0 : α} {l : List α} {d : Int} (h0 : 0 ≤ d) (h1 : d < (l.length : Int)) : ∃ k x, k < l.length ∧ d = (k : Int) ∧ l[k]? = some x ∧ atI l d = some x := by
  obtain ⟨k, rfl⟩ := Int.eq_ofNat_of_zero_le h0
  have hk : k < l.length := by omega
  exact ⟨k, l[k], hk, rfl, List.getElem?_eq_getElem hk, atI_nat (List.getElem?_eq_getElem hk)⟩
theorem words3 {d : Int} (h0 : 0 ≤ d) (h1 : d < 3) : ∃ k, k < 3 ∧ atI [V.str "many", V.str "some", V.str "hidden"] d = some (.str (lk k)) := by
  rcases (by omega : d = 0 ∨ d = 1 ∨ d = 2) with rfl | rfl | rfl
  · exact ⟨0, by decide, at0⟩
  · exact ⟨1, by decide, at1⟩
  · exact ⟨2, by decide, at2⟩
theorem words2 {d : Int} (h0 : 0 ≤ d) (h1 : d < 2) : ∃ k, k < 2 ∧ atI [V.str "cut", V.str "beyond"] d = some (.str (wy k)) := by
  rcases (by omega : d = 0 ∨ d = 1) with rfl | rfl
  · exact ⟨0, by decide, at0⟩
  · exact ⟨1, by decide, at1⟩
theorem lk_len (k : Nat) : (lk k).cps.toList.length ≤ 100000 := by
  unfold lk
  split <;> decide +kernel
theorem wy_len (k : Nat) : (wy k).cps.toList.length ≤ 100000 := by
  unfold wy
  split <;> decide +kernel
abbrev s_check_text : Stmt := topS 14
abbrev N_check_text : List Str := ["text"]
theorem sc_check_text : FnScope ["text"] ["text"] (defScope s_check_text) := ⟨rfl, rfl, rfl, by decide +kernel, rfl, by decide +kernel, by decide +kernel⟩

abbrev s_beyond : Stmt := topS 18
abbrev N_beyond : List Str := ["text", "stem"]
theorem sc_beyond : FnScope ["text", "stem"] ["text"] (defScope s_beyond) := ⟨rfl, rfl, rfl, by decide +kernel, rfl, by decide +kernel, by decide +kernel⟩

abbrev s_ascending : Stmt := topS 19
abbrev N_ascending : List Str := ["texts", "text"]
theorem sc_ascending : FnScope ["texts", "text"] ["texts"] (defScope s_ascending) := ⟨rfl, rfl, rfl, by decide +kernel, rfl, by decide +kernel, by decide +kernel⟩

abbrev s_check_rule : Stmt := topS 32
abbrev N_check_rule : List Str := ["rule"]
theorem sc_check_rule : FnScope ["rule"] ["rule"] (defScope s_check_rule) := ⟨rfl, rfl, rfl, by decide +kernel, rfl, by decide +kernel, by decide +kernel⟩

abbrev s_check_page : Stmt := topS 33
abbrev N_check_page : List Str := ["page"]
theorem sc_check_page : FnScope ["page"] ["page"] (defScope s_check_page) := ⟨rfl, rfl, rfl, by decide +kernel, rfl, by decide +kernel, by decide +kernel⟩

abbrev s_note : Stmt := topS 34
abbrev N_note : List Str := ["rule", "page", "lacks", "low", "high", "texts", "lacking", "value"]
theorem sc_note : FnScope ["rule", "page", "lacks", "low", "high", "texts", "lacking", "value"] ["rule", "page"] (defScope s_note) := ⟨rfl, rfl, rfl, by decide +kernel, rfl, by decide +kernel, by decide +kernel⟩

abbrev s_lacks_note : Stmt := topS 35
abbrev N_lacks_note : List Str := ["lacks", "lacking"]
theorem sc_lacks_note : FnScope ["lacks", "lacking"] ["lacks", "lacking"] (defScope s_lacks_note) := ⟨rfl, rfl, rfl, by decide +kernel, rfl, by decide +kernel, by decide +kernel⟩

abbrev s_low_note : Stmt := topS 36
abbrev N_low_note : List Str := ["low", "texts"]
theorem sc_low_note : FnScope ["low", "texts"] ["low", "texts"] (defScope s_low_note) := ⟨rfl, rfl, rfl, by decide +kernel, rfl, by decide +kernel, by decide +kernel⟩

abbrev s_high_note : Stmt := topS 37
abbrev N_high_note : List Str := ["high", "texts", "way", "letters", "start"]
theorem sc_high_note : FnScope ["high", "texts", "way", "letters", "start"] ["high", "texts"] (defScope s_high_note) := ⟨rfl, rfl, rfl, by decide +kernel, rfl, by decide +kernel, by decide +kernel⟩

/-! ### what a note says -/
def mn : List (List Nat) → List Nat
  | [] => []
  | x :: xs => xs.foldl (fun a b => if b < a then b else a) x
def mx : List (List Nat) → List Nat
  | [] => []
  | x :: xs => xs.foldl (fun a b => if a < b then b else a) x
theorem mn_fold : ∀ (xs : List (List Nat)) (x : List Nat), (xs.foldl (fun a b => if b < a then b else a) x = x ∨ xs.foldl (fun a b => if b < a then b else a) x ∈ xs) ∧ xs.foldl (fun a b => if b < a then b else a) x ≤ x ∧ ∀ y ∈ xs, xs.foldl (fun a b => if b < a then b else a) x ≤ y
  | [], x => ⟨.inl rfl, List.le_refl _, fun _ m => nomatch m⟩
  | y :: ys, x => by
    rw [List.foldl_cons]
    obtain ⟨h1, h2, h3⟩ := mn_fold ys (if y < x then y else x)
    generalize ys.foldl (fun a b => if b < a then b else a) (if y < x then y else x) = m at *
    by_cases c : y < x
    · rw [if_pos c] at h1 h2
      refine ⟨.inr ?_, List.le_trans h2 (List.le_of_lt c), fun z hz => ?_⟩
      · rcases h1 with h1 | h1
        · rw [h1]; exact List.mem_cons_self
        · exact List.mem_cons_of_mem _ h1
      · rcases List.mem_cons.mp hz with rfl | hz
        · exact h2
        · exact h3 z hz
    · rw [if_neg c] at h1 h2
      refine ⟨?_, h2, fun z hz => ?_⟩
      · rcases h1 with h1 | h1
        · exact .inl h1
        · exact .inr (List.mem_cons_of_mem _ h1)
      · rcases List.mem_cons.mp hz with rfl | hz
        · exact List.le_trans h2 (List.not_lt.mp c)
        · exact h3 z hz
theorem mx_fold : ∀ (xs : List (List Nat)) (x : List Nat), (xs.foldl (fun a b => if a < b then b else a) x = x ∨ xs.foldl (fun a b => if a < b then b else a) x ∈ xs) ∧ x ≤ xs.foldl (fun a b => if a < b then b else a) x ∧ ∀ y ∈ xs, y ≤ xs.foldl (fun a b => if a < b then b else a) x
  | [], x => ⟨.inl rfl, List.le_refl _, fun _ m => nomatch m⟩
  | y :: ys, x => by
    rw [List.foldl_cons]
    obtain ⟨h1, h2, h3⟩ := mx_fold ys (if x < y then y else x)
    generalize ys.foldl (fun a b => if a < b then b else a) (if x < y then y else x) = m at *
    by_cases c : x < y
    · rw [if_pos c] at h1 h2
      refine ⟨.inr ?_, List.le_trans (List.le_of_lt c) h2, fun z hz => ?_⟩
      · rcases h1 with h1 | h1
        · rw [h1]; exact List.mem_cons_self
        · exact List.mem_cons_of_mem _ h1
      · rcases List.mem_cons.mp hz with rfl | hz
        · exact h2
        · exact h3 z hz
    · rw [if_neg c] at h1 h2
      refine ⟨?_, h2, fun z hz => ?_⟩
      · rcases h1 with h1 | h1
        · exact .inl h1
        · exact .inr (List.mem_cons_of_mem _ h1)
      · rcases List.mem_cons.mp hz with rfl | hz
        · exact List.le_trans (List.not_lt.mp c) h2
        · exact h3 z hz
theorem mn_mem {ls : List (List Nat)} (h : ls ≠ []) : mn ls ∈ ls := by
  cases ls with
  | nil => exact absurd rfl h
  | cons x xs =>
    rcases (mn_fold xs x).1 with e | e
    · show xs.foldl _ x ∈ _; rw [e]; exact List.mem_cons_self
    · exact List.mem_cons_of_mem _ e
theorem mx_mem {ls : List (List Nat)} (h : ls ≠ []) : mx ls ∈ ls := by
  cases ls with
  | nil => exact absurd rfl h
  | cons x xs =>
    rcases (mx_fold xs x).1 with e | e
    · show xs.foldl _ x ∈ _; rw [e]; exact List.mem_cons_self
    · exact List.mem_cons_of_mem _ e
theorem mn_le {ls : List (List Nat)} {l : List Nat} (m : l ∈ ls) : mn ls ≤ l := by
  cases ls with
  | nil => exact nomatch m
  | cons x xs =>
    rcases List.mem_cons.mp m with rfl | m
    · exact (mn_fold xs l).2.1
    · exact (mn_fold xs x).2.2 l m
theorem le_mx {ls : List (List Nat)} {l : List Nat} (m : l ∈ ls) : l ≤ mx ls := by
  cases ls with
  | nil => exact nomatch m
  | cons x xs =>
    rcases List.mem_cons.mp m with rfl | m
    · exact (mx_fold xs l).2.1
    · exact (mx_fold xs x).2.2 l m
theorem mn_uniq {ls : List (List Nat)} {m : List Nat} (hm : m ∈ ls) (h : ∀ l ∈ ls, m ≤ l) : m = mn ls := List.le_antisymm (h _ (mn_mem (List.ne_nil_of_mem hm))) (mn_le hm)
theorem mx_uniq {ls : List (List Nat)} {m : List Nat} (hm : m ∈ ls) (h : ∀ l ∈ ls, l ≤ m) : m = mx ls := List.le_antisymm (le_mx hm) (h _ (mx_mem (List.ne_nil_of_mem hm)))
theorem nil_same {α : Type} {a b : List α} (h : ∀ x, x ∈ a ↔ x ∈ b) : a = [] ↔ b = [] := by
  constructor
  · rintro rfl
    exact List.eq_nil_iff_forall_not_mem.mpr fun x m => nomatch (h x).mpr m
  · rintro rfl
    exact List.eq_nil_iff_forall_not_mem.mpr fun x m => nomatch (h x).mp m
theorem mn_same {a b : List (List Nat)} (h : ∀ x, x ∈ a ↔ x ∈ b) : mn a = mn b := by
  by_cases z : a = []
  · rw [(nil_same h).mp z, z]
  · exact mn_uniq ((h _).mp (mn_mem z)) fun l m => mn_le ((h l).mpr m)
theorem mx_same {a b : List (List Nat)} (h : ∀ x, x ∈ a ↔ x ∈ b) : mx a = mx b := by
  by_cases z : a = []
  · rw [(nil_same h).mp z, z]
  · exact mx_uniq ((h _).mp (mx_mem z)) fun l m => le_mx ((h l).mpr m)
theorem mn_head {z : List Nat} {zs : List (List Nat)} (h : (z :: zs).Pairwise (· ≤ ·)) : z = mn (z :: zs) := mn_uniq List.mem_cons_self fun l m => by
  rcases List.mem_cons.mp m with rfl | m
  · exact List.le_refl _
  · exact (List.pairwise_cons.mp h).1 l m
theorem mx_last {z : List Nat} {zs : List (List Nat)} (h : (zs ++ [z]).Pairwise (· ≤ ·)) : z = mx (zs ++ [z]) := mx_uniq (by simp) fun l m => by
  rcases List.mem_append.mp m with m | m
  · exact (List.pairwise_append.mp h).2.2 l m z (by simp)
  · rw [List.mem_singleton.mp m]; exact List.le_refl _
def lowT (lo : Option Nat) (l : List Nat) : Option (List Nat) := lo.map fun n => l.take n
def highT (hi : Option (Nat × Nat)) (l : List Nat) : Option (List Nat) := match hi with
  | none => none
  | some (k, n) => if l.length ≤ n then some l else if k = 0 then some (l.take n) else bey (l.take n)
def lowO (lo : Option Nat) (ts : List (List Nat)) : Option (List Nat) := if ts = [] then none else lowT lo (mn ts)
def highO (hi : Option (Nat × Nat)) (ts : List (List Nat)) : Option (List Nat) := if ts = [] then none else highT hi (mx ts)
theorem lowO_same {lo : Option Nat} {a b : List (List Nat)} (h : ∀ x, x ∈ a ↔ x ∈ b) : lowO lo a = lowO lo b := by
  unfold lowO
  rw [mn_same h]
  by_cases z : a = []
  · rw [if_pos z, if_pos ((nil_same h).mp z)]
  · rw [if_neg z, if_neg fun q => z ((nil_same h).mpr q)]
theorem highO_same {hi : Option (Nat × Nat)} {a b : List (List Nat)} (h : ∀ x, x ∈ a ↔ x ∈ b) : highO hi a = highO hi b := by
  unfold highO
  rw [mx_same h]
  by_cases z : a = []
  · rw [if_pos z, if_pos ((nil_same h).mp z)]
  · rw [if_neg z, if_neg fun q => z ((nil_same h).mpr q)]
def lacksD : Nat → Nat → D
  | 0, m => .int (m : Int)
  | 1, m => .bl (decide ((m : Int) > 0))
  | _, _ => .non
def txs (os : List (Option (List Nat))) : List (List Nat) := os.filterMap id
def gone (os : List (Option (List Nat))) : Nat := os.length - (txs os).length
def noteD (r : Ru) (os : List (Option (List Nat))) : D := .tup [.int (os.length : Int), lacksD r.lacks (gone os), vD (lowO r.low (txs os)), vD (highO r.high (txs os))]
structure Col (os : List (Option (List Nat))) : Prop where
  ok : ∀ l, some l ∈ os → Abc l ∧ l.length ≤ 1000
  few : os.length ≤ 5000
theorem mem_txs {os : List (Option (List Nat))} {l : List Nat} : l ∈ txs os ↔ some l ∈ os := by
  unfold txs
  rw [List.mem_filterMap]
  exact ⟨fun ⟨o, m, e⟩ => by rw [show o = some l from e] at m; exact m, fun m => ⟨_, m, rfl⟩⟩
theorem txs_len (os : List (Option (List Nat))) : (txs os).length ≤ os.length := List.length_filterMap_le _ _
theorem col_lows {os : List (Option (List Nat))} (c : Col os) {lo : Option Nat} {l : List Nat} (h : lowO lo (txs os) = some l) : Abc l ∧ l.length ≤ 1000 := by
  unfold lowO at h
  by_cases z : txs os = []
  · rw [if_pos z] at h; cases h
  · rw [if_neg z] at h
    cases lo with
    | none => cases h
    | some n =>
      cases h
      obtain ⟨a, b⟩ := c.ok _ (mem_txs.mp (mn_mem z))
      exact ⟨a.take _, by rw [List.length_take]; omega⟩
theorem highT_ok {hi : Option (Nat × Nat)} {l m : List Nat} (a : Abc l) (h : highT hi l = some m) : Abc m ∧ m.length ≤ l.length := by
  cases hi with
  | none => cases h
  | some p =>
    obtain ⟨k, n⟩ := p
    have h : (if l.length ≤ n then some l else if k = 0 then some (l.take n) else bey (l.take n)) = some m := h
    by_cases c1 : l.length ≤ n
    · rw [if_pos c1] at h; cases h; exact ⟨a, Nat.le_refl _⟩
    · rw [if_neg c1] at h
      by_cases c2 : k = 0
      · rw [if_pos c2] at h; cases h; exact ⟨a.take _, by rw [List.length_take]; omega⟩
      · rw [if_neg c2] at h
        obtain ⟨x, y⟩ := abc_bey (a.take n) h
        rw [List.length_take] at y
        exact ⟨x, by omega⟩
theorem col_highs {os : List (Option (List Nat))} (c : Col os) {hi : Option (Nat × Nat)} {l : List Nat} (h : highO hi (txs os) = some l) : Abc l ∧ l.length ≤ 1000 := by
  unfold highO at h
  by_cases z : txs os = []
  · rw [if_pos z] at h; cases h
  · rw [if_neg z] at h
    obtain ⟨a, b⟩ := c.ok _ (mem_txs.mp (mx_mem z))
    obtain ⟨x, y⟩ := highT_ok a h
    exact ⟨x, by omega⟩
theorem rv_v {K : PySem.W.Frag} {S : List Addr} {H : Hp} {o : Option (List Nat)} (h : ∀ l, o = some l → l.length ≤ 1000) : Rv K S H (vV o) (vD o) := by
  cases o with
  | none => exact .non
  | some l => exact .str l (by have := h l rfl; omega)
theorem isPage_col {os : List (Option (List Nat))} (c : Col os) (h : 0 < os.length) : isPage (.lst (os.map vD)) = true := by
  show (!(os.map vD).isEmpty && (os.map vD).all isVal) = true
  have e : (os.map vD).isEmpty = false := by
    cases os with
    | nil => simp at h
    | cons _ _ => rfl
  rw [e]
  show (os.map vD).all isVal = true
  rw [List.all_eq_true]
  intro d m
  obtain ⟨o, mo, rfl⟩ := List.mem_map.mp m
  cases o with
  | none => rfl
  | some l => exact abcB_iff.mpr (c.ok l mo).1
theorem isRule_ru {r : Ru} (h : RuOk r) : isRule (ruD r) = true := by
  obtain ⟨k, lo, hi⟩ := r
  obtain ⟨h1, h2, h3⟩ := h
  show (isIn ["many", "some", "hidden"] (wd (lk k)) && isLow (loD lo) && isHigh (hiD hi)) = true
  have e1 : isIn ["many", "some", "hidden"] (wd (lk k)) = true := by
    show decide (tx (lk k).cps.toList ∈ _) = true
    rw [tx_cps]
    refine decide_eq_true ?_
    unfold lk
    split <;> simp
  have e2 : isLow (loD lo) = true := by
    cases lo with
    | none => decide +kernel
    | some n =>
      have := h2 n rfl
      show (false || (decide ((0 : Int) ≤ (n : Int)) && decide ((n : Int) ≤ 6))) = true
      rw [decide_eq_true (by omega : (0 : Int) ≤ (n : Int)), decide_eq_true (by omega : (n : Int) ≤ 6)]
      rfl
  have e3 : isHigh (hiD hi) = true := by
    cases hi with
    | none => decide +kernel
    | some p =>
      obtain ⟨j, n⟩ := p
      have := h3 j n rfl
      show (decide (tx (wy j).cps.toList ∈ (["cut", "beyond"] : List Str)) && (decide ((0 : Int) ≤ (n : Int)) && decide ((n : Int) ≤ 6))) = true
      rw [decide_eq_true (by omega : (0 : Int) ≤ (n : Int)), decide_eq_true (by omega : (n : Int) ≤ 6), tx_cps]
      unfold wy
      split <;> decide +kernel
  rw [e1, e2, e3]
  rfl
/-! ### the program's own words -/
def spCk (K : PySem.W.Frag) (t : D → Bool) : Sp := fun vs H Q _ => ∃ (S : List Addr) (v : V) (d : D), vs = [v] ∧ Rv K S H v d ∧ t d = true ∧ Small d ∧ ∀ H', Stp [] H H' → Q .non H'
theorem spCk.len {K : PySem.W.Frag} {t : D → Bool} {vs : List V} {H : Hp} {Q : VK} {E : XK} (h : spCk K t vs H Q E) : vs.length = 1 := by
  obtain ⟨S, v, d, rfl, _⟩ := h
  rfl
theorem cl_check_text {f : Addr} {fd : FuncData} (D : Df K mg "check_text" s_check_text ["text"] f fd) (T : Nm mg) (c_is_text : Cl P w K mg base 1 "is_text" s_is_text ["value"] (spTell K isTxt)) : Cl P w K mg base 2 "check_text" s_check_text ["text"] (spCk K isTxt) := by
  refine D.cl sc_check_text (fun vs H Q E h => h.len) (fun cdv A outer s H vs Q E hr h => ?_)
  obtain ⟨S, v, d, rfl, r, hd, _, k⟩ := h
  refine ⟨_, (pss_one (ps_if (pt_not (pt_val (pe_cl c_is_text hr (by omega) (pa_cons (pv 0) pa_nil)))) (pss_one ps_never) pss_nil)), ?_⟩
  exact ⟨_, rfl, S, v, d, rfl, r, fun H1 b S1 eb => ⟨_, rfl, ite2 (fun h => absurd h (by rw [eb, hd]; decide)) (fun _ => k H1 S1)⟩⟩
theorem cl_check_rule {f : Addr} {fd : FuncData} (D : Df K mg "check_rule" s_check_rule ["rule"] f fd) (T : Nm mg) (c_is_rule : Cl P w K mg base 3 "is_rule" s_is_rule ["value"] (spTell K isRule)) : Cl P w K mg base 4 "check_rule" s_check_rule ["rule"] (spCk K isRule) := by
  refine D.cl sc_check_rule (fun vs H Q E h => h.len) (fun cdv A outer s H vs Q E hr h => ?_)
  obtain ⟨S, v, d, rfl, r, hd, _, k⟩ := h
  refine ⟨_, (pss_one (ps_if (pt_not (pt_val (pe_cl c_is_rule hr (by omega) (pa_cons (pv 0) pa_nil)))) (pss_one ps_never) pss_nil)), ?_⟩
  exact ⟨_, rfl, S, v, d, rfl, r, fun H1 b S1 eb => ⟨_, rfl, ite2 (fun h => absurd h (by rw [eb, hd]; decide)) (fun _ => k H1 S1)⟩⟩
theorem cl_check_page {f : Addr} {fd : FuncData} (D : Df K mg "check_page" s_check_page ["page"] f fd) (T : Nm mg) (c_is_page : Cl P w K mg base 3 "is_page" s_is_page ["value"] (spTellP K)) : Cl P w K mg base 4 "check_page" s_check_page ["page"] (spCk K isPage) := by
  refine D.cl sc_check_page (fun vs H Q E h => h.len) (fun cdv A outer s H vs Q E hr h => ?_)
  obtain ⟨S, v, d, rfl, r, hd, sm, k⟩ := h
  refine ⟨_, (pss_one (ps_if (pt_not (pt_val (pe_cl c_is_page hr (by omega) (pa_cons (pv 0) pa_nil)))) (pss_one ps_never) pss_nil)), ?_⟩
  exact ⟨_, rfl, S, v, d, rfl, r, sm, fun H1 b S1 eb => ⟨_, rfl, ite2 (fun h => absurd h (by rw [eb, hd]; decide)) (fun _ => k H1 S1)⟩⟩
/-- the letters next to a and b -/
structure Ng (K : PySem.W.Frag) (w : World) (mg : Str → Option Value) where
  NEXT_LETTERS : Addr
  g_NEXT_LETTERS : mg "NEXT_LETTERS" = some (.ref NEXT_LETTERS)
  na : KDct K w NEXT_LETTERS (tx [97]) (.str "b")
  nb : KDct K w NEXT_LETTERS (tx [98]) (.str "c")
theorem b_lit : ("b" : Str) = tx [98] := by decide +kernel
theorem c_lit9 : ("c" : Str) = tx [99] := by decide +kernel
theorem nil_tx {l : List Nat} : tx l = tx [] ↔ l = [] := ⟨fun h => tx_inj h, fun h => by rw [h]⟩
def spBey (K : PySem.W.Frag) : Sp := fun vs H Q _ => ∃ l : List Nat, vs = [Tx l] ∧ Abc l ∧ l.length ≤ 1000 ∧ ∀ H', Stp [] H H' → Q (vV (bey l)) H'
theorem bey_none {l : List Nat} (h : cOff l = []) : bey l = none := by unfold bey; rw [if_pos h]
theorem bey_some {l i : List Nat} {c : Nat} (h : cOff l = i ++ [c]) : bey l = some (i ++ [c + 1]) := by
  unfold bey
  rw [h, if_neg (by simp)]
  simp
theorem cl_beyond {f : Addr} {fd : FuncData} (D : Df K mg "beyond" s_beyond ["text"] f fd) (T : Nm mg) (TG : Ng K w mg) (c_check_text : Cl P w K mg base 2 "check_text" s_check_text ["text"] (spCk K isTxt)) : Cl P w K mg base 3 "beyond" s_beyond ["text"] (spBey K) := by
  refine D.cl sc_beyond (fun vs H Q E h => ?_) (fun cdv A outer s H vs Q E hr h => ?_)
  · obtain ⟨l, rfl, _⟩ := h
    rfl
  · obtain ⟨l, rfl, al, ll, k⟩ := h
    refine ⟨_, (pss_cons (ps_expr (pe_cl c_check_text hr (by omega) (pa_cons (pv 0) pa_nil)))
      (pss_cons (ps_set (i := 1) sc_beyond.nd rfl (by first | exact Or.inl rfl | exact Or.inr rfl) (pe_bm PySem.F.plainAttrs_str PySem.F.slot_str_rstrip PySem.F.type_str_rstrip mt_rstripChars (pv 0) (pa_cons pe_str pa_nil)))
      (pss_one (ps_ret (pe_ifExp (pt_truth (pv 1) (by intro _; rfl)) (pe_op op_add_str (pe_slice sl_str (pv 1) po_none (po_some (pe_un un_neg pe_int))) (pe_ix ix_kdict (pe_glob (v := .ref TG.NEXT_LETTERS) rfl TG.g_NEXT_LETTERS rfl) (pe_ix ix_str (pv 1) (pe_un un_neg pe_int) (fun _ _ => rfl)) (fun _ _ => rfl))) pe_non))))), ?_⟩
    refine ⟨_, rfl, [], _, .str l, rfl, .str l (by omega), abcB_iff.mpr al, trivial, fun H1 S1 => ?_⟩
    refine ⟨_, rfl, rfl, tx l, ("c" : Str), rfl, rfl, szt (by omega), ?_⟩
    rw [c_lit9, rstrip_c]
    have lo := cOff_len l
    have ao := abc_cOff al
    refine ⟨_, rfl, _, ⟨szt (by omega), rfl⟩, ite2 (fun h => ?_) (fun h => ?_)⟩
    · have ne : cOff l ≠ [] := fun e => by
        rw [e] at h
        exact absurd h (by decide)
      obtain ⟨i, c, hc, nc⟩ := cOff_last ne
      have k' := k H1 S1
      rw [bey_some hc] at k'
      rw [hc] at lo ao
      rw [List.length_append, List.length_singleton] at lo
      have hcc : c = 97 ∨ c = 98 := by
        rcases ao c (by simp) with q | q | q
        · exact .inl q
        · exact .inr q
        · exact absurd q nc
      rw [hc]
      refine ⟨_, rfl, 1, rfl, -1, rfl, tx (i ++ [c]), rfl, szt (by simp; omega), ?_⟩
      rw [show cutS (tx (i ++ [c])) none (some (-1)) = _ from tx_init _, List.dropLast_concat]
      refine ⟨_, rfl, 1, rfl, tx (i ++ [c]), -1, c, rfl, rfl, szt (by simp; omega), atI_last i c, ?_⟩
      rcases hcc with rfl | rfl
      · refine ⟨_, tx [97], _, rfl, rfl, TG.na, tx i, tx [98], rfl, congrArg V.str b_lit, (by rw [tx_len, tx_len]; exact sz (by simp; omega)), ?_⟩
        rw [tx_app]
        exact k'
      · refine ⟨_, tx [98], _, rfl, rfl, TG.nb, tx i, tx [99], rfl, congrArg V.str c_lit9, (by rw [tx_len, tx_len]; exact sz (by simp; omega)), ?_⟩
        rw [tx_app]
        exact k'
    · have e : cOff l = [] := by
        cases hc : cOff l with
        | nil => rfl
        | cons x t =>
          rw [hc, tx_len] at h
          exact absurd (by simp; omega) h
      have k' := k H1 S1
      rw [bey_none e] at k'
      exact k'
def spAsc (K : PySem.W.Frag) : Sp := fun vs H Q _ => ∃ (a : Addr) (ls : List (List Nat)), vs = [.ref a] ∧ SqL K H a (ls.map Tx) ∧ (∀ l ∈ ls, l.length ≤ 1000) ∧ ls.length ≤ 5000 ∧
  ∀ (zs : List (List Nat)) p H', H p = none → Stp [] H H' → zs.Perm ls → zs.Pairwise (· ≤ ·) → H' p = some (.lst (zs.map Tx)) → Q (.ref p) H'
theorem cl_ascending {f : Addr} {fd : FuncData} (D : Df K mg "ascending" s_ascending ["texts"] f fd) (T : Nm mg) : Cl P w K mg base 1 "ascending" s_ascending ["texts"] (spAsc K) := by
  refine D.cl sc_ascending (fun vs H Q E h => ?_) (fun cdv A outer s H vs Q E hr h => ?_)
  · obtain ⟨a, ls, rfl, _⟩ := h
    rfl
  · obtain ⟨a, ls, rfl, hs, sh, few, k⟩ := h
    refine ⟨_, (pss_one (ps_ret (pe_callB Pg.cr_sortedSA (by rfl) T.n_sorted (by decide +kernel) (pa_cons (pe_lc (own := [("text", 1)]) rfl sc_ascending.nd (pi_list (pv 0)) (blkOk_by (own := [("text", 1)]) (N := N_ascending) (sc := defScope s_ascending) (by decide +kernel)) (fun _ _ _ _ _ => (pg_name (i := 1) sc_ascending.nd rfl (by first | exact Or.inl rfl | exact Or.inr rfl))) (fun _ _ _ _ _ => pts_nil) (fun _ _ _ _ _ => (pe_callTy SkE.call_str_str (by rfl) T.n_str (by decide +kernel) (pa_cons (pv 1) pa_nil)))) pa_nil)))), ?_⟩
    refine ⟨_, rfl, a, rfl, ⟨_, hs⟩, fun L nL => ?_⟩
    refine lc_mapL (ds := ls.map Dt.str) nL hs (by simp) (by rw [List.length_map]; omega) (fun j x d H3 hx hd S3 Q2 q => ?_) fun ws H3 S3 h3 r3 => ?_
    · rw [List.getElem?_map] at hx hd
      cases e : ls[j]? with
      | none => rw [e] at hx; cases hx
      | some l =>
        rw [e] at hx hd
        cases hx
        cases hd
        exact ⟨rfl, _, rfl, tx l, rfl, q _ _ (Stp.refl _ _) (.str l (by have := sh l (List.mem_of_getElem? e); omega))⟩
    · have e3 := rpl_strs r3
      subst e3
      exact ⟨L, ls, rfl, SqL.of h3, fun zs p pm pw np => k zs p _ (S3.fresh (fun m => nomatch m) np) (S3.new' np) pm pw upd_same⟩
def spLacks : Sp := fun vs H Q _ => ∃ (k m : Nat), vs = [.str (lk k), .int (m : Int)] ∧ k < 3 ∧ ∀ v, (∀ K S H', Rv K S H' v (lacksD k m)) → Q v H
theorem cl_lacks_note {f : Addr} {fd : FuncData} (D : Df K mg "lacks_note" s_lacks_note ["lacks", "lacking"] f fd) (T : Nm mg) : Cl P w K mg base 1 "lacks_note" s_lacks_note ["lacks", "lacking"] spLacks := by
  refine D.cl sc_lacks_note (fun vs H Q E h => ?_) (fun cdv A outer s H vs Q E hr h => ?_)
  · obtain ⟨j, m, rfl, _⟩ := h
    rfl
  · obtain ⟨j, m, rfl, hj, k⟩ := h
    refine ⟨_, (pss_cons (ps_if (pt_cmpR op_eq (pv 0) pe_str (by first | exact nomark _ | rfl)) (pss_one (ps_ret (pv 1))) pss_nil)
      (pss_one (ps_ret (pe_ifExp (pt_cmpR op_eq (pv 0) pe_str (by first | exact nomark _ | rfl)) (pe_cmpR op_gt (pv 1) pe_int (by first | exact nomark _ | rfl)) pe_non)))), ?_⟩
    rcases (by omega : j = 0 ∨ j = 1 ∨ j = 2) with rfl | rfl | rfl
    · refine ⟨_, rfl, rfl, _, rfl, ite2 (fun h => ?_) (fun h => absurd (by decide +kernel) h)⟩
      exact ⟨_, rfl, k _ fun K S H' => .int _⟩
    · refine ⟨_, rfl, rfl, _, rfl, ite2 (fun h => absurd h (by decide +kernel)) (fun _ => ?_)⟩
      refine ⟨_, rfl, rfl, _, rfl, ite2 (fun h => ?_) (fun h => absurd (by decide +kernel) h)⟩
      exact ⟨_, rfl, _, _, rfl, rfl, k _ fun K S H' => .bl _⟩
    · refine ⟨_, rfl, rfl, _, rfl, ite2 (fun h => absurd h (by decide +kernel)) (fun _ => ?_)⟩
      refine ⟨_, rfl, rfl, _, rfl, ite2 (fun h => absurd h (by decide +kernel)) (fun _ => ?_)⟩
      exact k _ fun K S H' => .non
/-! ### the bounds, the note -/
/-- a list of texts in order -/
structure Asc (zs : List (List Nat)) : Prop where
  pw : zs.Pairwise (· ≤ ·)
  ok : ∀ l ∈ zs, Abc l ∧ l.length ≤ 1000
def spLowN (K : PySem.W.Frag) : Sp := fun vs H Q _ => ∃ (v : V) (lo : Option Nat) (p : Addr) (zs : List (List Nat)), vs = [v, .ref p] ∧ Rv K [] H v (loD lo) ∧ H p = some (.lst (zs.map Tx)) ∧ Asc zs ∧ Q (vV (lowO lo zs)) H
theorem lo_lost {K : PySem.W.Frag} {S : List Addr} {H : Hp} {v : V} (r : Rv K S H v (loD none)) : v = .str "lost" := by
  have r' : Rv K S H v (.str ("lost" : Str).cps.toList) := r
  cases r'
  exact congrArg V.str (tx_cps _)
theorem cl_low_note {f : Addr} {fd : FuncData} (D : Df K mg "low_note" s_low_note ["low", "texts"] f fd) (T : Nm mg) : Cl P w K mg base 1 "low_note" s_low_note ["low", "texts"] (spLowN K) := by
  refine D.cl sc_low_note (fun vs H Q E h => ?_) (fun cdv A outer s H vs Q E hr h => ?_)
  · obtain ⟨v, lo, p, zs, rfl, _⟩ := h
    rfl
  · obtain ⟨v, lo, p, zs, rfl, r, hp, asc, k⟩ := h
    refine ⟨_, (pss_cons (ps_if (PW.pt (pw_or (pt_cmpR op_eq (pv 0) pe_str (by first | exact nomark _ | rfl)) (pw_or1 (pt_not (pt_truth (pv 1) (by intro _; rfl)))))) (pss_one (ps_ret pe_non)) pss_nil)
      (pss_one (ps_ret (pe_slice sl_str (pe_ix ix_list (pv 1) pe_int (fun _ _ => rfl)) po_none (po_some (pv 0)))))), ?_⟩
    cases lo with
    | none =>
      obtain rfl := lo_lost r
      have e : lowO none zs = none := by
        unfold lowO
        split <;> rfl
      rw [e] at k
      exact ⟨_, rfl, rfl, _, rfl, ite2 (fun h => k) (fun h => absurd (by decide +kernel) h)⟩
    | some n =>
      have r' : Rv K [] H v (.int (n : Int)) := r
      cases r'
      refine ⟨_, rfl, rfl, _, rfl, ite2 (fun h => absurd h (by simp)) (fun h => ?_)⟩
      refine ⟨_, rfl, _, .inl ⟨_, SqL.of hp, rfl⟩, ?_⟩
      cases zs with
      | nil => exact k
      | cons z zs =>
        have k' : Q (vV (some ((mn (z :: zs)).take n))) H := k
        rw [← mn_head asc.pw] at k'
        refine ⟨_, rfl, p, _, 0, Tx z, rfl, rfl, SqL.of hp, at0, ?_⟩
        have hz := (asc.ok z List.mem_cons_self).2
        refine ⟨_, rfl, (n : Int), rfl, tx z, rfl, szt (by omega), ?_⟩
        rw [show cutS (tx z) none (some (n : Int)) = _ from tx_upto z n]
        exact k'
def spHighN (K : PySem.W.Frag) : Sp := fun vs H Q _ => ∃ (v : V) (hi : Option (Nat × Nat)) (p : Addr) (zs : List (List Nat)), vs = [v, .ref p] ∧ Rv K [] H v (hiD hi) ∧ (∀ k n, hi = some (k, n) → k < 2 ∧ n ≤ 6) ∧ H p = some (.lst (zs.map Tx)) ∧ Asc zs ∧ ∀ H', Stp [] H H' → Q (vV (highO hi zs)) H'
theorem wy_lay {k : Nat} (h : k < 2) : PyData.canLay0 (.str (tx (wy k).cps.toList)) = true := by
  rcases (by omega : k = 0 ∨ k = 1) with rfl | rfl <;> decide +kernel
theorem wy_fair {k : Nat} (h : k < 2) : (wd (wy k)).fair = true := by
  rcases (by omega : k = 0 ∨ k = 1) with rfl | rfl <;> decide +kernel
def hiP (k n : Nat) : PyData := .tuple [.str (tx (wy k).cps.toList), .int (n : Int)]
theorem hi_dp {K : PySem.W.Frag} {S : List Addr} {H : Hp} {v : V} {k n : Nat} (r : Rv K S H v (hiD (some (k, n)))) (hk : k < 2) (hn : n ≤ 6) : Dp K H v (hiP k n) := by
  refine rv_dp r ?_
  show ((wd (wy k)).fair && (decide (((n : Int)).natAbs < 10 ^ 10) && true)) = true
  rw [decide_eq_true (by omega), wy_fair hk]
  rfl
theorem hi_shaped {k n : Nat} (hk : k < 2) : SeqAt.shaped (hiP k n) = true := by
  unfold SeqAt.shaped hiP
  show ((PyData.canLay0 (.str (tx (wy k).cps.toList)) && (true && true)) && decide (max 0 (max 0 0) + 1 ≤ 64)) = true
  rw [wy_lay hk]
  rfl
theorem lost_dp {K : PySem.W.Frag} {H : Hp} : Dp K H (.str "lost") (.str "lost") := .str _
theorem lost_shaped : SeqAt.shaped (.str "lost") = true := by decide +kernel
theorem hi_ne {k n : Nat} : PyData.eqv (hiP k n) (.str "lost") = false := rfl
theorem wy_eq {k : Nat} (h : k < 2) : decide (V.str (wy k) = V.str "beyond") = decide (k = 1) := by
  rcases (by omega : k = 0 ∨ k = 1) with rfl | rfl <;> decide +kernel
theorem cl_high_note {f : Addr} {fd : FuncData} (D : Df K mg "high_note" s_high_note ["high", "texts"] f fd) (T : Nm mg) (c_beyond : Cl P w K mg base 3 "beyond" s_beyond ["text"] (spBey K)) : Cl P w K mg base 4 "high_note" s_high_note ["high", "texts"] (spHighN K) := by
  refine D.cl sc_high_note (fun vs H Q E h => ?_) (fun cdv A outer s H vs Q E hr h => ?_)
  · obtain ⟨v, hi, p, zs, rfl, _⟩ := h
    rfl
  · obtain ⟨v, hi, p, zs, rfl, r, ok, hp, asc, k⟩ := h
    refine ⟨_, (pss_cons (ps_if (PW.pt (pw_or (pt_cmpR (op_eqD hr.units) (pv 0) pe_str (by first | exact nomark _ | rfl)) (pw_or1 (pt_not (pt_truth (pv 1) (by intro _; rfl)))))) (pss_one (ps_ret pe_non)) pss_nil)
      (pss_cons (ps_asg (pv 0) (pg_tup rfl (pgs_cons (pg_name (i := 2) sc_high_note.nd rfl (by first | exact Or.inl rfl | exact Or.inr rfl)) (pgs_cons (pg_name (i := 3) sc_high_note.nd rfl (by first | exact Or.inl rfl | exact Or.inr rfl)) pgs_nil (by rfl)) (by rfl)) (by rfl) (by rfl)))
      (pss_cons (ps_set (i := 4) sc_high_note.nd rfl (by first | exact Or.inl rfl | exact Or.inr rfl) (pe_slice sl_str (pe_ix ix_list (pv 1) (pe_un un_neg pe_int) (fun _ _ => rfl)) po_none (po_some (pv 3))))
      (pss_one (ps_ret (pe_ifExp (PW.pt (pw_and (pt_cmpR op_eq (pv 2) pe_str (by first | exact nomark _ | rfl)) (pw_and1 (pt_cmpR op_gt (pe_callB call_len_str (by rfl) T.n_len (by decide +kernel) (pa_cons (pe_ix ix_list (pv 1) (pe_un un_neg pe_int) (fun _ _ => rfl)) pa_nil)) (pv 3) (by first | exact nomark _ | rfl))))) (pe_cl c_beyond hr (by omega) (pa_cons (pv 4) pa_nil)) (pv 4))))))), ?_⟩
    cases hi with
    | none =>
      have e : highO none zs = none := by
        unfold highO
        split <;> rfl
      rw [e] at k
      have r' : Rv K [] H v (.str ("lost" : Str).cps.toList) := r
      obtain rfl : v = .str "lost" := by
        cases r'
        exact congrArg V.str (tx_cps _)
      refine ⟨_, rfl, .str "lost", .str "lost", .str _, .str _, by decide +kernel, by decide +kernel, _, rfl, ite2 (fun h => k H (Stp.refl _ _)) (fun h => absurd (by decide +kernel) h)⟩
    | some q =>
      obtain ⟨j, n⟩ := q
      obtain ⟨hj, hn⟩ := ok j n rfl
      refine ⟨_, rfl, hiP j n, .str "lost", hi_dp r hj hn, lost_dp, hi_shaped hj, lost_shaped, _, rfl, ite2 (fun h => nomatch (h : false = true)) (fun _ => ?_)⟩
      refine ⟨_, rfl, _, .inl ⟨_, SqL.of hp, rfl⟩, ?_⟩
      obtain ⟨t, vs, rfl, ht, _, rl⟩ := Pv.Rv.tupE (r : Rv K [] H v (.tup [wd (wy j), .int (n : Int)]))
      obtain ⟨u1, u2, rfl, r1, r2⟩ := RvL.two rl
      obtain rfl : u1 = .str (wy j) := by
        have r1' : Rv K [] H u1 (.str (wy j).cps.toList) := r1
        cases r1'
        exact congrArg V.str (tx_cps _)
      cases r2
      rcases List.eq_nil_or_concat zs with rfl | ⟨zi, z, rfl⟩
      · exact k H (Stp.refl _ _)
      · rw [List.concat_eq_append] at *
        have ne : zi ++ [z] ≠ [] := by simp
        have e : highO (some (j, n)) (zi ++ [z]) = highT (some (j, n)) z := by
          unfold highO
          rw [if_neg ne, ← mx_last asc.pw]
        rw [e] at k
        obtain ⟨az, lz⟩ := asc.ok z (by simp)
        have hem : ((zi ++ [z]).map Tx).isEmpty = false := by simp
        rw [hem]
        refine ⟨_, rfl, t, _, rfl, ht, rfl, _, _, rfl, _, _, rfl, rfl, ?_⟩
        have hp' : H p = some (.lst (zi.map Tx ++ [Tx z])) := by rw [hp, List.map_append]; rfl
        refine ⟨_, rfl, 1, rfl, p, _, -1, Tx z, rfl, rfl, SqL.of hp', atI_last _ _, _, rfl, (n : Int), rfl, tx z, rfl, szt (by omega), ?_⟩
        rw [show cutS (tx z) none (some (n : Int)) = _ from tx_upto z n]
        refine ⟨_, rfl, rfl, _, rfl, ?_⟩
        rw [wy_eq hj]
        have k2 := fun H' S' => k H' S'
        refine ite2 (fun h => ?_) (fun h => ?_)
        · obtain rfl : j = 1 := of_decide_eq_true h
          refine ⟨_, rfl, 1, rfl, p, _, -1, Tx z, rfl, rfl, SqL.of hp', atI_last _ _, tx z, rfl, szt (by omega), _, rfl, _, _, rfl, rfl, _, rfl, ite2 (fun h2 => ?_) (fun h2 => ?_)⟩
          · have h3 : n < z.length := by have := of_decide_eq_true h2; rw [tx_len] at this; omega
            refine ⟨_, rfl, z.take n, rfl, az.take _, by rw [List.length_take]; omega, fun H' S' => ?_⟩
            have k3 := k H' S'
            have e2 : highT (some (1, n)) z = bey (z.take n) := by
              show (if z.length ≤ n then some z else if (1 : Nat) = 0 then some (z.take n) else bey (z.take n)) = _
              rw [if_neg (by omega), if_neg (by decide)]
            rw [e2] at k3
            exact k3
          · have h3 : z.length ≤ n := by
              have : ¬ (n : Int) < ((tx z).length : Int) := fun q => h2 (decide_eq_true q)
              rw [tx_len] at this
              omega
            have k3 := k H (Stp.refl _ _)
            have e2 : highT (some (1, n)) z = some z := by
              show (if z.length ≤ n then some z else if (1 : Nat) = 0 then some (z.take n) else bey (z.take n)) = _
              rw [if_pos h3]
            rw [e2] at k3
            refine ⟨_, rfl, ?_⟩
            rw [List.take_of_length_le h3]
            exact k3
        · have hj0 : j = 0 := by
            have : ¬ j = 1 := fun q => h (decide_eq_true q)
            omega
          subst hj0
          have k3 := k H (Stp.refl _ _)
          have e2 : highT (some (0, n)) z = some (z.take n) := by
            show (if z.length ≤ n then some z else if (0 : Nat) = 0 then some (z.take n) else bey (z.take n)) = _
            by_cases c : z.length ≤ n
            · rw [if_pos c, List.take_of_length_le c]
            · rw [if_neg c, if_pos rfl]
          rw [e2] at k3
          exact ⟨_, rfl, k3⟩
def spNote (K : PySem.W.Frag) : Sp := fun vs H Q _ => ∃ (v : V) (p : Addr) (r : Ru) (os : List (Option (List Nat))), vs = [v, .ref p] ∧ Rv K [] H v (ruD r) ∧ RuOk r ∧ H p = some (.lst (os.map vV)) ∧ Col os ∧ 0 < os.length ∧
  ∀ u H', Stp [] H H' → Rv K [] H' u (noteD r os) → Q u H'
theorem txs_take {os : List (Option (List Nat))} {i : Nat} {o : Option (List Nat)} (h : os[i]? = some o) : txs (os.take (i + 1)) = txs (os.take i) ++ o.toList := by
  unfold txs
  rw [List.take_add_one, h, List.filterMap_append]
  cases o <;> rfl
theorem ruD_parts {K : PySem.W.Frag} {S : List Addr} {H : Hp} {v : V} {r : Ru} (h : Rv K S H v (ruD r)) : ∃ t u2 u3, v = .ref t ∧ SqT K H t [.str (lk r.lacks), u2, u3] ∧ Rv K S H u2 (loD r.low) ∧ Rv K S H u3 (hiD r.high) := by
  obtain ⟨t, vs, rfl, ht, _, rl⟩ := Pv.Rv.tupE (h : Rv K S H v (.tup [wd (lk r.lacks), loD r.low, hiD r.high]))
  obtain ⟨u1, u2, u3, rfl, r1, r2, r3⟩ := RvL.three rl
  have r1' : Rv K S H u1 (.str (lk r.lacks).cps.toList) := r1
  have e : u1 = .str (lk r.lacks) := by
    cases r1'
    exact congrArg V.str (tx_cps _)
  rw [e] at ht
  exact ⟨t, u2, u3, rfl, ht, r2, r3⟩
theorem cl_note {f : Addr} {fd : FuncData} (D : Df K mg "note" s_note ["rule", "page"] f fd) (T : Nm mg) (c_check_rule : Cl P w K mg base 4 "check_rule" s_check_rule ["rule"] (spCk K isRule)) (c_check_page : Cl P w K mg base 4 "check_page" s_check_page ["page"] (spCk K isPage))
    (c_ascending : Cl P w K mg base 1 "ascending" s_ascending ["texts"] (spAsc K)) (c_lacks_note : Cl P w K mg base 1 "lacks_note" s_lacks_note ["lacks", "lacking"] spLacks) (c_low_note : Cl P w K mg base 1 "low_note" s_low_note ["low", "texts"] (spLowN K))
    (c_high_note : Cl P w K mg base 4 "high_note" s_high_note ["high", "texts"] (spHighN K)) : Cl P w K mg base 5 "note" s_note ["rule", "page"] (spNote K) := by
  refine D.cl sc_note (fun vs H Q E h => ?_) (fun cdv A outer s H vs Q E hr h => ?_)
  · obtain ⟨v, p, r, os, rfl, _⟩ := h
    rfl
  · obtain ⟨v, p, r, os, rfl, rv, ok, hp, col, pos, k⟩ := h
    refine ⟨_, (pss_cons (ps_expr (pe_cl c_check_rule hr (by omega) (pa_cons (pv 0) pa_nil)))
      (pss_cons (ps_expr (pe_cl c_check_page hr (by omega) (pa_cons (pv 1) pa_nil)))
      (pss_cons (ps_asg (pv 0) (pg_tup rfl (pgs_cons (pg_name (i := 2) sc_note.nd rfl (by first | exact Or.inl rfl | exact Or.inr rfl)) (pgs_cons (pg_name (i := 3) sc_note.nd rfl (by first | exact Or.inl rfl | exact Or.inr rfl)) (pgs_cons (pg_name (i := 4) sc_note.nd rfl (by first | exact Or.inl rfl | exact Or.inr rfl)) pgs_nil (by rfl)) (by rfl)) (by rfl)) (by rfl) (by rfl)))
      (pss_cons (ps_set (i := 5) sc_note.nd rfl (by first | exact Or.inl rfl | exact Or.inr rfl) (pe_cl c_ascending hr (by omega) (pa_cons (pe_lc (own := [("value", 7)]) rfl sc_note.nd (pi_list (pv 1)) (blkOk_by (own := [("value", 7)]) (N := N_note) (sc := defScope s_note) (by decide +kernel)) (fun _ _ _ _ _ => (pg_name (i := 7) sc_note.nd rfl (by first | exact Or.inl rfl | exact Or.inr rfl))) (fun _ _ _ _ _ => (pts_one (pt_cmpR op_notN (pv 7) pe_non (by first | exact nomark _ | rfl)))) (fun _ _ _ _ _ => (pv 7))) pa_nil)))
      (pss_cons (ps_set (i := 6) sc_note.nd rfl (by first | exact Or.inl rfl | exact Or.inr rfl) (pe_cl c_lacks_note hr (by omega) (pa_cons (pv 2) (pa_cons (pe_op op_sub (pe_callB call_len_seq (by rfl) T.n_len (by decide +kernel) (pa_cons (pv 1) pa_nil)) (pe_callB call_len_seq (by rfl) T.n_len (by decide +kernel) (pa_cons (pv 5) pa_nil))) pa_nil))))
      (pss_one (ps_ret (pe_tup (pa_cons (pe_callB call_len_seq (by rfl) T.n_len (by decide +kernel) (pa_cons (pv 1) pa_nil)) (pa_cons (pv 6) (pa_cons (pe_cl c_low_note hr (by omega) (pa_cons (pv 3) (pa_cons (pv 5) pa_nil))) (pa_cons (pe_cl c_high_note hr (by omega) (pa_cons (pv 4) (pa_cons (pv 5) pa_nil))) pa_nil)))))))))))), ?_⟩
    have nn : ∀ {x : Addr}, x ∉ ([] : List Addr) := fun m => nomatch m
    have few := col.few
    refine ⟨_, rfl, [], v, ruD r, rfl, rv, isRule_ru ok, trivial, fun H1 S1 => ?_⟩
    have hp1 := S1.kp _ _ nn hp
    have rvs1 : RvL K [] H1 (os.map vV) (os.map vD) := rv_vs os fun l m => by have := (col.ok l m).2; omega
    refine ⟨_, rfl, [], .ref p, .lst (os.map vD), rfl, .lst hp1 nn (by rw [List.length_map]; omega) rvs1, isPage_col col pos, (by show (os.map vD).length ≤ 5000; rw [List.length_map]; omega), fun H2 S2 => ?_⟩
    obtain ⟨t, u2, u3, rfl, ht, r2, r3⟩ := ruD_parts (rv.up (S1.trans S2))
    refine ⟨_, rfl, t, _, rfl, ht, rfl, _, _, rfl, _, _, rfl, _, _, rfl, rfl, ?_⟩
    have S12 := S1.trans S2
    have hp2 := S2.kp _ _ nn hp1
    refine ⟨_, rfl, p, rfl, ⟨_, SqL.of hp2⟩, fun L nL => ?_⟩
    refine lc_list (K := K) (a := p) (xs := os.map vV) (fun i H' => H' L = some (.lst ((txs (os.take i)).map Tx)) ∧ Stp [] H2 H')
      ⟨upd_same, Stp.new nL _⟩ (fun i H' _ ⟨_, S⟩ => SqL.of (S.kp _ _ nn hp2)) ?_ ?_
    · rintro i x H' hi ⟨hL, S'⟩
      rw [List.getElem?_map] at hi
      cases e : os[i]? with
      | none => rw [e] at hi; cases hi
      | some o =>
        rw [e] at hi
        cases hi
        have hil : i < os.length := (List.getElem?_eq_some_iff.mp e).1
        refine ⟨rfl, _, rfl, rfl, _, rfl, ?_⟩
        have tk := txs_take e
        cases o with
        | none =>
          refine ite2 (fun h => absurd h (by decide)) (fun _ => ⟨?_, S'⟩)
          rw [tk, Option.toList_none, List.append_nil]
          exact hL
        | some l =>
          refine ite2 (fun _ => ?_) (fun h => absurd rfl h)
          refine ⟨_, rfl, _, hL, ?_, ?_, S'.mut nL⟩
          · rw [List.length_map]
            have := txs_len (os.take i)
            rw [List.length_take] at this
            exact Nat.lt_of_le_of_lt (show (txs (os.take i)).length ≤ 5000 by omega) (by decide)
          · rw [upd_same, tk, List.map_append]
            rfl
    · rintro H3 ⟨hL, S3⟩
      rw [List.length_map, List.take_length] at hL
      have lt := txs_len os
      refine ⟨L, txs os, rfl, SqL.of hL, fun l m => (col.ok l (mem_txs.mp m)).2, by omega, fun zs q H4 nq S4 pm pw hq => ?_⟩
      have S24 := S3.trans S4
      have hp4 := S24.kp _ _ nn hp2
      have zl : zs.length = (txs os).length := pm.length_eq
      refine ⟨_, rfl, _, rfl, p, _, rfl, .inl (SqL.of hp4), _, rfl, q, _, rfl, .inl (SqL.of hq), _, _, rfl, rfl, r.lacks, gone os, ?_, ok.lacks, fun vl rl => ?_⟩
      · have e : ((os.map vV).length : Int) - ((zs.map Tx).length : Int) = ((gone os : Nat) : Int) := by
          rw [List.length_map, List.length_map, zl]
          unfold gone
          omega
        dsimp only
        rw [e]
      have asc : Asc zs := ⟨pw, fun l m => col.ok l (mem_txs.mp (pm.mem_iff.mp m))⟩
      have same : ∀ x, x ∈ zs ↔ x ∈ txs os := fun x => pm.mem_iff
      refine ⟨_, rfl, p, _, rfl, .inl (SqL.of hp4), _, rfl, _, rfl, _, rfl, u2, r.low, q, zs, rfl, r2.up S24, hq, asc, ?_⟩
      refine ⟨_, rfl, _, rfl, u3, r.high, q, zs, rfl, r3.up S24, ok.high, hq, asc, fun H5 S5 => ?_⟩
      rw [lowO_same same, highO_same same]
      refine ⟨(by show 4 ≤ sizeLine; decide), fun t2 nt2 => k _ _ ((S12.trans (S24.trans S5)).new' nt2) ?_⟩
      refine Rv.newT nt2 (.cons ?_ (.cons (rl _ _ _) (.cons (rv_v fun l e => (col_lows col e).2) (.cons (rv_v fun l e => (col_highs col e).2) .nil)))) (by simp)
      rw [List.length_map]
      exact .int _
abbrev s__law_past : Stmt := topS 59
abbrev N__law_past : List Str := ["word"]
theorem sc__law_past : FnScope ["word"] ["word"] (defScope s__law_past) := ⟨rfl, rfl, rfl, by decide +kernel, rfl, by decide +kernel, by decide +kernel⟩

/-! ### the text beyond, by the law -/
theorem cOff_c (m : List Nat) : cOff (m ++ [99]) = cOff m := by
  rw [cOff_rev, cOff_rev, List.reverse_append]
  rfl
theorem cOff_id {m : List Nat} {c : Nat} (h : c ≠ 99) : cOff (m ++ [c]) = m ++ [c] := by
  rw [cOff_rev, List.reverse_append]
  show (List.dropWhile _ (c :: m.reverse)).reverse = _
  rw [List.dropWhile_cons, if_neg (by simpa using h), List.reverse_cons, List.reverse_reverse]
theorem bey_same {a b : List Nat} (h : cOff a = cOff b) : bey a = bey b := by
  unfold bey
  rw [h]
def spPastX : Sp := fun vs H Q _ => ∃ l : List Nat, vs = [Tx l] ∧ Abc l ∧ l.length ≤ 1000 ∧ Q (vV (bey l)) H
theorem cl__law_pastX {f : Addr} {fd : FuncData} (D : Df K mg "_law_past" s__law_past ["word"] f fd) (T : Nm mg) : Cl P w K mg base 1 "_law_past" s__law_past ["word"] spPastX := by
  refine D.cl sc__law_past (fun vs H Q E h => ?_) (fun cdv A outer s H vs Q E hr h => ?_)
  · obtain ⟨l, rfl, _⟩ := h
    rfl
  · obtain ⟨l, rfl, al, ll, k⟩ := h
    refine ⟨_, (pss_cons (ps_while PassesOwn.never (pt_cmpR op_eq (pe_slice sl_str (pv 0) (po_some (pe_un un_neg pe_int)) po_none) pe_str (by first | exact nomark _ | rfl)) (pss_one (ps_set (i := 0) sc__law_past.nd rfl (by first | exact Or.inl rfl | exact Or.inr rfl) (pe_slice sl_str (pv 0) po_none (po_some (pe_un un_neg pe_int))))))
      (pss_cons (ps_if (pt_cmpR op_eq (pv 0) pe_str (by first | exact nomark _ | rfl)) (pss_one (ps_ret pe_non)) pss_nil)
      (pss_one (ps_ret (pe_op op_add_str (pe_slice sl_str (pv 0) po_none (po_some (pe_un un_neg pe_int))) (pe_ifExp (pt_cmpR op_eq (pe_slice sl_str (pv 0) (po_some (pe_un un_neg pe_int)) po_none) pe_str (by first | exact nomark _ | rfl)) pe_str pe_str)))))), ?_⟩
    refine while_by (fun σ H1 => ∃ m : List Nat, σ = [some (Tx m)] ∧ Abc m ∧ m.length ≤ 1000 ∧ bey l = bey m ∧ H1 = H) (fun σ _ => match σ with | [some (.str x)] => x.length | _ => 0) ⟨l, rfl, al, ll, rfl, rfl⟩ ?_ ?_
    · rintro σ H1 ⟨m, rfl, am, lm, lmt, rfl⟩
      refine ⟨_, rfl, 1, rfl, -1, rfl, tx m, rfl, szt (by omega), ?_⟩
      rw [show cutS (tx m) (some (-1)) none = _ from tx_last m]
      refine ⟨rfl, _, rfl, ?_⟩
      rcases List.eq_nil_or_concat m with rfl | ⟨i, c, e⟩
      · refine ite2 (fun h => absurd h (by decide +kernel)) (fun h => ?_)
        refine ⟨_, rfl, rfl, _, rfl, ite2 (fun h1 => ?_) (fun h1 => absurd (decide_eq_true (congrArg V.str nil_lit.symm)) h1)⟩
        rw [lmt] at k
        exact k
      · rw [List.concat_eq_append] at e
        subst e
        have ed : (i ++ [c]).drop ((i ++ [c]).length - 1) = [c] := by rw [List.length_append, List.length_singleton, Nat.add_sub_cancel, List.drop_left]
        rw [ed]
        have li : i.length + 1 ≤ 1000 := by simpa using lm
        have ai : Abc i := fun x m => am x (List.mem_append_left _ m)
        refine ite2 (fun h => ?_) (fun h => ?_)
        · have hc : c = 99 := by
            have := tx_inj ((V.str.inj (of_decide_eq_true h)).trans c_lit9)
            simpa using this
          subst hc
          refine ⟨_, rfl, 1, rfl, -1, rfl, tx (i ++ [99]), rfl, szt (by simp; omega), ?_⟩
          rw [show cutS (tx (i ++ [99])) none (some (-1)) = _ from tx_init _, List.dropLast_concat]
          refine ⟨⟨i, rfl, ai, by omega, by rw [lmt]; exact bey_same (cOff_c i), rfl⟩, ?_⟩
          show (tx i).length < (tx (i ++ [99])).length
          rw [tx_len, tx_len, List.length_append, List.length_singleton]
          omega
        · have hc : c ≠ 99 := fun e => h (decide_eq_true (by rw [e]; exact congrArg V.str c_lit9.symm))
          rw [lmt, bey_some (cOff_id hc)] at k
          refine ⟨_, rfl, rfl, _, rfl, ite2 (fun h1 => ?_) (fun h1 => ?_)⟩
          · have := nil_tx.mp ((V.str.inj (of_decide_eq_true h1)).trans nil_lit)
            simp at this
          · refine ⟨_, rfl, 1, rfl, -1, rfl, tx (i ++ [c]), rfl, szt (by simp; omega), ?_⟩
            rw [show cutS (tx (i ++ [c])) none (some (-1)) = _ from tx_init _, List.dropLast_concat]
            refine ⟨_, rfl, 1, rfl, -1, rfl, tx (i ++ [c]), rfl, szt (by simp; omega), ?_⟩
            rw [show cutS (tx (i ++ [c])) (some (-1)) none = _ from tx_last _, ed]
            refine ⟨rfl, _, rfl, ?_⟩
            rcases am c (by simp) with rfl | rfl | rfl
            · refine ite2 (fun _ => ?_) (fun h => absurd (decide_eq_true (congrArg V.str a_lit.symm)) h)
              refine ⟨tx i, tx [98], rfl, congrArg V.str b_lit, (by rw [tx_len, tx_len]; exact sz (by simp; omega)), ?_⟩
              rw [tx_app]
              exact k
            · refine ite2 (fun h => absurd h (by decide +kernel)) (fun _ => ?_)
              refine ⟨tx i, tx [99], rfl, congrArg V.str c_lit9, (by rw [tx_len, tx_len]; exact sz (by simp; omega)), ?_⟩
              rw [tx_app]
              exact k
            · exact absurd rfl hc
    · rintro σ H Q Q' h ⟨v, e1, i, e2, j, e3, x, e4, z, s1, b, e5, q⟩
      exact ⟨v, e1, i, e2, j, e3, x, e4, z, s1, b, e5, h _ _ q⟩
abbrev s__law_sheet : Stmt := topS 61
abbrev N__law_sheet : List Str := ["bag", "upto", "pool", "found", "way", "left", "k"]
theorem sc__law_sheet : FnScope ["bag", "upto", "pool", "found", "way", "left", "k"] ["bag", "upto"] (defScope s__law_sheet) := ⟨rfl, rfl, rfl, by decide +kernel, rfl, by decide +kernel, by decide +kernel⟩

/-! ### drawn sheets -/
theorem seq_end {t u : TS} {D : Ends} {σ : L2.St} {H : Hp} (I : L2.St → Hp → Prop) (fin : ∀ σ' H', I σ' H' → u D σ' H') (h : (∀ σ' H', I σ' H' → u D σ' H') → t { D with nx := u D } σ H) : tSeq t u D σ H := h fin
def leftL : List (List Nat) := [[], [97], [98], [99], [97, 98], [98, 97], [99, 99], [97, 99], [98, 98], [97, 97, 97], [97, 98, 99], [99, 98], [99, 97]]
theorem leftL_eq : [V.str "", .str "a", .str "b", .str "c", .str "ab", .str "ba", .str "cc", .str "ac", .str "bb", .str "aaa", .str "abc", .str "cb", .str "ca"] = leftL.map Tx := by decide +kernel
theorem leftL_ok : ∀ l ∈ leftL, Abc l ∧ l.length ≤ 12 := by
  intro l m
  have h : leftL.all (fun l => abcB l && decide (l.length ≤ 12)) = true := by decide +kernel
  have q := List.all_eq_true.mp h l m
  rw [Bool.and_eq_true] at q
  exact ⟨abcB_iff.mp q.1, of_decide_eq_true q.2⟩
theorem map_erase' {α β : Type} (f : α → β) : ∀ (ls : List α) (k : Nat), (ls.map f).eraseIdx k = (ls.eraseIdx k).map f
  | [], _ => rfl
  | _ :: _, 0 => rfl
  | x :: ls, k + 1 => by
    show f x :: (ls.map f).eraseIdx k = f x :: (ls.eraseIdx k).map f
    rw [map_erase' f ls k]
/-- values of short texts -/
def OkV (os : List (Option (List Nat))) : Prop := ∀ l, some l ∈ os → Abc l ∧ l.length ≤ 12
theorem OkV.nil : OkV [] := fun _ m => nomatch m
theorem OkV.snoc {os : List (Option (List Nat))} {o : Option (List Nat)} (h : OkV os) (g : ∀ l, o = some l → Abc l ∧ l.length ≤ 12) : OkV (os ++ [o]) := fun l m => by
  rcases List.mem_append.mp m with m | m
  · exact h l m
  · exact g l (List.mem_singleton.mp m).symm
theorem OkV.col {os : List (Option (List Nat))} (h : OkV os) (n : os.length ≤ 5000) : Col os := ⟨fun l m => ⟨(h l m).1, by have := (h l m).2; omega⟩, n⟩
theorem vV_snoc (os : List (Option (List Nat))) (o : Option (List Nat)) : os.map vV ++ [vV o] = (os ++ [o]).map vV := by rw [List.map_append]; rfl
theorem MonoR.neNil {K : PySem.W.Frag} : MonoR (rNeNil K) := fun _ _ _ _ _ h ⟨a, b, xs, e1, e2, n, s1, s2, q⟩ => ⟨a, b, xs, e1, e2, n, s1, s2, h _ _ q⟩
/-- the sheet and the pool in a turn -/
structure Sh (H6 H9 : Hp) (b c p : Addr) (os : List (Option (List Nat))) (ls : List (List Nat)) (m : Nat) : Prop where
  hc : H9 c = some (.lst (os.map vV))
  hp : H9 p = some (.lst (ls.map Tx))
  st : Stp [c, p, b] H6 H9
  bg : Bag H9 b m
theorem Sh.new {H6 H9 : Hp} {b c p q : Addr} {os : List (Option (List Nat))} {ls : List (List Nat)} {m : Nat} (h : Sh H6 H9 b c p os ls m) (nq : H9 q = none) : Sh H6 (upd H9 q (.lst [])) b c p os ls m ∧ c ≠ q ∧ (upd H9 q (.lst [])) q = some (.lst []) :=
  ⟨⟨by rw [upd_ne (ne_of_none h.hc nq)]; exact h.hc, by rw [upd_ne (ne_of_none h.hp nq)]; exact h.hp, h.st.new' nq, h.bg.upd (h.bg.ne nq)⟩, ne_of_none h.hc nq, upd_same⟩
theorem Sh.more {H6 H9 : Hp} {b c p : Addr} {os : List (Option (List Nat))} {ls : List (List Nat)} {m k : Nat} (h : Sh H6 H9 b c p os ls m) (e : m ≤ k) : Sh H6 H9 b c p os ls k := ⟨h.hc, h.hp, h.st, h.bg.mono e⟩
def spSheet : Sp := fun vs H Q _ => ∃ (b : Addr) (up : Int) (n : Nat), vs = [.ref b, .int up] ∧ Bag H b n ∧ n + 5000 < 2 ^ 30 ∧ 1 ≤ up ∧ up ≤ 40 ∧
  ∀ f os H', H f = none → H' f = some (.lst (os.map vV)) → OkV os → 0 < os.length → os.length ≤ 40 → Stp [b] H H' → Bag H' b (n + 3000) → Q (.ref f) H'
theorem cl__law_sheet {f : Addr} {fd : FuncData} (D : Df K mg "_law_sheet" s__law_sheet ["bag", "upto"] f fd) (T : Nm mg) (c__law_draw : Cl P w K mg base 1 "_law_draw" s__law_draw ["bag", "upto"] spDraw)
    (c__law_text : Cl P w K mg base 2 "_law_text" s__law_text ["bag"] spText) (c__law_some : Cl P w K mg base 3 "_law_some" s__law_some ["bag", "pool"] spSome) : Cl P w K mg base 4 "_law_sheet" s__law_sheet ["bag", "upto"] spSheet := by
  refine D.cl sc__law_sheet (fun vs H Q E h => ?_) (fun cdv A outer s H vs Q E hr h => ?_)
  · obtain ⟨b, up, n, rfl, _⟩ := h
    rfl
  · obtain ⟨b, up, n, rfl, B, hn, u1, u40, k⟩ := h
    refine ⟨_, (pss_cons (ps_par3 (i := 2) (j := 3) (l := 4) rfl sc__law_sheet.nd rfl rfl rfl (by decide) (by decide) (by decide) rfl rfl rfl (pa_cons (pe_lst pa_nil) (pa_cons (pe_lst pa_nil) (pa_cons (pe_cl c__law_draw hr (by omega) (pa_cons (pv 0) (pa_cons pe_int pa_nil))) pa_nil))) (by rfl))
      (pss_cons (ps_if (pt_cmpR op_eq (pv 4) pe_int (by first | exact nomark _ | rfl)) (pss_cons (ps_set (i := 5) sc__law_sheet.nd rfl (by first | exact Or.inl rfl | exact Or.inr rfl) (pe_lst (pa_cons pe_str (pa_cons pe_str (pa_cons pe_str (pa_cons pe_str (pa_cons pe_str (pa_cons pe_str (pa_cons pe_str (pa_cons pe_str (pa_cons pe_str (pa_cons pe_str (pa_cons pe_str (pa_cons pe_str (pa_cons pe_str pa_nil)))))))))))))))
      (pss_cons (ps_for PassesOwn.never rfl (pi_range1 (by rfl) T.n_range (pa_cons (pe_callB (call_min2 rfl) (by rfl) T.n_min (by decide +kernel) (pa_cons (pe_callTy call_int1 (by rfl) T.n_int (by decide +kernel) (pa_cons (pv 1) pa_nil)) (pa_cons (pe_op op_add pe_int (pe_cl c__law_draw hr (by omega) (pa_cons (pv 0) (pa_cons pe_int pa_nil)))) pa_nil))) pa_nil)) (pg_name (i := 6) sc__law_sheet.nd rfl (by first | exact Or.inl rfl | exact Or.inr rfl)) (pss_one (ps_expr (pe_bm PySem.F.plainAttrs_list PySem.F.slot_list_append PySem.F.type_list_append mt_append (pv 3) (pa_cons (pe_bm PySem.F.plainAttrs_list PySem.F.slot_list_pop PySem.F.type_list_pop mt_popAt (pv 5) (pa_cons (pe_cl c__law_draw hr (by omega) (pa_cons (pv 0) (pa_cons (pe_callB call_len_seq (by rfl) T.n_len (by decide +kernel) (pa_cons (pv 5) pa_nil)) pa_nil))) pa_nil)) pa_nil)))))
      (pss_one (ps_ret (pv 3))))) pss_nil)
      (pss_cons (ps_if (pt_cmpR op_eq (pv 4) pe_int (by first | exact nomark _ | rfl)) (pss_one (ps_set (i := 3) sc__law_sheet.nd rfl (by first | exact Or.inl rfl | exact Or.inr rfl) (pe_op op_rep (pe_lst (pa_cons (pe_cl c__law_text hr (by omega) (pa_cons (pv 0) pa_nil)) pa_nil)) (pe_callB (call_min2 rfl) (by rfl) T.n_min (by decide +kernel) (pa_cons (pe_callTy call_int1 (by rfl) T.n_int (by decide +kernel) (pa_cons (pv 1) pa_nil)) (pa_cons (pe_op op_add pe_int (pe_cl c__law_draw hr (by omega) (pa_cons (pv 0) (pa_cons pe_int pa_nil)))) pa_nil)))))) pss_nil)
      (pss_cons (ps_for PassesOwn.never rfl (pi_range2 (by rfl) T.n_range (pa_cons (pe_callB call_len_seq (by rfl) T.n_len (by decide +kernel) (pa_cons (pv 3) pa_nil)) (pa_cons (pe_op op_add pe_int (pe_cl c__law_draw hr (by omega) (pa_cons (pv 0) (pa_cons (pv 1) pa_nil)))) pa_nil))) (pg_name (i := 6) sc__law_sheet.nd rfl (by first | exact Or.inl rfl | exact Or.inr rfl)) (pss_cons (ps_set (i := 4) sc__law_sheet.nd rfl (by first | exact Or.inl rfl | exact Or.inr rfl) (pe_cl c__law_draw hr (by omega) (pa_cons (pv 0) (pa_cons pe_int pa_nil))))
      (pss_one (ps_if (PW.pt (pw_and (pt_cmpR (Pv.op_neNil hr.units) (pv 3) (pe_lst pa_nil) (by first | exact nomark _ | rfl)) (pw_and1 (pt_cmpR op_lt (pv 4) pe_int (by first | exact nomark _ | rfl))))) (pss_one (ps_expr (pe_bm PySem.F.plainAttrs_list PySem.F.slot_list_append PySem.F.type_list_append mt_append (pv 3) (pa_cons (pe_ix ix_list (pv 3) (pe_op op_sub (pe_callB call_len_seq (by rfl) T.n_len (by decide +kernel) (pa_cons (pv 3) pa_nil)) pe_int) (fun _ _ => rfl)) pa_nil)))) (pss_one (ps_if (PW.pt (pw_and (pt_cmpR (Pv.op_neNil hr.units) (pv 3) (pe_lst pa_nil) (by first | exact nomark _ | rfl)) (pw_and1 (pt_cmpR op_eq (pv 4) pe_int (by first | exact nomark _ | rfl))))) (pss_one (ps_expr (pe_bm PySem.F.plainAttrs_list PySem.F.slot_list_append PySem.F.type_list_append mt_append (pv 3) (pa_cons (pe_ix ix_list (pv 3) (pe_cl c__law_draw hr (by omega) (pa_cons (pv 0) (pa_cons (pe_callB call_len_seq (by rfl) T.n_len (by decide +kernel) (pa_cons (pv 3) pa_nil)) pa_nil))) (fun _ _ => rfl)) pa_nil)))) (pss_one (ps_if (pt_cmpR op_eq (pv 4) pe_int (by first | exact nomark _ | rfl)) (pss_one (ps_expr (pe_bm PySem.F.plainAttrs_list PySem.F.slot_list_append PySem.F.type_list_append mt_append (pv 3) (pa_cons pe_non pa_nil)))) (pss_cons (ps_expr (pe_bm PySem.F.plainAttrs_list PySem.F.slot_list_append PySem.F.type_list_append mt_append (pv 3) (pa_cons (pe_cl c__law_some hr (by omega) (pa_cons (pv 0) (pa_cons (pv 2) pa_nil))) pa_nil)))
      (pss_one (ps_expr (pe_bm PySem.F.plainAttrs_list PySem.F.slot_list_append PySem.F.type_list_append mt_append (pv 2) (pa_cons (pe_ix ix_list (pv 3) (pe_op op_sub (pe_callB call_len_seq (by rfl) T.n_len (by decide +kernel) (pa_cons (pv 3) pa_nil)) pe_int) (fun _ _ => rfl)) pa_nil)))))))))))))
      (pss_one (ps_ret (pv 3))))))), ?_⟩
    have nn : ∀ {x : Addr}, x ∉ ([] : List Addr) := fun m => nomatch m
    refine ⟨Nat.zero_le _, fun p np => ?_⟩
    have S1 : Stp [] H (upd H p (.lst [])) := Stp.new np _
    have hp1 : (upd H p (.lst [])) p = some (.lst []) := upd_same
    have B1 := B.upd (o := .lst []) (B.ne np)
    have pb : p ≠ b := (B.ne np).symm
    generalize upd H p (.lst []) = H1 at *
    refine ⟨Nat.zero_le _, fun fo nf => ?_⟩
    have S2 : Stp [] H1 (upd H1 fo (.lst [])) := Stp.new nf _
    have hf2 : (upd H1 fo (.lst [])) fo = some (.lst []) := upd_same
    have B2 := B1.upd (o := .lst []) (B1.ne nf)
    have fb : fo ≠ b := (B1.ne nf).symm
    have fp : fo ≠ p := (ne_of_none hp1 nf).symm
    have nfH : H fo = none := S1.fresh nn nf
    have hp2 := S2.kp _ _ nn hp1
    generalize upd H1 fo (.lst []) = H2 at *
    refine ⟨_, rfl, b, 8, n, rfl, B2, by omega, by decide, by decide, fun way H3 w0 w1 o3 B3 => ?_⟩
    have hp4 := o3.at hp2 pb
    have hf4 := o3.at hf2 fb
    have S14 : Stp [b] H H3 := (S1.trans S2).nil.trans (o3.stp (List.mem_singleton.mpr rfl))
    have B4 := B3
    refine ⟨_, _, _, rfl, ?_⟩
    generalize H3 = H4 at *
    have one : b ∈ [b] := List.mem_singleton.mpr rfl
    refine ⟨_, rfl, rfl, _, rfl, ite2 (fun h => ?_) (fun h => ?_)⟩
    · -- texts of the list, each once
      refine ⟨(by show 13 ≤ sizeLine; decide), fun l nl => ?_⟩
      rw [leftL_eq]
      have S5 : Stp [] H4 (upd H4 l (.lst (leftL.map Tx))) := Stp.new nl _
      have hl5 : (upd H4 l (.lst (leftL.map Tx))) l = some (.lst (leftL.map Tx)) := upd_same
      have B5 := B4.upd (o := .lst (leftL.map Tx)) (B4.ne nl)
      have lb : l ≠ b := (B4.ne nl).symm
      have lf : l ≠ fo := (ne_of_none hf4 nl).symm
      have hf5 := S5.kp _ _ nn hf4
      have nlH : H l = none := S14.fresh (fun m => lb (List.mem_singleton.mp m)) nl
      generalize upd H4 l (.lst (leftL.map Tx)) = H5 at *
      refine ⟨_, rfl, .inl ⟨up, rfl, ?_⟩⟩
      refine ⟨_, rfl, b, 4, _, rfl, B5, by omega, by decide, by decide, fun z H6 z0 z1 o6 B6 => ?_⟩
      refine ⟨_, _, rfl, rfl, _, _, rfl, ?_⟩
      obtain ⟨mm, emm, m1, m2, m3⟩ : ∃ mm : Int, mm = (if 9 + z < up then 9 + z else up) ∧ 1 ≤ mm ∧ mm ≤ 12 ∧ mm ≤ up := ⟨_, rfl, by split <;> omega, by split <;> omega, by split <;> omega⟩
      rw [← emm]
      refine ⟨_, rfl, by omega, by omega, ?_⟩
      refine for_range (lo := 0) (n := mm.toNat) (fun i σ H' => ∃ (x6 : Option V) (os : List (Option (List Nat))) (ls : List (List Nat)), σ = [some (.ref b), some (.int up), some (.ref p), some (.ref fo), some (.int way), some (.ref l), x6] ∧ H' fo = some (.lst (os.map vV)) ∧ OkV os ∧ os.length = i ∧
          H' l = some (.lst (ls.map Tx)) ∧ ls.length + i = 13 ∧ (∀ l ∈ ls, Abc l ∧ l.length ≤ 12) ∧ Stp [fo, l, b] H6 H' ∧ Bag H' b (n + 2 + i))
        ⟨_, [], leftL, rfl, o6.at hf5 fb, OkV.nil, rfl, o6.at hl5 lb, rfl, leftL_ok, Stp.refl _ _, B6.mono (by omega)⟩ ?_ ?_
      · rintro i σ H7 hi ⟨x6, os, ls, rfl, hf7, ok, lo, hl7, ll, okl, S7, B7⟩
        refine ⟨_, rfl, .inl ⟨rfl, _, SqL.of hf7⟩, ?_⟩
        refine ⟨_, rfl, .inl ⟨rfl, _, SqL.of hl7⟩, ?_⟩
        refine ⟨_, rfl, _, rfl, l, _, rfl, .inl (SqL.of hl7), b, _, _, rfl, B7, by omega, by rw [List.length_map]; omega, by rw [List.length_map]; omega, fun d H8 d0 d1 o8 B8 => ?_⟩
        rw [List.length_map] at d1
        have kd : d.toNat < ls.length := by omega
        have hl8 := o8.at hl7 lb
        have hf8 := o8.at hf7 fb
        have hget : (ls.map Tx)[d.toNat]? = some (Tx ls[d.toNat]) := by rw [List.getElem?_map, List.getElem?_eq_getElem kd]; rfl
        refine ⟨l, _, d, d.toNat, _, rfl, rfl, hl8, by omega, by omega, by rw [List.length_map]; exact seqIx d0 d1, hget, ?_⟩
        have mt := okl _ (List.getElem_mem kd)
        have eer : (ls.map Tx).eraseIdx d.toNat = (ls.eraseIdx d.toNat).map Tx := map_erase' _ _ _
        rw [eer]
        have hf9 : (upd H8 l (.lst ((ls.eraseIdx d.toNat).map Tx))) fo = some (.lst (os.map vV)) := by rw [upd_ne lf.symm]; exact hf8
        have S89 : Stp [fo, l, b] H8 (upd H8 l (.lst ((ls.eraseIdx d.toNat).map Tx))) := Stp.put (by simp)
        refine ⟨fo, _, _, rfl, rfl, hf9, Nat.lt_of_le_of_lt (show (os.map vV).length ≤ 100 by rw [List.length_map]; omega) (by decide), ?_⟩
        rw [show os.map vV ++ [Tx ls[d.toNat]] = (os ++ [some ls[d.toNat]]).map vV from vV_snoc os (some _)]
        refine ⟨_, os ++ [some ls[d.toNat]], ls.eraseIdx d.toNat, rfl, upd_same, ok.snoc (fun x e => by cases e; exact mt), by simp [lo], ?_, ?_, fun x m => okl x (List.mem_of_mem_eraseIdx m), ?_, ?_⟩
        · rw [upd_ne lf, upd_same]
        · rw [List.length_eraseIdx_of_lt kd]; omega
        · exact ((S7.trans ((o8.stp one).sub (by simp))).trans S89).put' (by simp)
        · exact ((B8.upd lb.symm).upd fb.symm).mono (by omega)
      · rintro σ H7 ⟨x6, os, ls, rfl, hf7, ok, lo, hl7, ll, okl, S7, B7⟩
        refine ⟨_, rfl, k fo os H7 nfH hf7 ok (by omega) (by omega) ?_ (B7.mono (by omega))⟩
        have S47 : Stp [fo, l, b] H H7 := ((S14.trans S5.nil).trans (o6.stp one)).sub (by simp) |>.trans S7
        exact Stp.loc nlH (Stp.loc nfH S47)
    have w2 : ¬ way = 0 := fun e => h (by rw [e]; rfl)
    dsimp only [tNext]
    refine seq_end (fun σ' H' => ∃ (c : Addr) (os : List (Option (List Nat))) (x5 x6 : Option V), σ' = [some (.ref b), some (.int up), some (.ref p), some (.ref c), some (.int way), x5, x6] ∧ H c = none ∧ c ≠ b ∧ c ≠ p ∧ H' c = some (.lst (os.map vV)) ∧ OkV os ∧ (os.length : Int) ≤ up ∧ H' p = some (.lst []) ∧ Stp [b] H H' ∧ Bag H' b (n + 100)) ?_ (fun fin => ?_)
    rotate_left
    · refine ⟨_, rfl, rfl, _, rfl, ite2 (fun h => ?_) (fun h => ?_)⟩
      · refine ⟨_, rfl, b, _, rfl, B4, by omega, fun tl H5 atl ltl S5 B5 => ?_⟩
        refine ⟨(by show 1 ≤ sizeLine; decide), fun l nl => ?_⟩
        have S6 : Stp [] H5 (upd H5 l (.lst [Tx tl])) := Stp.new nl _
        have hl6 : (upd H5 l (.lst [Tx tl])) l = some (.lst [Tx tl]) := upd_same
        have B6 := B5.upd (o := .lst [Tx tl]) (B5.ne nl)
        have lb : l ≠ b := (B5.ne nl).symm
        have pn : p ∉ [b] := fun m => pb (List.mem_singleton.mp m)
        have hp6 := S6.kp _ _ nn (S5.kp _ _ pn hp4)
        generalize upd H5 l (.lst [Tx tl]) = H6 at *
        refine ⟨_, rfl, .inl ⟨up, rfl, ?_⟩⟩
        refine ⟨_, rfl, b, 4, _, rfl, B6, by omega, by decide, by decide, fun z H7 z0 z1 o7 B7 => ?_⟩
        refine ⟨_, _, rfl, rfl, _, _, rfl, ?_⟩
        obtain ⟨mm, emm, m1, m2, m3⟩ : ∃ mm : Int, mm = (if 9 + z < up then 9 + z else up) ∧ 1 ≤ mm ∧ mm ≤ 12 ∧ mm ≤ up := ⟨_, rfl, by split <;> omega, by split <;> omega, by split <;> omega⟩
        rw [← emm]
        have hl7 := o7.at hl6 lb
        refine ⟨l, _, _, rfl, rfl, hl7, by omega, by omega, Nat.le_trans (show 1 * mm.toNat ≤ 100 by omega) (by decide), fun c nc => ?_⟩
        have e2 : (List.replicate mm.toNat [Tx tl]).flatten = (List.replicate mm.toNat (some tl)).map vV := by
          rw [List.flatten_replicate_singleton, List.map_replicate]
          rfl
        rw [e2]
        have S47 : Stp [b] H H7 := ((S14.trans S5).trans S6.nil).trans (o7.stp one)
        have cb : c ≠ b := (B7.ne nc).symm
        have cn : c ∉ [b] := fun m => cb (List.mem_singleton.mp m)
        have hp7 := o7.at hp6 pb
        refine fin _ _ ⟨c, List.replicate mm.toNat (some tl), _, _, rfl, S47.fresh cn nc, cb, (ne_of_none hp7 nc).symm, upd_same, fun x m => ?_, ?_, ?_, S47.new' nc, (B7.upd (B7.ne nc)).mono (by omega)⟩
        · have := (List.mem_replicate.mp m).2
          cases this
          exact ⟨atl, ltl⟩
        · rw [List.length_replicate]; omega
        · rw [upd_ne (ne_of_none hp7 nc)]; exact hp7
      · exact fin _ _ ⟨fo, [], _, _, rfl, nfH, fb, fp, hf4, OkV.nil, by simp; omega, hp4, S14, B4.mono (by omega)⟩
    rintro σ H5 ⟨c, os0, x5, x6, rfl, ncH, cb, cp, hc5, ok0, lo0, hp5, S05, B5⟩
    have npH : H p = none := np
    refine ⟨_, rfl, c, _, rfl, .inl (SqL.of hc5), ?_⟩
    refine ⟨_, rfl, _, rfl, b, up, _, rfl, B5, by omega, by omega, by omega, fun z H6 z0 z1 o6 B6 => ?_⟩
    refine ⟨_, _, rfl, rfl, _, _, rfl, ?_⟩
    rw [List.length_map]
    refine ⟨⟨by omega, by omega, by omega, by omega⟩, ?_⟩
    have pos : 0 < os0.length + (1 + z - (os0.length : Int)).toNat := by omega
    have cap : os0.length + (1 + z - (os0.length : Int)).toNat ≤ 40 := by omega
    generalize (1 + z - (os0.length : Int)).toNat = N at *
    have mcb : ∀ x ∈ ([b] : List Addr), x ∈ [c, p, b] := by simp
    refine for_range (lo := (os0.length : Int)) (n := N) (fun i σ H' => ∃ (y4 x5 y6 : Option V) (os : List (Option (List Nat))) (ls : List (List Nat)), σ = [some (.ref b), some (.int up), some (.ref p), some (.ref c), y4, x5, y6] ∧ H' c = some (.lst (os.map vV)) ∧ OkV os ∧ os.length = os0.length + i ∧
        Pool H' p ls ∧ ls.length ≤ i ∧ Stp [c, p, b] H6 H' ∧ Bag H' b (n + 101 + 30 * i))
      ⟨_, _, _, os0, [], rfl, o6.at hc5 cb, ok0, rfl, ⟨o6.at hp5 pb, fun _ m => nomatch m⟩, Nat.le_refl _, Stp.refl _ _, B6⟩ ?_ ?_
    · rintro i σ H7 hi ⟨y4, x5, y6, os, ls, rfl, hc7, ok, lo, ⟨hp7, okp⟩, ll, S7, B7⟩
      have os40 : os.length < 40 := by omega
      refine ⟨_, rfl, b, 6, _, rfl, B7, by omega, by decide, by decide, fun way2 H8 v0 v1 o8 B8 => ?_⟩
      have hc8 := o8.at hc7 cb
      have hp8 := o8.at hp7 pb
      have S78 := S7.trans ((o8.stp one).sub mcb)
      have pn : p ∉ [b] := fun m => pb (List.mem_singleton.mp m)
      have h8 : Sh H6 H8 b c p os ls (n + 102 + 30 * i) := ⟨hc8, hp8, S78, B8.mono (by omega)⟩
      -- what is put at the end
      have put : ∀ (H9 : Hp) (o : Option (List Nat)), Sh H6 H9 b c p os ls (n + 130 + 30 * i) → (∀ l, o = some l → Abc l ∧ l.length ≤ 12) →
          ∃ (y4 x5' y6 : Option V) (os' : List (Option (List Nat))) (ls' : List (List Nat)), [some (.ref b), some (.int up), some (.ref p), some (.ref c), some (.int way2), x5, some (.int ((os0.length : Int) + (i : Int)))] = [some (.ref b), some (.int up), some (.ref p), some (.ref c), y4, x5', y6] ∧ (upd H9 c (.lst ((os ++ [o]).map vV))) c = some (.lst (os'.map vV)) ∧ OkV os' ∧ os'.length = os0.length + (i + 1) ∧ Pool (upd H9 c (.lst ((os ++ [o]).map vV))) p ls' ∧ ls'.length ≤ i + 1 ∧ Stp [c, p, b] H6 (upd H9 c (.lst ((os ++ [o]).map vV))) ∧ Bag (upd H9 c (.lst ((os ++ [o]).map vV))) b (n + 101 + 30 * (i + 1)) :=
        fun H9 o h9 g => ⟨_, _, _, os ++ [o], ls, rfl, upd_same, ok.snoc g, by rw [List.length_append, lo]; rfl, ⟨by rw [upd_ne cp.symm]; exact h9.hp, okp⟩, by omega, h9.st.put' (by simp), (h9.bg.upd cb.symm).mono (by omega)⟩
      have smal : (os.map vV).length < sizeLine := Nat.lt_of_le_of_lt (show (os.map vV).length ≤ 100 by rw [List.length_map]; omega) (by decide)
      have last : ∀ {o : Option (List Nat)} {t : List (Option (List Nat))}, os = t ++ [o] → atI (os.map vV) (((os.map vV).length : Int) - 1) = some (vV o) := fun {o t} e => by
        rw [e, List.length_map, List.length_append, List.length_singleton]
        refine (congrArg _ (show ((t.length + 1 : Nat) : Int) - 1 = ((t.length : Nat) : Int) by omega)).trans (atI_nat ?_)
        rw [List.getElem?_map, List.getElem?_append_right (Nat.le_refl _), Nat.sub_self]
        rfl
      refine MonoT.cut (MonoT.and (MonoT.test (Mono.op' MonoR.neNil Mono.var (Mono.lst MonoA.nil))) (MonoT.test (Mono.op' MonoR.i0 Mono.var Mono.c))) (fun t H9 => Sh H6 H9 b c p os ls (n + 102 + 30 * i) ∧ (t = true → os ≠ [])) ?_ ?_
      · refine ⟨_, rfl, Nat.zero_le _, fun q nq => ?_⟩
        obtain ⟨h9, cq, hq⟩ := h8.new nq
        refine ⟨c, q, _, rfl, rfl, cq, SqL.of h9.hc, SqL.of hq, _, rfl, ite2 (fun h => ?_) (fun h => ?_)⟩
        · exact ⟨_, rfl, _, _, rfl, rfl, _, rfl, h9, fun _ e => by rw [e] at h; exact absurd h (by decide)⟩
        · exact ⟨h9, fun e => nomatch e⟩
      rintro t H9 ⟨h9, hne⟩
      refine ite2 (fun h => ?_) (fun h => ?_)
      · obtain ⟨os', o, eo⟩ : ∃ os' o, os = os' ++ [o] := by
          rcases List.eq_nil_or_concat os with e | ⟨x, y, e⟩
          · exact absurd e (hne h)
          · exact ⟨x, y, by rw [e, List.concat_eq_append]⟩
        refine ⟨_, rfl, .inl ⟨rfl, _, SqL.of h9.hc⟩, _, rfl, _, rfl, c, _, rfl, .inl (SqL.of h9.hc), _, _, rfl, rfl, c, _, _, vV o, rfl, rfl, SqL.of h9.hc, last eo, c, _, _, rfl, rfl, h9.hc, smal, ?_⟩
        rw [vV_snoc]
        exact put H9 o (h9.more (by omega)) fun l e => ok l (by rw [eo, e]; simp)
      refine MonoT.cut (MonoT.and (MonoT.test (Mono.op' MonoR.neNil Mono.var (Mono.lst MonoA.nil))) (MonoT.test (Mono.op' MonoR.eq Mono.var Mono.c))) (fun t H9 => Sh H6 H9 b c p os ls (n + 102 + 30 * i) ∧ (t = true → os ≠ [])) ?_ ?_
      · refine ⟨_, rfl, Nat.zero_le _, fun q nq => ?_⟩
        obtain ⟨h10, cq, hq⟩ := h9.new nq
        refine ⟨c, q, _, rfl, rfl, cq, SqL.of h10.hc, SqL.of hq, _, rfl, ite2 (fun h => ?_) (fun h => ?_)⟩
        · exact ⟨_, rfl, rfl, _, rfl, h10, fun _ e => by rw [e] at h; exact absurd h (by decide)⟩
        · exact ⟨h10, fun e => nomatch e⟩
      rintro t2 HA ⟨hA, hne2⟩
      refine ite2 (fun h => ?_) (fun h => ?_)
      · refine ⟨_, rfl, .inl ⟨rfl, _, SqL.of hA.hc⟩, _, rfl, _, rfl, _, rfl, c, _, rfl, .inl (SqL.of hA.hc), b, _, _, rfl, hA.bg, by omega, ?_, ?_, fun d HB d0 d1 oB BB => ?_⟩
        · have := List.length_pos_iff.mpr (hne2 h)
          rw [List.length_map]; omega
        · rw [List.length_map]; omega
        rw [List.length_map] at d1
        obtain ⟨e, rfl⟩ := Int.eq_ofNat_of_zero_le d0
        have he : e < os.length := by omega
        have hcB := oB.at hA.hc cb
        have hB : Sh H6 HB b c p os ls (n + 130 + 30 * i) := ⟨hcB, oB.at hA.hp pb, hA.st.trans ((oB.stp one).sub mcb), BB.mono (by omega)⟩
        refine ⟨c, _, (e : Int), vV os[e], rfl, rfl, SqL.of hcB, atI_nat (by rw [List.getElem?_map, List.getElem?_eq_getElem he]; rfl), c, _, _, rfl, rfl, hcB, smal, ?_⟩
        rw [vV_snoc]
        exact put HB os[e] hB fun l e' => ok l (by rw [← e']; exact List.getElem_mem he)
      refine ⟨_, rfl, rfl, _, rfl, ite2 (fun h3 => ?_) (fun h3 => ?_)⟩
      · refine ⟨_, rfl, .inl ⟨rfl, _, SqL.of hA.hc⟩, c, _, _, rfl, rfl, hA.hc, smal, ?_⟩
        rw [show os.map vV ++ [V.non] = _ from vV_snoc os none]
        exact put HA none (hA.more (by omega)) fun l e => nomatch e
      · refine ⟨_, rfl, .inl ⟨rfl, _, SqL.of hA.hc⟩, ?_⟩
        refine ⟨_, rfl, _, rfl, b, p, _, ls, rfl, hA.bg, by omega, ⟨hA.hp, okp⟩, by omega, pb.symm, fun m HB am lm SB BB => ?_⟩
        have cn : c ∉ [b] := fun m => cb (List.mem_singleton.mp m)
        have hcB := SB.kp _ _ cn hA.hc
        have hpB := SB.kp _ _ pn hA.hp
        refine ⟨c, _, _, rfl, rfl, hcB, smal, ?_⟩
        rw [show os.map vV ++ [Tx m] = _ from vV_snoc os (some m)]
        have hcC : (upd HB c (.lst ((os ++ [some m]).map vV))) c = some (.lst ((os ++ [some m]).map vV)) := upd_same
        have hpC : (upd HB c (.lst ((os ++ [some m]).map vV))) p = some (.lst (ls.map Tx)) := by rw [upd_ne cp.symm]; exact hpB
        have SC : Stp [c, p, b] H6 (upd HB c (.lst ((os ++ [some m]).map vV))) := (hA.st.trans (SB.sub mcb)).put' (by simp)
        have BC := BB.upd (o := .lst ((os ++ [some m]).map vV)) cb.symm
        generalize upd HB c (.lst ((os ++ [some m]).map vV)) = HC at *
        have lastC : atI ((os ++ [some m]).map vV) ((((os ++ [some m]).map vV).length : Int) - 1) = some (Tx m) := by
          rw [List.length_map, List.length_append, List.length_singleton]
          refine (congrArg _ (show ((os.length + 1 : Nat) : Int) - 1 = ((os.length : Nat) : Int) by omega)).trans (atI_nat ?_)
          rw [List.getElem?_map, List.getElem?_append_right (Nat.le_refl _), Nat.sub_self]
          rfl
        refine ⟨_, rfl, .inl ⟨rfl, _, SqL.of hpC⟩, _, rfl, _, rfl, c, _, rfl, .inl (SqL.of hcC), _, _, rfl, rfl, c, _, _, _, rfl, rfl, SqL.of hcC, lastC, p, _, _, rfl, rfl, hpC, Nat.lt_of_le_of_lt (show (ls.map Tx).length ≤ 100 by rw [List.length_map]; omega) (by decide), ?_⟩
        rw [show ls.map Tx ++ [Tx m] = (ls ++ [m]).map Tx by rw [List.map_append]; rfl]
        refine ⟨_, _, _, os ++ [some m], ls ++ [m], rfl, by rw [upd_ne cp]; exact hcC, ok.snoc (fun l e => by cases e; exact ⟨am, lm⟩), by rw [List.length_append, lo]; rfl, ⟨upd_same, fun l ml => ?_⟩, by rw [List.length_append, List.length_singleton]; omega, SC.put' (by simp), (BC.upd pb.symm).mono (by omega)⟩
        rcases List.mem_append.mp ml with ml | ml
        · exact okp l ml
        · rw [List.mem_singleton.mp ml]; exact ⟨am, lm⟩
    · rintro σ H7 ⟨y4, x5, y6, os, ls, rfl, hc7, ok, lo, P7, ll, S7, B7⟩
      refine ⟨_, rfl, k c os H7 ncH hc7 ok (by omega) (by omega) ?_ (B7.mono (by omega))⟩
      have Sx : Stp [c, p, b] H H7 := (S05.trans (o6.stp one)).sub mcb |>.trans S7
      exact Stp.loc npH (Stp.loc ncH Sx)
mutual
def noL : D → Bool
  | .lst _ => false
  | .tup ds => noLs ds
  | _ => true
def noLs : List D → Bool
  | [] => true
  | d :: ds => noL d && noLs ds
end
mutual
theorem Rv.any {K : PySem.W.Frag} {S S' : List Addr} {H : Hp} : ∀ {v : V} {d : D}, Rv K S H v d → noL d = true → Rv K S' H v d
  | _, .non, .non, _ => .non
  | _, .bl _, .bl b, _ => .bl b
  | _, .int _, .int i, _ => .int i
  | _, .str _, .str x h, _ => .str x h
  | _, .tup ds, .tup h n r, q => .tup h n (RvL.any r (by unfold noL at q; exact q))
  | _, .lst _, .lst _ _ _ _, q => by unfold noL at q; cases q
  | _, .obj _, .obj h k, _ => .obj h k
theorem RvL.any {K : PySem.W.Frag} {S S' : List Addr} {H : Hp} : ∀ {vs : List V} {ds : List D}, RvL K S H vs ds → noLs ds = true → RvL K S' H vs ds
  | _, [], .nil, _ => .nil
  | _, _ :: _, .cons h r, q => by
    unfold noLs at q
    obtain ⟨q1, q2⟩ := Bool.and_eq_true_iff.mp q
    exact .cons (Rv.any h q1) (RvL.any r q2)
end
theorem noL_ru (r : Ru) : noL (ruD r) = true := by
  obtain ⟨k, lo, hi⟩ := r
  cases lo <;> cases hi <;> rfl
theorem noL_v (o : Option (List Nat)) : noL (vD o) = true := by cases o <;> rfl
abbrev s__law_kind : Stmt := topS 63
abbrev N__law_kind : List Str := ["bag", "low", "high"]
theorem sc__law_kind : FnScope ["bag", "low", "high"] ["bag"] (defScope s__law_kind) := ⟨rfl, rfl, rfl, by decide +kernel, rfl, by decide +kernel, by decide +kernel⟩

abbrev s_digits : Stmt := topS 39
abbrev N_digits : List Str := ["number"]
theorem sc_digits : FnScope ["number"] ["number"] (defScope s_digits) := ⟨rfl, rfl, rfl, by decide +kernel, rfl, by decide +kernel, by decide +kernel⟩

abbrev s_value_signs : Stmt := topS 40
abbrev N_value_signs : List Str := ["value"]
theorem sc_value_signs : FnScope ["value"] ["value"] (defScope s_value_signs) := ⟨rfl, rfl, rfl, by decide +kernel, rfl, by decide +kernel, by decide +kernel⟩

abbrev s_lacks_signs : Stmt := topS 50
abbrev N_lacks_signs : List Str := ["lacks"]
theorem sc_lacks_signs : FnScope ["lacks"] ["lacks"] (defScope s_lacks_signs) := ⟨rfl, rfl, rfl, by decide +kernel, rfl, by decide +kernel, by decide +kernel⟩

abbrev s_note_signs : Stmt := topS 49
abbrev N_note_signs : List Str := ["rule", "page", "many", "lacks", "low", "high"]
theorem sc_note_signs : FnScope ["rule", "page", "many", "lacks", "low", "high"] ["rule", "page"] (defScope s_note_signs) := ⟨rfl, rfl, rfl, by decide +kernel, rfl, by decide +kernel, by decide +kernel⟩

/-! ### drawn rules of the codes -/
def spKind (K : PySem.W.Frag) : Sp := fun vs H Q _ => ∃ (b : Addr) (n : Nat), vs = [.ref b] ∧ Bag H b n ∧ n + 20 < 2 ^ 30 ∧ ∀ v r H', Stp [b] H H' → Bag H' b (n + 10) → RuOk r → Rv K [] H' v (ruD r) → Q v H'
theorem low8 {d : Int} (h0 : 0 ≤ d) (h1 : d < 8) : ∃ lo : Option Nat, (∀ m, lo = some m → m ≤ 6) ∧ ∃ v, atI [V.int 0, .int 1, .int 2, .int 3, .int 4, .int 5, .int 6, .str "lost"] d = some v ∧ ∀ K S H, Rv K S H v (loD lo) := by
  rcases (by omega : d = 0 ∨ d = 1 ∨ d = 2 ∨ d = 3 ∨ d = 4 ∨ d = 5 ∨ d = 6 ∨ d = 7) with rfl | rfl | rfl | rfl | rfl | rfl | rfl | rfl
  · exact ⟨some 0, fun m e => by cases e; omega, _, atI_nat (j := 0) rfl, fun _ _ _ => .int _⟩
  · exact ⟨some 1, fun m e => by cases e; omega, _, atI_nat (j := 1) rfl, fun _ _ _ => .int _⟩
  · exact ⟨some 2, fun m e => by cases e; omega, _, atI_nat (j := 2) rfl, fun _ _ _ => .int _⟩
  · exact ⟨some 3, fun m e => by cases e; omega, _, atI_nat (j := 3) rfl, fun _ _ _ => .int _⟩
  · exact ⟨some 4, fun m e => by cases e; omega, _, atI_nat (j := 4) rfl, fun _ _ _ => .int _⟩
  · exact ⟨some 5, fun m e => by cases e; omega, _, atI_nat (j := 5) rfl, fun _ _ _ => .int _⟩
  · exact ⟨some 6, fun m e => by cases e; omega, _, atI_nat (j := 6) rfl, fun _ _ _ => .int _⟩
  · exact ⟨none, (fun m e => by cases e), _, atI_nat (j := 7) rfl, fun _ _ _ => Rv.lit "lost"⟩
theorem cl__law_kind {f : Addr} {fd : FuncData} (D : Df K mg "_law_kind" s__law_kind ["bag"] f fd) (T : Nm mg) (c__law_draw : Cl P w K mg base 1 "_law_draw" s__law_draw ["bag", "upto"] spDraw) : Cl P w K mg base 2 "_law_kind" s__law_kind ["bag"] (spKind K) := by
  refine D.cl sc__law_kind (fun vs H Q E h => ?_) (fun cdv A outer s H vs Q E hr h => ?_)
  · obtain ⟨b, n, rfl, _⟩ := h
    rfl
  · obtain ⟨b, n, rfl, B, hn, k⟩ := h
    refine ⟨_, (pss_cons (ps_set (i := 1) sc__law_kind.nd rfl (by first | exact Or.inl rfl | exact Or.inr rfl) (pe_ix ix_list (pe_lst (pa_cons pe_int (pa_cons pe_int (pa_cons pe_int (pa_cons pe_int (pa_cons pe_int (pa_cons pe_int (pa_cons pe_int (pa_cons pe_str pa_nil))))))))) (pe_cl c__law_draw hr (by omega) (pa_cons (pv 0) (pa_cons pe_int pa_nil))) (fun _ _ => rfl)))
      (pss_cons (ps_set (i := 2) sc__law_kind.nd rfl (by first | exact Or.inl rfl | exact Or.inr rfl) (pe_tup (pa_cons (pe_ix ix_list (pe_lst (pa_cons pe_str (pa_cons pe_str pa_nil))) (pe_cl c__law_draw hr (by omega) (pa_cons (pv 0) (pa_cons pe_int pa_nil))) (fun _ _ => rfl)) (pa_cons (pe_cl c__law_draw hr (by omega) (pa_cons (pv 0) (pa_cons pe_int pa_nil))) pa_nil))))
      (pss_cons (ps_if (pt_cmpR op_eq (pe_cl c__law_draw hr (by omega) (pa_cons (pv 0) (pa_cons pe_int pa_nil))) pe_int (by first | exact nomark _ | rfl)) (pss_one (ps_set (i := 2) sc__law_kind.nd rfl (by first | exact Or.inl rfl | exact Or.inr rfl) pe_str)) pss_nil)
      (pss_one (ps_ret (pe_tup (pa_cons (pe_ix ix_list (pe_lst (pa_cons pe_str (pa_cons pe_str (pa_cons pe_str pa_nil)))) (pe_cl c__law_draw hr (by omega) (pa_cons (pv 0) (pa_cons pe_int pa_nil))) (fun _ _ => rfl)) (pa_cons (pv 1) (pa_cons (pv 2) pa_nil))))))))), ?_⟩
    have nn : ∀ {x : Addr}, x ∉ ([] : List Addr) := fun m => nomatch m
    have one : b ∈ [b] := List.mem_singleton.mpr rfl
    refine ⟨(by show 8 ≤ sizeLine; decide), fun l nl => ?_⟩
    have S1 : Stp [b] H (upd H l (.lst [.int 0, .int 1, .int 2, .int 3, .int 4, .int 5, .int 6, .str "lost"])) := Stp.new nl _
    have B1 := B.upd (o := .lst [.int 0, .int 1, .int 2, .int 3, .int 4, .int 5, .int 6, .str "lost"]) (B.ne nl)
    have hl : (upd H l (.lst [.int 0, .int 1, .int 2, .int 3, .int 4, .int 5, .int 6, .str "lost"])) l = some (.lst [.int 0, .int 1, .int 2, .int 3, .int 4, .int 5, .int 6, .str "lost"]) := upd_same
    have lb : l ≠ b := (B.ne nl).symm
    generalize upd H l (.lst [.int 0, .int 1, .int 2, .int 3, .int 4, .int 5, .int 6, .str "lost"]) = H1 at *
    refine ⟨_, rfl, b, 8, n, rfl, B1, by omega, by decide, by decide, fun d H2 d0 d1 o2 B2 => ?_⟩
    obtain ⟨lo, hlo, vlo, elo, rlo⟩ := low8 d0 d1
    refine ⟨l, _, d, vlo, rfl, rfl, SqL.of (o2.at hl lb), elo, ?_⟩
    have S2 := S1.trans (o2.stp one)
    -- high
    refine ⟨(by show 2 ≤ sizeLine; decide), fun l2 nl2 => ?_⟩
    have S3 : Stp [b] H2 (upd H2 l2 (.lst [.str "cut", .str "beyond"])) := Stp.new nl2 _
    have B3 := B2.upd (o := .lst [.str "cut", .str "beyond"]) (B2.ne nl2)
    have hl2 : (upd H2 l2 (.lst [.str "cut", .str "beyond"])) l2 = some (.lst [.str "cut", .str "beyond"]) := upd_same
    have lb2 : l2 ≠ b := (B2.ne nl2).symm
    generalize upd H2 l2 (.lst [.str "cut", .str "beyond"]) = H3 at *
    refine ⟨_, rfl, b, 2, _, rfl, B3, by omega, by decide, by decide, fun e H4 e0 e1 o4 B4 => ?_⟩
    obtain ⟨kw, hkw, ekw⟩ := words2 e0 e1
    refine ⟨l2, _, e, _, rfl, rfl, SqL.of (o4.at hl2 lb2), ekw, ?_⟩
    refine ⟨_, rfl, b, 7, _, rfl, B4, by omega, by decide, by decide, fun z H5 z0 z1 o5 B5 => ?_⟩
    obtain ⟨m, rfl⟩ := Int.eq_ofNat_of_zero_le z0
    refine ⟨(by show 2 ≤ sizeLine; decide), fun t nt => ?_⟩
    have S6 : Stp [] H5 (upd H5 t (.tup [.str (wy kw), .int (m : Int)])) := Stp.new nt _
    have B6 := B5.upd (o := .tup [.str (wy kw), .int (m : Int)]) (B5.ne nt)
    have rh : Rv K [b] (upd H5 t (.tup [.str (wy kw), .int (m : Int)])) (.ref t) (hiD (some (kw, m))) := Rv.newT nt (.cons (Rv.lit _ (wy_len kw)) (.cons (.int _) .nil)) (by simp)
    have S26 : Stp [b] H (upd H5 t (.tup [.str (wy kw), .int (m : Int)])) := (((S2.trans S3).trans (o4.stp one)).trans (o5.stp one)).trans S6.nil
    generalize upd H5 t (.tup [.str (wy kw), .int (m : Int)]) = H6 at *
    dsimp only [gName]
    refine seq_end (fun σ' H' => ∃ (vh : V) (hi : Option (Nat × Nat)), σ' = [some (.ref b), some vlo, some vh] ∧ (∀ k n, hi = some (k, n) → k < 2 ∧ n ≤ 6) ∧ Rv K [b] H' vh (hiD hi) ∧ Stp [b] H H' ∧ Bag H' b (n + 5)) ?_ (fun fin => ?_)
    rotate_left
    · refine ⟨_, rfl, b, 6, _, rfl, B6, by omega, by decide, by decide, fun y H7 y0 y1 o7 B7 => ?_⟩
      have ls6 : Lsts H6 [b] := by
        obtain ⟨x1, x2, x3, hb, _⟩ := B6
        exact .one hb
      refine ⟨rfl, _, rfl, ite2 (fun h => ?_) (fun h => ?_)⟩
      · exact fin _ _ ⟨_, none, rfl, fun _ _ e => (nomatch e), Rv.lit "lost", S26.trans (o7.stp one), B7.mono (by omega)⟩
      · exact fin _ _ ⟨_, some (kw, m), rfl, fun _ _ e => by cases e; exact ⟨hkw, by omega⟩, rh.stp (o7.stp one) ls6, S26.trans (o7.stp one), B7.mono (by omega)⟩
    rintro σ H7 ⟨vh, hi, rfl, okh, rh7, S7, B7⟩
    refine ⟨(by show 3 ≤ sizeLine; decide), fun l3 nl3 => ?_⟩
    have S8 : Stp [] H7 (upd H7 l3 (.lst [.str "many", .str "some", .str "hidden"])) := Stp.new nl3 _
    have B8 := B7.upd (o := .lst [.str "many", .str "some", .str "hidden"]) (B7.ne nl3)
    have hl3 : (upd H7 l3 (.lst [.str "many", .str "some", .str "hidden"])) l3 = some (.lst [.str "many", .str "some", .str "hidden"]) := upd_same
    have lb3 : l3 ≠ b := (B7.ne nl3).symm
    have rh8 := rh7.up S8
    generalize upd H7 l3 (.lst [.str "many", .str "some", .str "hidden"]) = H8 at *
    refine ⟨_, rfl, b, 3, _, rfl, B8, by omega, by decide, by decide, fun y H9 y0 y1 o9 B9 => ?_⟩
    obtain ⟨kw3, hkw3, ekw3⟩ := words3 y0 y1
    refine ⟨l3, _, y, _, rfl, rfl, SqL.of (o9.at hl3 lb3), ekw3, ?_⟩
    have ls8 : Lsts H8 [b] := by
      obtain ⟨x1, x2, x3, hb, _⟩ := B8
      exact .one hb
    have rh9 := rh8.stp (o9.stp one) ls8
    refine ⟨_, rfl, _, rfl, (by show 3 ≤ sizeLine; decide), fun t2 nt2 => ?_⟩
    refine k _ ⟨kw3, lo, hi⟩ _ (((S7.trans S8.nil).trans (o9.stp one)).new' nt2) ((B9.upd (B9.ne nt2)).mono (by omega)) ⟨hkw3, hlo, okh⟩ ?_
    exact Rv.newT nt2 (.cons (Rv.lit _ (lk_len kw3)) (.cons (rlo _ _ _) (.cons (Rv.any rh9 (by cases hi <;> rfl)) .nil))) (by simp)
/-! ### how many signs -/
def dg (i : Int) : Nat := (Str.ofString (toString i)).length
theorem dg_le {i : Int} (h : i.natAbs < 10 ^ 10) : dg i ≤ 11 := by
  have e := int_text_length_le10 (k := 10) (by decide) h
  show (Str.ofString (toString i)).length ≤ 11
  rw [PySem.ofString_length]
  omega
theorem log2_ok {i : Int} (h : i.natAbs < 10 ^ 10) : i.natAbs.log2 < 1920 := by
  by_cases z : i.natAbs = 0
  · rw [z]; decide
  · exact (Nat.log2_lt z).mpr (Nat.lt_trans h (by decide +kernel))
def vsg : Option (List Nat) → Nat
  | none => 1
  | some l => l.length + 1
def lsg : Nat → Nat → Nat
  | 0, m => dg (m : Int)
  | 1, _ => 1
  | _, _ => 0
def nsg (r : Ru) (os : List (Option (List Nat))) : Nat := dg (os.length : Int) + lsg r.lacks (gone os) + vsg (lowO r.low (txs os)) + vsg (highO r.high (txs os))
def spDigits : Sp := fun vs H Q _ => ∃ i : Int, vs = [.int i] ∧ i.natAbs < 10 ^ 10 ∧ Q (.int (dg i : Int)) H
theorem cl_digits {f : Addr} {fd : FuncData} (D : Df K mg "digits" s_digits ["number"] f fd) (T : Nm mg) : Cl P w K mg base 1 "digits" s_digits ["number"] spDigits := by
  refine D.cl sc_digits (fun vs H Q E h => ?_) (fun cdv A outer s H vs Q E hr h => ?_)
  · obtain ⟨i, rfl, _⟩ := h
    rfl
  · obtain ⟨i, rfl, hi, k⟩ := h
    refine ⟨_, (pss_one (ps_ret (pe_callB call_len_str (by rfl) T.n_len (by decide +kernel) (pa_cons (pe_callTy call_str_int (by rfl) T.n_str (by decide +kernel) (pa_cons (pv 0) pa_nil)) pa_nil)))), ?_⟩
    exact ⟨_, rfl, i, rfl, log2_ok hi, Str.ofString (toString i), rfl, sz (by have := dg_le hi; unfold dg at this; omega), k⟩
def spVsg : Sp := fun vs H Q _ => ∃ o : Option (List Nat), vs = [vV o] ∧ (∀ l, o = some l → l.length ≤ 1000) ∧ Q (.int (vsg o : Int)) H
theorem cl_value_signs {f : Addr} {fd : FuncData} (D : Df K mg "value_signs" s_value_signs ["value"] f fd) (T : Nm mg) : Cl P w K mg base 1 "value_signs" s_value_signs ["value"] spVsg := by
  refine D.cl sc_value_signs (fun vs H Q E h => ?_) (fun cdv A outer s H vs Q E hr h => ?_)
  · obtain ⟨o, rfl, _⟩ := h
    rfl
  · obtain ⟨o, rfl, ho, k⟩ := h
    refine ⟨_, (pss_one (ps_ret (pe_ifExp (pt_cmpR op_isN (pv 0) pe_non (by first | exact nomark _ | rfl)) pe_int (pe_op op_add (pe_callB call_len_str (by rfl) T.n_len (by decide +kernel) (pa_cons (pv 0) pa_nil)) pe_int)))), ?_⟩
    cases o with
    | none => exact ⟨_, rfl, rfl, _, rfl, ite2 (fun _ => k) (fun h => absurd rfl h)⟩
    | some l =>
      refine ⟨_, rfl, rfl, _, rfl, ite2 (fun h => absurd h (by simp [vV])) (fun _ => ?_)⟩
      have := ho l rfl
      refine ⟨_, rfl, tx l, rfl, szt (by omega), _, _, rfl, rfl, ?_⟩
      dsimp only
      rw [tx_len]
      exact k
def spLsg (K : PySem.W.Frag) : Sp := fun vs H Q _ => ∃ (v : V) (j m : Nat), vs = [v] ∧ Rv K [] H v (lacksD j m) ∧ m ≤ 5000 ∧ Q (.int (lsg j m : Int)) H
theorem cl_lacks_signs {f : Addr} {fd : FuncData} (D : Df K mg "lacks_signs" s_lacks_signs ["lacks"] f fd) (T : Nm mg) (c_digits : Cl P w K mg base 1 "digits" s_digits ["number"] spDigits) : Cl P w K mg base 2 "lacks_signs" s_lacks_signs ["lacks"] (spLsg K) := by
  refine D.cl sc_lacks_signs (fun vs H Q E h => ?_) (fun cdv A outer s H vs Q E hr h => ?_)
  · obtain ⟨v, j, m, rfl, _⟩ := h
    rfl
  · obtain ⟨v, j, m, rfl, r, hm, k⟩ := h
    refine ⟨_, (pss_cons (ps_if (pt_cmpR op_isN (pv 0) pe_non (by first | exact nomark _ | rfl)) (pss_one (ps_ret pe_int)) pss_nil)
      (pss_one (ps_ret (pe_ifExp (pt_tyIs (T := "bool") Mono.var (pv 0) T.n_type T.n_bool (by decide +kernel)) pe_int (pe_cl c_digits hr (by omega) (pa_cons (pv 0) pa_nil)))))), ?_⟩
    match j, r, k with
    | 0, r, k =>
      have r' : Rv K [] H v (.int (m : Int)) := r
      cases r'
      refine ⟨_, rfl, rfl, _, rfl, ite2 (fun h => absurd h (by simp)) (fun _ => ?_)⟩
      refine ⟨_, rfl, _, .int _, ite2 (fun h => absurd h (by simp [Dt.ty])) (fun _ => ?_)⟩
      exact ⟨_, rfl, (m : Int), rfl, by omega, k⟩
    | 1, r, k =>
      have r' : Rv K [] H v (.bl (decide ((m : Int) > 0))) := r
      cases r'
      refine ⟨_, rfl, rfl, _, rfl, ite2 (fun h => absurd h (by simp)) (fun _ => ?_)⟩
      exact ⟨_, rfl, _, .bl _, ite2 (fun _ => k) (fun h => absurd rfl h)⟩
    | j + 2, r, k =>
      have r' : Rv K [] H v .non := r
      cases r'
      exact ⟨_, rfl, rfl, _, rfl, ite2 (fun _ => k) (fun h => absurd rfl h)⟩
def spNsg (K : PySem.W.Frag) : Sp := fun vs H Q _ => ∃ (v : V) (p : Addr) (r : Ru) (os : List (Option (List Nat))), vs = [v, .ref p] ∧ Rv K [] H v (ruD r) ∧ RuOk r ∧ H p = some (.lst (os.map vV)) ∧ Col os ∧ 0 < os.length ∧
  ∀ H', Stp [] H H' → Q (.int (nsg r os : Int)) H'
theorem RvL.four {K : PySem.W.Frag} {S : List Addr} {H : Hp} {vs : List V} {a b c d : D} (r : RvL K S H vs [a, b, c, d]) : ∃ u v w x, vs = [u, v, w, x] ∧ Rv K S H u a ∧ Rv K S H v b ∧ Rv K S H w c ∧ Rv K S H x d := by
  cases r with
  | cons h1 r => cases r with
    | cons h2 r => cases r with
      | cons h3 r => cases r with
        | cons h4 r => cases r; exact ⟨_, _, _, _, rfl, h1, h2, h3, h4⟩
theorem vD_v {K : PySem.W.Frag} {S : List Addr} {H : Hp} {v : V} {o : Option (List Nat)} (h : Rv K S H v (vD o)) : v = vV o := by
  cases o with
  | none => have h' : Rv K S H v .non := h; cases h'; rfl
  | some l => have h' : Rv K S H v (.str l) := h; cases h'; rfl
theorem cl_note_signs {f : Addr} {fd : FuncData} (D : Df K mg "note_signs" s_note_signs ["rule", "page"] f fd) (T : Nm mg) (c_note : Cl P w K mg base 5 "note" s_note ["rule", "page"] (spNote K)) (c_digits : Cl P w K mg base 1 "digits" s_digits ["number"] spDigits)
    (c_lacks_signs : Cl P w K mg base 2 "lacks_signs" s_lacks_signs ["lacks"] (spLsg K)) (c_value_signs : Cl P w K mg base 1 "value_signs" s_value_signs ["value"] spVsg) : Cl P w K mg base 6 "note_signs" s_note_signs ["rule", "page"] (spNsg K) := by
  refine D.cl sc_note_signs (fun vs H Q E h => ?_) (fun cdv A outer s H vs Q E hr h => ?_)
  · obtain ⟨v, p, r, os, rfl, _⟩ := h
    rfl
  · obtain ⟨v, p, r, os, rfl, rv, ok, hp, col, pos, k⟩ := h
    refine ⟨_, (pss_cons (ps_asg (pe_cl c_note hr (by omega) (pa_cons (pv 0) (pa_cons (pv 1) pa_nil))) (pg_tup rfl (pgs_cons (pg_name (i := 2) sc_note_signs.nd rfl (by first | exact Or.inl rfl | exact Or.inr rfl)) (pgs_cons (pg_name (i := 3) sc_note_signs.nd rfl (by first | exact Or.inl rfl | exact Or.inr rfl)) (pgs_cons (pg_name (i := 4) sc_note_signs.nd rfl (by first | exact Or.inl rfl | exact Or.inr rfl)) (pgs_cons (pg_name (i := 5) sc_note_signs.nd rfl (by first | exact Or.inl rfl | exact Or.inr rfl)) pgs_nil (by rfl)) (by rfl)) (by rfl)) (by rfl)) (by rfl) (by rfl)))
      (pss_one (ps_ret (pe_op op_add (pe_op op_add (pe_op op_add (pe_cl c_digits hr (by omega) (pa_cons (pv 2) pa_nil)) (pe_cl c_lacks_signs hr (by omega) (pa_cons (pv 3) pa_nil))) (pe_cl c_value_signs hr (by omega) (pa_cons (pv 4) pa_nil))) (pe_cl c_value_signs hr (by omega) (pa_cons (pv 5) pa_nil)))))), ?_⟩
    have few := col.few
    refine ⟨_, rfl, _, rfl, v, p, r, os, rfl, rv, ok, hp, col, pos, fun u H1 S1 ru => ?_⟩
    obtain ⟨t, vs, rfl, ht, _, rl⟩ := Pv.Rv.tupE (ru : Rv K [] H1 u (.tup [.int (os.length : Int), lacksD r.lacks (gone os), vD (lowO r.low (txs os)), vD (highO r.high (txs os))]))
    obtain ⟨u1, u2, u3, u4, rfl, r1, r2, r3, r4⟩ := RvL.four rl
    cases r1
    obtain rfl := vD_v r3
    obtain rfl := vD_v r4
    refine ⟨t, _, rfl, ht, rfl, _, _, rfl, _, _, rfl, _, _, rfl, _, _, rfl, rfl, ?_⟩
    refine ⟨_, rfl, (os.length : Int), rfl, by omega, ?_⟩
    refine ⟨_, rfl, u2, r.lacks, gone os, rfl, r2, by unfold gone; omega, _, _, rfl, rfl, ?_⟩
    refine ⟨_, rfl, lowO r.low (txs os), rfl, fun l e => (col_lows col e).2, _, _, rfl, rfl, ?_⟩
    refine ⟨_, rfl, highO r.high (txs os), rfl, fun l e => (col_highs col e).2, _, _, rfl, rfl, ?_⟩
    have e := k H1 S1
    unfold nsg at e
    rw [Int.natCast_add, Int.natCast_add, Int.natCast_add] at e
    exact e
abbrev s__law_word : Stmt := topS 62
abbrev N__law_word : List Str := ["thing"]
theorem sc__law_word : FnScope ["thing"] ["thing"] (defScope s__law_word) := ⟨rfl, rfl, rfl, by decide +kernel, rfl, by decide +kernel, by decide +kernel⟩

abbrev s__law_noted : Stmt := topS 64
abbrev N__law_noted : List Str := ["kind", "sheet", "texts", "gone", "low", "high", "lacks", "thing"]
theorem sc__law_noted : FnScope ["kind", "sheet", "texts", "gone", "low", "high", "lacks", "thing"] ["kind", "sheet"] (defScope s__law_noted) := ⟨rfl, rfl, rfl, by decide +kernel, rfl, by decide +kernel, by decide +kernel⟩

/-! ### the law's own count of the signs of a note -/
def wdS : Option (List Nat) → Str
  | none => "-"
  | some l => tx (l ++ [46])
theorem wdS_len (o : Option (List Nat)) : (wdS o).length = vsg o := by
  cases o with
  | none => decide +kernel
  | some l => show (tx (l ++ [46])).length = _; rw [tx_len, List.length_append]; rfl
def spWord : Sp := fun vs H Q _ => ∃ o : Option (List Nat), vs = [vV o] ∧ (∀ l, o = some l → l.length ≤ 1000) ∧ Q (.str (wdS o)) H
theorem dot_lit : ("." : Str) = tx [46] := by decide +kernel
theorem cl__law_word {f : Addr} {fd : FuncData} (D : Df K mg "_law_word" s__law_word ["thing"] f fd) (T : Nm mg) : Cl P w K mg base 1 "_law_word" s__law_word ["thing"] spWord := by
  refine D.cl sc__law_word (fun vs H Q E h => ?_) (fun cdv A outer s H vs Q E hr h => ?_)
  · obtain ⟨o, rfl, _⟩ := h
    rfl
  · obtain ⟨o, rfl, ho, k⟩ := h
    refine ⟨_, (pss_one (ps_ret (pe_ifExp (pt_cmpR op_isN (pv 0) pe_non (by first | exact nomark _ | rfl)) pe_str (pe_op op_add_str (pv 0) pe_str)))), ?_⟩
    cases o with
    | none => exact ⟨_, rfl, rfl, _, rfl, ite2 (fun _ => k) (fun h => absurd rfl h)⟩
    | some l =>
      refine ⟨_, rfl, rfl, _, rfl, ite2 (fun h => absurd h (by simp [vV])) (fun _ => ?_)⟩
      have := ho l rfl
      refine ⟨_, rfl, tx l, tx [46], rfl, congrArg V.str dot_lit, (by rw [tx_len, tx_len]; exact sz (by simp; omega)), ?_⟩
      rw [tx_app]
      exact k
/-- the texts of a sheet: a new list of them -/
theorem lc_txs {K : PySem.W.Frag} {p L : Addr} {os : List (Option (List Nat))} {H : Hp} {σ : L2.St} {vs : List Nat} {Qd : Hp → Prop} {g : TG} {tt : TT} {te : TE} (nL : H L = none) (hp : H p = some (.lst (os.map vV))) (few : os.length ≤ 5000)
    (step : ∀ (o : Option (List Nat)) H', ∀ R : V → Hp → Prop, ∀ R0 : Hp → Prop, (∀ l, o = some l → R (Tx l) H') → (o = none → R0 H') → g (vV o) (wipe σ vs) H' fun σ2 H2 => wipe σ2 vs = wipe σ vs ∧ tt σ2 H2 fun b H3 => if b = true then te σ2 H3 R else R0 H3)
    (hd : ∀ H', H' L = some (.lst ((txs os).map Tx)) → Stp [] H H' → Qd H') :
    ∃ W : Nat → Nat → Hp → Prop, (∃ m, W 0 m (upd H L (.lst []))) ∧ ∀ i m H, W i m H →
      ((Itl K p).stop i H ∧ Qd H) ∨ ((Itl K p).go i H ∧ ∃ Nx : Hp → Prop, (∀ H', Nx H' → ∃ m', m' < m ∧ W (i + 1) m' H') ∧ ∀ x H', (Itl K p).yld i H x H' → g x (wipe σ vs) H' fun σ2 H2 => wipe σ2 vs = wipe σ vs ∧ tt σ2 H2 fun b H3 =>
        if b = true then te σ2 H3 fun y H4 => ∃ acc, H4 L = some (.lst acc) ∧ acc.length < sizeLine ∧ Nx (upd H4 L (.lst (acc ++ [y]))) else Nx H3) := by
  have nn : ∀ {x : Addr}, x ∉ ([] : List Addr) := fun m => nomatch m
  refine lc_list (K := K) (a := p) (xs := os.map vV) (fun i H' => H' L = some (.lst ((txs (os.take i)).map Tx)) ∧ Stp [] H H')
    ⟨upd_same, Stp.new nL _⟩ (fun i H' _ ⟨_, S⟩ => SqL.of (S.kp _ _ nn hp)) ?_ ?_
  · rintro i x H' hi ⟨hL, S'⟩
    rw [List.getElem?_map] at hi
    cases e : os[i]? with
    | none => rw [e] at hi; cases hi
    | some o =>
      rw [e] at hi
      cases hi
      have hil : i < os.length := (List.getElem?_eq_some_iff.mp e).1
      have tk := txs_take e
      refine step o H' _ _ (fun l eo => ?_) (fun eo => ?_)
      · subst eo
        refine ⟨_, hL, ?_, ?_, S'.mut nL⟩
        · rw [List.length_map]
          have := txs_len (os.take i)
          rw [List.length_take] at this
          exact Nat.lt_of_le_of_lt (show (txs (os.take i)).length ≤ 5000 by omega) (by decide)
        · rw [upd_same, tk, List.map_append]
          rfl
      · subst eo
        refine ⟨?_, S'⟩
        rw [tk, Option.toList_none, List.append_nil]
        exact hL
  · rintro H3 ⟨hL, S3⟩
    rw [List.length_map, List.take_length] at hL
    exact hd H3 hL S3
/-- a place of the rule -/
theorem ruD_stp {K : PySem.W.Frag} {H H' : Hp} {v : V} {r : Ru} (rv : Rv K [] H v (ruD r)) (S : Stp [] H H') : Rv K [] H' v (ruD r) := rv.up S
def spNoted (K : PySem.W.Frag) : Sp := fun vs H Q _ => ∃ (v : V) (p : Addr) (r : Ru) (os : List (Option (List Nat))), vs = [v, .ref p] ∧ Rv K [] H v (ruD r) ∧ RuOk r ∧ H p = some (.lst (os.map vV)) ∧ Col os ∧ os.length < 3000 ∧
  ∀ s H', s.length = nsg r os → Stp [] H H' → Q (.str s) H'
theorem lk_many {k : Nat} : decide (V.str (lk k) = V.str "many") = decide (k = 0) := by
  match k with
  | 0 => rfl
  | 1 => decide +kernel
  | _ + 2 => exact (decide_eq_false (by show ¬ V.str "hidden" = V.str "many"; decide +kernel)).trans (decide_eq_false (by omega)).symm
theorem lk_some {k : Nat} : decide (V.str (lk k) = V.str "some") = decide (k = 1) := by
  match k with
  | 0 => decide +kernel
  | 1 => rfl
  | _ + 2 => exact (decide_eq_false (by show ¬ V.str "hidden" = V.str "some"; decide +kernel)).trans (decide_eq_false (by omega)).symm
theorem strs_len {a b : Str} : (a ++ b).length = a.length + b.length := PySem.strLen_append a b
theorem cl__law_noted {f : Addr} {fd : FuncData} (D : Df K mg "_law_noted" s__law_noted ["kind", "sheet"] f fd) (T : Nm mg) (c__law_past : Cl P w K mg base 1 "_law_past" s__law_past ["word"] spPastX) (c__law_word : Cl P w K mg base 1 "_law_word" s__law_word ["thing"] spWord) :
    Cl P w K mg base 2 "_law_noted" s__law_noted ["kind", "sheet"] (spNoted K) := by
  refine D.cl sc__law_noted (fun vs H Q E h => ?_) (fun cdv A outer s H vs Q E hr h => ?_)
  · obtain ⟨v, p, r, os, rfl, _⟩ := h
    rfl
  · obtain ⟨v, p, r, os, rfl, rv, ok, hp, col, few, k⟩ := h
    refine ⟨_, (pss_cons (ps_set (i := 2) sc__law_noted.nd rfl (by first | exact Or.inl rfl | exact Or.inr rfl) (pe_sortset hr.hd (by rfl) T.n_sorted (by rfl) T.n_set (pe_lc (own := [("thing", 7)]) rfl sc__law_noted.nd (pi_list (pv 1)) (blkOk_by (own := [("thing", 7)]) (N := N__law_noted) (sc := defScope s__law_noted) (by decide +kernel)) (fun _ _ _ _ _ => (pg_name (i := 7) sc__law_noted.nd rfl (by first | exact Or.inl rfl | exact Or.inr rfl))) (fun _ _ _ _ _ => (pts_one (pt_cmpR op_notN (pv 7) pe_non (by first | exact nomark _ | rfl)))) (fun _ _ _ _ _ => (pv 7)))))
      (pss_cons (ps_set (i := 3) sc__law_noted.nd rfl (by first | exact Or.inl rfl | exact Or.inr rfl) (pe_op op_sub (pe_callB call_len_seq (by rfl) T.n_len (by decide +kernel) (pa_cons (pv 1) pa_nil)) (pe_callB call_len_seq (by rfl) T.n_len (by decide +kernel) (pa_cons (pe_lc (own := [("thing", 7)]) rfl sc__law_noted.nd (pi_list (pv 1)) (blkOk_by (own := [("thing", 7)]) (N := N__law_noted) (sc := defScope s__law_noted) (by decide +kernel)) (fun _ _ _ _ _ => (pg_name (i := 7) sc__law_noted.nd rfl (by first | exact Or.inl rfl | exact Or.inr rfl))) (fun _ _ _ _ _ => (pts_one (pt_cmpR op_notN (pv 7) pe_non (by first | exact nomark _ | rfl)))) (fun _ _ _ _ _ => (pv 7))) pa_nil))))
      (pss_cons (ps_asg (pe_tup (pa_cons pe_non (pa_cons pe_non pa_nil))) (pg_tup rfl (pgs_cons (pg_name (i := 4) sc__law_noted.nd rfl (by first | exact Or.inl rfl | exact Or.inr rfl)) (pgs_cons (pg_name (i := 5) sc__law_noted.nd rfl (by first | exact Or.inl rfl | exact Or.inr rfl)) pgs_nil (by rfl)) (by rfl)) (by rfl) (by rfl)))
      (pss_cons (ps_if (PW.pt (pw_and (pt_cmpR (Pv.op_neNil hr.units) (pv 2) (pe_lst pa_nil) (by first | exact nomark _ | rfl)) (pw_and1 (pt_cmpR op_ne (pe_ix ix_tup (pv 0) pe_int (fun _ _ => rfl)) pe_str (by first | exact nomark _ | rfl))))) (pss_one (ps_set (i := 4) sc__law_noted.nd rfl (by first | exact Or.inl rfl | exact Or.inr rfl) (pe_slice sl_str (pe_ix ix_list (pv 2) pe_int (fun _ _ => rfl)) po_none (po_some (pe_ix ix_tup (pv 0) pe_int (fun _ _ => rfl)))))) pss_nil)
      (pss_cons (ps_if (PW.pt (pw_and (pt_cmpR (Pv.op_neNil hr.units) (pv 2) (pe_lst pa_nil) (by first | exact nomark _ | rfl)) (pw_and1 (pt_cmpR (op_neD hr.units) (pe_ix ix_tup (pv 0) pe_int (fun _ _ => rfl)) pe_str (by first | exact nomark _ | rfl))))) (pss_cons (ps_set (i := 5) sc__law_noted.nd rfl (by first | exact Or.inl rfl | exact Or.inr rfl) (pe_ix ix_list (pv 2) (pe_op op_sub (pe_callB call_len_seq (by rfl) T.n_len (by decide +kernel) (pa_cons (pv 2) pa_nil)) pe_int) (fun _ _ => rfl)))
      (pss_one (ps_if (pt_cmpR op_gt (pe_callB call_len_str (by rfl) T.n_len (by decide +kernel) (pa_cons (pv 5) pa_nil)) (pe_ix ix_tup (pe_ix ix_tup (pv 0) pe_int (fun _ _ => rfl)) pe_int (fun _ _ => rfl)) (by first | exact nomark _ | rfl)) (pss_cons (ps_set (i := 5) sc__law_noted.nd rfl (by first | exact Or.inl rfl | exact Or.inr rfl) (pe_slice sl_str (pv 5) po_none (po_some (pe_ix ix_tup (pe_ix ix_tup (pv 0) pe_int (fun _ _ => rfl)) pe_int (fun _ _ => rfl)))))
      (pss_one (ps_if (pt_cmpR op_eq (pe_ix ix_tup (pe_ix ix_tup (pv 0) pe_int (fun _ _ => rfl)) pe_int (fun _ _ => rfl)) pe_str (by first | exact nomark _ | rfl)) (pss_one (ps_set (i := 5) sc__law_noted.nd rfl (by first | exact Or.inl rfl | exact Or.inr rfl) (pe_cl c__law_past hr (by omega) (pa_cons (pv 5) pa_nil)))) pss_nil))) pss_nil))) pss_nil)
      (pss_cons (ps_set (i := 6) sc__law_noted.nd rfl (by first | exact Or.inl rfl | exact Or.inr rfl) (pe_ifExp (pt_cmpR op_eq (pe_ix ix_tup (pv 0) pe_int (fun _ _ => rfl)) pe_str (by first | exact nomark _ | rfl)) (pe_callTy call_str_int (by rfl) T.n_str (by decide +kernel) (pa_cons (pv 3) pa_nil)) (pe_ix ix_list (pe_lst (pa_cons pe_str (pa_cons pe_str pa_nil))) (pe_callTy call_int1 (by rfl) T.n_int (by decide +kernel) (pa_cons (pe_cmpR op_eq (pe_ix ix_tup (pv 0) pe_int (fun _ _ => rfl)) pe_str (by first | exact nomark _ | rfl)) pa_nil)) (fun _ _ => rfl))))
      (pss_one (ps_ret (pe_op op_add_str (pe_op op_add_str (pe_op op_add_str (pe_callTy call_str_int (by rfl) T.n_str (by decide +kernel) (pa_cons (pe_callB call_len_seq (by rfl) T.n_len (by decide +kernel) (pa_cons (pv 1) pa_nil)) pa_nil)) (pv 6)) (pe_cl c__law_word hr (by omega) (pa_cons (pv 4) pa_nil))) (pe_cl c__law_word hr (by omega) (pa_cons (pv 5) pa_nil))))))))))), ?_⟩
    have nn : ∀ {x : Addr}, x ∉ ([] : List Addr) := fun m => nomatch m
    have lt := txs_len os
    refine ⟨_, rfl, p, rfl, ⟨_, SqL.of hp⟩, fun L nL => ?_⟩
    refine lc_txs nL hp (by omega) (fun o H' R R0 g1 g0 => ?_) (fun H3 hL S3 => ?_)
    · cases o with
      | none => exact ⟨rfl, _, rfl, rfl, _, rfl, ite2 (fun h => absurd h (by decide)) (fun _ => g0 rfl)⟩
      | some l => exact ⟨rfl, _, rfl, rfl, _, rfl, ite2 (fun _ => ⟨_, rfl, g1 l rfl⟩) (fun h => absurd (by simp [vV]) h)⟩
    refine ⟨L, txs os, rfl, SqL.of hL, by omega, fun zs q pw mem len nq => ?_⟩
    have S4 : Stp [] H3 (upd H3 q (.lst (zs.map Tx))) := Stp.new nq _
    have hq : (upd H3 q (.lst (zs.map Tx))) q = some (.lst (zs.map Tx)) := upd_same
    generalize upd H3 q (.lst (zs.map Tx)) = H4 at *
    have S34 := S3.trans S4
    have hp4 := S34.kp _ _ nn hp
    refine ⟨_, rfl, p, _, rfl, .inl (SqL.of hp4), ?_⟩
    refine ⟨_, rfl, p, rfl, ⟨_, SqL.of hp4⟩, fun L2 nL2 => ?_⟩
    refine lc_txs nL2 hp4 (by omega) (fun o H' R R0 g1 g0 => ?_) (fun H5a hL2 S5 => ?_)
    · cases o with
      | none => exact ⟨rfl, _, rfl, rfl, _, rfl, ite2 (fun h => absurd h (by decide)) (fun _ => g0 rfl)⟩
      | some l => exact ⟨rfl, _, rfl, rfl, _, rfl, ite2 (fun _ => ⟨_, rfl, g1 l rfl⟩) (fun h => absurd (by simp [vV]) h)⟩
    refine ⟨L2, _, rfl, .inl (SqL.of hL2), _, _, rfl, rfl, ?_⟩
    have eg : (((os.map vV).length : Nat) : Int) - ((((txs os).map Tx).length : Nat) : Int) = (gone os : Int) := by
      rw [List.length_map, List.length_map]
      unfold gone
      omega
    dsimp only
    rw [eg]
    have S35 := S34.trans S5
    have hq5 := S5.kp _ _ nn hq
    have hp5 := S5.kp _ _ nn hp4
    obtain ⟨t, u2, u3, ev, ht, r2, r3⟩ := ruD_parts (rv.up S35)
    subst ev
    have same : ∀ x, x ∈ zs ↔ x ∈ txs os := mem
    have asc : Asc zs := ⟨pw.imp fun x => List.le_of_lt x, fun l m => col.ok l (mem_txs.mp ((same l).mp m))⟩
    refine ⟨(by show 2 ≤ sizeLine; decide), fun t9 nt9 => ?_⟩
    have S59 : Stp [] H5a (upd H5a t9 (.tup [.non, .non])) := Stp.new nt9 _
    refine ⟨t9, _, rfl, SqT.of upd_same, rfl, _, _, rfl, _, _, rfl, rfl, ?_⟩
    have hq5 := S59.kp _ _ nn hq5
    have hp5 := S59.kp _ _ nn hp5
    have ht := sqt_stp S59 Lsts.nil ht
    have r2 := r2.up S59
    have r3 := r3.up S59
    have S35 := S35.trans S59
    generalize upd H5a t9 (.tup [.non, .non]) = H5 at *
    -- low
    dsimp only [gName]
    refine seq_end (fun σ' H' => σ' = [some (.ref t), some (.ref p), some (.ref q), some (.int (gone os : Int)), some (vV (lowO r.low zs)), some .non, none, none] ∧ Stp [] H5 H') ?_ (fun fin => ?_)
    rotate_left
    · refine MonoT.cut (t := tAnd _ _) (MonoT.and (MonoT.test (Mono.op' MonoR.neNil Mono.var (Mono.lst MonoA.nil))) (MonoT.test (Mono.op' MonoR.ne (Mono.op' MonoR.ixT Mono.var Mono.c) Mono.c))) (fun b H9 => Stp [] H5 H9 ∧ (b = true → zs ≠ [] ∧ ∃ n, r.low = some n) ∧ (b = false → lowO r.low zs = none)) ?_ ?_
      · refine ⟨_, rfl, Nat.zero_le _, fun e ne => ?_⟩
        have S6 : Stp [] H5 (upd H5 e (.lst [])) := Stp.new ne _
        refine ⟨q, e, _, rfl, rfl, ne_of_none hq5 ne, SqL.of (S6.kp _ _ nn hq5), SqL.of upd_same, _, rfl, ite2 (fun h => ?_) (fun h => ?_)⟩
        · refine ⟨_, rfl, t, _, 1, u2, rfl, rfl, sqt_stp S6 Lsts.nil ht, at1, ?_⟩
          have zne : zs ≠ [] := fun e => by rw [e] at h; exact absurd h (by decide)
          cases hlo : r.low with
          | none =>
            rw [hlo] at r2
            obtain rfl := lo_lost r2
            refine ⟨rfl, _, rfl, S6, fun e => ?_, fun _ => ?_⟩
            · exact absurd e (by decide +kernel)
            · unfold lowO
              split <;> rfl
          | some n =>
            rw [hlo] at r2
            have r2' : Rv K [] H5 u2 (.int (n : Int)) := r2
            cases r2'
            exact ⟨rfl, _, rfl, S6, fun _ => ⟨zne, n, rfl⟩, fun e => absurd e (by simp)⟩
        · refine ⟨S6, fun e => (nomatch e), fun _ => ?_⟩
          have z0 : zs = [] := by
            cases zs with
            | nil => rfl
            | cons _ _ => exact absurd rfl h
          unfold lowO
          rw [if_pos z0]
      rintro b H9 ⟨S9, hb1, hb2⟩
      refine ite2 (fun h => ?_) (fun h => ?_)
      · obtain ⟨zne, n, hn⟩ := hb1 h
        obtain ⟨z, zt, ez⟩ : ∃ z zt, zs = z :: zt := by
          cases zs with
          | nil => exact absurd rfl zne
          | cons z zt => exact ⟨z, zt, rfl⟩
        have hz0 : atI (zs.map Tx) 0 = some (Tx z) := by rw [ez]; exact at0
        have lz := (asc.ok z (by rw [ez]; exact List.mem_cons_self)).2
        refine ⟨_, rfl, q, _, 0, Tx z, rfl, rfl, SqL.of (S9.kp _ _ nn hq5), hz0, ?_⟩
        rw [hn] at r2
        have r2' : Rv K [] H5 u2 (.int (n : Int)) := r2
        cases r2'
        refine ⟨_, rfl, t, _, 1, .int (n : Int), rfl, rfl, sqt_stp S9 Lsts.nil ht, at1, (n : Int), rfl, tx z, rfl, szt (by omega), ?_⟩
        rw [show cutS (tx z) none (some (n : Int)) = _ from tx_upto z n]
        refine fin _ _ ⟨?_, S9⟩
        have e1 : lowO r.low zs = some (z.take n) := by
          unfold lowO
          rw [if_neg zne, hn]
          show some ((mn zs).take n) = _
          rw [ez, ← mn_head (by rw [← ez]; exact asc.pw)]
        rw [e1]
        rfl
      · refine fin _ _ ⟨?_, S9⟩
        rw [hb2 (Bool.eq_false_iff.mpr h)]
        rfl
    rintro σ H6 ⟨rfl, S6⟩
    have hq6 := S6.kp _ _ nn hq5
    have hp6 := S6.kp _ _ nn hp5
    have ht6 := sqt_stp S6 Lsts.nil ht
    have r36 := r3.up S6
    -- high
    refine seq_end (fun σ' H' => σ' = [some (.ref t), some (.ref p), some (.ref q), some (.int (gone os : Int)), some (vV (lowO r.low zs)), some (vV (highO r.high zs)), none, none] ∧ Stp [] H6 H') ?_ (fun fin => ?_)
    rotate_left
    · refine MonoT.cut (t := tAnd _ _) (MonoT.and (MonoT.test (Mono.op' MonoR.neNil Mono.var (Mono.lst MonoA.nil))) (MonoT.test (Mono.op' MonoR.neD (Mono.op' MonoR.ixT Mono.var Mono.c) Mono.c))) (fun b H9 => Stp [] H6 H9 ∧ (b = true → zs ≠ [] ∧ ∃ j n, r.high = some (j, n)) ∧ (b = false → highO r.high zs = none)) ?_ ?_
      · refine ⟨_, rfl, Nat.zero_le _, fun e ne => ?_⟩
        have S7 : Stp [] H6 (upd H6 e (.lst [])) := Stp.new ne _
        refine ⟨q, e, _, rfl, rfl, ne_of_none hq6 ne, SqL.of (S7.kp _ _ nn hq6), SqL.of upd_same, _, rfl, ite2 (fun h => ?_) (fun h => ?_)⟩
        · refine ⟨_, rfl, t, _, 2, u3, rfl, rfl, sqt_stp S7 Lsts.nil ht6, at2, ?_⟩
          have zne : zs ≠ [] := fun e => by rw [e] at h; exact absurd h (by decide)
          cases hhi : r.high with
          | none =>
            rw [hhi] at r36
            have r' : Rv K [] H6 u3 (.str ("lost" : Str).cps.toList) := r36
            obtain rfl : u3 = .str "lost" := by
              cases r'
              exact congrArg V.str (tx_cps _)
            refine ⟨.str "lost", .str "lost", .str _, .str _, by decide +kernel, by decide +kernel, _, rfl, S7, fun e => ?_, fun _ => ?_⟩
            · exact absurd e (by decide +kernel)
            · unfold highO
              split <;> rfl
          | some q2 =>
            obtain ⟨j, n⟩ := q2
            rw [hhi] at r36
            obtain ⟨hj, hn⟩ := ok.high j n hhi
            exact ⟨hiP j n, .str "lost", hi_dp (r36.up S7) hj hn, lost_dp, hi_shaped hj, lost_shaped, _, rfl, S7, fun _ => ⟨zne, j, n, rfl⟩, fun e => (nomatch (e : true = false))⟩
        · refine ⟨S7, fun e => (nomatch e), fun _ => ?_⟩
          have z0 : zs = [] := by
            cases zs with
            | nil => rfl
            | cons _ _ => exact absurd rfl h
          unfold highO
          rw [if_pos z0]
      rintro b H9 ⟨S9, hb1, hb2⟩
      refine ite2 (fun h => ?_) (fun h => ?_)
      · obtain ⟨zne, j, n, hhi⟩ := hb1 h
        obtain ⟨hj, hn⟩ := ok.high j n hhi
        obtain ⟨yi, y, ey⟩ : ∃ yi y, zs = yi ++ [y] := by
          rcases List.eq_nil_or_concat zs with e | ⟨a, b, e⟩
          · exact absurd e zne
          · exact ⟨a, b, by rw [e, List.concat_eq_append]⟩
        have hy0 : atI (zs.map Tx) (((zs.map Tx).length : Int) - 1) = some (Tx y) := by
          rw [ey, List.length_map, List.length_append, List.length_singleton]
          refine (congrArg _ (show ((yi.length + 1 : Nat) : Int) - 1 = ((yi.length : Nat) : Int) by omega)).trans (atI_nat ?_)
          rw [List.getElem?_map, List.getElem?_append_right (Nat.le_refl _), Nat.sub_self]
          rfl
        have cy := asc.ok y (by rw [ey]; simp)
        have e1 : highO r.high zs = highT (some (j, n)) y := by
          unfold highO
          rw [if_neg zne, hhi, ey, ← mx_last (by rw [← ey]; exact asc.pw)]
        rw [hhi] at r36
        obtain ⟨t2, vs2, et2, ht2, _, rl⟩ := Pv.Rv.tupE (r36 : Rv K [] H6 u3 (.tup [wd (wy j), .int (n : Int)]))
        obtain ⟨w1, w2, rfl, r1, r2'⟩ := RvL.two rl
        subst et2
        obtain rfl : w1 = .str (wy j) := by
          have r1' : Rv K [] H6 w1 (.str (wy j).cps.toList) := r1
          cases r1'
          exact congrArg V.str (tx_cps _)
        cases r2'
        have hq9 := S9.kp _ _ nn hq6
        have ht9 := sqt_stp S9 Lsts.nil ht6
        have ht29 := sqt_stp S9 Lsts.nil ht2
        refine ⟨_, rfl, _, rfl, q, _, rfl, .inl (SqL.of hq9), _, _, rfl, rfl, q, _, _, Tx y, rfl, rfl, SqL.of hq9, hy0, ?_⟩
        refine ⟨_, rfl, tx y, rfl, szt (by omega), _, rfl, t, _, 2, .ref t2, rfl, rfl, ht9, at2, t2, _, 1, .int (n : Int), rfl, rfl, ht29, at1, _, _, rfl, rfl, _, rfl, ite2 (fun h2 => ?_) (fun h2 => ?_)⟩
        · have h3 : ¬ y.length ≤ n := by have := of_decide_eq_true h2; rw [tx_len] at this; omega
          have e2 : highT (some (j, n)) y = if j = 0 then some (y.take n) else bey (y.take n) := by
            show (if y.length ≤ n then some y else if j = 0 then some (y.take n) else bey (y.take n)) = _
            rw [if_neg h3]
          refine ⟨_, rfl, _, rfl, t, _, 2, .ref t2, rfl, rfl, ht9, at2, t2, _, 1, .int (n : Int), rfl, rfl, ht29, at1, (n : Int), rfl, tx y, rfl, szt (by omega), ?_⟩
          rw [show cutS (tx y) none (some (n : Int)) = _ from tx_upto y n]
          refine ⟨_, rfl, t, _, 2, .ref t2, rfl, rfl, ht9, at2, t2, _, 0, .str (wy j), rfl, rfl, ht29, at0, rfl, _, rfl, ?_⟩
          rw [wy_eq hj]
          refine ite2 (fun h4 => ?_) (fun h4 => ?_)
          · obtain rfl : j = 1 := of_decide_eq_true h4
            refine ⟨_, rfl, y.take n, rfl, cy.1.take _, by rw [List.length_take]; omega, ?_⟩
            refine fin _ _ ⟨?_, S9⟩
            rw [e1, e2, if_neg (by decide)]
            rfl
          · have hj0 : j = 0 := by
              have : ¬ j = 1 := fun q => h4 (decide_eq_true q)
              omega
            refine fin _ _ ⟨?_, S9⟩
            rw [e1, e2, if_pos hj0]
            rfl
        · have h3 : y.length ≤ n := by
            have : ¬ (n : Int) < ((tx y).length : Int) := fun q => h2 (decide_eq_true q)
            rw [tx_len] at this
            omega
          refine fin _ _ ⟨?_, S9⟩
          rw [e1]
          show _ = [_, _, _, _, _, some (vV (if y.length ≤ n then some y else if j = 0 then some (y.take n) else bey (y.take n))), _, _]
          rw [if_pos h3]
          rfl
      · refine fin _ _ ⟨?_, S9⟩
        rw [hb2 (Bool.eq_false_iff.mpr h)]
        rfl
    rintro σ H7 ⟨rfl, S7⟩
    have hp7 := S7.kp _ _ nn hp6
    have ht7 := sqt_stp S7 Lsts.nil ht6
    have gl : gone os ≤ 5000 := by unfold gone; omega
    have lows : ∀ l, lowO r.low zs = some l → l.length ≤ 1000 := fun l e => (col_lows col (by rw [← lowO_same same]; exact e)).2
    have highs : ∀ l, highO r.high zs = some l → l.length ≤ 1000 := fun l e => (col_highs col (by rw [← highO_same same]; exact e)).2
    refine seq_end (fun σ' H' => ∃ ls : Str, σ' = [some (.ref t), some (.ref p), some (.ref q), some (.int (gone os : Int)), some (vV (lowO r.low zs)), some (vV (highO r.high zs)), some (.str ls), none] ∧ ls.length = lsg r.lacks (gone os) ∧ Stp [] H7 H') ?_ (fun fin => ?_)
    rotate_left
    · refine ⟨_, rfl, t, _, 0, .str (lk r.lacks), rfl, rfl, ht7, at0, rfl, _, rfl, ?_⟩
      rw [lk_many]
      refine ite2 (fun h => ?_) (fun h => ?_)
      · have h0 : r.lacks = 0 := of_decide_eq_true h
        refine ⟨_, rfl, _, rfl, log2_ok (by omega), fin _ _ ⟨_, rfl, ?_, Stp.refl _ _⟩⟩
        rw [h0]
        rfl
      · have h0 : ¬ r.lacks = 0 := fun q => h (decide_eq_true q)
        refine ⟨(by show 2 ≤ sizeLine; decide), fun l nl => ?_⟩
        have S8 : Stp [] H7 (upd H7 l (.lst [.str "", .str "!"])) := Stp.new nl _
        refine ⟨_, rfl, t, _, 0, .str (lk r.lacks), rfl, rfl, sqt_stp S8 Lsts.nil ht7, at0, rfl, ?_⟩
        rw [lk_some]
        refine .inr ⟨_, rfl, ?_⟩
        by_cases h1 : r.lacks = 1
        · rw [decide_eq_true h1]
          refine ⟨l, _, 1, .str "!", rfl, rfl, SqL.of upd_same, at1, fin _ _ ⟨_, rfl, ?_, S8⟩⟩
          rw [h1]
          show (Str.ofString "!").length = 1
          decide +kernel
        · rw [decide_eq_false h1]
          refine ⟨l, _, 0, .str "", rfl, rfl, SqL.of upd_same, at0, fin _ _ ⟨_, rfl, ?_, S8⟩⟩
          have h2 : r.lacks = 2 := by have := ok.lacks; omega
          rw [h2]
          show (Str.ofString "").length = 0
          decide +kernel
    rintro σ H8 ⟨ls, rfl, els, S8⟩
    have hp8 := S8.kp _ _ nn hp7
    have S58 := (S6.trans S7).trans S8
    have dl : dg (os.length : Int) ≤ 11 := dg_le (by omega)
    have ll : lsg r.lacks (gone os) ≤ 11 := by
      unfold lsg
      split
      · exact dg_le (by omega)
      · omega
      · omega
    have vl : ∀ {o : Option (List Nat)}, (∀ l, o = some l → l.length ≤ 1000) → vsg o ≤ 1001 := fun {o} h => by
      cases o with
      | none => show 1 ≤ 1001; decide
      | some l => have := h l rfl; show l.length + 1 ≤ 1001; omega
    have v1 := vl lows
    have v2 := vl highs
    have w1 := wdS_len (lowO r.low zs)
    have w2 := wdS_len (highO r.high zs)
    refine ⟨_, rfl, p, _, rfl, .inl (SqL.of hp8), _, rfl, log2_ok (by rw [List.length_map]; omega), ?_⟩
    rw [List.length_map]
    have edl : (Str.ofString (toString (os.length : Int))).length = dg (os.length : Int) := rfl
    refine ⟨_, rfl, Str.ofString (toString (os.length : Int)), ls, rfl, rfl, sz (by rw [edl, els]; omega), ?_⟩
    refine ⟨_, rfl, lowO r.low zs, rfl, lows, Str.ofString (toString (os.length : Int)) ++ ls, wdS (lowO r.low zs), rfl, rfl, sz (by rw [strs_len, edl, els, w1]; omega), ?_⟩
    refine ⟨_, rfl, highO r.high zs, rfl, highs, Str.ofString (toString (os.length : Int)) ++ ls ++ wdS (lowO r.low zs), wdS (highO r.high zs), rfl, rfl, sz (by rw [strs_len, strs_len, edl, els, w1, w2]; omega), ?_⟩
    refine k _ H8 ?_ (S35.trans S58)
    rw [strs_len, strs_len, strs_len, edl, els, w1, w2, lowO_same same, highO_same same]
    rfl
/-! ### is_text -/
def IsTx (d : Dt) : Prop := ∃ l, d = .str l ∧ Abc l
def spIsText (K : PySem.W.Frag) : Sp := fun vs H Q _ => ∃ v d, vs = [v] ∧ Rp K H v d ∧ ∀ b : Bool, (b = true ↔ IsTx d) → Q (.bl b) H
theorem cl_is_textF {f : Addr} {fd : FuncData} (D : Df K mg "is_text" s_is_text ["value"] f fd) (T : Nm mg) : Cl P w K mg base 1 "is_text" s_is_text ["value"] (spIsText K) := by
  refine D.cl sc_is_text (fun vs H Q E h => ?_) (fun cdv A outer s H vs Q E hr h => ?_)
  · obtain ⟨v, d, rfl, _⟩ := h
    rfl
  · obtain ⟨v, d, rfl, r, k⟩ := h
    refine ⟨_, (pss_one (ps_ret (pe_and (pe_tyIs (T := "str") Mono.var (pv 0) T.n_type T.n_str (by decide +kernel)) (pe_one (pe_cmpR op_eq (pe_bm PySem.F.plainAttrs_str PySem.F.slot_str_strip PySem.F.type_str_strip mt_stripChars (pv 0) (pa_cons pe_str pa_nil)) pe_str (by first | exact nomark _ | rfl)))))), ?_⟩
    have no : (∀ l, d ≠ .str l) → Q (.bl false) H := fun n => k false ⟨fun e => (nomatch e), fun ⟨l, e, _⟩ => absurd e (n l)⟩
    refine ⟨_, rfl, d, r, _, rfl, ?_⟩
    cases r with
    | str l hl =>
      refine ⟨_, rfl, rfl, tx l, ("abc" : Str), rfl, rfl, szt hl, rfl, ?_⟩
      refine k _ ?_
      rw [abc_lit, nil_lit]
      constructor
      · intro h
        exact ⟨l, rfl, (strip_abc l).mp (V.str.inj (of_decide_eq_true h))⟩
      · rintro ⟨l', e, ha⟩
        cases e
        exact decide_eq_true (congrArg V.str ((strip_abc l).mpr ha))
    | _ => exact no (fun l e => nomatch e)
/-! ### spans: what they are -/
abbrev Txt := List Nat
abbrev Pr := Txt × Option Txt
theorem le_of_nlt {a b : Txt} (h : ¬ b < a) : a ≤ b := List.not_lt.mp h
theorem nlt_of_le {a b : Txt} (h : a ≤ b) : ¬ b < a := List.not_lt.mpr h
theorem lt_le {a b c : Txt} (h : a < b) (g : b ≤ c) : a < c := by
  by_cases q : a < c
  · exact q
  · exact absurd (List.lt_of_le_of_lt (le_of_nlt q) h) (nlt_of_le g)
theorem le_lt {a b c : Txt} (h : a ≤ b) (g : b < c) : a < c := List.lt_of_le_of_lt h g
theorem lt_le' {a b : Txt} (h : a < b) : a ≤ b := List.le_of_lt h
theorem nil_le (a : Txt) : ([] : Txt) ≤ a := le_of_nlt (by intro h; cases h)
def Short (l : Txt) : Prop := Abc l ∧ l.length ≤ 40
def PrOk (p : Pr) : Prop := Short p.1 ∧ ∀ e, p.2 = some e → Short e ∧ p.1 < e
def PrS (p : Pr) : Prop := Short p.1 ∧ ∀ e, p.2 = some e → Short e
theorem PrOk.s {p : Pr} (h : PrOk p) : PrS p := ⟨h.1, fun e q => (h.2 e q).1⟩
def Gap (p q : Pr) : Prop := ∃ e, p.2 = some e ∧ e < q.1
structure SpOk (ps : List Pr) : Prop where
  ok : ∀ p ∈ ps, PrOk p
  gap : ps.Pairwise Gap
theorem SpOk.nil : SpOk [] := ⟨fun _ m => (nomatch m), .nil⟩
theorem SpOk.tail {p : Pr} {ps : List Pr} (h : SpOk (p :: ps)) : SpOk ps := ⟨fun q m => h.ok q (List.mem_cons_of_mem _ m), (List.pairwise_cons.mp h.gap).2⟩
/-- a text stands in a range, in a span -/
def inP (w : Txt) (p : Pr) : Bool := decide (p.1 ≤ w) && (match p.2 with | none => true | some e => decide (w < e))
def inS (ps : List Pr) (w : Txt) : Bool := ps.any (inP w)
theorem inP_low {w : Txt} {p : Pr} (h : w < p.1) : inP w p = false := by
  unfold inP
  rw [decide_eq_false (fun q => nlt_of_le q h)]
  rfl
theorem inS_low {ps : List Pr} {w : Txt} (h : ∀ p ∈ ps, w < p.1) : inS ps w = false := by
  unfold inS
  rw [List.any_eq_false]
  intro p m
  rw [inP_low (h p m)]
  simp
theorem firsts {p : Pr} {ps : List Pr} {w : Txt} (h : SpOk (p :: ps)) (g : w ≤ p.1) : ∀ q ∈ ps, w < q.1 := fun q m => by
  obtain ⟨e, e1, e2⟩ := (List.pairwise_cons.mp h.gap).1 q m
  exact le_lt g (List.lt_trans ((h.ok p List.mem_cons_self).2 e e1).2 e2)
/-- what follows an end -/
def past (e : Option Txt) (g : Txt → List Pr) : List Pr := match e with | none => [] | some e => g e
/-- the gaps behind a start -/
def opps : Txt → List Pr → List Pr
  | a, [] => [(a, none)]
  | a, (f, e) :: ps => (if a < f then [(a, some f)] else []) ++ past e fun e => opps e ps
theorem opps_ok : ∀ (ps : List Pr) (a : Txt), SpOk ps → Short a → (∀ p ∈ ps, a ≤ p.1) → SpOk (opps a ps) ∧ ∀ p ∈ opps a ps, a ≤ p.1
  | [], a, _, sa, _ => ⟨⟨fun p m => by
      rw [List.mem_singleton.mp m]
      exact ⟨sa, fun e q => by cases q⟩, List.pairwise_singleton _ _⟩, fun p m => by
      rw [List.mem_singleton.mp m]
      exact le_of_nlt (List.lt_irrefl _)⟩
  | (f, e) :: ps, a, h, sa, g => by
    have gf : a ≤ f := g (f, e) List.mem_cons_self
    have pf := h.ok (f, e) List.mem_cons_self
    have rest : SpOk (past e fun e => opps e ps) ∧ ∀ p ∈ (past e fun e => opps e ps), f < p.1 := by
      cases e with
      | none => exact ⟨.nil, fun _ m => nomatch m⟩
      | some e =>
        obtain ⟨s1, s2⟩ := pf.2 e rfl
        obtain ⟨r1, r2⟩ := opps_ok ps e h.tail s1 fun q m => by
          obtain ⟨e', q1, q2⟩ := (List.pairwise_cons.mp h.gap).1 q m
          cases q1
          exact lt_le' q2
        exact ⟨r1, fun p m => lt_le s2 (r2 p m)⟩
    unfold opps
    obtain ⟨r1, r2⟩ := rest
    by_cases c : a < f
    · rw [if_pos c]
      refine ⟨⟨fun p m => ?_, List.pairwise_cons.mpr ⟨fun q m => ⟨f, rfl, r2 q m⟩, r1.gap⟩⟩, fun p m => ?_⟩
      · rcases List.mem_cons.mp m with rfl | m
        · exact ⟨sa, fun e q => by cases q; exact ⟨pf.1, c⟩⟩
        · exact r1.ok p m
      · rcases List.mem_cons.mp m with rfl | m
        · exact le_of_nlt (List.lt_irrefl _)
        · exact lt_le' (le_lt gf (r2 p m))
    · rw [if_neg c]
      exact ⟨r1, fun p m => lt_le' (le_lt gf (r2 p m))⟩
theorem opps_in : ∀ (ps : List Pr) (a w : Txt), SpOk ps → Short a → (∀ p ∈ ps, a ≤ p.1) → a ≤ w → inS (opps a ps) w = !inS ps w
  | [], a, w, _, _, _, h => by simp [opps, inS, inP, h]
  | (f, e) :: ps, a, w, h, sa, g, hw => by
    have pf := h.ok (f, e) List.mem_cons_self
    by_cases c : w < f
    · have af : a < f := le_lt hw c
      rw [inS_low (ps := (f, e) :: ps) fun p m => by
        rcases List.mem_cons.mp m with rfl | m
        · exact c
        · exact firsts h (lt_le' c) p m]
      unfold opps inS
      rw [if_pos af, List.any_append]
      simp [inP, hw, c]
    · have fw : f ≤ w := le_of_nlt c
      have e1 : inS (opps a ((f, e) :: ps)) w = inS (past e fun e => opps e ps) w := by
        rw [show opps a ((f, e) :: ps) = (if a < f then [(a, some f)] else []) ++ past e fun e => opps e ps from rfl]
        unfold inS
        rw [List.any_append]
        by_cases q : a < f
        · rw [if_pos q]
          simp [inP, c]
        · rw [if_neg q]
          simp
      rw [e1]
      cases e with
      | none =>
        show false = _
        simp [inS, inP, fw]
      | some e =>
        obtain ⟨s1, s2⟩ := pf.2 e rfl
        have ge : ∀ q ∈ ps, e ≤ q.1 := fun q m => by
          obtain ⟨e', q1, q2⟩ := (List.pairwise_cons.mp h.gap).1 q m
          cases q1
          exact lt_le' q2
        by_cases d : w < e
        · have lo : inS (opps e ps) w = false := inS_low fun p m => lt_le d ((opps_ok ps e h.tail s1 ge).2 p m)
          show inS (opps e ps) w = _
          rw [lo]
          simp [inS, inP, fw, d]
        · show inS (opps e ps) w = _
          rw [opps_in ps e w h.tail s1 ge (le_of_nlt d)]
          simp [inS, inP, fw, d]
theorem opps_len : ∀ (ps : List Pr) (a : Txt), (opps a ps).length ≤ ps.length + 1
  | [], _ => Nat.le_refl _
  | (f, e) :: ps, a => by
    unfold opps
    rw [List.length_append]
    have h1 : (if a < f then [(a, some f)] else [] : List Pr).length ≤ 1 := by split <;> simp
    cases e with
    | none =>
      show _ + 0 ≤ _
      rw [List.length_cons]
      omega
    | some e =>
      have := opps_len ps e
      show _ + (opps e ps).length ≤ _
      rw [List.length_cons]
      omega
theorem le_dec (a b : Txt) : decide (a ≤ b) = !decide (b < a) := by
  by_cases h : b < a
  · rw [decide_eq_true h, decide_eq_false (nlt_of_le · h)]
    rfl
  · rw [decide_eq_false h, decide_eq_true (le_of_nlt h)]
    rfl
/-! ### one normal span for each set of texts -/
theorem le_self (a : Txt) : a ≤ a := le_of_nlt (List.lt_irrefl _)
theorem inP_iff {w : Txt} {p : Pr} : inP w p = true ↔ p.1 ≤ w ∧ ∀ e, p.2 = some e → w < e := by
  obtain ⟨f, e⟩ := p
  unfold inP
  cases e with
  | none => simp
  | some e => simp
theorem inS_cons {p : Pr} {ps : List Pr} {w : Txt} : inS (p :: ps) w = (inP w p || inS ps w) := List.any_cons
theorem inS_app {ps qs : List Pr} {w : Txt} : inS (ps ++ qs) w = (inS ps w || inS qs w) := List.any_append
theorem inS_mem {ps : List Pr} {w : Txt} : inS ps w = true ↔ ∃ p ∈ ps, inP w p = true := by
  unfold inS
  rw [List.any_eq_true]
theorem end_out {p : Pr} {ps : List Pr} (h : SpOk (p :: ps)) {e : Txt} (he : p.2 = some e) : inS (p :: ps) e = false := by
  rw [inS_cons, inS_low (ps := ps) fun q m => by
    obtain ⟨e', e1, e2⟩ := (List.pairwise_cons.mp h.gap).1 q m
    rw [he] at e1
    cases e1
    exact e2]
  rw [Bool.or_false, Bool.eq_false_iff]
  intro c
  exact List.lt_irrefl _ ((inP_iff.mp c).2 e he)
theorem span_uniq : ∀ (as bs : List Pr), SpOk as → SpOk bs → (∀ w, inS as w = inS bs w) → as = bs
  | [], [], _, _, _ => rfl
  | [], q :: qs, _, hb, h => by
    have a := h q.1
    rw [inS_cons, inP_iff.mpr ⟨le_self _, fun e he => ((hb.ok q List.mem_cons_self).2 e he).2⟩] at a
    cases a
  | p :: ps, [], ha, _, h => by
    have a := h p.1
    rw [inS_cons, inP_iff.mpr ⟨le_self _, fun e he => ((ha.ok p List.mem_cons_self).2 e he).2⟩] at a
    cases a
  | p :: ps, q :: qs, ha, hb, h => by
    have pin : inS (p :: ps) p.1 = true := by rw [inS_cons, inP_iff.mpr ⟨le_self _, fun e he => ((ha.ok p List.mem_cons_self).2 e he).2⟩]; rfl
    have qin : inS (q :: qs) q.1 = true := by rw [inS_cons, inP_iff.mpr ⟨le_self _, fun e he => ((hb.ok q List.mem_cons_self).2 e he).2⟩]; rfl
    have low : ∀ {p : Pr} {ps : List Pr} {w : Txt}, SpOk (p :: ps) → w < p.1 → inS (p :: ps) w = false := fun {p ps w} hp l => inS_low fun r m => by
      rcases List.mem_cons.mp m with rfl | m
      · exact l
      · exact firsts hp (lt_le' l) r m
    have f1 : p.1 = q.1 := by
      refine List.le_antisymm (le_of_nlt fun l => ?_) (le_of_nlt fun l => ?_)
      · rw [h, ] at *
        have := low ha l
        rw [h, qin] at this
        cases this
      · have := low hb l
        rw [← h, pin] at this
        cases this
    have f2 : p.2 = q.2 := by
      cases hp : p.2 with
      | none =>
        cases hq : q.2 with
        | none => rfl
        | some d =>
          have a := end_out hb hq
          rw [← h, inS_cons, inP_iff.mpr ⟨by rw [f1]; exact lt_le' ((hb.ok q List.mem_cons_self).2 d hq).2, fun e he => by rw [hp] at he; cases he⟩] at a
          cases a
      | some e =>
        cases hq : q.2 with
        | none =>
          have a := end_out ha hp
          rw [h, inS_cons, inP_iff.mpr ⟨by rw [← f1]; exact lt_le' ((ha.ok p List.mem_cons_self).2 e hp).2, fun d hd => by rw [hq] at hd; cases hd⟩] at a
          cases a
        | some d =>
          congr 1
          refine List.le_antisymm (le_of_nlt fun l => ?_) (le_of_nlt fun l => ?_)
          · have a := end_out hb hq
            rw [← h, inS_cons, inP_iff.mpr ⟨by rw [f1]; exact lt_le' ((hb.ok q List.mem_cons_self).2 d hq).2, fun e' he => by rw [hp] at he; cases he; exact l⟩] at a
            cases a
          · have a := end_out ha hp
            rw [h, inS_cons, inP_iff.mpr ⟨by rw [← f1]; exact lt_le' ((ha.ok p List.mem_cons_self).2 e hp).2, fun d' hd => by rw [hq] at hd; cases hd; exact l⟩] at a
            cases a
    have pq : p = q := Prod.ext f1 f2
    subst pq
    congr 1
    refine span_uniq ps qs ha.tail hb.tail fun w => ?_
    cases hp : p.2 with
    | none =>
      have no : ∀ {ps : List Pr}, SpOk (p :: ps) → ps = [] := fun {ps} hh => by
        cases ps with
        | nil => rfl
        | cons r rs =>
          obtain ⟨e, e1, _⟩ := (List.pairwise_cons.mp hh.gap).1 r List.mem_cons_self
          rw [hp] at e1
          cases e1
      rw [no ha, no hb]
    | some e =>
      have lo : ∀ {ps : List Pr}, SpOk (p :: ps) → w ≤ e → inS ps w = false := fun {ps} hh l => inS_low fun r m => by
        obtain ⟨e', e1, e2⟩ := (List.pairwise_cons.mp hh.gap).1 r m
        rw [hp] at e1
        cases e1
        exact le_lt l e2
      by_cases c : e < w
      · have no : inP w p = false := Bool.eq_false_iff.mpr fun q => List.lt_irrefl _ (List.lt_trans c ((inP_iff.mp q).2 e hp))
        have a := h w
        rw [inS_cons, inS_cons, no] at a
        exact a
      · rw [lo ha (le_of_nlt c), lo hb (le_of_nlt c)]
/-- each range of the normal span begins where one of the ranges does -/
theorem first_of {ds ps : List Pr} (hd : SpOk ds) (h : ∀ w, inS ds w = inS ps w) {d : Pr} (m : d ∈ ds) : ∃ p ∈ ps, p.1 = d.1 := by
  have din : inP d.1 d = true := inP_iff.mpr ⟨le_self _, fun e he => ((hd.ok d m).2 e he).2⟩
  obtain ⟨p, mp, hp⟩ := inS_mem.mp ((h d.1).symm.trans (inS_mem.mpr ⟨d, m, din⟩))
  obtain ⟨p1, p2⟩ := inP_iff.mp hp
  refine ⟨p, mp, List.le_antisymm p1 (le_of_nlt fun lt => ?_)⟩
  have pin : inP p.1 p = true := inP_iff.mpr ⟨le_self _, fun e he => List.lt_trans lt (p2 e he)⟩
  obtain ⟨d', m', hd'⟩ := inS_mem.mp ((h p.1).trans (inS_mem.mpr ⟨p, mp, pin⟩))
  obtain ⟨q1, q2⟩ := inP_iff.mp hd'
  have lt' : d'.1 < d.1 := le_lt q1 lt
  obtain ⟨e, e1, e2⟩ : Gap d' d := by
    obtain ⟨i, hi, ei⟩ := List.mem_iff_getElem.mp m'
    obtain ⟨j, hj, ej⟩ := List.mem_iff_getElem.mp m
    rcases Nat.lt_trichotomy i j with c | c | c
    · have := List.pairwise_iff_getElem.mp hd.gap i j hi hj c
      rwa [ei, ej] at this
    · subst c
      rw [ei] at ej
      subst ej
      exact absurd lt' (List.lt_irrefl _)
    · have := List.pairwise_iff_getElem.mp hd.gap j i hj hi c
      rw [ei, ej] at this
      obtain ⟨e, e1, e2⟩ := this
      exact absurd (List.lt_trans (List.lt_trans ((hd.ok d m).2 e e1).2 e2) lt') (List.lt_irrefl _)
  have ein : inP e p = true := inP_iff.mpr ⟨lt_le' (q2 e e1), fun e' he => List.lt_trans e2 (p2 e' he)⟩
  obtain ⟨c, mc, hc⟩ := inS_mem.mp ((h e).trans (inS_mem.mpr ⟨p, mp, ein⟩))
  obtain ⟨c1, c2⟩ := inP_iff.mp hc
  obtain ⟨i, hi, ei⟩ := List.mem_iff_getElem.mp m'
  obtain ⟨j, hj, ej⟩ := List.mem_iff_getElem.mp mc
  rcases Nat.lt_trichotomy i j with q | q | q
  · have := List.pairwise_iff_getElem.mp hd.gap i j hi hj q
    rw [ei, ej] at this
    obtain ⟨e', f1, f2⟩ := this
    rw [e1] at f1
    cases f1
    exact nlt_of_le c1 f2
  · subst q
    rw [ei] at ej
    subst ej
    exact List.lt_irrefl _ (c2 e e1)
  · have := List.pairwise_iff_getElem.mp hd.gap j i hj hi q
    rw [ei, ej] at this
    obtain ⟨e', f1, f2⟩ := this
    exact List.lt_irrefl _ (List.lt_trans (c2 e' f1) (List.lt_trans f2 (lt_le ((hd.ok d' m').2 e e1).2 (le_self e))))
theorem asc_len : ∀ (xs L : List Txt), xs.Pairwise (· < ·) → (∀ x ∈ xs, x ∈ L) → xs.length ≤ L.length
  | [], _, _, _ => Nat.zero_le _
  | x :: xs, L, pw, h => by
    obtain ⟨p1, p2⟩ := List.pairwise_cons.mp pw
    have mx := h x List.mem_cons_self
    have ih := asc_len xs (L.erase x) p2 fun y m => (List.mem_erase_of_ne fun e => List.lt_irrefl _ (e ▸ p1 y m)).mpr (h y (List.mem_cons_of_mem _ m))
    rw [List.length_erase_of_mem mx] at ih
    have := List.length_pos_of_mem mx
    rw [List.length_cons]
    omega
theorem SpOk.asc {ps : List Pr} (h : SpOk ps) : (ps.map Prod.fst).Pairwise (· < ·) := by
  rw [List.pairwise_map]
  exact h.gap.imp_of_mem fun {p q} mp _ ⟨e, e1, e2⟩ => List.lt_trans ((h.ok p mp).2 e e1).2 e2
theorem norm_len {ds ps : List Pr} (hd : SpOk ds) (h : ∀ w, inS ds w = inS ps w) : ds.length ≤ ps.length := by
  have := asc_len (ds.map Prod.fst) (ps.map Prod.fst) hd.asc fun x m => by
    obtain ⟨d, md, rfl⟩ := List.mem_map.mp m
    obtain ⟨p, mp, e⟩ := first_of hd h md
    exact List.mem_map.mpr ⟨p, mp, e⟩
  rwa [List.length_map, List.length_map] at this
theorem short_nil0 : Short [] := ⟨Abc.nil, Nat.zero_le _⟩
theorem opps_opps {ps : List Pr} (h : SpOk ps) : opps [] (opps [] ps) = ps := by
  have o := opps_ok ps [] h short_nil0 fun p _ => nil_le _
  have oo := opps_ok (opps [] ps) [] o.1 short_nil0 fun p _ => nil_le _
  refine span_uniq _ _ oo.1 h fun w => ?_
  rw [opps_in _ _ _ o.1 short_nil0 (fun p _ => nil_le _) (nil_le _), opps_in _ _ _ h short_nil0 (fun p _ => nil_le _) (nil_le _), Bool.not_not]
/-! ### cells by points -/
def Cel (zs : List Txt) (z w : Txt) : Prop := z ∈ zs ∧ z ≤ w ∧ ∀ x ∈ zs, x ≤ w → x ≤ z
theorem cel_ex (w : Txt) : ∀ (zs : List Txt), (∃ x ∈ zs, x ≤ w) → ∃ z, Cel zs z w
  | [], ⟨x, m, _⟩ => nomatch m
  | y :: zs, h => by
    by_cases g : ∃ x ∈ zs, x ≤ w
    · obtain ⟨z, m, l, a⟩ := cel_ex w zs g
      by_cases c : y ≤ w ∧ z < y
      · refine ⟨y, List.mem_cons_self, c.1, fun x mx lx => ?_⟩
        rcases List.mem_cons.mp mx with rfl | mx
        · exact le_self _
        · exact lt_le' (le_lt (a x mx lx) c.2)
      · refine ⟨z, List.mem_cons_of_mem _ m, l, fun x mx lx => ?_⟩
        rcases List.mem_cons.mp mx with rfl | mx
        · exact le_of_nlt fun q => c ⟨lx, q⟩
        · exact a x mx lx
    · obtain ⟨x, m, l⟩ := h
      rcases List.mem_cons.mp m with rfl | m
      · refine ⟨x, List.mem_cons_self, l, fun u mu lu => ?_⟩
        rcases List.mem_cons.mp mu with rfl | mu
        · exact le_self _
        · exact absurd ⟨u, mu, lu⟩ g
      · exact absurd ⟨x, m, l⟩ g
theorem Cel.same {zs : List Txt} {z w x : Txt} (h : Cel zs z w) (h1 : z ≤ x) (h2 : x ≤ w) : Cel zs z x := ⟨h.1, h1, fun u m l => h.2.2 u m (List.le_trans l h2)⟩
theorem gap_lt {ds : List Pr} (ok : SpOk ds) {c d : Pr} (mc : c ∈ ds) (md : d ∈ ds) (lt : c.1 < d.1) : Gap c d := by
  obtain ⟨i, hi, ei⟩ := List.mem_iff_getElem.mp mc
  obtain ⟨j, hj, ej⟩ := List.mem_iff_getElem.mp md
  rcases Nat.lt_trichotomy i j with q | q | q
  · have := List.pairwise_iff_getElem.mp ok.gap i j hi hj q
    rwa [ei, ej] at this
  · subst q
    rw [ei] at ej
    subst ej
    exact absurd lt (List.lt_irrefl _)
  · have := List.pairwise_iff_getElem.mp ok.gap j i hj hi q
    rw [ei, ej] at this
    obtain ⟨e, e1, e2⟩ := this
    exact absurd (List.lt_trans (List.lt_trans ((ok.ok d md).2 e e1).2 e2) lt) (List.lt_irrefl _)
theorem same_first {ds : List Pr} (ok : SpOk ds) {c d : Pr} (mc : c ∈ ds) (md : d ∈ ds) (e1 : c.1 = d.1) : c = d := by
  obtain ⟨i, hi, ei⟩ := List.mem_iff_getElem.mp mc
  obtain ⟨j, hj, ej⟩ := List.mem_iff_getElem.mp md
  have no : ∀ {p q : Pr}, p ∈ ds → Gap p q → p.1 = q.1 → False := fun {p q} mp ⟨e, g1, g2⟩ h => by
    have := List.lt_trans ((ok.ok p mp).2 e g1).2 g2
    rw [h] at this
    exact List.lt_irrefl _ this
  rcases Nat.lt_trichotomy i j with q | q | q
  · have := List.pairwise_iff_getElem.mp ok.gap i j hi hj q
    rw [ei, ej] at this
    exact (no mc this e1).elim
  · subst q
    rw [ei] at ej
    exact ej
  · have := List.pairwise_iff_getElem.mp ok.gap j i hj hi q
    rw [ei, ej] at this
    exact (no md this e1.symm).elim
theorem end_no {ds : List Pr} (ok : SpOk ds) {d : Pr} (md : d ∈ ds) {e : Txt} (he : d.2 = some e) : inS ds e = false := by
  rw [Bool.eq_false_iff]
  intro h
  obtain ⟨c, mc, hc⟩ := inS_mem.mp h
  obtain ⟨c1, c2⟩ := inP_iff.mp hc
  by_cases l1 : c.1 < d.1
  · obtain ⟨e', f1, f2⟩ := gap_lt ok mc md l1
    exact List.lt_irrefl _ (List.lt_trans (c2 e' f1) (List.lt_trans f2 ((ok.ok d md).2 e he).2))
  · by_cases l2 : d.1 < c.1
    · obtain ⟨e', f1, f2⟩ := gap_lt ok md mc l2
      rw [he] at f1
      cases f1
      exact nlt_of_le c1 f2
    · have := same_first ok mc md (List.le_antisymm (le_of_nlt l2) (le_of_nlt l1))
      subst this
      exact List.lt_irrefl _ (c2 e he)
theorem first_in {ds : List Pr} (ok : SpOk ds) {d : Pr} (md : d ∈ ds) : inP d.1 d = true := inP_iff.mpr ⟨le_self _, fun e he => ((ok.ok d md).2 e he).2⟩
theorem corner_of {ds : List Pr} {zs : List Txt} (ok : SpOk ds) (hc : ∀ z w, Abc w → Cel zs z w → inS ds w = inS ds z) (h0 : [] ∈ zs) : ∀ d ∈ ds, d.1 ∈ zs ∧ ∀ e, d.2 = some e → e ∈ zs := fun d md => by
  have od := ok.ok d md
  have tr : inS ds d.1 = true := inS_mem.mpr ⟨d, md, first_in ok md⟩
  refine ⟨?_, fun e he => ?_⟩
  · obtain ⟨z, cz⟩ := cel_ex d.1 zs ⟨[], h0, nil_le _⟩
    have hz := hc z d.1 od.1.1 cz
    rw [tr] at hz
    by_cases lt : z < d.1
    · obtain ⟨d', md', hd'⟩ := inS_mem.mp hz.symm
      obtain ⟨q1, q2⟩ := inP_iff.mp hd'
      obtain ⟨e', f1, f2⟩ := gap_lt ok md' md (le_lt q1 lt)
      have ce := cz.same (lt_le' (q2 e' f1)) (lt_le' f2)
      have a := hc z e' ((ok.ok d' md').2 e' f1).1.1 ce
      rw [end_no ok md' f1, ← hz] at a
      cases a
    · rw [List.le_antisymm (le_of_nlt lt) cz.2.1]
      exact cz.1
  · obtain ⟨z, cz⟩ := cel_ex e zs ⟨[], h0, nil_le _⟩
    obtain ⟨oe, lte⟩ := od.2 e he
    have hz := hc z e oe.1 cz
    rw [end_no ok md he] at hz
    by_cases lt : z < e
    · by_cases l2 : z < d.1
      · have a := hc z d.1 od.1.1 (cz.same (lt_le' l2) (lt_le' lte))
        rw [tr, ← hz] at a
        cases a
      · have : inS ds z = true := inS_mem.mpr ⟨d, md, inP_iff.mpr ⟨le_of_nlt l2, fun e' he' => by rw [he] at he'; cases he'; exact lt⟩⟩
        rw [this] at hz
        cases hz
    · rw [List.le_antisymm (le_of_nlt lt) cz.2.1]
      exact cz.1
theorem cel_in {ps : List Pr} {zs : List Txt} {z w : Txt} (sub : ∀ p ∈ ps, p.1 ∈ zs ∧ ∀ e, p.2 = some e → e ∈ zs) (h : Cel zs z w) : inS ps w = inS ps z := by
  have one : ∀ p ∈ ps, inP w p = inP z p := fun p m => by
    rw [Bool.eq_iff_iff, inP_iff, inP_iff]
    constructor
    · exact fun g => ⟨h.2.2 _ (sub p m).1 g.1, fun e he => le_lt h.2.1 (g.2 e he)⟩
    · refine fun g => ⟨List.le_trans g.1 h.2.1, fun e he => ?_⟩
      by_cases c : w < e
      · exact c
      · exact absurd (lt_le (g.2 e he) (h.2.2 _ ((sub p m).2 e he) (le_of_nlt c))) (List.lt_irrefl _)
  unfold inS
  rw [Bool.eq_iff_iff, List.any_eq_true, List.any_eq_true]
  constructor
  · rintro ⟨p, m, g⟩
    exact ⟨p, m, by rw [← one p m]; exact g⟩
  · rintro ⟨p, m, g⟩
    exact ⟨p, m, by rw [one p m]; exact g⟩
/-- the corners of some ranges -/
def cns (ps : List Pr) : List Txt := [] :: (ps.map Prod.fst ++ ps.filterMap Prod.snd)
theorem cns_sub {ps : List Pr} : ∀ p ∈ ps, p.1 ∈ cns ps ∧ ∀ e, p.2 = some e → e ∈ cns ps := fun p m =>
  ⟨List.mem_cons_of_mem _ (List.mem_append_left _ (List.mem_map.mpr ⟨p, m, rfl⟩)), fun e he => List.mem_cons_of_mem _ (List.mem_append_right _ (List.mem_filterMap.mpr ⟨p, m, he⟩))⟩
theorem cns_all {ps : List Pr} {P : Txt → Prop} (h0 : P []) (h : ∀ p ∈ ps, P p.1 ∧ ∀ e, p.2 = some e → P e) : ∀ z ∈ cns ps, P z := fun z m => by
  rcases List.mem_cons.mp m with rfl | m
  · exact h0
  · rcases List.mem_append.mp m with m | m
    · obtain ⟨p, mp, rfl⟩ := List.mem_map.mp m
      exact (h p mp).1
    · obtain ⟨p, mp, e⟩ := List.mem_filterMap.mp m
      exact (h p mp).2 z e
def AbcP (ps : List Pr) : Prop := ∀ p ∈ ps, Abc p.1 ∧ ∀ e, p.2 = some e → Abc e
theorem SpOk.abc {ps : List Pr} (h : SpOk ps) : AbcP ps := fun p m => ⟨(h.ok p m).1.1, fun e q => ((h.ok p m).2 e q).1.1⟩
/-- what holds at texts of the letters holds at all -/
theorem all_w {as bs : List Pr} (ha : AbcP as) (hb : AbcP bs) (h : ∀ w, Abc w → inS as w = inS bs w) (w : Txt) : inS as w = inS bs w := by
  obtain ⟨z, cz⟩ := cel_ex w (cns (as ++ bs)) ⟨[], List.mem_cons_self, nil_le _⟩
  have az : Abc z := cns_all (P := Abc) Abc.nil (fun p m => (List.mem_append.mp m).elim (ha p) (hb p)) z cz.1
  rw [cel_in (ps := as) (fun p m => cns_sub p (List.mem_append_left _ m)) cz, cel_in (ps := bs) (fun p m => cns_sub p (List.mem_append_right _ m)) cz, h z az]
theorem span_uniqA {as bs : List Pr} (ha : SpOk as) (hb : SpOk bs) (h : ∀ w, Abc w → inS as w = inS bs w) : as = bs := span_uniq as bs ha hb (all_w ha.abc hb.abc h)
def Lim (m : Nat) (ps : List Pr) : Prop := ∀ p ∈ ps, p.1.length ≤ m ∧ ∀ e, p.2 = some e → e.length ≤ m
theorem lim_of {ds ps : List Pr} {m : Nat} (ok : SpOk ds) (eq : ∀ w, Abc w → inS ds w = inS ps w) (pa : AbcP ps) (l : Lim m ps) : Lim m ds := fun d md => by
  have za : ∀ z ∈ cns ps, Abc z := cns_all (P := Abc) Abc.nil pa
  have zl : ∀ z ∈ cns ps, z.length ≤ m := cns_all (P := fun z => z.length ≤ m) (Nat.zero_le _) l
  obtain ⟨a, b⟩ := corner_of ok (zs := cns ps) (fun z w aw cz => by rw [eq w aw, eq z (za z cz.1), cel_in cns_sub cz]) List.mem_cons_self d md
  exact ⟨zl _ a, fun e he => zl _ (b e he)⟩
theorem opps_lim {m : Nat} {ps : List Pr} (h : Lim m ps) : Lim m (opps [] ps) := by
  have go : ∀ (ps : List Pr) (a : Txt), a.length ≤ m → Lim m ps → Lim m (opps a ps) := fun ps => by
    induction ps with
    | nil =>
      intro a la _ p mp
      rw [List.mem_singleton.mp mp]
      exact ⟨la, fun e q => by cases q⟩
    | cons q ps ih =>
      intro a la hl p mp
      obtain ⟨f, e⟩ := q
      have h0 := hl (f, e) List.mem_cons_self
      rcases List.mem_append.mp (show p ∈ (if a < f then [(a, some f)] else []) ++ past e fun e => opps e ps from mp) with mp | mp
      · split at mp
        · rw [List.mem_singleton.mp mp]
          exact ⟨la, fun e q => by cases q; exact h0.1⟩
        · cases mp
      · cases e with
        | none => cases mp
        | some e => exact ih e (h0.2 e rfl) (fun p m => hl p (List.mem_cons_of_mem _ m)) p mp
  exact go ps [] (Nat.zero_le _) h
abbrev s_is_range : Stmt := topS 11
abbrev N_is_range : List Str := ["value"]
theorem sc_is_range : FnScope ["value"] ["value"] (defScope s_is_range) := ⟨rfl, rfl, rfl, by decide +kernel, rfl, by decide +kernel, by decide +kernel⟩

abbrev s_reaches : Stmt := topS 13
abbrev N_reaches : List Str := ["end", "first"]
theorem sc_reaches : FnScope ["end", "first"] ["end", "first"] (defScope s_reaches) := ⟨rfl, rfl, rfl, by decide +kernel, rfl, by decide +kernel, by decide +kernel⟩

/-! ### ranges as values -/
theorem pg_tupK {X : Cx} {K : PySem.W.Frag} {pos : Pos} {es : List Expr} {k : Nat} {t : TGs} {n : Nat} (hK : X.K = K) (hc : X.calm = true) (h : PGs X es t) (hn : (assignEach es X.env).length = n) (hst : (assignEach es X.env).findIdx? (·.1) = none) : PG X (.Tuple es k pos) (gTup K n t) := by
  subst hK
  exact pg_tup hc h hn hst
theorem ix_tupK {X : Cx} {K : PySem.W.Frag} (hK : X.K = K) : IxR X (rIxT K) := by
  subst hK
  exact ix_tup

def oD : Option Txt → Dt
  | none => .non
  | some l => .str l
def oV : Option Txt → V
  | none => .non
  | some l => Tx l
def prD (p : Pr) : Dt := .tup [.str p.1, oD p.2]
theorem rp_pr {K : PySem.W.Frag} {H : Hp} {v : V} {p : Pr} (r : Rp K H v (prD p)) : ∃ a, v = .ref a ∧ SqT K H a [Tx p.1, oV p.2] := by
  obtain ⟨f, e⟩ := p
  cases r with
  | tup h _ rl =>
    refine ⟨_, rfl, ?_⟩
    cases rl with
    | cons r1 rl =>
      cases rl with
      | cons r2 rl =>
        cases rl
        cases r1
        cases e with
        | none =>
          cases r2
          exact h
        | some e =>
          cases r2
          exact h
theorem pr_rp {K : PySem.W.Frag} {H : Hp} {a : Addr} {p : Pr} (h : SqT K H a [Tx p.1, oV p.2]) (hf : p.1.length ≤ 40) (he : ∀ e, p.2 = some e → e.length ≤ 40) : Rp K H (.ref a) (prD p) := by
  obtain ⟨f, e⟩ := p
  refine .tup h (by simp) (.cons (.str f (by have : f.length ≤ 40 := hf; omega)) (.cons ?_ .nil))
  cases e with
  | none => exact .non
  | some e => exact .str e (by have := he e rfl; omega)
def spIsRange (K : PySem.W.Frag) : Sp := fun vs H Q _ => ∃ (a : Addr) (p : Pr), vs = [.ref a] ∧ SqT K H a [Tx p.1, oV p.2] ∧ PrOk p ∧ Q (.bl true) H
theorem cl_is_range {f : Addr} {fd : FuncData} (D : Df K mg "is_range" s_is_range ["value"] f fd) (T : Nm mg) (c_is_text : Cl P w K mg base 1 "is_text" s_is_text ["value"] (spIsText K)) : Cl P w K mg base 2 "is_range" s_is_range ["value"] (spIsRange K) := by
  refine D.cl sc_is_range (fun vs H Q E h => ?_) (fun cdv A outer s H vs Q E hr h => ?_)
  · obtain ⟨a, p, rfl, _⟩ := h
    rfl
  · obtain ⟨a, ⟨g, e⟩, rfl, hs, ⟨⟨ag, lg⟩, he⟩, k⟩ := h
    refine ⟨_, (pss_cons (ps_if (PW.pt (pw_or (pt_tyNot (T := "tuple") Mono.var (pv 0) T.n_type T.n_tuple (by decide +kernel)) (pw_or (pt_cmpR op_ne (pe_callB call_len_seq (by rfl) T.n_len (by decide +kernel) (pa_cons (pv 0) pa_nil)) pe_int (by first | exact nomark _ | rfl)) (pw_or1 (pt_not (pt_val (pe_cl c_is_text hr (by omega) (pa_cons (pe_ix ix_tup (pv 0) pe_int (fun _ _ => rfl)) pa_nil)))))))) (pss_one (ps_ret pe_bl)) pss_nil)
      (pss_one (ps_ret (pe_or (pe_cmpR op_isN (pe_ix ix_tup (pv 0) pe_int (fun _ _ => rfl)) pe_non (by first | exact nomark _ | rfl)) (pe_one (pe_and (pe_cl c_is_text hr (by omega) (pa_cons (pe_ix ix_tup (pv 0) pe_int (fun _ _ => rfl)) pa_nil)) (pe_one (pe_cmpR op_lt_str (pe_ix ix_tup (pv 0) pe_int (fun _ _ => rfl)) (pe_ix ix_tup (pv 0) pe_int (fun _ _ => rfl)) (by first | exact nomark _ | rfl))))))))), ?_⟩
    have lg : g.length ≤ 40 := lg
    have isT : ∀ (l : Txt) (b : Bool), Abc l → (b = true ↔ IsTx (.str l)) → b = true := fun l b al hb => hb.mpr ⟨l, rfl, al⟩
    refine ⟨_, rfl, .tup [.str g, oD e], pr_rp (p := (g, e)) hs lg (fun e' q => (he e' q).1.2), ?_⟩
    refine ite2 (fun h => absurd h (by simp [Dt.ty])) (fun _ => ?_)
    refine ⟨_, rfl, a, _, rfl, .inr hs, rfl, _, rfl, ite2 (fun h => (by simp at h)) (fun _ => ?_)⟩
    refine ⟨_, rfl, a, _, 0, Tx g, rfl, rfl, hs, at0, Tx g, .str g, rfl, .str g (by omega), fun b hb => ?_⟩
    obtain rfl := isT g b ag hb
    refine ⟨_, rfl, ?_⟩
    refine ⟨_, rfl, a, _, 1, oV e, rfl, rfl, hs, at1, rfl, ?_⟩
    cases e with
    | none => exact ⟨_, rfl, k⟩
    | some e =>
      obtain ⟨⟨ae, le⟩, lt⟩ := he e rfl
      refine ⟨_, rfl, _, rfl, a, _, 1, Tx e, rfl, rfl, hs, at1, Tx e, .str e, rfl, .str e (by omega), fun b hb => ?_⟩
      obtain rfl := isT e b ae hb
      refine ⟨_, rfl, _, rfl, a, _, 0, Tx g, rfl, rfl, hs, at0, _, rfl, a, _, 1, Tx e, rfl, rfl, hs, at1, tx g, tx e, rfl, rfl, ?_⟩
      rw [decide_eq_true (show (tx g).cps.toList < (tx e).cps.toList from lt)]
      exact k
def spReaches : Sp := fun vs H Q _ => ∃ (e f : Txt), vs = [Tx e, Tx f] ∧ e.length ≤ 40 ∧ f.length ≤ 40 ∧ e < f ∧ Q (.bl false) H
theorem cl_reaches {f : Addr} {fd : FuncData} (D : Df K mg "reaches" s_reaches ["end", "first"] f fd) (T : Nm mg) : Cl P w K mg base 1 "reaches" s_reaches ["end", "first"] spReaches := by
  refine D.cl sc_reaches (fun vs H Q E h => ?_) (fun cdv A outer s H vs Q E hr h => ?_)
  · obtain ⟨e, f, rfl, _⟩ := h
    rfl
  · obtain ⟨e, f, rfl, le, lf, lt, k⟩ := h
    refine ⟨_, (pss_one (ps_ret (pe_or (pe_cmpR op_isN (pv 0) pe_non (by first | exact nomark _ | rfl)) (pe_one (pe_cmpR op_ge_str (pv 0) (pv 1) (by first | exact nomark _ | rfl)))))), ?_⟩
    refine ⟨_, rfl, rfl, ?_⟩
    refine ⟨_, rfl, _, rfl, _, rfl, tx e, tx f, rfl, rfl, ?_⟩
    rw [decide_eq_true (show (tx e).cps.toList < (tx f).cps.toList from lt)]
    exact k
/-! ### spans as values -/
structure Spn (K : PySem.W.Frag) (H : Hp) (a : Addr) (ps : List Pr) : Prop where
  ex : ∃ vs, SqT K H a vs ∧ RpL K H vs (ps.map prD)
  ok : SpOk ps
  few : ps.length ≤ 3000
theorem Spn.stp {K : PySem.W.Frag} {H H' : Hp} {S : List Addr} {a : Addr} {ps : List Pr} (h : Spn K H a ps) (s : Stp S H H') (l : Lsts H S) : Spn K H' a ps := by
  obtain ⟨vs, h1, h2⟩ := h.ex
  exact ⟨⟨vs, sqt_stp s l h1, h2.stp s l⟩, h.ok, h.few⟩
theorem prs_get {K : PySem.W.Frag} {H : Hp} {vs : List V} {ps : List Pr} {i : Nat} {v : V} (r : RpL K H vs (ps.map prD)) (h : vs[i]? = some v) : ∃ p, ps[i]? = some p ∧ ∃ a, v = .ref a ∧ SqT K H a [Tx p.1, oV p.2] := by
  obtain ⟨d, e, rd⟩ := r.get h
  rw [List.getElem?_map] at e
  cases q : ps[i]? with
  | none =>
    rw [q] at e
    cases e
  | some p =>
    rw [q] at e
    cases e
    exact ⟨p, rfl, rp_pr rd⟩
theorem short_nil : Short [] := ⟨Abc.nil, Nat.zero_le _⟩
theorem prs_one {K : PySem.W.Frag} {H : Hp} {vs : List V} {ds : List Pr} {v : V} {p : Pr} (r : RpL K H vs (ds.map prD)) (h : Rp K H v (prD p)) : RpL K H (vs ++ [v]) ((ds ++ [p]).map prD) := by
  rw [List.map_append]
  exact r.app (.cons h .nil)
abbrev s_is_span : Stmt := topS 12
abbrev N_is_span : List Str := ["value", "part", "ahead"]
theorem sc_is_span : FnScope ["value", "part", "ahead"] ["value"] (defScope s_is_span) := ⟨rfl, rfl, rfl, by decide +kernel, rfl, by decide +kernel, by decide +kernel⟩

abbrev s_check_span : Stmt := topS 15
abbrev N_check_span : List Str := ["span"]
theorem sc_check_span : FnScope ["span"] ["span"] (defScope s_check_span) := ⟨rfl, rfl, rfl, by decide +kernel, rfl, by decide +kernel, by decide +kernel⟩

theorem lc_zipT {K : PySem.W.Frag} {a b : Addr} {xs ys : List V} {g : TG} {tt : TT} {te : TE} {vs : List Nat} {σ : L2.St} {H1 : Hp} {D : Addr} {Qd : Hp → Prop} (Pv : Nat → Hp → Prop) (h0 : Pv 0 (upd H1 D (.lst []))) (hl : ∀ i H, Pv i H → SqT K H a xs ∧ SqT K H b ys) (le : ys.length ≤ xs.length)
    (hs : ∀ i x y T H, xs[i]? = some x → ys[i]? = some y → Pv i H → H T = none → g (.ref T) (wipe σ vs) (upd H T (.tup [x, y])) fun σ2 H2 => wipe σ2 vs = wipe σ vs ∧ tt σ2 H2 fun b H3 =>
      if b = true then te σ2 H3 fun y H4 => ∃ acc, H4 D = some (.lst acc) ∧ acc.length < sizeLine ∧ Pv (i + 1) (upd H4 D (.lst (acc ++ [y]))) else Pv (i + 1) H3) (hd : ∀ H, Pv ys.length H → Qd H) :
    ∃ W : Nat → Nat → Hp → Prop, (∃ m, W 0 m (upd H1 D (.lst []))) ∧ ∀ i m H, W i m H →
      ((RZ.ItzT K a b).stop i H ∧ Qd H) ∨ ((RZ.ItzT K a b).go i H ∧ ∃ Nx : Hp → Prop, (∀ H', Nx H' → ∃ m', m' < m ∧ W (i + 1) m' H') ∧ ∀ x H', (RZ.ItzT K a b).yld i H x H' → g x (wipe σ vs) H' fun σ2 H2 => wipe σ2 vs = wipe σ vs ∧ tt σ2 H2 fun b H3 =>
        if b = true then te σ2 H3 fun y H4 => ∃ acc, H4 D = some (.lst acc) ∧ acc.length < sizeLine ∧ Nx (upd H4 D (.lst (acc ++ [y]))) else Nx H3) := by
  refine ⟨fun i m H => m = ys.length - i ∧ i ≤ ys.length ∧ Pv i H, ⟨ys.length, by simp, Nat.zero_le _, h0⟩, ?_⟩
  rintro i m H ⟨rfl, hi, p⟩
  obtain ⟨qa, qb⟩ := hl i H p
  by_cases hlt : i < ys.length
  · refine .inr ⟨⟨xs, ys, xs[i], ys[i], qa, qb, by simp, by simp⟩, Pv (i + 1), fun H' p' => ⟨ys.length - (i + 1), by omega, rfl, hlt, p'⟩, fun v H' yy => ?_⟩
    obtain ⟨T, x, y, rfl, nT, rfl, hx, hy⟩ := yy
    exact hs i x y T H (hx xs qa) (hy ys qb) p nT
  · have e : i = ys.length := by omega
    subst e
    exact .inl ⟨⟨xs, ys, qa, qb, .inr (Nat.le_refl _)⟩, hd H p⟩
def spIsSpan (K : PySem.W.Frag) : Sp := fun vs H Q _ => ∃ (a : Addr) (ps : List Pr), vs = [.ref a] ∧ Spn K H a ps ∧ ∀ H', Stp [] H H' → Q (.bl true) H'
theorem all_true {bs : List Bool} (h : ∀ b ∈ bs, b = true) : bs.all id = true := by
  rw [List.all_eq_true]
  exact h
theorem cl_is_span {f : Addr} {fd : FuncData} (D : Df K mg "is_span" s_is_span ["value"] f fd) (T : Nm mg) (c_is_range : Cl P w K mg base 2 "is_range" s_is_range ["value"] (spIsRange K)) (c_reaches : Cl P w K mg base 1 "reaches" s_reaches ["end", "first"] spReaches) :
    Cl P w K mg base 3 "is_span" s_is_span ["value"] (spIsSpan K) := by
  refine D.cl sc_is_span (fun vs H Q E h => ?_) (fun cdv A outer s H vs Q E hr h => ?_)
  · obtain ⟨a, ps, rfl, _⟩ := h
    rfl
  · obtain ⟨a, ps, rfl, ⟨⟨xs, hs, rl⟩, ok, few⟩, k⟩ := h
    have lx : xs.length = ps.length := by rw [rl.len, List.length_map]
    refine ⟨_, (pss_cons (ps_if (PW.pt (pw_or (pt_tyNot (T := "tuple") Mono.var (pv 0) T.n_type T.n_tuple (by decide +kernel)) (pw_or1 (pt_not (pt_val (pe_callB (cr_all rfl) (by rfl) T.n_all (by decide +kernel) (pa_cons (pe_lc (own := [("part", 1)]) rfl sc_is_span.nd (pi_tup (pv 0)) (blkOk_by (own := [("part", 1)]) (N := N_is_span) (sc := defScope s_is_span) (by decide +kernel)) (fun _ _ _ _ _ => (pg_name (i := 1) sc_is_span.nd rfl (by first | exact Or.inl rfl | exact Or.inr rfl))) (fun _ _ _ _ _ => pts_nil) (fun _ _ _ _ _ => (pe_cl c_is_range hr (by omega) (pa_cons (pv 1) pa_nil)))) pa_nil))))))) (pss_one (ps_ret pe_bl)) pss_nil)
      (pss_one (ps_ret (pe_callB (cr_all rfl) (by rfl) T.n_all (by decide +kernel) (pa_cons (pe_lc (own := [("ahead", 2), ("part", 1)]) rfl sc_is_span.nd (RZ.pi_zipA (by rfl) T.n_zip (pa_cons (pv 0) (pa_cons (pe_slice sl_tupA (pv 0) (po_some pe_int) po_none) pa_nil))) (blkOk_by (own := [("ahead", 2), ("part", 1)]) (N := N_is_span) (sc := defScope s_is_span) (by decide +kernel)) (fun _ _ _ _ _ => (pg_tupK (n := 2) rfl rfl (pgs_cons (pg_name (i := 2) sc_is_span.nd rfl (by first | exact Or.inl rfl | exact Or.inr rfl)) (pgs_cons (pg_name (i := 1) sc_is_span.nd rfl (by first | exact Or.inl rfl | exact Or.inr rfl)) pgs_nil (by rfl)) (by rfl)) (by rfl) (by rfl))) (fun _ _ _ _ _ => pts_nil) (fun _ _ _ _ _ => (pe_not (pe_cl c_reaches hr (by omega) (pa_cons (pe_ix (ix_tupK rfl) (pv 2) pe_int (fun _ _ => rfl)) (pa_cons (pe_ix (ix_tupK rfl) (pv 1) pe_int (fun _ _ => rfl)) pa_nil)))))) pa_nil))))), ?_⟩
    refine ⟨_, rfl, .tup (ps.map prD), .tup hs (by omega) rl, ?_⟩
    refine ite2 (fun h => absurd h (by simp [Dt.ty])) (fun _ => ?_)
    refine ⟨_, rfl, a, rfl, ⟨_, hs⟩, fun L nL => ?_⟩
    refine lc_tup (a := a) (xs := xs) (fun i H2 => ∃ bs : List Bool, bs.length = i ∧ H2 L = some (.lst (bs.map V.bl)) ∧ Stp [] H H2 ∧ ∀ b ∈ bs, b = true)
      ⟨[], rfl, upd_same, Stp.new nL _, fun b m => nomatch m⟩ (fun i H2 _ ⟨bs, _, _, S, _⟩ => sqt_stp S Lsts.nil hs) ?_ ?_
    · rintro i x H2 hi ⟨bs, hl, hL, S, hb⟩
      obtain ⟨p, hp, t, rfl, ht⟩ := prs_get rl hi
      refine ⟨rfl, _, rfl, t, p, rfl, sqt_stp S Lsts.nil ht, ok.ok p (List.mem_of_getElem? hp), bs.map V.bl, hL, ?_, bs ++ [true], by simp [hl], ?_, S.mut nL, fun b m => ?_⟩
      · have h1 := (List.getElem?_eq_some_iff.mp hi).1
        rw [List.length_map, hl]
        exact Nat.lt_of_lt_of_le (show i < 100000 by omega) (by decide)
      · rw [List.map_append]
        exact upd_same
      · rcases List.mem_append.mp m with m | m
        · exact hb b m
        · exact List.mem_singleton.mp m
    · rintro H2 ⟨bs, hl, hL, S, hb⟩
      refine ⟨L, bs, rfl, SqL.of hL, ?_⟩
      rw [all_true hb]
      refine ⟨_, rfl, _, rfl, _, rfl, 1, rfl, ?_⟩
      dsimp only
      refine nopart (slA_use (sqt_stp S Lsts.nil hs) fun p H3 S3 hp => ?_)
      have SS := S.trans S3
      have e1 : cutV xs (some (1 : Int)) none = xs.drop 1 := cut_from 1
      rw [e1] at hp
      refine ⟨a, p, xs, _, rfl, .inr ⟨sqt_stp SS Lsts.nil hs, hp, fun L2 nL2 => ?_⟩⟩
      refine lc_zipT (a := a) (b := p) (xs := xs) (ys := xs.drop 1) (fun i H4 => ∃ bs : List Bool, bs.length = i ∧ H4 L2 = some (.lst (bs.map V.bl)) ∧ Stp [] H3 H4 ∧ ∀ b ∈ bs, b = true)
        ⟨[], rfl, upd_same, Stp.new nL2 _, fun b m => nomatch m⟩ (fun i H4 ⟨bs, _, _, S4, _⟩ => ⟨sqt_stp (SS.trans S4) Lsts.nil hs, sqt_stp S4 Lsts.nil hp⟩) (by rw [List.length_drop]; omega) ?_ ?_
      · rintro i x y t H4 hx hy ⟨bs, hl, hL, S4, hb⟩ nt
        rw [List.getElem?_drop, Nat.add_comm] at hy
        obtain ⟨q1, hq1, t1, rfl, ht1⟩ := prs_get rl hx
        obtain ⟨q2, hq2, t2, rfl, ht2⟩ := prs_get rl hy
        obtain ⟨e, ee, lt⟩ : Gap q1 q2 := by
          obtain ⟨i1, g1⟩ := List.getElem?_eq_some_iff.mp hq1
          obtain ⟨i2, g2⟩ := List.getElem?_eq_some_iff.mp hq2
          have := List.pairwise_iff_getElem.mp ok.gap i (i + 1) i1 i2 (by omega)
          rwa [g1, g2] at this
        have S5 : Stp [] H (upd H4 t (.tup [.ref t1, .ref t2])) := SS.trans (S4.new' nt)
        have o1 := ok.ok q1 (List.mem_of_getElem? hq1)
        have o2 := ok.ok q2 (List.mem_of_getElem? hq2)
        have oe : oV q1.2 = Tx e := by rw [ee]; rfl
        refine ⟨t, _, rfl, SqT.of upd_same, rfl, _, _, rfl, _, _, rfl, rfl, ?_⟩
        have h1 : SqT K (upd H4 t (.tup [.ref t1, .ref t2])) t1 [Tx q1.1, Tx e] := by
          rw [← oe]
          exact sqt_stp S5 Lsts.nil ht1
        have nL2t : L2 ≠ t := ne_of_none hL nt
        have hL5 : (upd H4 t (.tup [.ref t1, .ref t2])) L2 = some (.lst (bs.map V.bl)) := by
          rw [upd_ne nL2t]
          exact hL
        refine ⟨rfl, _, rfl, t1, _, 1, Tx e, rfl, rfl, h1, at1, _, rfl, t2, _, 0, Tx q2.1, rfl, rfl, sqt_stp S5 Lsts.nil ht2, at0, e, q2.1, rfl, (o1.2 e ee).1.2, o2.1.2, lt, _, rfl, bs.map V.bl, hL5, ?_, bs ++ [true], by simp [hl], ?_, (S4.new' nt).mut nL2, fun b m => ?_⟩
        · have h1 := (List.getElem?_eq_some_iff.mp hx).1
          rw [List.length_map, hl]
          exact Nat.lt_of_lt_of_le (show i < 100000 by omega) (by decide)
        · rw [List.map_append]
          exact upd_same
        · rcases List.mem_append.mp m with m | m
          · exact hb b m
          · exact List.mem_singleton.mp m
      · rintro H4 ⟨bs, hl, hL, S4, hb⟩
        refine ⟨L2, bs, rfl, SqL.of hL, ?_⟩
        rw [all_true hb]
        exact k _ (SS.trans S4)

def spCkSpan (K : PySem.W.Frag) : Sp := fun vs H Q _ => ∃ (a : Addr) (ps : List Pr), vs = [.ref a] ∧ Spn K H a ps ∧ ∀ H', Stp [] H H' → Q .non H'
theorem cl_check_span {f : Addr} {fd : FuncData} (D : Df K mg "check_span" s_check_span ["span"] f fd) (T : Nm mg) (c_is_span : Cl P w K mg base 3 "is_span" s_is_span ["value"] (spIsSpan K)) : Cl P w K mg base 4 "check_span" s_check_span ["span"] (spCkSpan K) := by
  refine D.cl sc_check_span (fun vs H Q E h => ?_) (fun cdv A outer s H vs Q E hr h => ?_)
  · obtain ⟨a, ps, rfl, _⟩ := h
    rfl
  · obtain ⟨a, ps, rfl, S, k⟩ := h
    refine ⟨_, (pss_one (ps_if (pt_not (pt_val (pe_cl c_is_span hr (by omega) (pa_cons (pv 0) pa_nil)))) (pss_one ps_never) pss_nil)), ?_⟩
    exact ⟨_, rfl, a, ps, rfl, S, fun H' S' => ⟨_, rfl, k H' S'⟩⟩
abbrev s_behind : Stmt := topS 17
abbrev N_behind : List Str := ["text"]
theorem sc_behind : FnScope ["text"] ["text"] (defScope s_behind) := ⟨rfl, rfl, rfl, by decide +kernel, rfl, by decide +kernel, by decide +kernel⟩

/-! ### the program's own -/
def Lng (l : Txt) : Prop := Abc l ∧ l.length ≤ 1000
theorem Short.lng {l : Txt} (h : Short l) : Lng l := ⟨h.1, by have := h.2; omega⟩
def spCkTextL : Sp := fun vs H Q _ => ∃ l : Txt, vs = [Tx l] ∧ Lng l ∧ Q .non H
theorem cl_check_textF {f : Addr} {fd : FuncData} (D : Df K mg "check_text" s_check_text ["text"] f fd) (T : Nm mg) (c_is_text : Cl P w K mg base 1 "is_text" s_is_text ["value"] (spIsText K)) : Cl P w K mg base 2 "check_text" s_check_text ["text"] spCkTextL := by
  refine D.cl sc_check_text (fun vs H Q E h => ?_) (fun cdv A outer s H vs Q E hr h => ?_)
  · obtain ⟨l, rfl, _⟩ := h
    rfl
  · obtain ⟨l, rfl, ⟨al, ll⟩, k⟩ := h
    refine ⟨_, (pss_one (ps_if (pt_not (pt_val (pe_cl c_is_text hr (by omega) (pa_cons (pv 0) pa_nil)))) (pss_one ps_never) pss_nil)), ?_⟩
    refine ⟨_, rfl, Tx l, .str l, rfl, .str l (by omega), fun b hb => ?_⟩
    obtain rfl : b = true := hb.mpr ⟨l, rfl, al⟩
    exact ⟨_, rfl, k⟩
def spBehind : Sp := fun vs H Q _ => ∃ l : Txt, vs = [Tx l] ∧ Lng l ∧ Q (Tx (l ++ [97])) H
theorem cl_behind {f : Addr} {fd : FuncData} (D : Df K mg "behind" s_behind ["text"] f fd) (T : Nm mg) (c_check_text : Cl P w K mg base 2 "check_text" s_check_text ["text"] spCkTextL) : Cl P w K mg base 3 "behind" s_behind ["text"] spBehind := by
  refine D.cl sc_behind (fun vs H Q E h => ?_) (fun cdv A outer s H vs Q E hr h => ?_)
  · obtain ⟨l, rfl, _⟩ := h
    rfl
  · obtain ⟨l, rfl, sl, k⟩ := h
    refine ⟨_, (pss_cons (ps_expr (pe_cl c_check_text hr (by omega) (pa_cons (pv 0) pa_nil)))
      (pss_one (ps_ret (pe_op op_add_str (pv 0) pe_str)))), ?_⟩
    refine ⟨_, rfl, l, rfl, sl, _, rfl, tx l, tx [97], rfl, congrArg V.str a_lit, (by rw [tx_len, tx_len]; exact sz (by have := sl.2; simp; omega)), ?_⟩
    rw [tx_app]
    exact k
abbrev s_check_most : Stmt := topS 16
abbrev N_check_most : List Str := ["most"]
theorem sc_check_most : FnScope ["most"] ["most"] (defScope s_check_most) := ⟨rfl, rfl, rfl, by decide +kernel, rfl, by decide +kernel, by decide +kernel⟩

abbrev s_texts_in : Stmt := topS 20
abbrev N_texts_in : List Str := ["span", "most", "texts", "first", "end", "text"]
theorem sc_texts_in : FnScope ["span", "most", "texts", "first", "end", "text"] ["span", "most"] (defScope s_texts_in) := ⟨rfl, rfl, rfl, by decide +kernel, rfl, by decide +kernel, by decide +kernel⟩

theorem lt_snoc : ∀ (a : Txt) (c : Nat), a < a ++ [c]
  | [], c => List.nil_lt_cons _ _
  | a :: as, c => List.cons_lt_cons_iff.mpr (.inr ⟨rfl, lt_snoc as c⟩)
/-! ### the first texts of a span -/
def af (f : Txt) (k : Nat) : Txt := f ++ List.replicate k 97
theorem af0 (f : Txt) : af f 0 = f := List.append_nil f
theorem af_snoc (f : Txt) (k : Nat) : af f k ++ [97] = af f (k + 1) := by
  unfold af
  rw [List.append_assoc, List.replicate_succ']
theorem af_len (f : Txt) (k : Nat) : (af f k).length = f.length + k := by
  unfold af
  rw [List.length_append, List.length_replicate]
theorem af_abc {f : Txt} (h : Abc f) (k : Nat) : Abc (af f k) := h.app (Abc.rep k (.inl rfl))
theorem af_lt (f : Txt) (k : Nat) : af f k < af f (k + 1) := by
  rw [← af_snoc]
  exact lt_snoc _ _
theorem af_le (f : Txt) {j k : Nat} (h : j ≤ k) : af f j ≤ af f k := by
  induction h with
  | refl => exact le_self _
  | step _ ih => exact lt_le' (le_lt ih (af_lt f _))
def inE (e : Option Txt) (x : Txt) : Bool := match e with | none => true | some e => decide (x < e)
theorem inE_mono {e : Option Txt} {f : Txt} {j k : Nat} (h : j ≤ k) (g : inE e (af f k) = true) : inE e (af f j) = true := by
  cases e with
  | none => rfl
  | some e => exact decide_eq_true (le_lt (af_le f h) (of_decide_eq_true g))
/-- of one range, n texts at most -/
def tk (f : Txt) (e : Option Txt) : Nat → List Txt
  | 0 => []
  | n + 1 => if inE e (af f n) = true then tk f e n ++ [af f n] else tk f e n
theorem tk_all {f : Txt} {e : Option Txt} : ∀ {n : Nat}, (∀ j, j < n → inE e (af f j) = true) → tk f e n = (List.range n).map (af f)
  | 0, _ => rfl
  | n + 1, h => by
    show (if inE e (af f n) = true then _ else _) = _
    rw [if_pos (h n (Nat.lt_succ_self n)), tk_all fun j hj => h j (Nat.lt_succ_of_lt hj), List.range_succ, List.map_append]
    rfl
theorem tk_stop {f : Txt} {e : Option Txt} {k : Nat} (h : inE e (af f k) = false) : ∀ {n : Nat}, k ≤ n → tk f e n = tk f e k
  | 0, l => by rw [Nat.le_zero.mp l]
  | n + 1, l => by
    rcases Nat.lt_or_ge n k with q | q
    · rw [show k = n + 1 by omega]
    · show (if inE e (af f n) = true then _ else _) = _
      have : ¬ inE e (af f n) = true := fun z => by
        rw [inE_mono q z] at h
        cases h
      rw [if_neg this]
      exact tk_stop h q
theorem tk_len (f : Txt) (e : Option Txt) : ∀ n, (tk f e n).length ≤ n
  | 0 => Nat.le_refl 0
  | n + 1 => by
    have := tk_len f e n
    show (if inE e (af f n) = true then tk f e n ++ [af f n] else tk f e n).length ≤ _
    split
    · rw [List.length_append, List.length_singleton]; omega
    · omega
theorem tk_mem {f : Txt} {e : Option Txt} {x : Txt} : ∀ {n : Nat}, x ∈ tk f e n → ∃ j, j < n ∧ x = af f j ∧ inE e x = true
  | n + 1, m => by
    have m : x ∈ (if inE e (af f n) = true then tk f e n ++ [af f n] else tk f e n) := m
    by_cases c : inE e (af f n) = true
    · rw [if_pos c] at m
      rcases List.mem_append.mp m with m | m
      · obtain ⟨j, a, b⟩ := tk_mem m
        exact ⟨j, by omega, b⟩
      · obtain rfl := List.mem_singleton.mp m
        exact ⟨n, by omega, rfl, c⟩
    · rw [if_neg c] at m
      obtain ⟨j, a, b⟩ := tk_mem m
      exact ⟨j, by omega, b⟩
/-- of some ranges, n texts at most, behind those that are there -/
def tks : List Pr → Nat → List Txt → List Txt
  | [], _, acc => acc
  | (f, e) :: ps, n, acc => tks ps n (acc ++ tk f e (n - acc.length))
theorem tks_app : ∀ (ps qs : List Pr) (n : Nat) (acc : List Txt), tks (ps ++ qs) n acc = tks qs n (tks ps n acc)
  | [], _, _, _ => rfl
  | (f, e) :: ps, qs, n, acc => tks_app ps qs n _
theorem tks_len : ∀ (ps : List Pr) (n : Nat) (acc : List Txt), acc.length ≤ n → (tks ps n acc).length ≤ n
  | [], _, _, h => h
  | (f, e) :: ps, n, acc, h => tks_len ps n _ (by
    have := tk_len f e (n - acc.length)
    rw [List.length_append]
    omega)
theorem tks_mem {x : Txt} : ∀ {ps : List Pr} {n : Nat} {acc : List Txt}, x ∈ tks ps n acc → x ∈ acc ∨ ∃ p ∈ ps, ∃ j, j < n ∧ x = af p.1 j ∧ inE p.2 x = true
  | [], _, _, m => .inl m
  | (f, e) :: ps, n, acc, m => by
    rcases tks_mem (ps := ps) m with m | ⟨p, mp, j, a⟩
    · rcases List.mem_append.mp m with m | m
      · exact .inl m
      · obtain ⟨j, a, b⟩ := tk_mem m
        exact .inr ⟨(f, e), List.mem_cons_self, j, by omega, b⟩
    · exact .inr ⟨p, List.mem_cons_of_mem _ mp, j, a⟩
/-- what is known of told texts -/
def Tt (ps : List Pr) (n : Nat) (x : Txt) : Prop := Abc x ∧ x.length ≤ 40 + n ∧ inS ps x = true
theorem tks_tt {ps : List Pr} {n : Nat} (ok : ∀ p ∈ ps, PrOk p) {x : Txt} (m : x ∈ tks ps n []) : Tt ps n x := by
  rcases tks_mem m with m | ⟨p, mp, j, hj, rfl, hi⟩
  · exact nomatch m
  · obtain ⟨⟨a, b⟩, c⟩ := ok p mp
    refine ⟨af_abc a j, by rw [af_len]; omega, inS_mem.mpr ⟨p, mp, inP_iff.mpr ⟨?_, fun e he => ?_⟩⟩⟩
    · have := af_le p.1 (Nat.zero_le j)
      rwa [af0] at this
    · rw [he] at hi
      exact of_decide_eq_true hi
def spCkMost : Sp := fun vs H Q _ => ∃ i : Int, vs = [.int i] ∧ 1 ≤ i ∧ i ≤ 1000 ∧ Q .non H
theorem cl_check_most {f : Addr} {fd : FuncData} (D : Df K mg "check_most" s_check_most ["most"] f fd) (T : Nm mg) : Cl P w K mg base 1 "check_most" s_check_most ["most"] spCkMost := by
  refine D.cl sc_check_most (fun vs H Q E h => ?_) (fun cdv A outer s H vs Q E hr h => ?_)
  · obtain ⟨i, rfl, _⟩ := h
    rfl
  · obtain ⟨i, rfl, i1, i2, k⟩ := h
    refine ⟨_, (pss_one (ps_if (PW.pt (pw_or (pt_tyNot (T := "int") Mono.var (pv 0) T.n_type T.n_int (by decide +kernel)) (pw_or (pt_cmpR op_lt (pv 0) pe_int (by first | exact nomark _ | rfl)) (pw_or1 (pt_cmpR op_gt (pv 0) pe_int (by first | exact nomark _ | rfl)))))) (pss_one ps_never) pss_nil)), ?_⟩
    refine ⟨_, rfl, .int i, .int i, ite2 (fun h => absurd h (by simp [Dt.ty])) (fun _ => ?_)⟩
    refine ⟨_, rfl, _, _, rfl, rfl, _, rfl, ite2 (fun h => absurd (of_decide_eq_true h) (by omega)) (fun _ => ?_)⟩
    exact ⟨_, rfl, _, _, rfl, rfl, _, rfl, ite2 (fun h => absurd (of_decide_eq_true h) (by omega)) (fun _ => k)⟩
theorem MonoC.len {K : PySem.W.Frag} : MonoC (fun xs H Q => ∃ p ys, xs = [V.ref p] ∧ (SqL K H p ys ∨ SqT K H p ys) ∧ Q (.int (ys.length : Int)) H) := fun _ _ _ _ h ⟨p, ys, e1, e2, q⟩ => ⟨p, ys, e1, e2, h _ _ q⟩
theorem MonoR.isN : MonoR (fun x y H Q => y = .non ∧ Q (.bl (decide (x = .non))) H) := fun _ _ _ _ _ h ⟨e, q⟩ => ⟨e, h _ _ q⟩
def spTexts (K : PySem.W.Frag) : Sp := fun vs H Q _ => ∃ (a : Addr) (ps : List Pr) (n : Nat), vs = [.ref a, .int (n : Int)] ∧ Spn K H a ps ∧ 1 ≤ n ∧ n ≤ 900 ∧ ∀ p H', H p = none → Stp [] H H' → H' p = some (.lst ((tks ps n []).map Tx)) → Q (.ref p) H'
theorem cl_texts_in {f : Addr} {fd : FuncData} (D : Df K mg "texts_in" s_texts_in ["span", "most"] f fd) (T : Nm mg) (c_check_span : Cl P w K mg base 4 "check_span" s_check_span ["span"] (spCkSpan K)) (c_check_most : Cl P w K mg base 1 "check_most" s_check_most ["most"] spCkMost)
    (c_behind : Cl P w K mg base 3 "behind" s_behind ["text"] spBehind) : Cl P w K mg base 5 "texts_in" s_texts_in ["span", "most"] (spTexts K) := by
  refine D.cl sc_texts_in (fun vs H Q E h => ?_) (fun cdv A outer s H vs Q E hr h => ?_)
  · obtain ⟨a, ps, n, rfl, _⟩ := h
    rfl
  · obtain ⟨a, ps, n, rfl, sp, n1, n2, k⟩ := h
    refine ⟨_, (pss_cons (ps_expr (pe_cl c_check_span hr (by omega) (pa_cons (pv 0) pa_nil)))
      (pss_cons (ps_expr (pe_cl c_check_most hr (by omega) (pa_cons (pv 1) pa_nil)))
      (pss_cons (ps_set (i := 2) sc_texts_in.nd rfl (by first | exact Or.inl rfl | exact Or.inr rfl) (pe_lst pa_nil))
      (pss_cons (ps_for PassesOwn.never rfl (pi_tup (pv 0)) (pg_tup rfl (pgs_cons (pg_name (i := 3) sc_texts_in.nd rfl (by first | exact Or.inl rfl | exact Or.inr rfl)) (pgs_cons (pg_name (i := 4) sc_texts_in.nd rfl (by first | exact Or.inl rfl | exact Or.inr rfl)) pgs_nil (by rfl)) (by rfl)) (by rfl) (by rfl)) (pss_cons (ps_set (i := 5) sc_texts_in.nd rfl (by first | exact Or.inl rfl | exact Or.inr rfl) (pv 3))
      (pss_one (ps_while PassesOwn.never (PW.pt (pw_and (pt_cmpR op_lt (pe_callB call_len_seq (by rfl) T.n_len (by decide +kernel) (pa_cons (pv 2) pa_nil)) (pv 1) (by first | exact nomark _ | rfl)) (pw_and1 (PW.pt (pw_or (pt_cmpR op_isN (pv 4) pe_non (by first | exact nomark _ | rfl)) (pw_or1 (pt_cmpR op_lt_str (pv 5) (pv 4) (by first | exact nomark _ | rfl)))))))) (pss_cons (ps_expr (pe_bm PySem.F.plainAttrs_list PySem.F.slot_list_append PySem.F.type_list_append mt_append (pv 2) (pa_cons (pv 5) pa_nil)))
      (pss_one (ps_set (i := 5) sc_texts_in.nd rfl (by first | exact Or.inl rfl | exact Or.inr rfl) (pe_cl c_behind hr (by omega) (pa_cons (pv 5) pa_nil)))))))))
      (pss_one (ps_ret (pv 2))))))), ?_⟩
    have nn : ∀ {x : Addr}, x ∉ ([] : List Addr) := fun m => nomatch m
    refine ⟨_, rfl, a, ps, rfl, sp, fun H1 S1 => ?_⟩
    refine ⟨_, rfl, (n : Int), rfl, by omega, by omega, ?_⟩
    refine ⟨Nat.zero_le _, fun q nq => ?_⟩
    have nqH : H q = none := S1.fresh nn nq
    obtain ⟨⟨xs, hs, rl⟩, ok, few⟩ := sp.stp S1 Lsts.nil
    have lx : xs.length = ps.length := by rw [rl.len, List.length_map]
    have S2 : Stp [] H1 (upd H1 q (.lst [])) := Stp.new nq _
    have hs2 := sqt_stp S2 Lsts.nil hs
    have rl2 := rl.stp S2 Lsts.nil
    have hq2 : (upd H1 q (.lst [])) q = some (.lst []) := upd_same
    generalize upd H1 q (.lst []) = H2 at *
    have lq : ∀ {H' : Hp} {ys : List V}, H' q = some (.lst ys) → Lsts H' [q] := fun h => .one h
    refine ⟨_, rfl, a, rfl, ⟨_, hs2⟩, for_tup (a := a) (xs := xs) (fun i σ H3 => ∃ x3 x4 x5 : Option V, σ = [some (.ref a), some (.int (n : Int)), some (.ref q), x3, x4, x5] ∧ H3 q = some (.lst ((tks (ps.take i) n []).map Tx)) ∧ Stp [q] H2 H3)
      ⟨_, _, _, rfl, hq2, Stp.refl _ _⟩ (fun i σ H3 _ ⟨_, _, _, _, _, S3⟩ => sqt_stp S3 (lq hq2) hs2) ?_ ?_⟩
    · rintro i x σ H3 hi ⟨x3, x4, x5, rfl, hq3, S3⟩
      obtain ⟨⟨fi, e⟩, hp, t, rfl, ht⟩ := prs_get rl2 hi
      have okp := ok.ok _ (List.mem_of_getElem? hp)
      obtain ⟨sf, se⟩ := okp
      have ht3 := sqt_stp S3 (lq hq2) ht
      have tke : tks (ps.take (i + 1)) n [] = tks (ps.take i) n [] ++ tk fi e (n - (tks (ps.take i) n []).length) := by
        rw [List.take_add_one, hp, tks_app]
        rfl
      have alen := tks_len (ps.take i) n [] (Nat.zero_le _)
      rw [tke]
      generalize tks (ps.take i) n [] = acc at *
      refine ⟨t, _, rfl, ht3, rfl, _, _, rfl, _, _, rfl, rfl, ?_⟩
      refine ⟨_, rfl, ?_⟩
      refine while_by (fun σ H4 => ∃ j : Nat, σ = [some (.ref a), some (.int (n : Int)), some (.ref q), some (Tx fi), some (oV e), some (Tx (af fi j))] ∧ acc.length + j ≤ n ∧ (∀ i, i < j → inE e (af fi i) = true) ∧ H4 q = some (.lst ((acc ++ (List.range j).map (af fi)).map Tx)) ∧ Stp [q] H2 H4)
        (fun σ _ => match σ with | [_, _, _, _, _, some (.str x)] => 1000 + n - x.length | _ => 0) ⟨0, by rw [af0]; rfl, alen, (fun i h => absurd h (Nat.not_lt_zero i)), by rw [hq3, List.range_zero, List.map_nil, List.append_nil], S3⟩ ?_ ?_
      · rintro σ H4 ⟨j, rfl, lj, all, hq4, S4⟩
        have ll : ((acc ++ (List.range j).map (af fi)).map Tx).length = acc.length + j := by rw [List.length_map, List.length_append, List.length_map, List.length_range]
        have lsf : fi.length ≤ 40 := sf.2
        have done : (acc.length + j = n ∨ inE e (af fi j) = false) → ∃ x3 x4 x5 : Option V, [some (V.ref a), some (.int (n : Int)), some (.ref q), some (Tx fi), some (oV e), some (Tx (af fi j))] = [some (.ref a), some (.int (n : Int)), some (.ref q), x3, x4, x5] ∧ H4 q = some (.lst ((acc ++ tk fi e (n - acc.length)).map Tx)) ∧ Stp [q] H2 H4 := fun hd => by
          refine ⟨_, _, _, rfl, ?_, S4⟩
          have et : tk fi e (n - acc.length) = (List.range j).map (af fi) := by
            rcases hd with hd | hd
            · rw [show n - acc.length = j by omega]
              exact tk_all all
            · rw [tk_stop hd (show j ≤ n - acc.length by omega)]
              exact tk_all all
          rw [et]
          exact hq4
        refine MonoT.cut (t := tAnd _ _) (MonoT.and (MonoT.test (Mono.op' MonoR.i0 (Mono.cb MonoC.len (MonoA.cons Mono.var MonoA.nil)) Mono.var)) (MonoT.or (MonoT.test (Mono.op' MonoR.isN Mono.var Mono.c)) (MonoT.test (Mono.op' MonoR.str0 Mono.var Mono.var))))
          (fun t H9 => H9 = H4 ∧ (t = true → acc.length + j < n ∧ inE e (af fi j) = true) ∧ (t = false → acc.length + j = n ∨ inE e (af fi j) = false)) ?_ ?_
        · refine ⟨_, rfl, q, _, rfl, .inl (SqL.of hq4), _, rfl, _, _, rfl, rfl, _, rfl, ite2 (fun h => ?_) (fun h => ?_)⟩
          · have h1 : acc.length + j < n := by
              have := of_decide_eq_true h
              rw [ll] at this
              omega
            cases e with
            | none => exact ⟨_, rfl, rfl, _, rfl, rfl, fun _ => ⟨h1, rfl⟩, fun e => (nomatch (e : true = false))⟩
            | some e =>
              refine ⟨_, rfl, rfl, _, rfl, ite2 (fun h => absurd h (by simp [oV])) (fun _ => ?_)⟩
              refine ⟨_, rfl, _, rfl, tx (af fi j), tx e, rfl, rfl, _, rfl, rfl, fun e => ⟨h1, e⟩, fun e => .inr e⟩
          · have : ¬ ((((acc ++ (List.range j).map (af fi)).map Tx).length : Nat) : Int) < (n : Int) := fun q => h (decide_eq_true q)
            rw [ll] at this
            exact ⟨rfl, fun e => (nomatch e), fun _ => .inl (by omega)⟩
        rintro t H9 ⟨rfl, ht1, ht2⟩
        refine ite2 (fun h => ?_) (fun h => ?_)
        · obtain ⟨h1, h2⟩ := ht1 h
          refine ⟨_, rfl, .inl ⟨rfl, _, SqL.of hq4⟩, _, rfl, q, _, _, rfl, rfl, hq4, Nat.lt_of_le_of_lt (show _ ≤ 1000 by rw [ll]; omega) (by decide), ?_⟩
          refine ⟨_, rfl, af fi j, rfl, ⟨af_abc sf.1 j, by rw [af_len]; omega⟩, ?_⟩
          rw [af_snoc]
          refine ⟨⟨j + 1, rfl, by omega, fun i hi => ?_, ?_, S4.put' (by simp)⟩, ?_⟩
          · rcases Nat.lt_or_ge i j with q | q
            · exact all i q
            · rw [show i = j by omega]; exact h2
          · rw [upd_same, List.range_succ]
            simp [List.map_append, List.append_assoc]
          · show 1000 + n - (tx (af fi (j + 1))).length < 1000 + n - (tx (af fi j)).length
            rw [tx_len, tx_len, af_len, af_len]
            omega
        · exact done (ht2 (Bool.eq_false_iff.mpr h))
      · exact MonoT.and (MonoT.test (Mono.op' MonoR.i0 (Mono.cb MonoC.len (MonoA.cons Mono.var MonoA.nil)) Mono.var)) (MonoT.or (MonoT.test (Mono.op' MonoR.isN Mono.var Mono.c)) (MonoT.test (Mono.op' MonoR.str0 Mono.var Mono.var)))
    · rintro σ H3 ⟨x3, x4, x5, rfl, hq3, S3⟩
      rw [lx, List.take_length] at hq3
      exact ⟨_, rfl, k q H3 nqH (Stp.loc nqH ((S1.trans S2).sub (by simp) |>.trans S3)) hq3⟩
abbrev s_plain_signs : Stmt := topS 41
abbrev N_plain_signs : List Str := ["page", "value"]
theorem sc_plain_signs : FnScope ["page", "value"] ["page"] (defScope s_plain_signs) := ⟨rfl, rfl, rfl, by decide +kernel, rfl, by decide +kernel, by decide +kernel⟩

abbrev s_letters_shared : Stmt := topS 47
abbrev N_letters_shared : List Str := ["one", "other", "many"]
theorem sc_letters_shared : FnScope ["one", "other", "many"] ["one", "other"] (defScope s_letters_shared) := ⟨rfl, rfl, rfl, by decide +kernel, rfl, by decide +kernel, by decide +kernel⟩

abbrev s_signs_behind : Stmt := topS 46
abbrev N_signs_behind : List Str := ["ahead", "value", "many"]
theorem sc_signs_behind : FnScope ["ahead", "value", "many"] ["ahead", "value"] (defScope s_signs_behind) := ⟨rfl, rfl, rfl, by decide +kernel, rfl, by decide +kernel, by decide +kernel⟩

abbrev s_shared_signs : Stmt := topS 45
abbrev N_shared_signs : List Str := ["page", "ahead_of_each", "ahead", "value"]
theorem sc_shared_signs : FnScope ["page", "ahead_of_each", "ahead", "value"] ["page"] (defScope s_shared_signs) := ⟨rfl, rfl, rfl, by decide +kernel, rfl, by decide +kernel, by decide +kernel⟩

/-! ### pages of texts, and their signs -/
abbrev OT := Option (List Nat)
def Pgs (os : List OT) : Prop := (∀ l, some l ∈ os → Abc l ∧ l.length ≤ 60) ∧ os.length ≤ 60
theorem op_notIn_seqK {X : Cx} {K : PySem.W.Frag} (hK : X.K = K) : OpR X (compareOp .NotIn) (rIn K true) := by
  subst hK
  exact op_notIn_seq
/-- a comprehension that gives a list of values, one for each item -/
theorem lc_vals {α : Type} {K : PySem.W.Frag} {a D : Addr} {os : List α} {φ : α → V} {r : α → V} {g : TG} {te : TE} {vs : List Nat} {σ : L2.St} {H1 : Hp} {Qd : Hp → Prop} (nD : H1 D = none) (hs : SqL K H1 a (os.map φ)) (few : os.length ≤ 90000)
    (step : ∀ (i : Nat) (o : α) H, os[i]? = some o → Stp [] H1 H → ∀ Q : VK, (∀ H', Stp [] H H' → Q (r o) H') → g (φ o) (wipe σ vs) H fun σ2 H2 => wipe σ2 vs = wipe σ vs ∧ te σ2 H2 Q)
    (hd : ∀ H, Stp [] H1 H → H D = some (.lst (os.map r)) → Qd H) :
    ∃ W : Nat → Nat → Hp → Prop, (∃ m, W 0 m (upd H1 D (.lst []))) ∧ ∀ i m H, W i m H →
      ((Itl K a).stop i H ∧ Qd H) ∨ ((Itl K a).go i H ∧ ∃ Nx : Hp → Prop, (∀ H', Nx H' → ∃ m', m' < m ∧ W (i + 1) m' H') ∧ ∀ x H', (Itl K a).yld i H x H' → g x (wipe σ vs) H' fun σ2 H2 => wipe σ2 vs = wipe σ vs ∧ tYes σ2 H2 fun b H3 =>
        if b = true then te σ2 H3 fun y H4 => ∃ acc, H4 D = some (.lst acc) ∧ acc.length < sizeLine ∧ Nx (upd H4 D (.lst (acc ++ [y]))) else Nx H3) := by
  refine lc_list (a := a) (xs := os.map φ) (fun i H => H D = some (.lst ((os.take i).map r)) ∧ Stp [] H1 H) ⟨upd_same, Stp.new nD _⟩ (fun i H _ ⟨_, S⟩ => sql_up S hs) ?_ ?_
  · rintro i x H hi ⟨hL, S⟩
    rw [List.getElem?_map] at hi
    cases e : os[i]? with
    | none => rw [e] at hi; cases hi
    | some o =>
      rw [e] at hi
      cases hi
      refine step i o H e S _ fun H' S' => ?_
      refine ⟨_, S'.kp _ _ (fun m => nomatch m) hL, ?_, ?_, (S.trans S').mut nD⟩
      · rw [List.length_map, List.length_take]
        exact Nat.lt_of_le_of_lt (show min i os.length ≤ 90000 by omega) (by decide)
      · rw [List.take_add_one, e, List.map_append]
        exact upd_same
  · rintro H ⟨hL, S⟩
    rw [List.length_map, List.take_length] at hL
    exact hd H S hL
/-! ### plain -/
def plainS (os : List OT) : Nat := (os.map vsg).sum
theorem sum_ints : ∀ (ns : List Nat), (ns.map fun n : Nat => (n : Int)).sum = ((ns.sum : Nat) : Int)
  | [] => rfl
  | n :: ns => by rw [List.map_cons, List.sum_cons, List.sum_cons, sum_ints ns]; omega
theorem Pgs.short {os : List OT} (h : Pgs os) {o : OT} (m : o ∈ os) : ∀ l, o = some l → l.length ≤ 1000 := fun l e => by
  subst e
  have := (h.1 l m).2
  omega
/-- a count of signs of a page -/
def spPgs (f : List OT → Nat) : Sp := fun vs H Q _ => ∃ (p : Addr) (os : List OT), vs = [.ref p] ∧ H p = some (.lst (os.map vV)) ∧ Pgs os ∧ ∀ H', Stp [] H H' → Q (.int (f os : Int)) H'
theorem spPgs.len {f : List OT → Nat} {vs : List V} {H : Hp} {Q : VK} {E : XK} (h : spPgs f vs H Q E) : vs.length = 1 := by
  obtain ⟨p, os, rfl, _⟩ := h
  rfl
theorem cl_plain_signs {f : Addr} {fd : FuncData} (D : Df K mg "plain_signs" s_plain_signs ["page"] f fd) (T : Nm mg) (c_value_signs : Cl P w K mg base 1 "value_signs" s_value_signs ["value"] spVsg) : Cl P w K mg base 2 "plain_signs" s_plain_signs ["page"] (spPgs plainS) := by
  refine D.cl sc_plain_signs (fun vs H Q E h => h.len) (fun cdv A outer s H vs Q E hr h => ?_)
  obtain ⟨p, os, rfl, hp, ok, k⟩ := h
  refine ⟨_, (pss_one (ps_ret (pe_callB (cr_sum rfl) (by rfl) T.n_sum (by decide +kernel) (pa_cons (pe_lc (own := [("value", 1)]) rfl sc_plain_signs.nd (pi_list (pv 0)) (blkOk_by (own := [("value", 1)]) (N := N_plain_signs) (sc := defScope s_plain_signs) (by decide +kernel)) (fun _ _ _ _ _ => (pg_name (i := 1) sc_plain_signs.nd rfl (by first | exact Or.inl rfl | exact Or.inr rfl))) (fun _ _ _ _ _ => pts_nil) (fun _ _ _ _ _ => (pe_cl c_value_signs hr (by omega) (pa_cons (pv 1) pa_nil)))) pa_nil)))), ?_⟩
  refine ⟨_, rfl, p, rfl, ⟨_, SqL.of hp⟩, fun L nL => ?_⟩
  refine lc_vals (K := K) (os := os) (φ := vV) (r := fun o => .int (vsg o : Int)) nL (SqL.of hp) (by have := ok.2; omega) (fun i o H1 e S Q1 q => ⟨rfl, _, rfl, o, rfl, ok.short (List.mem_of_getElem? e), q H1 (Stp.refl _ _)⟩) (fun H1 S1 h1 => ?_)
  refine ⟨L, os.map fun o => (vsg o : Int), rfl, SqL.of (by rw [h1, List.map_map]; rfl), ?_⟩
  have e := k H1 S1
  unfold plainS at e
  rw [← sum_ints, List.map_map] at e
  exact e
/-! ### shared -/
/-- how many letters two texts share at their beginning -/
def lcp : List Nat → List Nat → Nat
  | a :: as, b :: bs => if a = b then lcp as bs + 1 else 0
  | _, _ => 0
theorem lcp_next : ∀ (k l : List Nat) (m : Nat), m ≤ lcp k l → (m < lcp k l ↔ m < k.length ∧ m < l.length ∧ k[m]? = l[m]?)
  | [], _, m, _ => ⟨fun h => absurd h (Nat.not_lt_zero _), fun h => absurd h.1 (Nat.not_lt_zero _)⟩
  | _ :: _, [], m, _ => ⟨fun h => absurd h (Nat.not_lt_zero _), fun h => absurd h.2.1 (Nat.not_lt_zero _)⟩
  | a :: k, b :: l, m, h => by
    have h : m ≤ if a = b then lcp k l + 1 else 0 := h
    show m < (if a = b then lcp k l + 1 else 0) ↔ _
    by_cases e : a = b
    · rw [if_pos e] at h ⊢
      cases m with
      | zero => exact ⟨fun _ => ⟨by simp, by simp, by rw [e]; rfl⟩, fun _ => Nat.succ_pos _⟩
      | succ m =>
        have ih := lcp_next k l m (by omega)
        rw [List.getElem?_cons_succ, List.getElem?_cons_succ, List.length_cons, List.length_cons]
        exact ⟨fun h => by obtain ⟨x, y, z⟩ := ih.mp (by omega); exact ⟨by omega, by omega, z⟩, fun ⟨x, y, z⟩ => by have := ih.mpr ⟨by omega, by omega, z⟩; omega⟩
    · rw [if_neg e] at h ⊢
      obtain rfl : m = 0 := by omega
      refine ⟨fun h => absurd h (Nat.lt_irrefl _), fun ⟨_, _, z⟩ => ?_⟩
      exact absurd (Option.some.inj z) e
theorem lcp_le : ∀ (k l : List Nat), lcp k l ≤ k.length ∧ lcp k l ≤ l.length
  | [], _ => ⟨Nat.zero_le _, Nat.zero_le _⟩
  | _ :: _, [] => ⟨Nat.zero_le _, Nat.zero_le _⟩
  | a :: k, b :: l => by
    show (if a = b then lcp k l + 1 else 0) ≤ _ ∧ (if a = b then lcp k l + 1 else 0) ≤ _
    have := lcp_le k l
    rw [List.length_cons, List.length_cons]
    split <;> omega
def spLcp : Sp := fun vs H Q _ => ∃ k l : List Nat, vs = [Tx k, Tx l] ∧ k.length ≤ 1000 ∧ l.length ≤ 1000 ∧ Q (.int (lcp k l : Int)) H
theorem MonoR.eq0 : MonoR rEq := fun _ _ _ _ _ h ⟨e, q⟩ => ⟨e, h _ _ q⟩
theorem MonoC.lenS : MonoC (fun xs H Q => ∃ z : Str, xs = [V.str z] ∧ z.length ≤ sizeLine ∧ Q (.int (z.length : Int)) H) := fun _ _ _ _ h ⟨z, e, l, q⟩ => ⟨z, e, l, h _ _ q⟩
theorem atI_tx {l : List Nat} {m c : Nat} (h : l[m]? = some c) : atI (tx l).cps.toList (m : Int) = some c := atI_nat h
theorem cl_letters_shared {f : Addr} {fd : FuncData} (D : Df K mg "letters_shared" s_letters_shared ["one", "other"] f fd) (T : Nm mg) : Cl P w K mg base 1 "letters_shared" s_letters_shared ["one", "other"] spLcp := by
  refine D.cl sc_letters_shared (fun vs H Q E h => ?_) (fun cdv A outer s H vs Q E hr h => ?_)
  · obtain ⟨k, l, rfl, _⟩ := h
    rfl
  · obtain ⟨k, l, rfl, lk, ll, q⟩ := h
    refine ⟨_, (pss_cons (ps_set (i := 2) sc_letters_shared.nd rfl (by first | exact Or.inl rfl | exact Or.inr rfl) pe_int)
      (pss_cons (ps_while PassesOwn.never (PW.pt (pw_and (pt_cmpR op_lt (pv 2) (pe_callB call_len_str (by rfl) T.n_len (by decide +kernel) (pa_cons (pv 0) pa_nil)) (by first | exact nomark _ | rfl)) (pw_and (pt_cmpR op_lt (pv 2) (pe_callB call_len_str (by rfl) T.n_len (by decide +kernel) (pa_cons (pv 1) pa_nil)) (by first | exact nomark _ | rfl)) (pw_and1 (pt_cmpR op_eq (pe_ix ix_str (pv 0) (pv 2) (fun _ _ => rfl)) (pe_ix ix_str (pv 1) (pv 2) (fun _ _ => rfl)) (by first | exact nomark _ | rfl)))))) (pss_one (ps_aug (i := 2) sc_letters_shared.nd rfl (by first | exact Or.inl rfl | exact Or.inr rfl) pe_int ip_add)))
      (pss_one (ps_ret (pv 2))))), ?_⟩
    refine while_by (fun σ H1 => ∃ m : Nat, σ = [some (Tx k), some (Tx l), some (.int (m : Int))] ∧ m ≤ lcp k l ∧ H1 = H) (fun σ _ => match σ with | [_, _, some (.int i)] => 5000 - i.toNat | _ => 0) ⟨0, rfl, Nat.zero_le _, rfl⟩ ?_ ?_
    · rintro σ H1 ⟨m, rfl, hm, hH⟩
      have nx := lcp_next k l m hm
      have le := lcp_le k l
      have done : ¬ m < lcp k l → ∃ x, [some (Tx k), some (Tx l), some (V.int (m : Int))][2]? = some (some x) ∧ Q x H1 := fun n => by
        have e : m = lcp k l := by omega
        rw [← e, ← hH] at q
        exact ⟨_, rfl, q⟩
      refine ⟨_, rfl, _, rfl, tx k, rfl, szt (by omega), _, _, rfl, rfl, _, rfl, ite2 (fun h1 => ?_) (fun h1 => ?_)⟩
      · have h1 : m < k.length := by have := of_decide_eq_true h1; rw [tx_len] at this; omega
        refine ⟨_, rfl, _, rfl, tx l, rfl, szt (by omega), _, _, rfl, rfl, _, rfl, ite2 (fun h2 => ?_) (fun h2 => ?_)⟩
        · have h2 : m < l.length := by have := of_decide_eq_true h2; rw [tx_len] at this; omega
          obtain ⟨c, ec⟩ : ∃ c, k[m]? = some c := ⟨_, List.getElem?_eq_getElem h1⟩
          obtain ⟨d, ed⟩ : ∃ d, l[m]? = some d := ⟨_, List.getElem?_eq_getElem h2⟩
          refine ⟨_, rfl, _, rfl, tx k, _, c, rfl, rfl, szt (by omega), atI_tx ec, _, rfl, _, rfl, tx l, _, d, rfl, rfl, szt (by omega), atI_tx ed, rfl, _, rfl, ?_⟩
          have e3 : decide (V.str ⟨#[c]⟩ = V.str ⟨#[d]⟩) = decide (c = d) := by
            by_cases z : c = d
            · rw [z, decide_eq_true rfl, decide_eq_true rfl]
            · rw [decide_eq_false z]
              refine decide_eq_false fun e => z ?_
              have e := congrArg (fun s : Str => s.cps.toList) (V.str.inj e)
              cases e
              rfl
          rw [e3]
          refine ite2 (fun h3 => ?_) (fun h3 => ?_)
          · have lt : m < lcp k l := nx.mpr ⟨h1, h2, by rw [ec, ed, of_decide_eq_true h3]⟩
            refine ⟨_, rfl, _, _, rfl, rfl, ⟨m + 1, rfl, lt, hH⟩, ?_⟩
            show 5000 - ((m : Int) + 1).toNat < 5000 - (m : Int).toNat
            omega
          · exact done fun lt => h3 (decide_eq_true (by
              have := (nx.mp lt).2.2
              rw [ec, ed] at this
              exact Option.some.inj this))
        · exact done fun lt => h2 (decide_eq_true (by rw [tx_len]; have := (nx.mp lt).2.1; omega))
      · exact done fun lt => h1 (decide_eq_true (by rw [tx_len]; have := (nx.mp lt).1; omega))
    · exact fun σ H Q Q' m q => MonoT.and (MonoT.test (Mono.op' MonoR.i0 Mono.var (Mono.cb MonoC.lenS (MonoA.cons Mono.var MonoA.nil)))) (MonoT.and (MonoT.test (Mono.op' MonoR.i0 Mono.var (Mono.cb MonoC.lenS (MonoA.cons Mono.var MonoA.nil)))) (MonoT.test (Mono.op' MonoR.eq0 (Mono.op' MonoR.ixS Mono.var Mono.var) (Mono.op' MonoR.ixS Mono.var Mono.var)))) σ H Q Q' m q
/-- the signs of a value behind another one -/
def sgb (a o : OT) : Nat := match o with
  | none => 1
  | some l => let m : Nat := (match a with | none => 0 | some k => lcp k l); dg (m : Int) + vsg (some (l.drop m))
def spSgb : Sp := fun vs H Q _ => ∃ a o : OT, vs = [vV a, vV o] ∧ (∀ l, a = some l → l.length ≤ 60) ∧ (∀ l, o = some l → l.length ≤ 60) ∧ Q (.int (sgb a o : Int)) H
theorem tx_from (l : List Nat) (k : Nat) (h : k ≤ l.length) : cutS (tx l) (some (k : Int)) none = tx (l.drop k) := by
  rw [tx_cut, HT.sIx_none, HT.sIx_nat, Nat.min_eq_left h, List.take_of_length_le (by rw [List.length_drop]; exact Nat.le_refl _)]
theorem cl_signs_behind {f : Addr} {fd : FuncData} (D : Df K mg "signs_behind" s_signs_behind ["ahead", "value"] f fd) (T : Nm mg) (c_letters_shared : Cl P w K mg base 1 "letters_shared" s_letters_shared ["one", "other"] spLcp)
    (c_digits : Cl P w K mg base 1 "digits" s_digits ["number"] spDigits) (c_value_signs : Cl P w K mg base 1 "value_signs" s_value_signs ["value"] spVsg) : Cl P w K mg base 2 "signs_behind" s_signs_behind ["ahead", "value"] spSgb := by
  refine D.cl sc_signs_behind (fun vs H Q E h => ?_) (fun cdv A outer s H vs Q E hr h => ?_)
  · obtain ⟨a, o, rfl, _⟩ := h
    rfl
  · obtain ⟨a, o, rfl, la, lo, q⟩ := h
    refine ⟨_, (pss_cons (ps_if (pt_cmpR op_isN (pv 1) pe_non (by first | exact nomark _ | rfl)) (pss_one (ps_ret pe_int)) pss_nil)
      (pss_cons (ps_set (i := 2) sc_signs_behind.nd rfl (by first | exact Or.inl rfl | exact Or.inr rfl) (pe_ifExp (pt_cmpR op_isN (pv 0) pe_non (by first | exact nomark _ | rfl)) pe_int (pe_cl c_letters_shared hr (by omega) (pa_cons (pv 0) (pa_cons (pv 1) pa_nil)))))
      (pss_one (ps_ret (pe_op op_add (pe_cl c_digits hr (by omega) (pa_cons (pv 2) pa_nil)) (pe_cl c_value_signs hr (by omega) (pa_cons (pe_slice sl_str (pv 1) (po_some (pv 2)) po_none) pa_nil))))))), ?_⟩
    cases o with
    | none => exact ⟨_, rfl, rfl, _, rfl, ite2 (fun _ => q) (fun h => absurd rfl h)⟩
    | some l =>
      have ll := lo l rfl
      refine ⟨_, rfl, rfl, _, rfl, ite2 (fun h => absurd h (by simp [vV])) (fun _ => ?_)⟩
      dsimp only [tNext]
      refine seq_end (fun σ' H' => ∃ m : Nat, σ' = [some (vV a), some (Tx l), some (.int (m : Int))] ∧ H' = H ∧ m ≤ l.length ∧ dg (m : Int) + vsg (some (l.drop m)) = sgb a (some l)) ?_ (fun fin => ?_)
      rotate_left
      · cases a with
        | none => exact ⟨_, rfl, rfl, _, rfl, ite2 (fun _ => fin _ _ ⟨0, rfl, rfl, Nat.zero_le _, rfl⟩) (fun h => absurd rfl h)⟩
        | some k =>
          have lk := la k rfl
          have le := lcp_le k l
          refine ⟨_, rfl, rfl, _, rfl, ite2 (fun h => absurd h (by simp [vV])) (fun _ => ?_)⟩
          exact ⟨_, rfl, _, rfl, k, l, rfl, by omega, by omega, fin _ _ ⟨lcp k l, rfl, rfl, le.2, rfl⟩⟩
      · rintro σ' H' ⟨m, rfl, hH, hm, e⟩
        refine ⟨_, rfl, (m : Int), rfl, by omega, ?_⟩
        refine ⟨_, rfl, _, rfl, (m : Int), rfl, tx l, rfl, szt (by omega), ?_⟩
        rw [tx_from l m hm]
        refine ⟨some (l.drop m), rfl, fun l' e' => by cases e'; rw [List.length_drop]; omega, _, _, rfl, rfl, ?_⟩
        rw [← e, Int.natCast_add, ← hH] at q
        exact q
/-- the signs of each value behind the one ahead of it -/
def sharedS (os : List OT) : Nat := ((none :: os).zipWith sgb os).sum
theorem lc_pairs {K : PySem.W.Frag} {a b D : Addr} {xs ys : List OT} {φ : OT → OT → Nat} {g : TG} {te : TE} {vs : List Nat} {σ : L2.St} {H1 : Hp} {Qd : Hp → Prop} (nD : H1 D = none) (hx : SqL K H1 a (xs.map vV)) (hy : SqL K H1 b (ys.map vV)) (le : ys.length ≤ xs.length) (few : ys.length ≤ 90000)
    (step : ∀ (i : Nat) (x y : OT) H T, xs[i]? = some x → ys[i]? = some y → Stp [] H1 (upd H T (.tup [vV x, vV y])) → H T = none → ∀ Q : VK, (∀ H', Stp [] (upd H T (.tup [vV x, vV y])) H' → Q (.int (φ x y : Int)) H') → g (.ref T) (wipe σ vs) (upd H T (.tup [vV x, vV y])) fun σ2 H2 => wipe σ2 vs = wipe σ vs ∧ te σ2 H2 Q)
    (hd : ∀ H, Stp [] H1 H → H D = some (.lst ((xs.zipWith φ ys).map fun n : Nat => V.int (n : Int))) → Qd H) :
    ∃ W : Nat → Nat → Hp → Prop, (∃ m, W 0 m (upd H1 D (.lst []))) ∧ ∀ i m H, W i m H →
      ((Itz K a b).stop i H ∧ Qd H) ∨ ((Itz K a b).go i H ∧ ∃ Nx : Hp → Prop, (∀ H', Nx H' → ∃ m', m' < m ∧ W (i + 1) m' H') ∧ ∀ x H', (Itz K a b).yld i H x H' → g x (wipe σ vs) H' fun σ2 H2 => wipe σ2 vs = wipe σ vs ∧ tYes σ2 H2 fun b H3 =>
        if b = true then te σ2 H3 fun y H4 => ∃ acc, H4 D = some (.lst acc) ∧ acc.length < sizeLine ∧ Nx (upd H4 D (.lst (acc ++ [y]))) else Nx H3) := by
  have W := walk_zip (K := K) (a := a) (b := b) (xs := xs.map vV) (ys := ys.map vV) (n := ys.length) (by rw [List.length_map, List.length_map]; omega)
  refine lc_it W (fun i H => H D = some (.lst (((xs.zipWith φ ys).take i).map fun n : Nat => V.int (n : Int))) ∧ Stp [] H1 H) ⟨upd_same, Stp.new nD _⟩ (fun i H _ ⟨_, S⟩ => ⟨sql_up S hx, sql_up S hy⟩) ?_ ?_
  · rintro i v H H' hi ⟨hL, S⟩ ⟨T, x, y, rfl, nT, rfl, ex, ey⟩
    have ex : (xs.map vV)[i]? = some x := ex
    have ey : (ys.map vV)[i]? = some y := ey
    rw [List.getElem?_map] at ex ey
    cases e1 : xs[i]? with
    | none => rw [e1] at ex; cases ex
    | some x' =>
      rw [e1] at ex
      cases ex
      cases e2 : ys[i]? with
      | none => rw [e2] at ey; cases ey
      | some y' =>
        rw [e2] at ey
        cases ey
        have DT : D ≠ T := ne_of_none hL nT
        have S2 : Stp [] H1 (upd H T (.tup [vV x', vV y'])) := S.new' nT
        have hL2 : (upd H T (.tup [vV x', vV y'])) D = some (.lst (((xs.zipWith φ ys).take i).map fun n : Nat => V.int (n : Int))) := by rw [upd_ne DT]; exact hL
        refine step i x' y' H T e1 e2 S2 nT _ fun H' S' => ?_
        refine ⟨_, S'.kp _ _ (fun m => nomatch m) hL2, ?_, ?_, (S2.trans S').mut nD⟩
        · rw [List.length_map, List.length_take]
          exact Nat.lt_of_le_of_lt (show min i _ ≤ 90000 by omega) (by decide)
        · rw [List.take_add_one, List.getElem?_zipWith, e1, e2, List.map_append]
          exact upd_same
  · rintro H ⟨hL, S⟩
    have e : ((xs.zipWith φ ys).take ys.length) = xs.zipWith φ ys := List.take_of_length_le (by rw [List.length_zipWith]; omega)
    rw [e] at hL
    exact hd H S hL
theorem cl_shared_signs {f : Addr} {fd : FuncData} (D : Df K mg "shared_signs" s_shared_signs ["page"] f fd) (T : Nm mg) (c_signs_behind : Cl P w K mg base 2 "signs_behind" s_signs_behind ["ahead", "value"] spSgb) : Cl P w K mg base 3 "shared_signs" s_shared_signs ["page"] (spPgs sharedS) := by
  refine D.cl sc_shared_signs (fun vs H Q E h => h.len) (fun cdv A outer s H vs Q E hr h => ?_)
  obtain ⟨p, os, rfl, hp, ok, k⟩ := h
  refine ⟨_, (pss_cons (ps_set (i := 1) sc_shared_signs.nd rfl (by first | exact Or.inl rfl | exact Or.inr rfl) (pe_lst (pa_cons pe_non (StX.pa_star (pv 0) pa_nil))))
      (pss_one (ps_ret (pe_callB (cr_sum rfl) (by rfl) T.n_sum (by decide +kernel) (pa_cons (pe_lc (own := [("ahead", 2), ("value", 3)]) rfl sc_shared_signs.nd (RZ.pi_zipA (by rfl) T.n_zip (pa_cons (pv 1) (pa_cons (pv 0) pa_nil))) (blkOk_by (own := [("ahead", 2), ("value", 3)]) (N := N_shared_signs) (sc := defScope s_shared_signs) (by decide +kernel)) (fun _ _ _ _ _ => (pg_tupK (n := 2) rfl rfl (pgs_cons (pg_name (i := 2) sc_shared_signs.nd rfl (by first | exact Or.inl rfl | exact Or.inr rfl)) (pgs_cons (pg_name (i := 3) sc_shared_signs.nd rfl (by first | exact Or.inl rfl | exact Or.inr rfl)) pgs_nil (by rfl)) (by rfl)) (by rfl) (by rfl))) (fun _ _ _ _ _ => pts_nil) (fun _ _ _ _ _ => (pe_cl c_signs_behind hr (by omega) (pa_cons (pv 2) (pa_cons (pv 3) pa_nil))))) pa_nil))))), ?_⟩
  have nn : ∀ {x : Addr}, x ∉ ([] : List Addr) := fun m => nomatch m
  have few := ok.2
  refine ⟨_, rfl, p, _, rfl, .inr (SqL.of hp), ?_, fun q nq => ?_⟩
  · rw [List.append_nil, List.length_cons, List.length_map]
    exact Nat.le_trans (show os.length + 1 ≤ 100 by omega) (by decide)
  rw [List.append_nil]
  have S1 : Stp [] H (upd H q (.lst ((none :: os).map vV))) := Stp.new nq _
  have hq1 : (upd H q (.lst ((none :: os).map vV))) q = some (.lst ((none :: os).map vV)) := upd_same
  dsimp only [gName]
  have e0 : V.non :: os.map vV = (none :: os).map vV := rfl
  rw [e0]
  generalize upd H q (.lst ((none :: os).map vV)) = H1 at *
  have hp1 := S1.kp _ _ nn hp
  refine ⟨_, rfl, _, rfl, q, p, _, _, rfl, .inl ⟨SqL.of hq1, SqL.of hp1, fun L nL => ?_⟩⟩
  refine lc_pairs (K := K) (xs := none :: os) (ys := os) (φ := sgb) nL (SqL.of hq1) (SqL.of hp1) (by rw [List.length_cons]; omega) (by omega) (fun i x y H2 T ex ey S2 nT Q1 q1 => ?_) (fun H2 S2 h2 => ?_)
  · have lx : ∀ l, x = some l → l.length ≤ 60 := fun l e => by
      subst e
      rcases List.mem_cons.mp (List.mem_of_getElem? ex) with e | m
      · cases e
      · exact (ok.1 l m).2
    have ly : ∀ l, y = some l → l.length ≤ 60 := fun l e => by
      subst e
      exact (ok.1 l (List.mem_of_getElem? ey)).2
    refine ⟨T, _, rfl, SqT.of upd_same, rfl, _, _, rfl, _, _, rfl, rfl, rfl, _, rfl, _, rfl, x, y, rfl, lx, ly, q1 _ (Stp.refl _ _)⟩
  · refine ⟨L, (((none :: os).zipWith sgb os).map fun n : Nat => (n : Int)), rfl, SqL.of (by rw [h2, List.map_map]; rfl), ?_⟩
    have e := k H2 (S1.trans S2)
    unfold sharedS at e
    rw [← sum_ints] at e
    exact e
abbrev s_stretches : Stmt := topS 43
abbrev N_stretches : List Str := ["page", "found", "value"]
theorem sc_stretches : FnScope ["page", "found", "value"] ["page"] (defScope s_stretches) := ⟨rfl, rfl, rfl, by decide +kernel, rfl, by decide +kernel, by decide +kernel⟩

abbrev s_runs_signs : Stmt := topS 42
abbrev N_runs_signs : List Str := ["page", "value", "many"]
theorem sc_runs_signs : FnScope ["page", "value", "many"] ["page"] (defScope s_runs_signs) := ⟨rfl, rfl, rfl, by decide +kernel, rfl, by decide +kernel, by decide +kernel⟩

/-! ### stretches, runs -/
def addS (st : List (OT × Nat)) (o : OT) : List (OT × Nat) := match st.getLast? with
  | none => st ++ [(o, 1)]
  | some p => if p.1 = o then st.dropLast ++ [(o, p.2 + 1)] else st ++ [(o, 1)]
def strS (os : List OT) : List (OT × Nat) := os.foldl addS []
theorem strS_snoc (os : List OT) (o : OT) : strS (os ++ [o]) = addS (strS os) o := by unfold strS; rw [List.foldl_append]; rfl
theorem addS_nil (o : OT) : addS [] o = [(o, 1)] := rfl
theorem addS_same (si : List (OT × Nat)) (o : OT) (n : Nat) : addS (si ++ [(o, n)]) o = si ++ [(o, n + 1)] := by
  unfold addS
  rw [List.getLast?_concat]
  show (if o = o then _ else _) = _
  rw [if_pos rfl, List.dropLast_concat]
theorem addS_other {si : List (OT × Nat)} {x o : OT} {n : Nat} (h : x ≠ o) : addS (si ++ [(x, n)]) o = si ++ [(x, n)] ++ [(o, 1)] := by
  unfold addS
  rw [List.getLast?_concat]
  show (if x = o then _ else _) = _
  rw [if_neg h]
theorem strS_len : ∀ (n : Nat) (os : List OT), os.length = n → (strS os).length ≤ n ∧ ∀ p ∈ strS os, p.1 ∈ os ∧ 1 ≤ p.2 ∧ p.2 ≤ n
  | 0, os, h => by
    rw [List.length_eq_zero_iff.mp h]
    exact ⟨Nat.le_refl _, fun _ m => nomatch m⟩
  | n + 1, os, h => by
    rcases List.eq_nil_or_concat os with e | ⟨oi, o, e⟩
    · rw [e] at h; cases h
    · rw [List.concat_eq_append] at e
      subst e
      have hl : oi.length = n := by rw [List.length_append, List.length_singleton] at h; omega
      obtain ⟨a, b⟩ := strS_len n oi hl
      rw [strS_snoc]
      have b' : ∀ p ∈ strS oi, p.1 ∈ oi ++ [o] ∧ 1 ≤ p.2 ∧ p.2 ≤ n + 1 := fun p m => ⟨List.mem_append_left _ (b p m).1, (b p m).2.1, by have := (b p m).2.2; omega⟩
      have new : ∀ p ∈ [(o, 1)], p.1 ∈ oi ++ [o] ∧ 1 ≤ p.2 ∧ p.2 ≤ n + 1 := fun p m => by rw [List.mem_singleton.mp m]; exact ⟨by simp, Nat.le_refl _, by omega⟩
      generalize strS oi = st at *
      rcases List.eq_nil_or_concat st with e | ⟨si, ⟨x, k⟩, e⟩
      · subst e
        rw [addS_nil]
        exact ⟨by simp, new⟩
      · rw [List.concat_eq_append] at e
        subst e
        by_cases c : x = o
        · subst c
          rw [addS_same]
          rw [List.length_append, List.length_singleton] at a ⊢
          refine ⟨by omega, fun p m => ?_⟩
          rcases List.mem_append.mp m with m | m
          · exact b' p (List.mem_append_left _ m)
          · rw [List.mem_singleton.mp m]
            have := (b (x, k) (by simp)).2.2
            exact ⟨by simp, by omega, by simp at this ⊢; omega⟩
        · rw [addS_other c]
          rw [List.length_append, List.length_singleton]
          refine ⟨by omega, fun p m => ?_⟩
          rcases List.mem_append.mp m with m | m
          · exact b' p m
          · exact new p m
/-- a pair of a value and how many -/
def StE (K : PySem.W.Frag) (H : Hp) (v : V) (p : OT × Nat) : Prop := ∃ t, v = .ref t ∧ SqT K H t [vV p.1, .int (p.2 : Int)]
def StR (K : PySem.W.Frag) (H : Hp) (vs : List V) (st : List (OT × Nat)) : Prop := Paired (StE K H) vs st
theorem StR.stp {K : PySem.W.Frag} {H H' : Hp} {S : List Addr} {vs : List V} {st : List (OT × Nat)} (h : StR K H vs st) (s : Stp S H H') (l : Lsts H S) : StR K H' vs st := by
  induction h with
  | nil => exact .nil
  | cons r _ ih =>
    obtain ⟨t, e, h⟩ := r
    exact .cons ⟨t, e, sqt_stp s l h⟩ ih
theorem StR.len {K : PySem.W.Frag} {H : Hp} {vs : List V} {st : List (OT × Nat)} (h : StR K H vs st) : vs.length = st.length := by
  induction h with
  | nil => rfl
  | cons _ _ ih => simp [ih]
theorem StR.snoc {K : PySem.W.Frag} {H : Hp} {vs : List V} {st : List (OT × Nat)} {v : V} {p : OT × Nat} (h : StR K H vs st) (e : StE K H v p) : StR K H (vs ++ [v]) (st ++ [p]) := by
  induction h with
  | nil => exact .cons e .nil
  | cons r _ ih => exact .cons r ih
theorem StR.last {K : PySem.W.Frag} {H : Hp} {p : OT × Nat} : ∀ (st : List (OT × Nat)) (vs : List V), StR K H vs (st ++ [p]) → ∃ vi v, vs = vi ++ [v] ∧ StR K H vi st ∧ StE K H v p := by
  intro st
  induction st with
  | nil =>
    intro vs h
    have h : Paired (StE K H) vs [p] := h
    cases h with
    | cons r t =>
      cases t
      exact ⟨[], _, rfl, .nil, r⟩
  | cons s st ih =>
    intro vs h
    have h : Paired (StE K H) vs (s :: (st ++ [p])) := h
    cases h with
    | cons r t =>
      obtain ⟨vi, v, e, a, b⟩ := ih _ t
      exact ⟨_ :: vi, v, by rw [e]; rfl, .cons r a, b⟩
theorem StR.get {K : PySem.W.Frag} {H : Hp} {vs : List V} {st : List (OT × Nat)} (h : StR K H vs st) : ∀ {i : Nat} {v : V}, vs[i]? = some v → ∃ p, st[i]? = some p ∧ StE K H v p := by
  induction h with
  | nil => exact fun e => nomatch e
  | cons r _ ih =>
    intro i v e
    cases i with
    | zero => cases e; exact ⟨_, rfl, r⟩
    | succ i => exact ih e
theorem ixN_last {α : Type} (xs : List α) (x : α) : ixN (xs ++ [x]).length (-1) = some xs.length := by
  unfold ixN
  rw [if_neg (by decide), List.length_append, List.length_singleton, if_pos (by omega)]
  congr 1
  omega
theorem atI_last {α : Type} (xs : List α) (x : α) : atI (xs ++ [x]) (-1) = some x := by
  unfold atI
  rw [ixN_last]
  show (xs ++ [x])[xs.length]? = _
  simp
theorem scal_v (a b : OT) : scal (vV a) (vV b) = true := by cases a <;> cases b <;> rfl
theorem vV_inj {a b : OT} : (vV a = vV b) ↔ a = b := by
  refine ⟨fun h => ?_, fun h => by rw [h]⟩
  cases a <;> cases b
  · rfl
  · cases h
  · cases h
  · rw [tx_inj (V.str.inj h)]
def spStr (K : PySem.W.Frag) : Sp := fun vs H Q _ => ∃ (p : Addr) (os : List OT), vs = [.ref p] ∧ H p = some (.lst (os.map vV)) ∧ Pgs os ∧ ∀ H' F ts, H F = none → Stp [] H H' → H' F = some (.lst ts) → StR K H' ts (strS os) → Q (.ref F) H'
theorem cl_stretches {f : Addr} {fd : FuncData} (D : Df K mg "stretches" s_stretches ["page"] f fd) (T : Nm mg) : Cl P w K mg base 1 "stretches" s_stretches ["page"] (spStr K) := by
  refine D.cl sc_stretches (fun vs H Q E h => ?_) (fun cdv A outer s H vs Q E hr h => ?_)
  · obtain ⟨p, os, rfl, _⟩ := h
    rfl
  · obtain ⟨p, os, rfl, hp, ok, k⟩ := h
    refine ⟨_, (pss_cons (ps_set (i := 1) sc_stretches.nd rfl (by first | exact Or.inl rfl | exact Or.inr rfl) (pe_lst pa_nil))
      (pss_cons (ps_for PassesOwn.never rfl (pi_list (pv 0)) (pg_name (i := 2) sc_stretches.nd rfl (by first | exact Or.inl rfl | exact Or.inr rfl)) (pss_one (ps_if (PW.pt (pw_and (pt_truth (pv 1) (by intro _; rfl)) (pw_and1 (pt_cmpR op_eq (pe_ix ix_tup (pe_ix ix_list (pv 1) (pe_un un_neg pe_int) (fun _ _ => rfl)) pe_int (fun _ _ => rfl)) (pv 2) (by first | exact nomark _ | rfl))))) (pss_one (ps_asg (pe_tup (pa_cons (pv 2) (pa_cons (pe_op op_add (pe_ix ix_tup (pe_ix ix_list (pv 1) (pe_un un_neg pe_int) (fun _ _ => rfl)) pe_int (fun _ _ => rfl)) pe_int) pa_nil))) (pg_sub (pv 1) (pe_un un_neg pe_int) set_list))) (pss_one (ps_expr (pe_bm PySem.F.plainAttrs_list PySem.F.slot_list_append PySem.F.type_list_append mt_append (pv 1) (pa_cons (pe_tup (pa_cons (pv 2) (pa_cons pe_int pa_nil))) pa_nil)))))))
      (pss_one (ps_ret (pv 1))))), ?_⟩
    have nn : ∀ {x : Addr}, x ∉ ([] : List Addr) := fun m => nomatch m
    have few := ok.2
    refine ⟨Nat.zero_le _, fun F nF => ?_⟩
    refine ⟨_, rfl, p, rfl, ⟨_, SqL.of (by rw [upd_ne (ne_of_none hp nF)]; exact hp)⟩, ?_⟩
    refine for_list (K := K) (a := p) (xs := os.map vV) (fun i σ H1 => ∃ (x : Option V) (ts : List V), σ = [some (.ref p), some (.ref F), x] ∧ H1 F = some (.lst ts) ∧ StR K H1 ts (strS (os.take i)) ∧ Stp [] H H1)
      ⟨_, [], rfl, upd_same, .nil, Stp.new nF _⟩ (fun i σ H1 _ ⟨_, _, _, _, _, S⟩ => SqL.of (S.kp _ _ nn hp)) ?_ ?_
    · rintro i y σ H1 hi ⟨x, ts, rfl, hF, rs, S⟩
      rw [List.getElem?_map] at hi
      cases e : os[i]? with
      | none => rw [e] at hi; cases hi
      | some o =>
        rw [e] at hi
        cases hi
        have hil : i < os.length := (List.getElem?_eq_some_iff.mp e).1
        have es : strS (os.take (i + 1)) = addS (strS (os.take i)) o := by
          rw [List.take_add_one, e]
          exact strS_snoc _ _
        have sl := (strS_len (os.take i).length (os.take i) rfl).1
        rw [List.length_take] at sl
        have tl := rs.len
        have fine : ts.length < sizeLine := Nat.lt_of_le_of_lt (show ts.length ≤ 100 by omega) (by decide)
        -- a new pair at the end
        have put : ∀ (H2 : Hp), Stp [] H1 H2 → addS (strS (os.take i)) o = strS (os.take i) ++ [(o, 1)] → ∀ t, H2 t = none → ∃ (x : Option V) (ts' : List V), [some (V.ref p), some (.ref F), some (vV o)] = [some (.ref p), some (.ref F), x] ∧ (upd (upd H2 t (.tup [vV o, .int 1])) F (.lst (ts ++ [.ref t]))) F = some (.lst ts') ∧ StR K (upd (upd H2 t (.tup [vV o, .int 1])) F (.lst (ts ++ [.ref t]))) ts' (strS (os.take (i + 1))) ∧ Stp [] H (upd (upd H2 t (.tup [vV o, .int 1])) F (.lst (ts ++ [.ref t]))) := fun H2 S2 ea t nt => by
          have hF2 := S2.kp _ _ nn hF
          have S3 : Stp [] H1 (upd H2 t (.tup [vV o, .int 1])) := S2.new' nt
          have hF3 := S3.kp _ _ nn hF
          have S4 : Stp [F] (upd H2 t (.tup [vV o, .int 1])) (upd (upd H2 t (.tup [vV o, .int 1])) F (.lst (ts ++ [.ref t]))) := Stp.put (by simp)
          refine ⟨_, _, rfl, upd_same, ?_, (S.trans S3).mut nF⟩
          rw [es, ea]
          exact ((rs.stp S3 Lsts.nil).stp S4 (.one hF3)).snoc ⟨t, rfl, sqt_stp S4 (.one hF3) (SqT.of upd_same)⟩
        refine ⟨_, rfl, !ts.isEmpty, .inl ⟨ts, SqL.of hF, rfl⟩, ite2 (fun h => ?_) (fun h => ?_)⟩
        · rcases List.eq_nil_or_concat (strS (os.take i)) with ez | ⟨si, ⟨x, n⟩, ez⟩
          · rw [ez] at rs
            have rs : Paired (StE K H1) ts [] := rs
            cases rs
            exact absurd h (by decide)
          rw [List.concat_eq_append] at ez
          have bnd := (strS_len (os.take i).length (os.take i) rfl).2 (x, n) (by rw [ez]; simp)
          have bn : n ≤ 60 := by have := bnd.2.2; rw [List.length_take] at this; simp at this; omega
          rw [ez] at rs put es
          obtain ⟨vi, v, rfl, rsi, t0, rfl, ht0⟩ := StR.last _ _ rs
          refine ⟨_, rfl, 1, rfl, F, _, -1, .ref t0, rfl, rfl, SqL.of hF, atI_last _ _, t0, _, 0, vV x, rfl, rfl, ht0, at0, _, rfl, scal_v x o, _, rfl, ?_⟩
          refine ite2 (fun h2 => ?_) (fun h2 => ?_)
          · obtain rfl : x = o := vV_inj.mp (of_decide_eq_true h2)
            refine ⟨_, rfl, _, rfl, 1, rfl, F, _, -1, .ref t0, rfl, rfl, SqL.of hF, atI_last _ _, t0, _, 1, .int (n : Int), rfl, rfl, ht0, at1, _, _, rfl, rfl, ?_⟩
            refine ⟨(by show 2 ≤ sizeLine; decide), fun t nt => ?_⟩
            have S3 : Stp [] H1 (upd H1 t (.tup [vV x, .int ((n : Int) + 1)])) := Stp.new nt _
            have hF3 := S3.kp _ _ nn hF
            refine ⟨_, rfl, 1, rfl, F, _, -1, vi.length, rfl, rfl, hF3, ixN_last _ _, ?_⟩
            have e1 : (vi ++ [V.ref t0]).set vi.length (V.ref t) = vi ++ [V.ref t] := by simp
            rw [e1]
            have S4 : Stp [F] (upd H1 t (.tup [vV x, .int ((n : Int) + 1)])) (upd (upd H1 t (.tup [vV x, .int ((n : Int) + 1)])) F (.lst (vi ++ [.ref t]))) := Stp.put (by simp)
            refine ⟨_, _, rfl, upd_same, ?_, (S.trans S3).mut nF⟩
            rw [es, addS_same]
            exact ((rsi.stp S3 Lsts.nil).stp S4 (.one hF3)).snoc ⟨t, rfl, sqt_stp S4 (.one hF3) (SqT.of upd_same)⟩
          · have ne : x ≠ o := fun e => h2 (decide_eq_true (by rw [e]))
            refine ⟨_, rfl, .inl ⟨rfl, _, SqL.of hF⟩, _, rfl, (by show 2 ≤ sizeLine; decide), fun t nt => ?_⟩
            have hF3 : (upd H1 t (.tup [vV o, .int 1])) F = some (.lst (vi ++ [.ref t0])) := by rw [upd_ne (ne_of_none hF nt)]; exact hF
            exact ⟨F, _, _, rfl, rfl, hF3, fine, put H1 (Stp.refl _ _) (addS_other ne) t nt⟩
        · have ez : ts = [] := by
            cases ts with
            | nil => rfl
            | cons _ _ => exact absurd rfl h
          subst ez
          have en : strS (os.take i) = [] := List.length_eq_zero_iff.mp tl.symm
          refine ⟨_, rfl, .inl ⟨rfl, _, SqL.of hF⟩, _, rfl, (by show 2 ≤ sizeLine; decide), fun t nt => ?_⟩
          have hF3 : (upd H1 t (.tup [vV o, .int 1])) F = some (.lst []) := by rw [upd_ne (ne_of_none hF nt)]; exact hF
          exact ⟨F, _, _, rfl, rfl, hF3, fine, put H1 (Stp.refl _ _) (by rw [en]; rfl) t nt⟩
    · rintro σ H1 ⟨x, ts, rfl, hF, rs, S⟩
      rw [List.length_map, List.take_length] at rs
      exact ⟨_, rfl, k H1 F ts nF S hF rs⟩
def runsS (os : List OT) : Nat := ((strS os).map fun p => vsg p.1 + dg (p.2 : Int)).sum
/-- a comprehension over pairs -/
theorem lc_strs {K : PySem.W.Frag} {a D : Addr} {ts : List V} {st : List (OT × Nat)} {φ : OT × Nat → Nat} {g : TG} {te : TE} {vs : List Nat} {σ : L2.St} {H1 : Hp} {Qd : Hp → Prop} (nD : H1 D = none) (hs : H1 a = some (.lst ts)) (rs : StR K H1 ts st) (few : st.length ≤ 90000)
    (step : ∀ (i : Nat) (p : OT × Nat) H T, st[i]? = some p → Stp [] H1 H → SqT K H T [vV p.1, .int (p.2 : Int)] → ∀ Q : VK, (∀ H', Stp [] H H' → Q (.int (φ p : Int)) H') → g (.ref T) (wipe σ vs) H fun σ2 H2 => wipe σ2 vs = wipe σ vs ∧ te σ2 H2 Q)
    (hd : ∀ H, Stp [] H1 H → H D = some (.lst ((st.map φ).map fun n : Nat => V.int (n : Int))) → Qd H) :
    ∃ W : Nat → Nat → Hp → Prop, (∃ m, W 0 m (upd H1 D (.lst []))) ∧ ∀ i m H, W i m H →
      ((Itl K a).stop i H ∧ Qd H) ∨ ((Itl K a).go i H ∧ ∃ Nx : Hp → Prop, (∀ H', Nx H' → ∃ m', m' < m ∧ W (i + 1) m' H') ∧ ∀ x H', (Itl K a).yld i H x H' → g x (wipe σ vs) H' fun σ2 H2 => wipe σ2 vs = wipe σ vs ∧ tYes σ2 H2 fun b H3 =>
        if b = true then te σ2 H3 fun y H4 => ∃ acc, H4 D = some (.lst acc) ∧ acc.length < sizeLine ∧ Nx (upd H4 D (.lst (acc ++ [y]))) else Nx H3) := by
  have nn : ∀ {x : Addr}, x ∉ ([] : List Addr) := fun m => nomatch m
  refine lc_list (a := a) (xs := ts) (fun i H => H D = some (.lst (((st.take i).map φ).map fun n : Nat => V.int (n : Int))) ∧ Stp [] H1 H) ⟨upd_same, Stp.new nD _⟩ (fun i H _ ⟨_, S⟩ => SqL.of (S.kp _ _ nn hs)) ?_ ?_
  · rintro i x H hi ⟨hL, S⟩
    obtain ⟨p, ep, T, rfl, hT⟩ := rs.get hi
    refine step i p H T ep S (sqt_stp S Lsts.nil hT) _ fun H' S' => ?_
    refine ⟨_, S'.kp _ _ (fun m => nomatch m) hL, ?_, ?_, (S.trans S').mut nD⟩
    · rw [List.length_map, List.length_map, List.length_take]
      exact Nat.lt_of_le_of_lt (show min i _ ≤ 90000 by omega) (by decide)
    · rw [List.take_add_one, ep, List.map_append, List.map_append]
      exact upd_same
  · rintro H ⟨hL, S⟩
    rw [rs.len, List.take_length] at hL
    exact hd H S hL
theorem cl_runs_signs {f : Addr} {fd : FuncData} (D : Df K mg "runs_signs" s_runs_signs ["page"] f fd) (T : Nm mg) (c_stretches : Cl P w K mg base 1 "stretches" s_stretches ["page"] (spStr K))
    (c_digits : Cl P w K mg base 1 "digits" s_digits ["number"] spDigits) (c_value_signs : Cl P w K mg base 1 "value_signs" s_value_signs ["value"] spVsg) : Cl P w K mg base 2 "runs_signs" s_runs_signs ["page"] (spPgs runsS) := by
  refine D.cl sc_runs_signs (fun vs H Q E h => h.len) (fun cdv A outer s H vs Q E hr h => ?_)
  obtain ⟨p, os, rfl, hp, ok, k⟩ := h
  refine ⟨_, (pss_one (ps_ret (pe_callB (cr_sum rfl) (by rfl) T.n_sum (by decide +kernel) (pa_cons (pe_lc (own := [("value", 1), ("many", 2)]) rfl sc_runs_signs.nd (pi_list (pe_cl c_stretches hr (by omega) (pa_cons (pv 0) pa_nil))) (blkOk_by (own := [("value", 1), ("many", 2)]) (N := N_runs_signs) (sc := defScope s_runs_signs) (by decide +kernel)) (fun _ _ _ _ _ => (pg_tupK (n := 2) rfl rfl (pgs_cons (pg_name (i := 1) sc_runs_signs.nd rfl (by first | exact Or.inl rfl | exact Or.inr rfl)) (pgs_cons (pg_name (i := 2) sc_runs_signs.nd rfl (by first | exact Or.inl rfl | exact Or.inr rfl)) pgs_nil (by rfl)) (by rfl)) (by rfl) (by rfl))) (fun _ _ _ _ _ => pts_nil) (fun _ _ _ _ _ => (pe_op op_add (pe_cl c_value_signs hr (by omega) (pa_cons (pv 1) pa_nil)) (pe_cl c_digits hr (by omega) (pa_cons (pv 2) pa_nil))))) pa_nil)))), ?_⟩
  obtain ⟨sl, sm⟩ := strS_len os.length os rfl
  have few := ok.2
  refine ⟨_, rfl, p, os, rfl, hp, ok, fun H1 F ts nF S1 hF rs => ?_⟩
  refine ⟨F, rfl, ⟨_, SqL.of hF⟩, fun L nL => ?_⟩
  refine lc_strs (K := K) (φ := fun p => vsg p.1 + dg (p.2 : Int)) nL hF rs (by omega) (fun i q H2 T2 eq S2 hT Q1 q1 => ?_) (fun H2 S2 h2 => ?_)
  · have mq := sm q (List.mem_of_getElem? eq)
    have e := q1 H2 (Stp.refl _ _)
    rw [Int.natCast_add] at e
    exact ⟨T2, _, rfl, hT, rfl, _, _, rfl, _, _, rfl, rfl, rfl, _, rfl, q.1, rfl, ok.short mq.1, _, rfl, (q.2 : Int), rfl, by omega, _, _, rfl, rfl, e⟩
  · refine ⟨L, (((strS os).map fun p => vsg p.1 + dg (p.2 : Int)).map fun n : Nat => (n : Int)), rfl, SqL.of (by rw [h2, List.map_map, List.map_map, List.map_map]; rfl), ?_⟩
    have e := k H2 (S1.trans S2)
    unfold runsS at e
    rw [← sum_ints] at e
    exact e
abbrev s_table_signs : Stmt := topS 44
abbrev N_table_signs : List Str := ["page", "indexes", "value"]
theorem sc_table_signs : FnScope ["page", "indexes", "value"] ["page"] (defScope s_table_signs) := ⟨rfl, rfl, rfl, by decide +kernel, rfl, by decide +kernel, by decide +kernel⟩

/-! ### table -/
def unl1 (us : List OT) (o : OT) : List OT := if o ∈ us then us else us ++ [o]
def unl (os : List OT) : List OT := os.foldl unl1 []
theorem unl_snoc (os : List OT) (o : OT) : unl (os ++ [o]) = unl1 (unl os) o := by unfold unl; rw [List.foldl_append]; rfl
theorem unl_facts : ∀ (n : Nat) (os : List OT), os.length = n → (unl os).length ≤ n ∧ ∀ o, o ∈ unl os ↔ o ∈ os
  | 0, os, h => by
    rw [List.length_eq_zero_iff.mp h]
    exact ⟨Nat.le_refl _, fun _ => Iff.rfl⟩
  | n + 1, os, h => by
    rcases List.eq_nil_or_concat os with e | ⟨oi, o, e⟩
    · rw [e] at h; cases h
    · rw [List.concat_eq_append] at e
      subst e
      have hl : oi.length = n := by rw [List.length_append, List.length_singleton] at h; omega
      obtain ⟨a, b⟩ := unl_facts n oi hl
      rw [unl_snoc]
      unfold unl1
      split
      · rename_i c
        refine ⟨by omega, fun q => ⟨fun m => List.mem_append_left _ ((b q).mp m), fun m => ?_⟩⟩
        rcases List.mem_append.mp m with m | m
        · exact (b q).mpr m
        · rw [List.mem_singleton.mp m]; exact c
      · refine ⟨by rw [List.length_append, List.length_singleton]; omega, fun q => ?_⟩
        rw [List.mem_append, List.mem_append, b q]
/-- the entries of the table -/
def entsF : Nat → List OT → List LEnt
  | _, [] => []
  | k, o :: us => (vV o, .int (k : Int)) :: entsF (k + 1) us
theorem entsF_app (o : OT) : ∀ (us : List OT) (k : Nat), entsF k (us ++ [o]) = entsF k us ++ [(vV o, .int ((k + us.length : Nat) : Int))]
  | [], k => rfl
  | u :: us, k => by
    show (vV u, V.int (k : Int)) :: entsF (k + 1) (us ++ [o]) = _
    rw [entsF_app o us (k + 1), List.length_cons, show k + 1 + us.length = k + (us.length + 1) by omega]
    rfl
theorem entsF_len : ∀ (us : List OT) (k : Nat), (entsF k us).length = us.length
  | [], _ => rfl
  | _ :: us, k => congrArg (· + 1) (entsF_len us (k + 1))
theorem entsF_keys : ∀ (us : List OT) (k : Nat), (entsF k us).map (·.1) = us.map vV
  | [], _ => rfl
  | u :: us, k => congrArg (vV u :: ·) (entsF_keys us (k + 1))
theorem entsF_at (o : OT) : ∀ (us : List OT) (k : Nat), lfAt (entsF k us) (vV o) = if o ∈ us then some (.int ((k + us.idxOf o : Nat) : Int)) else none
  | [], k => by rw [if_neg (fun m => nomatch m)]; rfl
  | u :: us, k => by
    show (if vV u = vV o then some (V.int (k : Int)) else lfAt (entsF (k + 1) us) (vV o)) = _
    by_cases c : u = o
    · subst c
      rw [if_pos rfl, if_pos List.mem_cons_self, List.idxOf_cons_self]
      rfl
    · rw [if_neg (fun e => c (vV_inj.mp e)), entsF_at o us (k + 1)]
      by_cases m : o ∈ us
      · rw [if_pos m, if_pos (List.mem_cons_of_mem _ m), List.idxOf_cons, show (u == o) = false from beq_false_of_ne c, show k + 1 + us.idxOf o = k + (us.idxOf o + 1) by omega]
        rfl
      · rw [if_neg m, if_neg (fun h => (List.mem_cons.mp h).elim (fun e => c e.symm) m)]
theorem lfOk_v (o : OT) : lfOk (vV o) = true := by cases o <;> rfl
def tableS (os : List OT) : Nat := plainS (unl os) + (os.map fun o => dg ((unl os).idxOf o : Int)).sum
theorem Stp.mutO {S : List Addr} {H H' : Hp} {p : Addr} {o : HO} (a : Stp S H H') (h : H p = none) : Stp S H (upd H' p o) :=
  ⟨fun x u n q => by
    rw [upd_ne (ne_of_none q h)]
    exact a.kp x u n q, fun x xs q => by
    rw [upd_ne (ne_of_none q h)]
    exact a.ls x xs q⟩
theorem cl_table_signs {f : Addr} {fd : FuncData} (D : Df K mg "table_signs" s_table_signs ["page"] f fd) (T : Nm mg) (c_plain_signs : Cl P w K mg base 2 "plain_signs" s_plain_signs ["page"] (spPgs plainS))
    (c_digits : Cl P w K mg base 1 "digits" s_digits ["number"] spDigits) : Cl P w K mg base 3 "table_signs" s_table_signs ["page"] (spPgs tableS) := by
  refine D.cl sc_table_signs (fun vs H Q E h => h.len) (fun cdv A outer s H vs Q E hr h => ?_)
  obtain ⟨p, os, rfl, hp, ok, k⟩ := h
  refine ⟨_, (pss_cons (ps_set (i := 1) sc_table_signs.nd rfl (by first | exact Or.inl rfl | exact Or.inr rfl) Pg.pe_dnewL)
      (pss_cons (ps_for PassesOwn.never rfl (pi_list (pv 0)) (pg_name (i := 2) sc_table_signs.nd rfl (by first | exact Or.inl rfl | exact Or.inr rfl)) (pss_one (ps_if (pt_cmpR Pg.op_notInL (pv 2) (pv 1) (by first | exact nomark _ | rfl)) (pss_one (ps_asg (pe_callB Pg.call_lenL (by rfl) T.n_len (by decide +kernel) (pa_cons (pv 1) pa_nil)) (pg_sub (pv 1) (pv 2) Pg.set_NL))) pss_nil)))
      (pss_one (ps_ret (pe_op op_add (pe_cl c_plain_signs hr (by omega) (pa_cons (pe_callTy (Pg.call_listL rfl) (by rfl) T.n_list (by decide +kernel) (pa_cons (pv 1) pa_nil)) pa_nil)) (pe_callB (cr_sum rfl) (by rfl) T.n_sum (by decide +kernel) (pa_cons (pe_lc (own := [("value", 2)]) rfl sc_table_signs.nd (pi_list (pv 0)) (blkOk_by (own := [("value", 2)]) (N := N_table_signs) (sc := defScope s_table_signs) (by decide +kernel)) (fun _ _ _ _ _ => (pg_name (i := 2) sc_table_signs.nd rfl (by first | exact Or.inl rfl | exact Or.inr rfl))) (fun _ _ _ _ _ => pts_nil) (fun _ _ _ _ _ => (pe_cl c_digits hr (by omega) (pa_cons (pe_ix (Pg.ix_LK (P := P) (w := w) rfl rfl) (pv 1) (pv 2) (fun _ _ => rfl)) pa_nil)))) pa_nil))))))), ?_⟩
  have nn : ∀ {x : Addr}, x ∉ ([] : List Addr) := fun m => nomatch m
  have few := ok.2
  refine fun d nd => ?_
  dsimp only [gName]
  generalize hG : upd H d (HO.ext _) = H0
  have S0 : Stp [] H H0 := by rw [← hG]; exact Stp.new nd _
  have hd0 : H0 d = some (.ext (RawL P w d (entsF 0 []))) := by rw [← hG]; exact upd_same
  refine seq_end (fun σ' H' => ∃ x, σ' = [some (.ref p), some (.ref d), x] ∧ Stp [] H H' ∧ H' d = some (.ext (RawL P w d (entsF 0 (unl os))))) ?_ (fun fin => ?_)
  rotate_left
  · refine ⟨_, rfl, p, rfl, ⟨_, SqL.of (S0.kp _ _ nn hp)⟩, ?_⟩
    refine for_list (K := K) (a := p) (xs := os.map vV) (fun i σ H1 => ∃ (x : Option V), σ = [some (.ref p), some (.ref d), x] ∧ Stp [] H H1 ∧ H1 d = some (.ext (RawL P w d (entsF 0 (unl (os.take i))))))
      ⟨_, rfl, S0, hd0⟩ (fun i σ H1 _ ⟨_, _, S, _⟩ => SqL.of (S.kp _ _ nn hp)) ?_ ?_
    · rintro i y σ H1 hi ⟨x, rfl, S, hd⟩
      rw [List.getElem?_map] at hi
      cases e : os[i]? with
      | none => rw [e] at hi; cases hi
      | some o =>
        rw [e] at hi
        cases hi
        have es : unl (os.take (i + 1)) = unl1 (unl (os.take i)) o := by
          rw [List.take_add_one, e]
          exact unl_snoc _ _
        have ul := (unl_facts (os.take i).length (os.take i) rfl).1
        rw [List.length_take] at ul
        have el := entsF_len (unl (os.take i)) 0
        have ea := entsF_at o (unl (os.take i)) 0
        refine ⟨_, rfl, _, rfl, d, _, rfl, hd, lfOk_v o, _, rfl, ite2 (fun h => ?_) (fun h => ?_)⟩
        · have nm : o ∉ unl (os.take i) := fun m => by
            rw [ea, if_pos m] at h
            exact Bool.noConfusion (show false = true from h)
          rw [if_neg nm] at ea
          refine ⟨_, rfl, d, _, rfl, hd, by omega, _, rfl, _, rfl, d, _, rfl, hd, lfOk_v o, ea, by omega, ?_⟩
          refine ⟨_, rfl, S.mutO nd, ?_⟩
          rw [upd_same, es]
          unfold unl1
          rw [if_neg nm, entsF_app, el, Nat.zero_add]
          rfl
        · have m : o ∈ unl (os.take i) := by
            cases Classical.em (o ∈ unl (os.take i)) with
            | inl m => exact m
            | inr m => rw [ea, if_neg m] at h; exact absurd rfl h
          refine ⟨_, rfl, S, ?_⟩
          rw [es]
          unfold unl1
          rw [if_pos m]
          exact hd
    · rintro σ H1 ⟨x, rfl, S, hd⟩
      rw [List.length_map, List.take_length] at hd
      exact fin _ _ ⟨x, rfl, S, hd⟩
  · rintro σ H1 ⟨x, rfl, S, hd⟩
    have uf := unl_facts os.length os rfl
    have el := entsF_len (unl os) 0
    have okU : Pgs (unl os) := ⟨fun l m => ok.1 l ((uf.2 _).mp m), by omega⟩
    refine ⟨_, rfl, d, _, rfl, hd, by omega, fun q nq => ?_⟩
    rw [entsF_keys]
    have S2 : Stp [] H1 (upd H1 q (.lst ((unl os).map vV))) := Stp.new nq _
    have hq2 : (upd H1 q (.lst ((unl os).map vV))) q = some (.lst ((unl os).map vV)) := upd_same
    generalize upd H1 q (.lst ((unl os).map vV)) = H2 at *
    refine ⟨q, unl os, rfl, hq2, okU, fun H3 S3 => ?_⟩
    have S13 := S2.trans S3
    have hp3 := (S.trans S13).kp _ _ nn hp
    have hd3 := S13.kp _ _ nn hd
    refine ⟨_, rfl, p, rfl, ⟨_, SqL.of hp3⟩, fun L nL => ?_⟩
    refine lc_vals (K := K) (os := os) (φ := vV) (r := fun o => .int (dg ((unl os).idxOf o : Int) : Int)) nL (SqL.of hp3) (by omega) (fun i o H4 e S4 Q1 q1 => ?_) (fun H4 S4 h4 => ?_)
    · have m : o ∈ unl os := (uf.2 o).mpr (List.mem_of_getElem? e)
      have ea := entsF_at o (unl os) 0
      rw [if_pos m, Nat.zero_add] at ea
      have il := List.idxOf_lt_length_of_mem m
      exact ⟨rfl, _, rfl, _, rfl, d, _, _, rfl, S4.kp _ _ nn hd3, lfOk_v o, ea, _, rfl, by omega, q1 H4 (Stp.refl _ _)⟩
    · refine ⟨L, (os.map fun o => (dg ((unl os).idxOf o : Int))).map fun n : Nat => (n : Int), rfl, SqL.of (by rw [h4, List.map_map, List.map_map]; rfl), _, _, rfl, rfl, ?_⟩
      have e := k H4 ((S.trans S13).trans S4)
      unfold tableS at e
      rw [Int.natCast_add, ← sum_ints (os.map _)] at e
      exact e
abbrev s_best_code : Stmt := topS 51
abbrev N_best_code : List Str := ["page", "best", "code", "count", "taken"]
theorem sc_best_code : FnScope ["page", "best", "code", "count", "taken"] ["page"] (defScope s_best_code) := ⟨rfl, rfl, rfl, by decide +kernel, rfl, by decide +kernel, by decide +kernel⟩

/-! ### the codes -/
def cdN : Nat → Str
  | 0 => "plain"
  | 1 => "runs"
  | 2 => "table"
  | _ => "shared"
def cdF : Nat → List OT → Nat
  | 0 => plainS
  | 1 => runsS
  | 2 => tableS
  | _ => sharedS
/-- what stands in the module -/
structure Cs (K : PySem.W.Frag) (w : World) (mg : Str → Option Value) where
  COUNTS : Addr
  g_COUNTS : mg "COUNTS" = some (.ref COUNTS)
  fn : Nat → Addr
  fd0 : FuncData
  fd1 : FuncData
  fd2 : FuncData
  fd3 : FuncData
  D_plain_signs : Df K mg "plain_signs" s_plain_signs ["page"] (fn 0) fd0
  D_runs_signs : Df K mg "runs_signs" s_runs_signs ["page"] (fn 1) fd1
  D_table_signs : Df K mg "table_signs" s_table_signs ["page"] (fn 2) fd2
  D_shared_signs : Df K mg "shared_signs" s_shared_signs ["page"] (fn 3) fd3
  at_ : ∀ c, c < 4 → KDct K w COUNTS (cdN c) (.ref (fn c))
  has : ∀ c, c < 4 → KHas K w COUNTS (cdN c) true
  keys : KKeys K COUNTS [.str (cdN 0), .str (cdN 1), .str (cdN 2), .str (cdN 3)]
theorem pgs_isP {os : List OT} (h : Pgs os) (pos : 0 < os.length) : isPage (.lst (os.map vD)) = true := by
  show (!(os.map vD).isEmpty && (os.map vD).all isVal) = true
  rw [Bool.and_eq_true]
  constructor
  · cases os with
    | nil => exact absurd pos (Nat.lt_irrefl _)
    | cons _ _ => rfl
  · rw [List.all_eq_true]
    intro d m
    obtain ⟨o, mo, rfl⟩ := List.mem_map.mp m
    cases o with
    | none => rfl
    | some l => exact abcB_iff.mpr (h.1 l mo).1
theorem pgs_rv {K : PySem.W.Frag} {H : Hp} {p : Addr} {os : List OT} (hp : H p = some (.lst (os.map vV))) (h : Pgs os) : Rv K [] H (.ref p) (.lst (os.map vD)) := by
  have few := h.2
  exact .lst hp (fun m => nomatch m) (by rw [List.length_map]; omega) (rv_vs os fun l m => by have := (h.1 l m).2; omega)
/-- what a page takes by a code: one of the four calls -/
theorem counts_use {K : PySem.W.Frag} {w : World} {mg : Str → Option Value} (TG : Cs K w mg) {c : Nat} (hc : c < 4) {σ : L2.St} {i : Nat} {p : Addr} {os : List OT} {H : Hp} {Q : VK} {t0 t1 t2 t3 : TA} (hσ : σ[i]? = some (some (.ref (TG.fn c)))) (hp : H p = some (.lst (os.map vV))) (ok : Pgs os)
    (h0 : ∀ Q : List V → Hp → Prop, Q [.ref p] H → t0 σ H Q) (h1 : ∀ Q : List V → Hp → Prop, Q [.ref p] H → t1 σ H Q) (h2 : ∀ Q : List V → Hp → Prop, Q [.ref p] H → t2 σ H Q) (h3 : ∀ Q : List V → Hp → Prop, Q [.ref p] H → t3 σ H Q)
    (k : ∀ H', Stp [] H H' → Q (.int (cdF c os : Int)) H') :
    tClV i (TG.fn 0) (spPgs plainS) t0 σ H Q ∨ tClV i (TG.fn 1) (spPgs runsS) t1 σ H Q ∨ tClV i (TG.fn 2) (spPgs tableS) t2 σ H Q ∨ tClV i (TG.fn 3) (spPgs sharedS) t3 σ H Q := by
  rcases (by omega : c = 0 ∨ c = 1 ∨ c = 2 ∨ c = 3) with rfl | rfl | rfl | rfl
  · exact .inl ⟨hσ, h0 _ ⟨p, os, rfl, hp, ok, k⟩⟩
  · exact .inr (.inl ⟨hσ, h1 _ ⟨p, os, rfl, hp, ok, k⟩⟩)
  · exact .inr (.inr (.inl ⟨hσ, h2 _ ⟨p, os, rfl, hp, ok, k⟩⟩))
  · exact .inr (.inr (.inr ⟨hσ, h3 _ ⟨p, os, rfl, hp, ok, k⟩⟩))
/-! ### the best code -/
def bst (os : List OT) : Nat → Nat
  | 0 => 0
  | i + 1 => if cdF (i + 1) os < cdF (bst os i) os then i + 1 else bst os i
theorem bst_le (os : List OT) : ∀ i, bst os i ≤ i
  | 0 => Nat.le_refl _
  | i + 1 => by
    have := bst_le os i
    show (if cdF (i + 1) os < cdF (bst os i) os then i + 1 else bst os i) ≤ _
    split <;> omega
def spBest (K : PySem.W.Frag) : Sp := fun vs H Q _ => ∃ (p : Addr) (os : List OT), vs = [.ref p] ∧ H p = some (.lst (os.map vV)) ∧ Pgs os ∧ 0 < os.length ∧ ∀ H' t, Stp [] H H' → SqT K H' t [.int (cdF (bst os 3) os : Int), .str (cdN (bst os 3))] → Q (.ref t) H'
theorem cl_best_code {f : Addr} {fd : FuncData} (D : Df K mg "best_code" s_best_code ["page"] f fd) (T : Nm mg) (TG : Cs K w mg) (c_check_page : Cl P w K mg base 4 "check_page" s_check_page ["page"] (spCk K isPage))
    (c_plain_signs : Cl P w K mg base 2 "plain_signs" s_plain_signs ["page"] (spPgs plainS)) (c_runs_signs : Cl P w K mg base 2 "runs_signs" s_runs_signs ["page"] (spPgs runsS)) (c_table_signs : Cl P w K mg base 3 "table_signs" s_table_signs ["page"] (spPgs tableS)) (c_shared_signs : Cl P w K mg base 3 "shared_signs" s_shared_signs ["page"] (spPgs sharedS)) :
    Cl P w K mg base 5 "best_code" s_best_code ["page"] (spBest K) := by
  refine D.cl sc_best_code (fun vs H Q E h => ?_) (fun cdv A outer s H vs Q E hr h => ?_)
  · obtain ⟨p, os, rfl, _⟩ := h
    rfl
  · obtain ⟨p, os, rfl, hp, ok, pos, k⟩ := h
    refine ⟨_, (pss_cons (ps_expr (pe_cl c_check_page hr (by omega) (pa_cons (pv 0) pa_nil)))
      (pss_cons (ps_set (i := 1) sc_best_code.nd rfl (by first | exact Or.inl rfl | exact Or.inr rfl) pe_non)
      (pss_cons (ps_for PassesOwn.never rfl (Pg.pi_keysK (pe_glob (v := .ref TG.COUNTS) rfl TG.g_COUNTS rfl)) (pg_name (i := 2) sc_best_code.nd rfl (by first | exact Or.inl rfl | exact Or.inr rfl)) (pss_cons (ps_set (i := 3) sc_best_code.nd rfl (by first | exact Or.inl rfl | exact Or.inr rfl) (pe_ix ix_kdict (pe_glob (v := .ref TG.COUNTS) rfl TG.g_COUNTS rfl) (pv 2) (fun _ _ => rfl)))
      (pss_cons (ps_set (i := 4) sc_best_code.nd rfl (by first | exact Or.inl rfl | exact Or.inr rfl) (Pg.pe_or (Pg.pe_clV TG.D_plain_signs c_plain_signs hr (by omega) (i := 3) rfl (by first | exact Or.inl rfl | exact Or.inr rfl) (pa_cons (pv 0) pa_nil))
      (Pg.pe_or (Pg.pe_clV TG.D_runs_signs c_runs_signs hr (by omega) (i := 3) rfl (by first | exact Or.inl rfl | exact Or.inr rfl) (pa_cons (pv 0) pa_nil))
      (Pg.pe_or (Pg.pe_clV TG.D_table_signs c_table_signs hr (by omega) (i := 3) rfl (by first | exact Or.inl rfl | exact Or.inr rfl) (pa_cons (pv 0) pa_nil))
      (Pg.pe_clV TG.D_shared_signs c_shared_signs hr (by omega) (i := 3) rfl (by first | exact Or.inl rfl | exact Or.inr rfl) (pa_cons (pv 0) pa_nil))))))
      (pss_one (ps_if (PW.pt (pw_or (pt_cmpR op_isN (pv 1) pe_non (by first | exact nomark _ | rfl)) (pw_or1 (pt_cmpR op_lt (pv 4) (pe_ix ix_tup (pv 1) pe_int (fun _ _ => rfl)) (by first | exact nomark _ | rfl))))) (pss_one (ps_set (i := 1) sc_best_code.nd rfl (by first | exact Or.inl rfl | exact Or.inr rfl) (pe_tup (pa_cons (pv 4) (pa_cons (pv 2) pa_nil))))) pss_nil)))))
      (pss_one (ps_ret (pv 1)))))), ?_⟩
    have nn : ∀ {x : Addr}, x ∉ ([] : List Addr) := fun m => nomatch m
    refine ⟨_, rfl, [], _, _, rfl, pgs_rv hp ok, pgs_isP ok pos, ?_, fun H1 S1 => ?_⟩
    · show (os.map vD).length ≤ 5000
      have := ok.2
      rw [List.length_map]; omega
    refine ⟨TG.COUNTS, _, rfl, TG.keys, ?_⟩
    refine for_it walk_kk (fun i σ H2 => ∃ (v : V) (x2 x3 x4 : Option V), σ = [some (.ref p), some v, x2, x3, x4] ∧ Stp [] H H2 ∧ (i = 0 → v = .non) ∧ (∀ j, i = j + 1 → ∃ t, v = .ref t ∧ SqT K H2 t [.int (cdF (bst os j) os : Int), .str (cdN (bst os j))]))
      ⟨_, _, _, _, rfl, S1, fun _ => rfl, fun _ e => nomatch e⟩ (fun _ _ _ _ _ => True.intro) ?_ ?_
    · rintro i x σ H2 H2' hi ⟨v, x2, x3, x4, rfl, S2, v0, vj⟩ ⟨rfl, ex⟩
      have i4 : i < 4 := hi
      have ex : x = .str (cdN i) := by
        rcases (by omega : i = 0 ∨ i = 1 ∨ i = 2 ∨ i = 3) with rfl | rfl | rfl | rfl <;> (cases ex; rfl)
      subst ex
      have hp2 := S2.kp _ _ nn hp
      refine ⟨_, rfl, TG.COUNTS, cdN i, _, rfl, rfl, TG.at_ i i4, ?_⟩
      refine counts_use TG i4 rfl hp2 ok (fun Q q => ⟨_, rfl, q⟩) (fun Q q => ⟨_, rfl, q⟩) (fun Q q => ⟨_, rfl, q⟩) (fun Q q => ⟨_, rfl, q⟩) fun H3 S3 => ?_
      have put : bst os i = i → ∀ t, H3 t = none → ∃ (v : V) (x2 x3 x4 : Option V), [some (.ref p), some (.ref t), some (.str (cdN i)), some (.ref (TG.fn i)), some (.int (cdF i os : Int))] = [some (.ref p), some v, x2, x3, x4] ∧ Stp [] H (upd H3 t (.tup [.int (cdF i os : Int), .str (cdN i)])) ∧ (i + 1 = 0 → v = .non) ∧ (∀ j, i + 1 = j + 1 → ∃ t', v = .ref t' ∧ SqT K (upd H3 t (.tup [.int (cdF i os : Int), .str (cdN i)])) t' [.int (cdF (bst os j) os : Int), .str (cdN (bst os j))]) := fun e t nt =>
        ⟨_, _, _, _, rfl, (S2.trans S3).new' nt, fun e => (nomatch e), fun j ej => by
          obtain rfl : i = j := by omega
          rw [e]
          exact ⟨t, rfl, SqT.of upd_same⟩⟩
      cases i with
      | zero =>
        obtain rfl := v0 rfl
        refine ⟨_, rfl, rfl, _, rfl, ite2 (fun _ => ?_) (fun h => absurd rfl h)⟩
        exact ⟨_, rfl, _, rfl, (by show 2 ≤ sizeLine; decide), fun t nt => put rfl t nt⟩
      | succ j =>
        obtain ⟨t0, rfl, ht⟩ := vj j rfl
        have ht3 := sqt_stp S3 Lsts.nil ht
        refine ⟨_, rfl, rfl, _, rfl, ite2 (fun h => absurd h (by simp)) (fun _ => ?_)⟩
        refine ⟨_, rfl, _, rfl, t0, _, 0, .int (cdF (bst os j) os : Int), rfl, rfl, ht3, at0, _, _, rfl, rfl, _, rfl, ite2 (fun h => ?_) (fun h => ?_)⟩
        · have lt : cdF (j + 1) os < cdF (bst os j) os := by have := of_decide_eq_true h; omega
          exact ⟨_, rfl, _, rfl, (by show 2 ≤ sizeLine; decide), fun t nt => put (if_pos lt) t nt⟩
        · have ge : ¬ cdF (j + 1) os < cdF (bst os j) os := fun q => h (decide_eq_true (by omega))
          refine ⟨_, _, _, _, rfl, S2.trans S3, fun e => (nomatch e), fun j' ej => ?_⟩
          obtain rfl : j' = j + 1 := by omega
          have e : bst os (j + 1) = bst os j := if_neg ge
          rw [e]
          exact ⟨t0, rfl, ht3⟩
    · rintro σ H2 ⟨v, x2, x3, x4, rfl, S2, _, vj⟩
      obtain ⟨t, rfl, ht⟩ := vj 3 rfl
      exact ⟨_, rfl, k H2 t S2 ht⟩
abbrev s_check_column : Stmt := topS 23
abbrev N_check_column : List Str := ["column", "value"]
theorem sc_check_column : FnScope ["column", "value"] ["column"] (defScope s_check_column) := ⟨rfl, rfl, rfl, by decide +kernel, rfl, by decide +kernel, by decide +kernel⟩

abbrev s_cheapest : Stmt := topS 52
abbrev N_cheapest : List Str := ["rule", "column", "most", "plans", "start"]
theorem sc_cheapest : FnScope ["rule", "column", "most", "plans", "start"] ["rule", "column", "most"] (defScope s_cheapest) := ⟨rfl, rfl, rfl, by decide +kernel, rfl, by decide +kernel, by decide +kernel⟩

abbrev s_cheapest_from : Stmt := topS 53
abbrev N_cheapest_from : List Str := ["rule", "values", "plans", "best", "length", "rest_signs", "rest_lengths", "page", "taken"]
theorem sc_cheapest_from : FnScope ["rule", "values", "plans", "best", "length", "rest_signs", "rest_lengths", "page", "taken"] ["rule", "values", "plans"] (defScope s_cheapest_from) := ⟨rfl, rfl, rfl, by decide +kernel, rfl, by decide +kernel, by decide +kernel⟩

/-! ### the cheapest pages of a column -/
def bsF (os : List OT) : Nat := cdF (bst os 3) os
/-- what a page costs, with its note -/
def cost (r : Ru) (os : List OT) : Nat := bsF os + nsg r os
abbrev Pl := Nat × List Nat
def pUp (r : Ru) (vs : List OT) (b : Option Pl) (len : Nat) (p : Pl) : Option Pl :=
  let t := cost r (vs.take len) + p.1
  match b with
  | none => some (t, len :: p.2)
  | some q => if t < q.1 then some (t, len :: p.2) else some q
/-- the best of the first so many -/
def pFr (r : Ru) (vs : List OT) (ps : List Pl) : Nat → Option Pl
  | 0 => none
  | i + 1 => match ps[i]? with
    | none => pFr r vs ps i
    | some p => pUp r vs (pFr r vs ps i) (i + 1) p
theorem pFr_some (r : Ru) (vs : List OT) {ps : List Pl} : ∀ (i : Nat), 0 < i → i ≤ ps.length → ∃ q, pFr r vs ps i = some q
  | 0, h, _ => absurd h (Nat.lt_irrefl _)
  | i + 1, _, h => by
    have e : ps[i]? = some ps[i] := List.getElem?_eq_getElem h
    show ∃ q, (match ps[i]? with | none => pFr r vs ps i | some p => pUp r vs (pFr r vs ps i) (i + 1) p) = some q
    rw [e]
    show ∃ q, pUp r vs (pFr r vs ps i) (i + 1) ps[i] = some q
    unfold pUp
    cases pFr r vs ps i with
    | none => exact ⟨_, rfl⟩
    | some q =>
      dsimp only
      split
      · exact ⟨_, rfl⟩
      · exact ⟨_, rfl⟩
def one0 : Pl := (0, [])
/-- the cheapest plans of all that is left behind each place -/
def plans (r : Ru) (most : Nat) : List OT → List Pl
  | [] => [one0]
  | o :: os => ((pFr r ((o :: os).take most) (plans r most os) (min (plans r most os).length ((o :: os).take most).length)).getD one0) :: plans r most os
theorem plans_len (r : Ru) (most : Nat) : ∀ os : List OT, (plans r most os).length = os.length + 1
  | [] => rfl
  | o :: os => congrArg (· + 1) (plans_len r most os)
/-- bounds -/
def PlOk (m : Nat) (p : Pl) : Prop := p.1 ≤ 20000 * m ∧ p.2.length ≤ m ∧ ∀ x ∈ p.2, x ≤ 60
/-- a plan in the store -/
def PlE (K : PySem.W.Frag) (F : Addr → Prop) (H : Hp) (v : V) (p : Pl) : Prop := ∃ t l, v = .ref t ∧ SqT K H t [.int (p.1 : Int), .ref l] ∧ H l = some (.lst (p.2.map fun n : Nat => V.int (n : Int))) ∧ F l
theorem PlE.up {K : PySem.W.Frag} {F G : Addr → Prop} {H H' : Hp} {v : V} {p : Pl} (h : PlE K F H v p) (s : Stp [] H H') (g : ∀ l, F l → G l) : PlE K G H' v p := by
  obtain ⟨t, l, e, ht, hl, f⟩ := h
  exact ⟨t, l, e, sqt_stp s Lsts.nil ht, s.kp _ _ (fun m => nomatch m) hl, g l f⟩
def PlR (K : PySem.W.Frag) (F : Addr → Prop) (H : Hp) (vs : List V) (ps : List Pl) : Prop := Paired (PlE K F H) vs ps
theorem PlR.up {K : PySem.W.Frag} {F G : Addr → Prop} {H H' : Hp} {vs : List V} {ps : List Pl} (h : PlR K F H vs ps) (s : Stp [] H H') (g : ∀ l, F l → G l) : PlR K G H' vs ps := by
  induction h with
  | nil => exact .nil
  | cons r _ ih => exact .cons (r.up s g) ih
theorem PlR.len {K : PySem.W.Frag} {F : Addr → Prop} {H : Hp} {vs : List V} {ps : List Pl} (h : PlR K F H vs ps) : vs.length = ps.length := by
  induction h with
  | nil => rfl
  | cons _ _ ih => simp [ih]
theorem PlR.get {K : PySem.W.Frag} {F : Addr → Prop} {H : Hp} {vs : List V} {ps : List Pl} (h : PlR K F H vs ps) : ∀ {i : Nat} {v : V}, vs[i]? = some v → ∃ p, ps[i]? = some p ∧ PlE K F H v p := by
  induction h with
  | nil => exact fun e => nomatch e
  | cons r _ ih =>
    intro i v e
    cases i with
    | zero => cases e; exact ⟨_, rfl, r⟩
    | succ i => exact ih e
def spCol (K : PySem.W.Frag) : Sp := fun vs H Q _ => ∃ (p : Addr) (os : List OT), vs = [.ref p] ∧ H p = some (.lst (os.map vV)) ∧ Pgs os ∧ ∀ H', Stp [] H H' → Q .non H'
theorem cl_check_column {f : Addr} {fd : FuncData} (D : Df K mg "check_column" s_check_column ["column"] f fd) (T : Nm mg) (c_is_value : Cl P w K mg base 2 "is_value" s_is_value ["value"] (spTell K isVal)) : Cl P w K mg base 3 "check_column" s_check_column ["column"] (spCol K) := by
  refine D.cl sc_check_column (fun vs H Q E h => ?_) (fun cdv A outer s H vs Q E hr h => ?_)
  · obtain ⟨p, os, rfl, _⟩ := h
    rfl
  · obtain ⟨p, os, rfl, hp, ok, k⟩ := h
    refine ⟨_, (pss_one (ps_if (PW.pt (pw_or (pt_tyNot (T := "list") Mono.var (pv 0) T.n_type T.n_list (by decide +kernel)) (pw_or1 (pt_not (pt_val (pe_callB (cr_all rfl) (by rfl) T.n_all (by decide +kernel) (pa_cons (pe_lc (own := [("value", 1)]) rfl sc_check_column.nd (pi_list (pv 0)) (blkOk_by (own := [("value", 1)]) (N := N_check_column) (sc := defScope s_check_column) (by decide +kernel)) (fun _ _ _ _ _ => (pg_name (i := 1) sc_check_column.nd rfl (by first | exact Or.inl rfl | exact Or.inr rfl))) (fun _ _ _ _ _ => pts_nil) (fun _ _ _ _ _ => (pe_cl c_is_value hr (by omega) (pa_cons (pv 1) pa_nil)))) pa_nil))))))) (pss_one ps_never) pss_nil)), ?_⟩
    have few := ok.2
    refine ⟨_, rfl, .lst, .lst hp, ite2 (fun h => absurd h (by simp [Dt.ty])) (fun _ => ?_)⟩
    refine ⟨_, rfl, p, rfl, ⟨_, SqL.of hp⟩, fun L nL => ?_⟩
    refine lc_vals (K := K) (os := os) (φ := vV) (r := fun _ => .bl true) nL (SqL.of hp) (by omega) (fun i o H1 e S Q1 q => ?_) (fun H1 S1 h1 => ?_)
    · have m := List.mem_of_getElem? e
      refine ⟨rfl, _, rfl, [], vV o, vD o, rfl, ?_, fun H2 b S2 eb => ?_⟩
      · cases o with
        | none => exact .non
        | some l => exact .str l (by have := (ok.1 l m).2; omega)
      · have e2 : isVal (vD o) = true := by
          cases o with
          | none => rfl
          | some l => exact abcB_iff.mpr (ok.1 l m).1
        rw [eb, e2]
        exact q H2 S2
    · refine ⟨L, os.map fun _ => true, rfl, SqL.of (by rw [h1, List.map_map]; rfl), ?_⟩
      rw [all_true (fun b m => by obtain ⟨_, _, e⟩ := List.mem_map.mp m; exact e.symm)]
      exact ⟨_, rfl, ite2 (fun h => absurd h (by decide)) (fun _ => k H1 S1)⟩
/-- the cheapest page ahead, from the plans behind it -/
def spFrom (K : PySem.W.Frag) : Sp := fun vs H Q _ => ∃ (v : V) (pv pp : Addr) (r : Ru) (os : List OT) (ws : List V) (ps : List Pl) (F : Addr → Prop) (m : Nat), vs = [v, .ref pv, .ref pp] ∧ Rv K [] H v (ruD r) ∧ RuOk r ∧ H pv = some (.lst (os.map vV)) ∧ Pgs os ∧ 0 < os.length ∧ H pp = some (.lst ws) ∧ PlR K F H ws ps ∧ 0 < ps.length ∧
  m ≤ 70 ∧ (∀ p ∈ ps, PlOk m p) ∧ ∀ H' u, Stp [] H H' → PlE K (fun l => H l = none) H' u ((pFr r os ps (min ps.length os.length)).getD one0) → Q u H'
theorem cost_le {r : Ru} {os : List OT} (ok : Pgs os) (c : Col os) (b : ∀ c, cdF c os ≤ 10000) (n : nsg r os ≤ 3000) : cost r os ≤ 13000 := by
  have := b (bst os 3)
  unfold cost bsF
  omega
theorem Pgs.tk {os : List OT} (h : Pgs os) (n : Nat) : Pgs (os.take n) := ⟨fun l m => h.1 l (List.mem_of_mem_take m), by have := h.2; rw [List.length_take]; omega⟩
theorem Pgs.dr {os : List OT} (h : Pgs os) (n : Nat) : Pgs (os.drop n) := ⟨fun l m => h.1 l (List.mem_of_mem_drop m), by have := h.2; rw [List.length_drop]; omega⟩
theorem Pgs.col {os : List OT} (h : Pgs os) : Col os := ⟨fun l m => ⟨(h.1 l m).1, by have := (h.1 l m).2; omega⟩, by have := h.2; omega⟩
theorem cl_cheapest_from {f : Addr} {fd : FuncData} (D : Df K mg "cheapest_from" s_cheapest_from ["rule", "values", "plans"] f fd) (T : Nm mg) (c_best_code : Cl P w K mg base 5 "best_code" s_best_code ["page"] (spBest K)) (c_note_signs : Cl P w K mg base 6 "note_signs" s_note_signs ["rule", "page"] (spNsg K)) :
    Cl P w K mg base 7 "cheapest_from" s_cheapest_from ["rule", "values", "plans"] (spFrom K) := by
  refine D.cl sc_cheapest_from (fun vs H Q E h => ?_) (fun cdv A outer s H vs Q E hr h => ?_)
  · obtain ⟨v, va, pp, r, os, ws, ps, F, m, rfl, _⟩ := h
    rfl
  · obtain ⟨v, va, pp, r, os, ws, ps, F, m, rfl, rv, okr, hv, ok, pos, hpp, pr, pos2, hm, okp, k⟩ := h
    refine ⟨_, (pss_cons (ps_set (i := 3) sc_cheapest_from.nd rfl (by first | exact Or.inl rfl | exact Or.inr rfl) pe_non)
      (pss_cons (ps_for PassesOwn.never rfl (Pg.pi_enum1 (by rfl) T.n_enumerate (pa_cons (pe_slice sl_list (pv 2) po_none (po_some (pe_callB call_len_seq (by rfl) T.n_len (by decide +kernel) (pa_cons (pv 1) pa_nil)))) pa_nil) (pk_cons pe_int pk_nil)) (pg_tup rfl (pgs_cons (pg_name (i := 4) sc_cheapest_from.nd rfl (by first | exact Or.inl rfl | exact Or.inr rfl)) (pgs_cons (pg_tup rfl (pgs_cons (pg_name (i := 5) sc_cheapest_from.nd rfl (by first | exact Or.inl rfl | exact Or.inr rfl)) (pgs_cons (pg_name (i := 6) sc_cheapest_from.nd rfl (by first | exact Or.inl rfl | exact Or.inr rfl)) pgs_nil (by rfl)) (by rfl)) (by rfl) (by rfl)) pgs_nil (by rfl)) (by rfl)) (by rfl) (by rfl)) (pss_cons (ps_set (i := 7) sc_cheapest_from.nd rfl (by first | exact Or.inl rfl | exact Or.inr rfl) (pe_slice sl_list (pv 1) po_none (po_some (pv 4))))
      (pss_cons (ps_set (i := 8) sc_cheapest_from.nd rfl (by first | exact Or.inl rfl | exact Or.inr rfl) (pe_op op_add (pe_op op_add (pe_ix ix_tup (pe_cl c_best_code hr (by omega) (pa_cons (pv 7) pa_nil)) pe_int (fun _ _ => rfl)) (pe_cl c_note_signs hr (by omega) (pa_cons (pv 0) (pa_cons (pv 7) pa_nil)))) (pv 5)))
      (pss_one (ps_if (PW.pt (pw_or (pt_cmpR op_isN (pv 3) pe_non (by first | exact nomark _ | rfl)) (pw_or1 (pt_cmpR op_lt (pv 8) (pe_ix ix_tup (pv 3) pe_int (fun _ _ => rfl)) (by first | exact nomark _ | rfl))))) (pss_one (ps_set (i := 3) sc_cheapest_from.nd rfl (by first | exact Or.inl rfl | exact Or.inr rfl) (pe_tup (pa_cons (pv 8) (pa_cons (pe_lst (pa_cons (pv 4) (StX.pa_star (pv 6) pa_nil))) pa_nil))))) pss_nil)))))
      (pss_one (ps_ret (pv 3))))), ?_⟩
    have nn : ∀ {x : Addr}, x ∉ ([] : List Addr) := fun m => nomatch m
    have lw := pr.len
    refine ⟨_, rfl, _, rfl, va, _, rfl, .inl (SqL.of hv), ((os.map vV).length : Int), rfl, pp, _, rfl, SqL.of hpp, fun q nq => ?_⟩
    rw [show cutV ws none (some ((os.map vV).length : Int)) = _ from cut_upto _, List.length_map]
    have S1 : Stp [] H (upd H q (.lst (ws.take os.length))) := Stp.new nq _
    have hq1 : (upd H q (.lst (ws.take os.length))) q = some (.lst (ws.take os.length)) := upd_same
    generalize upd H q (.lst (ws.take os.length)) = H1 at *
    refine ⟨q, _, rfl, rfl, SqL.of hq1, ?_⟩
    refine for_it (walk_enum1 (K := K) (a := q) (xs := ws.take os.length)) (fun i σ H2 => ∃ (b : V) (x4 x5 x6 x7 x8 : Option V), σ = [some v, some (.ref va), some (.ref pp), some b, x4, x5, x6, x7, x8] ∧ Stp [] H H2 ∧ Stp [] H1 H2 ∧ (i = 0 → b = .non) ∧ (0 < i → ∃ z, pFr r os ps i = some z ∧ PlE K (fun l => H l = none) H2 b z))
      ⟨_, _, _, _, _, _, rfl, S1, Stp.refl _ _, fun _ => rfl, fun h => absurd h (Nat.lt_irrefl _)⟩ (fun i σ H2 _ ⟨_, _, _, _, _, _, _, _, S, _⟩ => SqL.of (S.kp _ _ nn hq1)) ?_ ?_
    · rintro i x σ H2 H2' hi ⟨b, x4, x5, x6, x7, x8, rfl, S, S12, b0, bi⟩ ⟨T1, y1, y2, rfl, nT, rfl, e1, e2⟩
      have e1 : y1 = .int ((i + 1 : Nat) : Int) := (Option.some.inj e1).symm
      subst e1
      have lt1 : i < os.length ∧ i < ps.length := by rw [List.length_take, lw] at hi; omega
      have e2 : ws[i]? = some y2 := by
        have e2 : (ws.take os.length)[i]? = some y2 := e2
        rw [List.getElem?_take_of_lt lt1.1] at e2
        exact e2
      obtain ⟨p, ep, hp⟩ := pr.get e2
      have okpi := okp p (List.mem_of_getElem? ep)
      have S2' : Stp [] H2 (upd H2 T1 (.tup [.int ((i + 1 : Nat) : Int), y2])) := Stp.new nT _
      have hT1 : (upd H2 T1 (.tup [.int ((i + 1 : Nat) : Int), y2])) T1 = some (.tup [.int ((i + 1 : Nat) : Int), y2]) := upd_same
      have hp2 := hp.up (G := F) (S.trans S2') fun _ h => h
      have bi2 : 0 < i → ∃ z, pFr r os ps i = some z ∧ PlE K (fun l => H l = none) (upd H2 T1 (.tup [.int ((i + 1 : Nat) : Int), y2])) b z := fun h => by
        obtain ⟨z, ez, hz⟩ := bi h
        exact ⟨z, ez, hz.up S2' fun _ h => h⟩
      have SS := S.trans S2'
      have S1S := S12.trans S2'
      generalize upd H2 T1 (.tup [.int ((i + 1 : Nat) : Int), y2]) = H3 at *
      obtain ⟨t, l, rfl, ht, hl, _⟩ := hp2
      refine ⟨T1, _, rfl, SqT.of hT1, rfl, _, _, rfl, _, _, rfl, ⟨t, _, rfl, ht, rfl, _, _, rfl, _, _, rfl, rfl, rfl, ?_⟩⟩
      have hv3 := SS.kp _ _ nn hv
      refine ⟨_, rfl, _, rfl, ((i + 1 : Nat) : Int), rfl, va, _, rfl, SqL.of hv3, fun q3 nq3 => ?_⟩
      rw [show cutV (os.map vV) none (some ((i + 1 : Nat) : Int)) = _ from cut_upto (i + 1), ← List.map_take]
      have okT := ok.tk (i + 1)
      have posT : 0 < (os.take (i + 1)).length := by rw [List.length_take]; omega
      have S4 : Stp [] H3 (upd H3 q3 (.lst ((os.take (i + 1)).map vV))) := Stp.new nq3 _
      have hq4 : (upd H3 q3 (.lst ((os.take (i + 1)).map vV))) q3 = some (.lst ((os.take (i + 1)).map vV)) := upd_same
      generalize upd H3 q3 (.lst ((os.take (i + 1)).map vV)) = H4 at *
      refine ⟨_, rfl, q3, os.take (i + 1), rfl, hq4, okT, posT, fun H5 tb S5 htb => ?_⟩
      refine ⟨tb, _, 0, .int (bsF (os.take (i + 1)) : Int), rfl, rfl, htb, at0, ?_⟩
      have hq5 := S5.kp _ _ nn hq4
      have SS5 := (SS.trans S4).trans S5
      refine ⟨_, rfl, _, rfl, v, q3, r, os.take (i + 1), rfl, rv.up SS5, okr, hq5, okT.col, posT, fun H6 S6 => ?_⟩
      have ec : (bsF (os.take (i + 1)) : Int) + (nsg r (os.take (i + 1)) : Int) + (p.1 : Int) = ((cost r (os.take (i + 1)) + p.1 : Nat) : Int) := by unfold cost; omega
      refine ⟨_, _, rfl, rfl, _, rfl, _, _, rfl, rfl, ?_⟩
      dsimp only [gName]
      rw [ec]
      have S36 := (S4.trans S5).trans S6
      have SS6 := SS.trans S36
      have hl6 := S36.kp _ _ nn hl
      have efr : pFr r os ps (i + 1) = pUp r os (pFr r os ps i) (i + 1) p := by
        show (match ps[i]? with | none => pFr r os ps i | some p => pUp r os (pFr r os ps i) (i + 1) p) = _
        rw [ep]
      -- a plan with this page
      have put : ∀ (q7 : Addr) (H7 : Hp), Stp [] H6 H7 → H7 q7 = some (.lst (((i + 1) :: p.2).map fun n : Nat => V.int (n : Int))) → H q7 = none → pFr r os ps (i + 1) = some (cost r (os.take (i + 1)) + p.1, (i + 1) :: p.2) → ∀ t8, H7 t8 = none →
          ∃ (b : V) (x4 x5 x6 x7 x8 : Option V), [some v, some (.ref va), some (.ref pp), some (.ref t8), some (.int ((i + 1 : Nat) : Int)), some (.int (p.1 : Int)), some (.ref l), some (.ref q3), some (.int ((cost r (os.take (i + 1)) + p.1 : Nat) : Int))] = [some v, some (.ref va), some (.ref pp), some b, x4, x5, x6, x7, x8] ∧ Stp [] H (upd H7 t8 (.tup [.int ((cost r (os.take (i + 1)) + p.1 : Nat) : Int), .ref q7])) ∧ Stp [] H1 (upd H7 t8 (.tup [.int ((cost r (os.take (i + 1)) + p.1 : Nat) : Int), .ref q7])) ∧ (i + 1 = 0 → b = .non) ∧ (0 < i + 1 → ∃ z, pFr r os ps (i + 1) = some z ∧ PlE K (fun l => H l = none) (upd H7 t8 (.tup [.int ((cost r (os.take (i + 1)) + p.1 : Nat) : Int), .ref q7])) b z) := fun q7 H7 S7 h7 n7 e t8 n8 =>
        ⟨_, _, _, _, _, _, rfl, (SS6.trans S7).new' n8, ((S1S.trans S36).trans S7).new' n8, fun e => (nomatch e), fun _ => ⟨_, e, t8, q7, rfl, SqT.of upd_same, by rw [upd_ne (ne_of_none h7 n8)]; exact h7, n7⟩⟩
      have pb : p.2.length ≤ 70 := by have := okpi.2.1; omega
      have small : (V.int ((i + 1 : Nat) : Int) :: ((p.2.map fun n : Nat => V.int (n : Int)) ++ [])).length ≤ sizeLine := by
        rw [List.append_nil, List.length_cons, List.length_map]
        exact Nat.le_trans (show p.2.length + 1 ≤ 100 by omega) (by decide)
      have el : V.int ((i + 1 : Nat) : Int) :: ((p.2.map fun n : Nat => V.int (n : Int)) ++ []) = ((i + 1) :: p.2).map fun n : Nat => V.int (n : Int) := by rw [List.append_nil]; rfl
      cases i with
      | zero =>
        obtain rfl := b0 rfl
        refine ⟨_, rfl, rfl, _, rfl, ite2 (fun _ => ?_) (fun h => absurd rfl h)⟩
        refine ⟨_, rfl, _, rfl, _, rfl, l, _, rfl, .inr (SqL.of hl6), small, fun q7 n7 => ?_⟩
        rw [el]
        refine ⟨(by show 2 ≤ sizeLine; decide), fun t8 n8 => ?_⟩
        exact put q7 _ (Stp.new n7 _) upd_same (SS6.fresh nn n7) efr t8 n8
      | succ j =>
        obtain ⟨z, ez, hz⟩ := bi2 (Nat.succ_pos _)
        obtain ⟨tz, lz, rfl, htz, hlz, fz⟩ := hz
        have htz6 := sqt_stp S36 Lsts.nil htz
        rw [ez] at efr
        refine ⟨_, rfl, rfl, _, rfl, ite2 (fun h => absurd h (by simp)) (fun _ => ?_)⟩
        refine ⟨_, rfl, _, rfl, tz, _, 0, .int (z.1 : Int), rfl, rfl, htz6, at0, _, _, rfl, rfl, _, rfl, ite2 (fun h => ?_) (fun h => ?_)⟩
        · have lt : cost r (os.take (j + 1 + 1)) + p.1 < z.1 := by have := of_decide_eq_true h; omega
          refine ⟨_, rfl, _, rfl, _, rfl, l, _, rfl, .inr (SqL.of hl6), small, fun q7 n7 => ?_⟩
          rw [el]
          refine ⟨(by show 2 ≤ sizeLine; decide), fun t8 n8 => ?_⟩
          exact put q7 _ (Stp.new n7 _) upd_same (SS6.fresh nn n7) (by rw [efr]; exact if_pos lt) t8 n8
        · have ge : ¬ cost r (os.take (j + 1 + 1)) + p.1 < z.1 := fun q => h (decide_eq_true (by omega))
          refine ⟨_, _, _, _, _, _, rfl, SS6, S1S.trans S36, fun e => (nomatch e), fun _ => ⟨z, by rw [efr]; exact if_neg ge, tz, lz, rfl, htz6, S36.kp _ _ nn hlz, fz⟩⟩
    · rintro σ H2 ⟨b, x4, x5, x6, x7, x8, rfl, S, S12, b0, bi⟩
      have e : (ws.take os.length).length = min ps.length os.length := by rw [List.length_take, lw]; omega
      rw [e] at bi
      obtain ⟨z, ez, hz⟩ := bi (by omega)
      refine ⟨_, rfl, k H2 b S ?_⟩
      rw [ez]
      exact hz
/-! ### bounds -/
def lc0 (a : OT) (l : List Nat) : Nat := match a with | none => 0 | some k => lcp k l
def spLc0 : Sp := fun vs H Q _ => ∃ (a : OT) (l : List Nat), vs = [vV a, Tx l] ∧ (∀ k, a = some k → k.length ≤ 60) ∧ l.length ≤ 60 ∧ Q (.int (lc0 a l : Int)) H
theorem eqV_v (a b : OT) : eqV (vV a) (vV b) = decide (a = b) := by
  cases a with
  | none => cases b with
    | none => rfl
    | some l => rfl
  | some k => cases b with
    | none => rfl
    | some l =>
      show (tx k == tx l) = _
      by_cases c : k = l
      · rw [c, decide_eq_true rfl]
        exact beq_self_eq_true _
      · rw [decide_eq_false (fun e => c (Option.some.inj e))]
        exact beq_eq_false_iff_ne.mpr fun e => c (tx_inj e)
theorem flat_v (o : OT) : flatV (vV o) = true := by cases o <;> rfl
theorem flat_all (os : List OT) : (os.map vV).all flatV = true := by
  rw [List.all_eq_true]
  intro v m
  obtain ⟨o, _, rfl⟩ := List.mem_map.mp m
  exact flat_v o
theorem inV_v (o : OT) : ∀ (os : List OT), inV (vV o) (os.map vV) = decide (o ∈ os)
  | [] => rfl
  | x :: os => by
    show (eqV (vV x) (vV o) || inV (vV o) (os.map vV)) = _
    rw [eqV_v, inV_v o os, Bool.eq_iff_iff, Bool.or_eq_true, decide_eq_true_iff, decide_eq_true_iff, decide_eq_true_iff, List.mem_cons]
    exact ⟨fun h => h.elim (fun e => .inl e.symm) .inr, fun h => h.elim (fun e => .inl e.symm) .inr⟩
theorem plain_app (a b : List OT) : plainS (a ++ b) = plainS a + plainS b := by unfold plainS; rw [List.map_append, List.sum_append]
theorem sum_le {m : Nat} : ∀ (ns : List Nat), (∀ n ∈ ns, n ≤ m) → ns.sum ≤ ns.length * m
  | [], _ => Nat.zero_le _
  | n :: ns, h => by
    have h1 := h n List.mem_cons_self
    have h2 := sum_le ns fun x q => h x (List.mem_cons_of_mem _ q)
    rw [List.sum_cons, List.length_cons, Nat.succ_mul]
    omega
theorem vsg_le {os : List OT} (ok : Pgs os) {o : OT} (m : o ∈ os) : vsg o ≤ 61 := by
  cases o with
  | none => show 1 ≤ 61; decide
  | some l => have := (ok.1 l m).2; show l.length + 1 ≤ 61; omega
theorem plain_le {os : List OT} (ok : Pgs os) : plainS os ≤ 4000 := by
  have := sum_le (m := 61) (os.map vsg) fun n q => by
    obtain ⟨o, mo, rfl⟩ := List.mem_map.mp q
    exact vsg_le ok mo
  rw [List.length_map] at this
  have l := ok.2
  have : os.length * 61 ≤ 60 * 61 := Nat.mul_le_mul_right _ l
  unfold plainS
  omega
theorem sgb_le {a o : OT} (ha : ∀ l, a = some l → l.length ≤ 60) (ho : ∀ l, o = some l → l.length ≤ 60) : sgb a o ≤ 72 := by
  cases o with
  | none => show 1 ≤ 72; decide
  | some l =>
    have hl := ho l rfl
    have m60 : lc0 a l ≤ 60 := by
      cases a with
      | none => exact Nat.zero_le _
      | some k => have := (lcp_le k l).1; have := ha k rfl; show lcp k l ≤ 60; omega
    have e : sgb a (some l) = dg ((lc0 a l : Nat) : Int) + vsg (some (l.drop (lc0 a l))) := by cases a <;> rfl
    rw [e]
    have := dg_le (i := ((lc0 a l : Nat) : Int)) (by omega)
    show _ + ((l.drop (lc0 a l)).length + 1) ≤ 72
    rw [List.length_drop]
    omega
theorem sgb_some (a : OT) (l : List Nat) : sgb a (some l) = dg ((lc0 a l : Nat) : Int) + vsg (some (l.drop (lc0 a l))) := by cases a <;> rfl
theorem runs_le (os : List OT) (ok : Pgs os) : runsS os ≤ 5000 := by
  obtain ⟨sl, sm⟩ := strS_len os.length os rfl
  have l := ok.2
  have := sum_le (m := 72) ((strS os).map fun p => vsg p.1 + dg (p.2 : Int)) fun n q => by
    obtain ⟨p, mp, rfl⟩ := List.mem_map.mp q
    have m := sm p mp
    have v := vsg_le ok m.1
    have d := dg_le (i := (p.2 : Int)) (by omega)
    show vsg p.1 + dg (p.2 : Int) ≤ 72
    omega
  rw [List.length_map] at this
  have := Nat.mul_le_mul_right 72 (Nat.le_trans sl l)
  unfold runsS
  omega
theorem bst_min (os : List OT) : ∀ i, (∀ c, c ≤ i → cdF (bst os i) os ≤ cdF c os) ∧ (∀ c, c < bst os i → cdF (bst os i) os < cdF c os)
  | 0 => ⟨fun c h => by rw [Nat.le_zero.mp h]; exact Nat.le_refl _, fun c h => absurd h (Nat.not_lt_zero _)⟩
  | i + 1 => by
    obtain ⟨a, b⟩ := bst_min os i
    have le := bst_le os i
    by_cases c : cdF (i + 1) os < cdF (bst os i) os
    · have e : bst os (i + 1) = i + 1 := if_pos c
      rw [e]
      refine ⟨fun d h => ?_, fun d h => ?_⟩
      · rcases Nat.lt_or_ge i d with q | q
        · rw [show d = i + 1 by omega]; exact Nat.le_refl _
        · have := a d q; omega
      · have := a d (by omega); omega
    · have e : bst os (i + 1) = bst os i := if_neg c
      rw [e]
      refine ⟨fun d h => ?_, b⟩
      rcases Nat.lt_or_ge i d with q | q
      · rw [show d = i + 1 by omega]; omega
      · exact a d q
theorem cdF_le {os : List OT} (ok : Pgs os) (c : Nat) : cdF c os ≤ 10000 := by
  have p := plain_le ok
  match c with
  | 0 => show plainS os ≤ _; omega
  | 1 => have := runs_le os ok; show runsS os ≤ _; omega
  | 2 =>
    show tableS os ≤ _
    have uf := unl_facts os.length os rfl
    have few := ok.2
    have okU : Pgs (unl os) := ⟨fun l m => ok.1 l ((uf.2 _).mp m), by omega⟩
    have pU := plain_le okU
    have := sum_le (m := 11) (os.map fun o => dg (((unl os).idxOf o : Nat) : Int)) fun n q => by
      obtain ⟨o, mo, rfl⟩ := List.mem_map.mp q
      have il := List.idxOf_lt_length_of_mem ((uf.2 o).mpr mo)
      exact dg_le (by omega)
    rw [List.length_map] at this
    have := Nat.mul_le_mul_right 11 few
    unfold tableS
    omega
  | c + 3 =>
    show sharedS os ≤ _
    have few := ok.2
    have := sum_le (m := 72) (((none : OT) :: os).zipWith sgb os) fun n q => by
      obtain ⟨i, hi, e⟩ := List.mem_iff_getElem.mp q
      rw [List.getElem_zipWith] at e
      rw [← e]
      refine sgb_le (fun l el => ?_) fun l el => ?_
      · have m : some l ∈ ((none : OT) :: os) := by rw [← el]; exact List.getElem_mem _
        rcases List.mem_cons.mp m with z | m
        · cases z
        · exact (ok.1 l m).2
      · have m : some l ∈ os := by rw [← el]; exact List.getElem_mem _
        exact (ok.1 l m).2
    rw [List.length_zipWith] at this
    unfold sharedS
    have : min ((none : OT) :: os).length os.length * 72 ≤ 60 * 72 := Nat.mul_le_mul_right _ (by omega)
    omega
theorem nsg_le {r : Ru} {os : List (Option (List Nat))} (c : Col os) : nsg r os ≤ 3000 := by
  have few := c.few
  have dl : dg (os.length : Int) ≤ 11 := dg_le (by omega)
  have ll : lsg r.lacks (gone os) ≤ 11 := by
    unfold lsg
    split
    · exact dg_le (by unfold gone; omega)
    · omega
    · omega
  have vl : ∀ {o : Option (List Nat)}, (∀ l, o = some l → l.length ≤ 1000) → vsg o ≤ 1001 := fun {o} h => by
    cases o with
    | none => show 1 ≤ 1001; decide
    | some l => have := h l rfl; show l.length + 1 ≤ 1001; omega
  have v1 := vl (o := lowO r.low (txs os)) fun l e => (col_lows c e).2
  have v2 := vl (o := highO r.high (txs os)) fun l e => (col_highs c e).2
  unfold nsg
  omega
theorem cut_mid {α : Type} (os : List α) (φ : α → V) (a m : Nat) (h : a ≤ os.length) : cutV (os.map φ) (some (a : Int)) (some ((a : Int) + (m : Int))) = ((os.drop a).take m).map φ := by
  have e : ((a : Int) + (m : Int)) = ((a + m : Nat) : Int) := rfl
  unfold cutV
  rw [e, HT.sIx_nat, HT.sIx_nat, List.length_map, Nat.min_eq_left h, ← List.map_drop, ← List.map_take]
  congr 1
  rw [List.take_eq_take_iff, List.length_drop]
  omega
theorem pUp_ok {r : Ru} {vs : List OT} {m len : Nat} {b : Option Pl} {p q : Pl} (c : cost r (vs.take len) ≤ 13000) (l60 : len ≤ 60) (hp : PlOk m p) (hb : ∀ z, b = some z → PlOk (m + 1) z) (e : pUp r vs b len p = some q) : PlOk (m + 1) q := by
  have new : PlOk (m + 1) (cost r (vs.take len) + p.1, len :: p.2) := by
    obtain ⟨a, b, d⟩ := hp
    refine ⟨by show _ + p.1 ≤ _; omega, by show p.2.length + 1 ≤ _; omega, fun x mx => ?_⟩
    rcases List.mem_cons.mp mx with rfl | mx
    · exact l60
    · exact d x mx
  unfold pUp at e
  cases b with
  | none => cases e; exact new
  | some z =>
    dsimp only at e
    split at e
    · cases e; exact new
    · cases e; exact hb _ rfl
theorem pFr_ok {r : Ru} {vs : List OT} {ps : List Pl} {m : Nat} (c : ∀ len, cost r (vs.take len) ≤ 13000) (hp : ∀ p ∈ ps, PlOk m p) : ∀ (i : Nat), i ≤ 60 → ∀ q, pFr r vs ps i = some q → PlOk (m + 1) q
  | 0, _, q, e => nomatch e
  | i + 1, h, q, e => by
    have ih := pFr_ok c hp i (by omega)
    have e : (match ps[i]? with | none => pFr r vs ps i | some p => pUp r vs (pFr r vs ps i) (i + 1) p) = some q := e
    cases e2 : ps[i]? with
    | none => rw [e2] at e; exact ih q e
    | some p =>
      rw [e2] at e
      exact pUp_ok (c _) h (hp p (List.mem_of_getElem? e2)) ih e
theorem plok_mono {m n : Nat} {p : Pl} (h : PlOk m p) (l : m ≤ n) : PlOk n p := ⟨Nat.le_trans h.1 (Nat.mul_le_mul_left _ l), Nat.le_trans h.2.1 l, h.2.2⟩
theorem Pgs.cost {r : Ru} {os : List OT} (ok : Pgs os) : cost r os ≤ 13000 := cost_le ok ok.col (fun c => cdF_le ok c) (nsg_le ok.col)
theorem plans_ok (r : Ru) (most : Nat) : ∀ os : List OT, Pgs os → ∀ p ∈ plans r most os, PlOk os.length p
  | [], _, p, m => by
    rw [List.mem_singleton.mp m]
    exact ⟨Nat.zero_le _, Nat.zero_le _, fun _ m => nomatch m⟩
  | o :: os, ok, p, m => by
    have ok2 : Pgs os := ⟨fun l m => ok.1 l (List.mem_cons_of_mem _ m), by have := ok.2; rw [List.length_cons] at this; omega⟩
    have ih := plans_ok r most os ok2
    have few := ok.2
    rcases List.mem_cons.mp m with rfl | m
    · have pl := plans_len r most os
      have hmin : min (plans r most os).length ((o :: os).take most).length ≤ 60 := by rw [List.length_take]; omega
      generalize min (plans r most os).length ((o :: os).take most).length = i at *
      cases e : pFr r ((o :: os).take most) (plans r most os) i with
      | none => exact ⟨Nat.zero_le _, Nat.zero_le _, fun _ m => nomatch m⟩
      | some q =>
        have c : ∀ len, _root_.Kq.cost r (((o :: os).take most).take len) ≤ 13000 := fun len => ((ok.tk most).tk len).cost
        exact pFr_ok c ih i hmin q e
    · exact plok_mono (ih p m) (by rw [List.length_cons]; omega)
def che (r : Ru) (most : Nat) (os : List OT) : Pl := (plans r most os).headD one0
def spChe (K : PySem.W.Frag) : Sp := fun vs H Q _ => ∃ (v : V) (pc : Addr) (r : Ru) (os : List OT) (m : Nat), vs = [v, .ref pc, .int (m : Int)] ∧ Rv K [] H v (ruD r) ∧ RuOk r ∧ H pc = some (.lst (os.map vV)) ∧ Pgs os ∧ 1 ≤ m ∧ m ≤ 1000 ∧ ∀ H' u, Stp [] H H' → PlE K (fun l => H l = none) H' u (che r m os) → Q u H'
theorem cl_cheapest {f : Addr} {fd : FuncData} (D : Df K mg "cheapest" s_cheapest ["rule", "column", "most"] f fd) (T : Nm mg) (c_check_rule : Cl P w K mg base 4 "check_rule" s_check_rule ["rule"] (spCk K isRule)) (c_check_column : Cl P w K mg base 3 "check_column" s_check_column ["column"] (spCol K)) (c_check_most : Cl P w K mg base 1 "check_most" s_check_most ["most"] spCkMost)
    (c_cheapest_from : Cl P w K mg base 7 "cheapest_from" s_cheapest_from ["rule", "values", "plans"] (spFrom K)) : Cl P w K mg base 8 "cheapest" s_cheapest ["rule", "column", "most"] (spChe K) := by
  refine D.cl sc_cheapest (fun vs H Q E h => ?_) (fun cdv A outer s H vs Q E hr h => ?_)
  · obtain ⟨v, pc, r, os, m, rfl, _⟩ := h
    rfl
  · obtain ⟨v, pc, r, os, m, rfl, rv, okr, hc, ok, m1, m2, k⟩ := h
    refine ⟨_, (pss_cons (ps_expr (pe_cl c_check_rule hr (by omega) (pa_cons (pv 0) pa_nil)))
      (pss_cons (ps_expr (pe_cl c_check_column hr (by omega) (pa_cons (pv 1) pa_nil)))
      (pss_cons (ps_expr (pe_cl c_check_most hr (by omega) (pa_cons (pv 2) pa_nil)))
      (pss_cons (ps_set (i := 3) sc_cheapest.nd rfl (by first | exact Or.inl rfl | exact Or.inr rfl) (pe_lst (pa_cons (pe_tup (pa_cons pe_int (pa_cons (pe_lst pa_nil) pa_nil))) pa_nil)))
      (pss_cons (ps_for PassesOwn.never rfl (pi_revR (by rfl) T.n_reversed (prg_1 (by rfl) T.n_range (pe_callB call_len_seq (by rfl) T.n_len (by decide +kernel) (pa_cons (pv 1) pa_nil)))) (pg_name (i := 4) sc_cheapest.nd rfl (by first | exact Or.inl rfl | exact Or.inr rfl)) (pss_one (ps_set (i := 3) sc_cheapest.nd rfl (by first | exact Or.inl rfl | exact Or.inr rfl) (pe_lst (pa_cons (pe_cl c_cheapest_from hr (by omega) (pa_cons (pv 0) (pa_cons (pe_slice sl_list (pv 1) (po_some (pv 4)) (po_some (pe_op op_add (pv 4) (pv 2)))) (pa_cons (pv 3) pa_nil)))) (StX.pa_star (pv 3) pa_nil))))))
      (pss_one (ps_ret (pe_ix ix_list (pv 3) pe_int (fun _ _ => rfl))))))))), ?_⟩
    have nn : ∀ {x : Addr}, x ∉ ([] : List Addr) := fun m => nomatch m
    have few := ok.2
    refine ⟨_, rfl, [], v, ruD r, rfl, rv, isRule_ru okr, by cases r; trivial, fun H1 S1 => ?_⟩
    refine ⟨_, rfl, pc, os, rfl, S1.kp _ _ nn hc, ok, fun H2 S2 => ?_⟩
    refine ⟨_, rfl, (m : Int), rfl, by omega, by omega, ?_⟩
    have S12 := S1.trans S2
    refine ⟨Nat.zero_le _, fun l0 nl0 => ?_⟩
    have S3 : Stp [] H2 (upd H2 l0 (.lst [])) := Stp.new nl0 _
    have hl3 : (upd H2 l0 (.lst [])) l0 = some (.lst []) := upd_same
    have fl0 : H l0 = none := S12.fresh nn nl0
    generalize upd H2 l0 (.lst []) = H3 at *
    refine ⟨(by show 2 ≤ sizeLine; decide), fun t0 nt0 => ?_⟩
    have S4 : Stp [] H3 (upd H3 t0 (.tup [.int 0, .ref l0])) := Stp.new nt0 _
    have ht4 : SqT K (upd H3 t0 (.tup [.int 0, .ref l0])) t0 [.int 0, .ref l0] := SqT.of upd_same
    have hl4 := S4.kp _ _ nn hl3
    generalize upd H3 t0 (.tup [.int 0, .ref l0]) = H4 at *
    refine ⟨(by show 1 ≤ sizeLine; decide), fun q0 nq0 => ?_⟩
    have S5 : Stp [] H4 (upd H4 q0 (.lst [.ref t0])) := Stp.new nq0 _
    have hq5 : (upd H4 q0 (.lst [.ref t0])) q0 = some (.lst [.ref t0]) := upd_same
    have pr0 : PlR K (fun l => H l = none) (upd H4 q0 (.lst [.ref t0])) [.ref t0] (plans r m []) := .cons ⟨t0, l0, rfl, sqt_stp S5 Lsts.nil ht4, S5.kp _ _ nn hl4, fl0⟩ .nil
    have S05 : Stp [] H (upd H4 q0 (.lst [.ref t0])) := ((S12.trans S3).trans S4).trans S5
    generalize upd H4 q0 (.lst [.ref t0]) = H5 at *
    dsimp only [gName]
    have hc5 := S05.kp _ _ nn hc
    refine ⟨_, rfl, pc, _, rfl, .inl (SqL.of hc5), ((os.map vV).length : Int), rfl, by omega, by omega, by rw [List.length_map]; omega, by rw [List.length_map]; omega, ?_⟩
    rw [List.length_map, show (((os.length : Int) - 0).toNat) = os.length by omega]
    refine for_rangeC (fun i σ H6 => ∃ (pl : Addr) (ws : List V) (x4 : Option V), σ = [some v, some (.ref pc), some (.int (m : Int)), some (.ref pl), x4] ∧ Stp [] H H6 ∧ H6 pl = some (.lst ws) ∧ PlR K (fun l => H l = none) H6 ws (plans r m (os.drop (os.length - i))))
      ⟨q0, _, _, rfl, S05, hq5, by rw [Nat.sub_zero, List.drop_length]; exact pr0⟩ ?_ ?_
    · rintro i σ H6 hi ⟨pl, ws, x4, rfl, S, hpl, pr⟩
      obtain ⟨st, hst⟩ : ∃ st, st = os.length - (i + 1) := ⟨_, rfl⟩
      have est : (0 : Int) + ((os.length : Nat) : Int) - 1 + ((i : Nat) : Int) * (-1) = (st : Int) := by omega
      rw [est]
      have lst : st < os.length := by omega
      obtain ⟨o, eo⟩ : ∃ o, os[st]? = some o := ⟨_, List.getElem?_eq_getElem lst⟩
      have ed : os.drop st = o :: os.drop (os.length - i) := by
        obtain ⟨_, eg⟩ := List.getElem?_eq_some_iff.mp eo
        rw [List.drop_eq_getElem_cons lst, eg]
        congr 2
        omega
      rw [← hst]
      have hc6 := S.kp _ _ nn hc
      refine ⟨_, rfl, _, rfl, _, rfl, (st : Int), rfl, _, rfl, _, rfl, _, _, rfl, rfl, _, rfl, pc, _, rfl, SqL.of hc6, fun q6 nq6 => ?_⟩
      rw [show cutV (os.map vV) (some (st : Int)) (some ((st : Int) + (m : Int))) = _ from cut_mid os vV st m (by omega)]
      have S7 : Stp [] H6 (upd H6 q6 (.lst (((os.drop st).take m).map vV))) := Stp.new nq6 _
      have hq7 : (upd H6 q6 (.lst (((os.drop st).take m).map vV))) q6 = some (.lst (((os.drop st).take m).map vV)) := upd_same
      generalize upd H6 q6 (.lst (((os.drop st).take m).map vV)) = H7 at *
      have S07 := S.trans S7
      have okd : Pgs (os.drop (os.length - i)) := ok.dr _
      have pll := plans_len r m (os.drop (os.length - i))
      have ldr : (os.drop (os.length - i)).length = i := by rw [List.length_drop]; omega
      have pok := plans_ok r m _ okd
      rw [ldr] at pok
      refine ⟨_, rfl, v, q6, pl, r, (os.drop st).take m, ws, plans r m (os.drop (os.length - i)), fun l => H l = none, i, rfl, rv.up S07, okr, hq7, (ok.dr st).tk m, by rw [List.length_take, List.length_drop]; omega, S7.kp _ _ nn hpl, pr.up S7 fun _ h => h, by omega, by omega, pok, fun H8 u S8 hu => ?_⟩
      have hpl8 := (S7.trans S8).kp _ _ nn hpl
      have S08 := S07.trans S8
      have lw := pr.len
      refine ⟨_, rfl, pl, _, rfl, .inr (SqL.of hpl8), ?_, fun q9 nq9 => ?_⟩
      · rw [List.append_nil, List.length_cons, lw, pll, ldr]
        exact Nat.le_trans (show i + 1 + 1 ≤ 100 by omega) (by decide)
      rw [List.append_nil]
      have S9 : Stp [] H8 (upd H8 q9 (.lst (u :: ws))) := Stp.new nq9 _
      refine ⟨q9, u :: ws, _, rfl, S08.trans S9, upd_same, ?_⟩
      rw [ed]
      refine .cons ?_ (pr.up ((S7.trans S8).trans S9) fun _ h => h)
      rw [← ed]
      exact hu.up S9 fun l h => S07.fresh nn h
    · rintro σ H6 ⟨pl, ws, x4, rfl, S, hpl, pr⟩
      rw [Nat.sub_self, List.drop_zero] at pr
      have pll := plans_len r m os
      have hw : ∃ u ws', ws = u :: ws' ∧ PlE K (fun l => H l = none) H6 u (che r m os) := by
        unfold che
        generalize plans r m os = ps at *
        cases pr with
        | nil => cases pll
        | cons a b => exact ⟨_, _, rfl, a⟩
      obtain ⟨u, ws', rfl, hu⟩ := hw
      exact ⟨_, rfl, pl, _, 0, u, rfl, rfl, SqL.of hpl, at0, k H6 u S hu⟩
abbrev s__law_alike : Stmt := topS 65
abbrev N__law_alike : List Str := ["last", "thing", "size"]
theorem sc__law_alike : FnScope ["last", "thing", "size"] ["last", "thing"] (defScope s__law_alike) := ⟨rfl, rfl, rfl, by decide +kernel, rfl, by decide +kernel, by decide +kernel⟩

/-! ### how many letters two values share -/
theorem cutS_at (l : List Nat) (a : Nat) (h : a ≤ l.length) : cutS (tx l) (some (a : Int)) (some ((a : Int) + 1)) = tx ((l[a]?).toList) := by
  have e : ((a : Int) + 1) = ((a + 1 : Nat) : Int) := rfl
  rw [e, tx_cut, HT.sIx_nat, HT.sIx_nat, Nat.min_eq_left h]
  rcases Nat.lt_or_ge a l.length with lt | ge
  · rw [show min (a + 1) l.length - a = 1 by omega, List.getElem?_eq_getElem lt, List.drop_eq_getElem_cons lt]
    rfl
  · rw [show min (a + 1) l.length - a = 0 by omega, List.getElem?_eq_none ge]
    rfl
theorem Mono.chain {r r' : R2} {ta tb tc : TE} (hr : MonoR r) (hr' : MonoR r') (ha : Mono ta) (hb : Mono tb) (hc : Mono tc) : Mono (tChain r r' ta tb tc) := fun σ H Q Q' k q =>
  ha σ H _ _ (fun x H1 q1 => hb σ H1 _ _ (fun y H2 q2 => hr x y H2 _ _ (fun z H3 ⟨c, e, q3⟩ => ⟨c, e, by
    cases c with
    | true => exact hc σ H3 _ _ (fun w H4 q4 => hr' y w H4 _ _ k q4) q3
    | false => exact k _ _ q3⟩) q2) q1) q
def MonoO (t : TO) : Prop := ∀ σ H (Q Q' : Option Int → Hp → Prop), (∀ x H', Q x H' → Q' x H') → t σ H Q → t σ H Q'
theorem MonoO.part {t : TE} (h : Mono t) : MonoO (tPart t) := fun σ H Q Q' k q => h σ H _ _ (fun x H1 ⟨i, e, q1⟩ => ⟨i, e, k _ _ q1⟩) q
theorem Mono.slS {te : TE} {tl th : TO} (h : Mono te) (h1 : MonoO tl) (h2 : MonoO th) : Mono (tSl rSlS te tl th) := fun σ H Q Q' k q =>
  h σ H _ _ (fun x H1 q1 => h1 σ H1 _ _ (fun l H2 q2 => h2 σ H2 _ _ (fun u H3 ⟨z, e, s, q3⟩ => ⟨z, e, s, k _ _ q3⟩) q2) q1) q
theorem MonoR.isNot : MonoR (fun x y H Q => y = .non ∧ Q (.bl (!decide (x = .non))) H) := fun _ _ _ _ _ h ⟨e, q⟩ => ⟨e, h _ _ q⟩
theorem cl__law_alike {f : Addr} {fd : FuncData} (D : Df K mg "_law_alike" s__law_alike ["last", "thing"] f fd) (T : Nm mg) : Cl P w K mg base 1 "_law_alike" s__law_alike ["last", "thing"] spLc0 := by
  refine D.cl sc__law_alike (fun vs H Q E h => ?_) (fun cdv A outer s H vs Q E hr h => ?_)
  · obtain ⟨a, l, rfl, _⟩ := h
    rfl
  · obtain ⟨a, l, rfl, la, ll, q⟩ := h
    refine ⟨_, (pss_cons (ps_set (i := 2) sc__law_alike.nd rfl (by first | exact Or.inl rfl | exact Or.inr rfl) pe_int)
      (pss_cons (ps_while PassesOwn.never (PW.pt (pw_and (pt_cmpR op_notN (pv 0) pe_non (by first | exact nomark _ | rfl)) (pw_and1 (pt_chain op_eq op_ne (pe_slice sl_str (pv 0) (po_some (pv 2)) (po_some (pe_op op_add (pv 2) pe_int))) (pe_slice sl_str (pv 1) (po_some (pv 2)) (po_some (pe_op op_add (pv 2) pe_int))) pe_str)))) (pss_one (ps_set (i := 2) sc__law_alike.nd rfl (by first | exact Or.inl rfl | exact Or.inr rfl) (pe_op op_add (pv 2) pe_int))))
      (pss_one (ps_ret (pv 2))))), ?_⟩
    refine while_by (fun σ H1 => ∃ m : Nat, σ = [some (vV a), some (Tx l), some (.int (m : Int))] ∧ m ≤ lc0 a l ∧ H1 = H) (fun σ _ => match σ with | [_, _, some (.int i)] => 5000 - i.toNat | _ => 0) ⟨0, rfl, Nat.zero_le _, rfl⟩ ?_ ?_
    · rintro σ H1 ⟨m, rfl, hm, hH⟩
      have done : ¬ m < lc0 a l → ∃ x, [some (vV a), some (Tx l), some (V.int (m : Int))][2]? = some (some x) ∧ Q x H1 := fun n => by
        have e : m = lc0 a l := by omega
        rw [← e, ← hH] at q
        exact ⟨_, rfl, q⟩
      cases a with
      | none =>
        refine ⟨_, rfl, rfl, _, rfl, ite2 (fun h => absurd h (by decide)) (fun _ => ?_)⟩
        exact done (Nat.not_lt_zero _)
      | some k =>
        have lk := la k rfl
        have hm : m ≤ lcp k l := hm
        have nx := lcp_next k l m hm
        have le := lcp_le k l
        refine ⟨_, rfl, rfl, _, rfl, ite2 (fun _ => ?_) (fun h => absurd h (by simp [vV]))⟩
        refine ⟨_, rfl, _, rfl, (m : Int), rfl, _, rfl, _, _, rfl, rfl, _, rfl, tx k, rfl, szt (by omega), ?_⟩
        rw [show cutS (tx k) (some (m : Int)) (some ((m : Int) + 1)) = _ from cutS_at k m (by omega)]
        refine ⟨_, rfl, _, rfl, (m : Int), rfl, _, rfl, _, _, rfl, rfl, _, rfl, tx l, rfl, szt (by omega), ?_⟩
        rw [show cutS (tx l) (some (m : Int)) (some ((m : Int) + 1)) = _ from cutS_at l m (by omega)]
        have ei : ∀ {x y : Option Nat}, x.toList = y.toList → x = y := fun {x y} e => by
          cases x with
          | none => cases y with
            | none => rfl
            | some b => cases e
          | some a => cases y with
            | none => cases e
            | some b => rw [(List.cons.inj e).1]
        refine ⟨rfl, _, rfl, ite2 (fun h1 => ?_) (fun h1 => ?_)⟩
        · have e1 := ei (tx_inj (V.str.inj (of_decide_eq_true h1)))
          refine ⟨rfl, _, rfl, ite2 (fun h2 => ?_) (fun h2 => ?_)⟩
          · obtain ⟨c, ec⟩ : ∃ c, l[m]? = some c := by
              cases e : l[m]? with
              | some c => exact ⟨c, rfl⟩
              | none =>
                rw [e] at h2
                exact absurd h2 (by decide +kernel)
            have lt : m < lcp k l := nx.mpr ⟨(List.getElem?_eq_some_iff.mp (e1.trans ec)).1, (List.getElem?_eq_some_iff.mp ec).1, e1⟩
            refine ⟨_, rfl, _, _, rfl, rfl, ⟨m + 1, rfl, lt, hH⟩, ?_⟩
            show 5000 - ((m : Int) + 1).toNat < 5000 - (m : Int).toNat
            omega
          · refine done fun lt => h2 ?_
            have ml := (nx.mp lt).2.1
            rw [List.getElem?_eq_getElem ml, nil_lit]
            exact (Bool.not_eq_true' _).mpr (decide_eq_false fun e => absurd (tx_inj (V.str.inj e)) (by simp))
        · refine ⟨_, rfl, ite2 (fun h => absurd h (by decide)) (fun _ => done fun lt => h1 ?_)⟩
          rw [(nx.mp lt).2.2]
          exact decide_eq_true rfl
    · exact fun σ H Q Q' m q => MonoT.and (MonoT.test (Mono.op' MonoR.isNot Mono.var Mono.c)) (MonoT.test (Mono.chain MonoR.eq MonoR.ne (Mono.slS Mono.var (MonoO.part Mono.var) (MonoO.part (Mono.op' MonoR.i0 Mono.var Mono.c))) (Mono.slS Mono.var (MonoO.part Mono.var) (MonoO.part (Mono.op' MonoR.i0 Mono.var Mono.c))) Mono.c)) σ H Q Q' m q
abbrev s__law_totals : Stmt := topS 66
abbrev N__law_totals : List Str := ["kind", "things", "start", "upto", "totals", "places", "plain", "runs", "table", "front", "size", "worth", "k", "thing", "both", "least"]
theorem sc__law_totals : FnScope ["kind", "things", "start", "upto", "totals", "places", "plain", "runs", "table", "front", "size", "worth", "k", "thing", "both", "least"] ["kind", "things", "start", "upto"] (defScope s__law_totals) := ⟨rfl, rfl, rfl, by decide +kernel, rfl, by decide +kernel, by decide +kernel⟩

/-! ### the signs of all pages that begin at a place -/
def rS (st : List (OT × Nat)) : Nat := (st.map fun p => vsg p.1 + dg (p.2 : Int)).sum
theorem rS_snoc (si : List (OT × Nat)) (x : OT) (n : Nat) : rS (si ++ [(x, n)]) = rS si + (vsg x + dg (n : Int)) := by
  unfold rS
  rw [List.map_append, List.sum_append]
  rfl
theorem runsS_eq (os : List OT) : runsS os = rS (strS os) := rfl
theorem unl_idx {pg : List OT} {o x : OT} (m : x ∈ unl pg) : (unl (pg ++ [o])).idxOf x = (unl pg).idxOf x := by
  rw [unl_snoc]
  unfold unl1
  split
  · rfl
  · rw [List.idxOf_append, if_pos m]
theorem table_snoc (pg : List OT) (o : OT) : tableS (pg ++ [o]) = tableS pg + (if o ∈ unl pg then 0 else vsg o) + dg (((unl (pg ++ [o])).idxOf o : Nat) : Int) := by
  have uf := unl_facts pg.length pg rfl
  have e1 : (pg.map fun x => dg (((unl (pg ++ [o])).idxOf x : Nat) : Int)) = pg.map fun x => dg (((unl pg).idxOf x : Nat) : Int) :=
    List.map_congr_left fun x m => by rw [unl_idx ((uf.2 x).mpr m)]
  unfold tableS
  rw [List.map_append, List.sum_append, e1]
  have e2 : plainS (unl (pg ++ [o])) = plainS (unl pg) + if o ∈ unl pg then 0 else vsg o := by
    rw [unl_snoc]
    unfold unl1
    split
    · rfl
    · rw [plain_app]
      rfl
  rw [e2]
  show _ + (_ + (dg _ + 0)) = _
  omega
theorem zip_snoc (g : OT → OT → Nat) (o : OT) : ∀ (pg : List OT) (a : OT), (a :: (pg ++ [o])).zipWith g (pg ++ [o]) = (a :: pg).zipWith g pg ++ [g ((a :: pg).getLast (List.cons_ne_nil _ _)) o]
  | [], a => rfl
  | x :: pg, a => by
    show g a x :: (x :: (pg ++ [o])).zipWith g (pg ++ [o]) = g a x :: ((x :: pg).zipWith g pg ++ [g ((a :: x :: pg).getLast (List.cons_ne_nil _ _)) o])
    rw [zip_snoc g o pg x, List.getLast_cons (List.cons_ne_nil x pg)]
theorem shared_snoc (pg : List OT) (o : OT) : sharedS (pg ++ [o]) = sharedS pg + sgb (((none : OT) :: pg).getLast (List.cons_ne_nil _ _)) o := by
  unfold sharedS
  rw [zip_snoc, List.sum_append]
  show _ + (_ + 0) = _
  omega
theorem bs_min (os : List OT) {m : Int} (mm : m ∈ [(cdF 0 os : Int), (cdF 1 os : Int), (cdF 2 os : Int), (cdF 3 os : Int)]) (h : ∀ y ∈ [(cdF 0 os : Int), (cdF 1 os : Int), (cdF 2 os : Int), (cdF 3 os : Int)], m ≤ y) : m = (bsF os : Int) := by
  obtain ⟨a, _⟩ := bst_min os 3
  have b := bst_le os 3
  have m3 : (bsF os : Int) ∈ [(cdF 0 os : Int), (cdF 1 os : Int), (cdF 2 os : Int), (cdF 3 os : Int)] := by
    unfold bsF
    rcases (by omega : bst os 3 = 0 ∨ bst os 3 = 1 ∨ bst os 3 = 2 ∨ bst os 3 = 3) with e | e | e | e <;> rw [e] <;> simp
  have h1 := h _ m3
  have a0 := a 0 (by decide)
  have a1 := a 1 (by decide)
  have a2 := a 2 (by decide)
  have a3 := a 3 (by decide)
  unfold bsF at *
  simp only [List.mem_cons, List.not_mem_nil, or_false] at mm
  omega
/-- the stretch that is open, and those ahead of it -/
theorem strS_open (pg : List OT) (o : OT) : ∃ si n, strS (pg ++ [o]) = si ++ [(o, n)] := by
  rw [strS_snoc]
  rcases List.eq_nil_or_concat (strS pg) with e | ⟨si, ⟨x, n⟩, e⟩
  · rw [e]
    exact ⟨[], 1, rfl⟩
  · rw [e, List.concat_eq_append]
    by_cases c : x = o
    · subst c
      exact ⟨si, n + 1, addS_same si x n⟩
    · exact ⟨si ++ [(x, n)], 1, addS_other c⟩
/-- what is counted of the page so far: its runs but for the last one, that one's length, what its value takes -/
def Opn (pg : List OT) (runs size worth : Nat) : Prop := (pg = [] ∧ runs = 0 ∧ size = 0) ∨ ∃ pi x si, pg = pi ++ [x] ∧ strS pg = si ++ [(x, size)] ∧ runs = rS si ∧ worth = vsg x
def totL (r : Ru) (os : List OT) (st j : Nat) : List V := (List.range j).map fun i => V.int (cost r ((os.drop st).take (i + 1)) : Int)
theorem nes {x : V} : ¬ (!decide (x = x)) = true := by simp
theorem idx_first (o : OT) (us : List OT) : ∀ (m : Nat) (z' : V), m < us.idxOf o → (us.map vV)[m]? = some z' → eqV z' (vV o) = false := fun m z' hm ez => by
  rw [List.getElem?_map] at ez
  cases e2 : us[m]? with
  | none => rw [e2] at ez; cases ez
  | some x =>
    rw [e2] at ez
    cases ez
    rw [eqV_v]
    refine decide_eq_false fun ex => ?_
    subst ex
    obtain ⟨lt, gt⟩ := List.getElem?_eq_some_iff.mp e2
    have := List.not_of_lt_findIdx (p := fun y => y == x) (xs := us) (show m < us.idxOf x from hm)
    rw [gt] at this
    exact absurd (beq_self_eq_true x) (by simpa using this)
def spTot (K : PySem.W.Frag) : Sp := fun vs H Q _ => ∃ (v : V) (pt : Addr) (r : Ru) (os : List OT) (st up : Nat), vs = [v, .ref pt, .int (st : Int), .int (up : Int)] ∧ Rv K [] H v (ruD r) ∧ RuOk r ∧ H pt = some (.lst (os.map vV)) ∧ Pgs os ∧ st < os.length ∧ 1 ≤ up ∧ up ≤ 1000 ∧
  ∀ f H', H f = none → Stp [] H H' → H' f = some (.lst (totL r os st (min (os.length - st) up))) → Q (.ref f) H'
theorem cl__law_totals {f : Addr} {fd : FuncData} (D : Df K mg "_law_totals" s__law_totals ["kind", "things", "start", "upto"] f fd) (T : Nm mg) (c__law_alike : Cl P w K mg base 1 "_law_alike" s__law_alike ["last", "thing"] spLc0) (c__law_noted : Cl P w K mg base 2 "_law_noted" s__law_noted ["kind", "sheet"] (spNoted K)) :
    Cl P w K mg base 3 "_law_totals" s__law_totals ["kind", "things", "start", "upto"] (spTot K) := by
  refine D.cl sc__law_totals (fun vs H Q E h => ?_) (fun cdv A outer s H vs Q E hr h => ?_)
  · obtain ⟨v, pt, r, os, st, up, rfl, _⟩ := h
    rfl
  · obtain ⟨v, pt, r, os, st, up, rfl, rv, okr, hpt, ok, hst, u1, u2, k⟩ := h
    refine ⟨_, (pss_cons (ps_par (i := 4) (j := 5) rfl sc__law_totals.nd rfl rfl (by decide) rfl rfl (pa_cons (pe_lst pa_nil) (pa_cons (pe_lst pa_nil) pa_nil)) (by rfl))
      (pss_cons (ps_asg (pe_tup (pa_cons pe_int (pa_cons pe_int (pa_cons pe_int (pa_cons pe_int (pa_cons pe_int (pa_cons pe_int pa_nil))))))) (pg_tup rfl (pgs_cons (pg_name (i := 6) sc__law_totals.nd rfl (by first | exact Or.inl rfl | exact Or.inr rfl)) (pgs_cons (pg_name (i := 7) sc__law_totals.nd rfl (by first | exact Or.inl rfl | exact Or.inr rfl)) (pgs_cons (pg_name (i := 8) sc__law_totals.nd rfl (by first | exact Or.inl rfl | exact Or.inr rfl)) (pgs_cons (pg_name (i := 9) sc__law_totals.nd rfl (by first | exact Or.inl rfl | exact Or.inr rfl)) (pgs_cons (pg_name (i := 10) sc__law_totals.nd rfl (by first | exact Or.inl rfl | exact Or.inr rfl)) (pgs_cons (pg_name (i := 11) sc__law_totals.nd rfl (by first | exact Or.inl rfl | exact Or.inr rfl)) pgs_nil (by rfl)) (by rfl)) (by rfl)) (by rfl)) (by rfl)) (by rfl)) (by rfl) (by rfl)))
      (pss_cons (ps_for PassesOwn.never rfl (pi_range2 (by rfl) T.n_range (pa_cons (pv 2) (pa_cons (pe_callB (call_min2 rfl) (by rfl) T.n_min (by decide +kernel) (pa_cons (pe_callB call_len_seq (by rfl) T.n_len (by decide +kernel) (pa_cons (pv 1) pa_nil)) (pa_cons (pe_op op_add (pv 2) (pv 3)) pa_nil))) pa_nil))) (pg_name (i := 12) sc__law_totals.nd rfl (by first | exact Or.inl rfl | exact Or.inr rfl)) (pss_cons (ps_set (i := 13) sc__law_totals.nd rfl (by first | exact Or.inl rfl | exact Or.inr rfl) (pe_ix ix_list (pv 1) (pv 12) (fun _ _ => rfl)))
      (pss_cons (ps_if (PW.pt (pw_and (pt_cmpR op_gt (pv 10) pe_int (by first | exact nomark _ | rfl)) (pw_and1 (pt_cmpR op_ne (pe_ix ix_list (pv 1) (pe_op op_sub (pv 12) pe_int) (fun _ _ => rfl)) (pv 13) (by first | exact nomark _ | rfl))))) (pss_cons (ps_set (i := 7) sc__law_totals.nd rfl (by first | exact Or.inl rfl | exact Or.inr rfl) (pe_op op_add (pe_op op_add (pv 7) (pv 11)) (pe_callB call_len_str (by rfl) T.n_len (by decide +kernel) (pa_cons (pe_callTy call_str_int (by rfl) T.n_str (by decide +kernel) (pa_cons (pv 10) pa_nil)) pa_nil))))
      (pss_one (ps_set (i := 10) sc__law_totals.nd rfl (by first | exact Or.inl rfl | exact Or.inr rfl) pe_int))) pss_nil)
      (pss_cons (ps_set (i := 11) sc__law_totals.nd rfl (by first | exact Or.inl rfl | exact Or.inr rfl) (pe_ifExp (pt_cmpR op_isN (pv 13) pe_non (by first | exact nomark _ | rfl)) pe_int (pe_op op_add (pe_callB call_len_str (by rfl) T.n_len (by decide +kernel) (pa_cons (pv 13) pa_nil)) pe_int)))
      (pss_cons (ps_set (i := 10) sc__law_totals.nd rfl (by first | exact Or.inl rfl | exact Or.inr rfl) (pe_op op_add (pv 10) pe_int))
      (pss_cons (ps_set (i := 6) sc__law_totals.nd rfl (by first | exact Or.inl rfl | exact Or.inr rfl) (pe_op op_add (pv 6) (pv 11)))
      (pss_cons (ps_if (pt_cmpR op_notIn_seq (pv 13) (pv 5) (by first | exact nomark _ | rfl)) (pss_cons (ps_expr (pe_bm PySem.F.plainAttrs_list PySem.F.slot_list_append PySem.F.type_list_append mt_append (pv 5) (pa_cons (pv 13) pa_nil)))
      (pss_one (ps_set (i := 8) sc__law_totals.nd rfl (by first | exact Or.inl rfl | exact Or.inr rfl) (pe_op op_add (pv 8) (pv 11))))) pss_nil)
      (pss_cons (ps_set (i := 8) sc__law_totals.nd rfl (by first | exact Or.inl rfl | exact Or.inr rfl) (pe_op op_add (pv 8) (pe_callB call_len_str (by rfl) T.n_len (by decide +kernel) (pa_cons (pe_callTy call_str_int (by rfl) T.n_str (by decide +kernel) (pa_cons (pe_bm PySem.F.plainAttrs_list PySem.F.slot_list_index PySem.F.type_list_index mt_index (pv 5) (pa_cons (pv 13) pa_nil)) pa_nil)) pa_nil))))
      (pss_cons (ps_set (i := 14) sc__law_totals.nd rfl (by first | exact Or.inl rfl | exact Or.inr rfl) (pe_ifExp (PW.pt (pw_or (pt_cmpR op_eq (pv 12) (pv 2) (by first | exact nomark _ | rfl)) (pw_or1 (pt_cmpR op_isN (pv 13) pe_non (by first | exact nomark _ | rfl))))) pe_int (pe_cl c__law_alike hr (by omega) (pa_cons (pe_ix ix_list (pv 1) (pe_op op_sub (pv 12) pe_int) (fun _ _ => rfl)) (pa_cons (pv 13) pa_nil)))))
      (pss_cons (ps_set (i := 9) sc__law_totals.nd rfl (by first | exact Or.inl rfl | exact Or.inr rfl) (pe_op op_add (pv 9) (pe_ifExp (pt_cmpR op_isN (pv 13) pe_non (by first | exact nomark _ | rfl)) pe_int (pe_op op_add (pe_op op_sub (pv 11) (pv 14)) (pe_callB call_len_str (by rfl) T.n_len (by decide +kernel) (pa_cons (pe_callTy call_str_int (by rfl) T.n_str (by decide +kernel) (pa_cons (pv 14) pa_nil)) pa_nil))))))
      (pss_cons (ps_set (i := 15) sc__law_totals.nd rfl (by first | exact Or.inl rfl | exact Or.inr rfl) (pe_callB (cr_min rfl) (by rfl) T.n_min (by decide +kernel) (pa_cons (pe_lst (pa_cons (pe_callTy call_int1 (by rfl) T.n_int (by decide +kernel) (pa_cons (pv 6) pa_nil)) (pa_cons (pe_callTy call_int1 (by rfl) T.n_int (by decide +kernel) (pa_cons (pe_op op_add (pe_op op_add (pv 7) (pv 11)) (pe_callB call_len_str (by rfl) T.n_len (by decide +kernel) (pa_cons (pe_callTy call_str_int (by rfl) T.n_str (by decide +kernel) (pa_cons (pv 10) pa_nil)) pa_nil))) pa_nil)) (pa_cons (pe_callTy call_int1 (by rfl) T.n_int (by decide +kernel) (pa_cons (pv 8) pa_nil)) (pa_cons (pe_callTy call_int1 (by rfl) T.n_int (by decide +kernel) (pa_cons (pv 9) pa_nil)) pa_nil))))) pa_nil)))
      (pss_one (ps_expr (pe_bm PySem.F.plainAttrs_list PySem.F.slot_list_append PySem.F.type_list_append mt_append (pv 4) (pa_cons (pe_op op_add (pv 15) (pe_callB call_len_str (by rfl) T.n_len (by decide +kernel) (pa_cons (pe_cl c__law_noted hr (by omega) (pa_cons (pv 0) (pa_cons (pe_slice sl_list (pv 1) (po_some (pv 2)) (po_some (pe_op op_add (pv 12) pe_int))) pa_nil))) pa_nil))) pa_nil)))))))))))))))
      (pss_one (ps_ret (pv 4)))))), ?_⟩
    have nn : ∀ {x : Addr}, x ∉ ([] : List Addr) := fun m => nomatch m
    have few := ok.2
    refine ⟨Nat.zero_le _, fun tl ntl => ⟨Nat.zero_le _, fun pl npl => ?_⟩⟩
    have S1 : Stp [] H (upd H tl (.lst [])) := Stp.new ntl _
    have htl1 : (upd H tl (.lst [])) tl = some (.lst []) := upd_same
    generalize upd H tl (.lst []) = H1 at *
    have nplH : H pl = none := S1.fresh nn npl
    have tp : tl ≠ pl := ne_of_none htl1 npl
    have S2 : Stp [] H1 (upd H1 pl (.lst [])) := Stp.new npl _
    have hpl2 : (upd H1 pl (.lst [])) pl = some (.lst []) := upd_same
    have htl2 := S2.kp _ _ nn htl1
    generalize upd H1 pl (.lst []) = H2 at *
    refine ⟨_, _, rfl, ?_⟩
    refine ⟨(by show 6 ≤ sizeLine; decide), fun t0 nt0 => ?_⟩
    have S3 : Stp [] H2 (upd H2 t0 (.tup [.int 0, .int 0, .int 0, .int 0, .int 0, .int 0])) := Stp.new nt0 _
    have ht0 : (upd H2 t0 (.tup [.int 0, .int 0, .int 0, .int 0, .int 0, .int 0])) t0 = some (.tup [.int 0, .int 0, .int 0, .int 0, .int 0, .int 0]) := upd_same
    have hpl3 := S3.kp _ _ nn hpl2
    have htl3 := S3.kp _ _ nn htl2
    have S03 := (S1.trans S2).trans S3
    generalize upd H2 t0 (.tup [.int 0, .int 0, .int 0, .int 0, .int 0, .int 0]) = H3 at *
    refine ⟨t0, _, rfl, SqT.of ht0, rfl, _, _, rfl, _, _, rfl, _, _, rfl, _, _, rfl, _, _, rfl, _, _, rfl, rfl, ?_⟩
    have hpt3 := S03.kp _ _ nn hpt
    dsimp only [gName]
    refine ⟨_, rfl, _, rfl, pt, _, rfl, .inl (SqL.of hpt3), _, rfl, _, rfl, _, _, rfl, rfl, _, _, rfl, _, _, rfl, ?_⟩
    rw [List.length_map]
    have ecnt : ((if (st : Int) + (up : Int) < ((os.length : Nat) : Int) then (st : Int) + (up : Int) else ((os.length : Nat) : Int)) - (st : Int)).toNat = min (os.length - st) up := by split <;> omega
    refine ⟨⟨by omega, by omega, by split <;> omega, by split <;> omega⟩, ?_⟩
    rw [ecnt]
    have cnt60 : min (os.length - st) up ≤ os.length - st := Nat.min_le_left _ _
    generalize min (os.length - st) up = cnt at *
    refine for_range (lo := (st : Int)) (n := cnt) (fun j σ H' => ∃ (runs size worth : Nat) (x12 x13 x14 x15 : Option V), σ = [some v, some (.ref pt), some (.int (st : Int)), some (.int (up : Int)), some (.ref tl), some (.ref pl), some (.int (plainS ((os.drop st).take j) : Int)), some (.int (runs : Int)), some (.int (tableS ((os.drop st).take j) : Int)), some (.int (sharedS ((os.drop st).take j) : Int)), some (.int (size : Int)), some (.int (worth : Int)), x12, x13, x14, x15] ∧
        Opn ((os.drop st).take j) runs size worth ∧ H' tl = some (.lst (totL r os st j)) ∧ H' pl = some (.lst ((unl ((os.drop st).take j)).map vV)) ∧ Stp [] H H')
      ⟨0, 0, 0, _, _, _, _, rfl, .inl ⟨rfl, rfl, rfl⟩, htl3, hpl3, S03⟩ ?_ ?_
    · rintro j σ H4 hj ⟨runs, size, worth, x12, x13, x14, x15, rfl, opn, htl4, hpl4, S4⟩
      have hpt4 := S4.kp _ _ nn hpt
      obtain ⟨o, eo⟩ : ∃ o, os[st + j]? = some o := ⟨_, List.getElem?_eq_getElem (by omega)⟩
      have eo2 : (os.drop st)[j]? = some o := by rw [List.getElem?_drop]; exact eo
      have epg : (os.drop st).take (j + 1) = (os.drop st).take j ++ [o] := by
        rw [List.take_add_one, eo2]
        rfl
      have lpg : ((os.drop st).take j).length = j := by rw [List.length_take, List.length_drop]; omega
      have okp : Pgs ((os.drop st).take j) := (ok.dr st).tk j
      have okp1 : Pgs ((os.drop st).take (j + 1)) := (ok.dr st).tk (j + 1)
      have bo := ok.short (List.mem_of_getElem? eo)
      have abo : ∀ l, o = some l → l.length ≤ 60 := fun l e => by subst e; exact (ok.1 l (List.mem_of_getElem? eo)).2
      have hx : (os.map vV)[st + j]? = some (vV o) := by rw [List.getElem?_map, eo]; rfl
      have ek : (st : Int) + ((j : Nat) : Int) = ((st + j : Nat) : Int) := by omega
      rw [ek]
      -- the value ahead
      obtain ⟨a, ea, la⟩ : ∃ a : OT, (0 < j → os[st + j - 1]? = some a) ∧ ((none : OT) :: (os.drop st).take j).getLast (List.cons_ne_nil _ _) = a := by
        cases j with
        | zero => exact ⟨none, fun h => absurd h (Nat.lt_irrefl _), rfl⟩
        | succ i =>
          obtain ⟨x, ex⟩ : ∃ x, os[st + i]? = some x := ⟨_, List.getElem?_eq_getElem (by omega)⟩
          refine ⟨x, fun _ => ex, ?_⟩
          have e2 : (os.drop st)[i]? = some x := by rw [List.getElem?_drop]; exact ex
          have e3 : (os.drop st).take (i + 1) = (os.drop st).take i ++ [x] := by rw [List.take_add_one, e2]; rfl
          simp only [e3]
          rw [List.getLast_cons (by simp)]
          simp
      have aok : ∀ l, a = some l → l.length ≤ 60 := fun l e => by
        subst e
        rcases Nat.eq_zero_or_pos j with z | z
        · subst z; cases la
        · exact (ok.1 l (List.mem_of_getElem? (ea z))).2
      rw [epg] at okp1
      generalize hpg : (os.drop st).take j = pg at *
      refine ⟨_, rfl, _, rfl, pt, _, ((st + j : Nat) : Int), vV o, rfl, rfl, SqL.of hpt4, atI_nat hx, ?_⟩
      dsimp only [gName]
      refine seq_end (fun σ' H' => ∃ (runs' size' : Nat) (si : List (OT × Nat)), σ' = [some v, some (.ref pt), some (.int (st : Int)), some (.int (up : Int)), some (.ref tl), some (.ref pl), some (.int (plainS pg : Int)), some (.int (runs' : Int)), some (.int (tableS pg : Int)), some (.int (sharedS pg : Int)), some (.int (size' : Int)), some (.int (worth : Int)), some (.int ((st + j : Nat) : Int)), some (vV o), x14, x15] ∧ H' = H4 ∧ runs' = rS si ∧ strS (pg ++ [o]) = si ++ [(o, size' + 1)]) ?_ (fun fin => ?_)
      rotate_left
      · rcases opn with ⟨e0, e1, e2⟩ | ⟨pi, x, si, e0, e1, e2, e3⟩
        · subst e1
          subst e2
          refine ⟨_, rfl, _, _, rfl, rfl, _, rfl, ite2 (fun h => absurd h (by decide)) (fun _ => ?_)⟩
          exact fin _ _ ⟨0, 0, [], rfl, rfl, rfl, by rw [e0]; rfl⟩
        · have pos := (strS_len pg.length pg rfl).2 (x, size) (by rw [e1]; simp)
          have jp : 0 < j := by rw [← lpg, e0, List.length_append, List.length_singleton]; omega
          have ax : a = x := by
            rw [← la, e0, List.getLast_cons (by simp)]
            simp
          subst ax
          have ex := ea jp
          have hxa : (os.map vV)[st + j - 1]? = some (vV a) := by rw [List.getElem?_map, ex]; rfl
          have ek1 : ((st + j : Nat) : Int) - 1 = ((st + j - 1 : Nat) : Int) := by omega
          refine ⟨_, rfl, _, _, rfl, rfl, _, rfl, ite2 (fun _ => ?_) (fun h => absurd (decide_eq_true (by omega)) h)⟩
          refine ⟨_, rfl, _, rfl, _, _, rfl, rfl, ?_⟩
          refine ⟨pt, _, ((st + j : Nat) : Int) - 1, vV a, rfl, rfl, SqL.of hpt4, by rw [ek1]; exact atI_nat hxa, _, rfl, scal_v a o, _, rfl, ?_⟩
          refine ite2 (fun h => ?_) (fun h => ?_)
          · have ne : a ≠ o := fun e => by rw [e] at h; exact nes h
            refine ⟨_, rfl, _, rfl, _, _, rfl, rfl, _, rfl, (size : Int), rfl, log2_ok (by omega), Str.ofString (toString (size : Int)), rfl, sz (by have := dg_le (i := (size : Int)) (by omega); unfold dg at this; omega), _, _, rfl, rfl, ?_⟩
            refine fin _ _ ⟨runs + worth + dg (size : Int), 0, si ++ [(a, size)], ?_, rfl, ?_, ?_⟩
            · rw [Int.natCast_add, Int.natCast_add]; rfl
            · rw [rS_snoc, e2, e3, Nat.add_assoc]
            · rw [strS_snoc, e1, addS_other ne]
          · have eq : a = o := Classical.byContradiction fun n => h (by simp [vV_inj, n])
            subst eq
            exact fin _ _ ⟨runs, size, si, rfl, rfl, e2, by rw [strS_snoc, e1, addS_same]⟩
      rintro σ' H' ⟨runs', size', si, rfl, hH', er', es'⟩
      subst hH'
      clear opn runs size
      have b1 := (strS_len (pg ++ [o]).length (pg ++ [o]) rfl).2 (o, size' + 1) (by rw [es']; simp)
      have sz60 : size' + 1 ≤ 60 := by have := b1.2.2; rw [List.length_append, List.length_singleton, lpg] at this; omega
      -- worth
      refine seq_end (fun σ2 H2 => σ2 = [some v, some (.ref pt), some (.int (st : Int)), some (.int (up : Int)), some (.ref tl), some (.ref pl), some (.int (plainS pg : Int)), some (.int (runs' : Int)), some (.int (tableS pg : Int)), some (.int (sharedS pg : Int)), some (.int (size' : Int)), some (.int (vsg o : Int)), some (.int ((st + j : Nat) : Int)), some (vV o), x14, x15] ∧ H2 = H') ?_ (fun fin => ?_)
      rotate_left
      · cases o with
        | none => exact ⟨_, rfl, rfl, _, rfl, ite2 (fun _ => fin _ _ ⟨rfl, rfl⟩) (fun h => absurd rfl h)⟩
        | some l =>
          have := abo l rfl
          refine ⟨_, rfl, rfl, _, rfl, ite2 (fun h => absurd h (by simp [vV])) (fun _ => ?_)⟩
          refine ⟨_, rfl, tx l, rfl, szt (by omega), _, _, rfl, rfl, ?_⟩
          rw [tx_len]
          exact fin _ _ ⟨rfl, rfl⟩
      rintro σ' H'' ⟨rfl, hH⟩
      subst hH
      refine ⟨_, rfl, _, _, rfl, rfl, _, rfl, _, rfl, _, _, rfl, rfl, ?_⟩
      have epl : (plainS pg : Int) + (vsg o : Int) = ((plainS (pg ++ [o]) : Nat) : Int) := by rw [plain_app]; show _ = ((plainS pg + (vsg o + 0) : Nat) : Int); omega
      dsimp only [gName]
      rw [epl]
      have uf := unl_facts pg.length pg rfl
      have ul := uf.1
      -- the places
      refine seq_end (fun σ2 H2 => σ2 = [some v, some (.ref pt), some (.int (st : Int)), some (.int (up : Int)), some (.ref tl), some (.ref pl), some (.int (plainS (pg ++ [o]) : Int)), some (.int (runs' : Int)), some (.int ((tableS pg + (if o ∈ unl pg then 0 else vsg o) : Nat) : Int)), some (.int (sharedS pg : Int)), some (.int ((size' : Int) + 1)), some (.int (vsg o : Int)), some (.int ((st + j : Nat) : Int)), some (vV o), x14, x15] ∧ H2 tl = some (.lst (totL r os st j)) ∧ H2 pl = some (.lst ((unl (pg ++ [o])).map vV)) ∧ Stp [] H H2) ?_ (fun fin => ?_)
      rotate_left
      · refine ⟨_, rfl, _, rfl, pl, _, rfl, .inl (SqL.of hpl4), flat_v o, flat_all _, ?_⟩
        rw [inV_v]
        refine ⟨_, rfl, ite2 (fun h => ?_) (fun h => ?_)⟩
        · have nm : o ∉ unl pg := fun m => by
            rw [decide_eq_true m] at h
            exact Bool.noConfusion (show false = true from h)
          refine ⟨_, rfl, .inl ⟨rfl, _, SqL.of hpl4⟩, _, rfl, pl, _, _, rfl, rfl, hpl4, ?_, _, rfl, _, rfl, _, _, rfl, rfl, ?_⟩
          · rw [List.length_map]
            exact Nat.lt_of_le_of_lt (show _ ≤ 100 by omega) (by decide)
          refine fin _ _ ⟨?_, by rw [upd_ne tp]; exact htl4, ?_, S4.mut nplH⟩
          · rw [if_neg nm]
            rfl
          · rw [upd_same, unl_snoc]
            unfold unl1
            rw [if_neg nm, List.map_append]
            rfl
        · have m : o ∈ unl pg := Classical.byContradiction fun nm => h (by rw [decide_eq_false nm]; rfl)
          refine fin _ _ ⟨?_, htl4, ?_, S4⟩
          · rw [if_pos m, Nat.add_zero]
            rfl
          · rw [unl_snoc]
            unfold unl1
            rw [if_pos m]
            exact hpl4
      rintro σ' H5 ⟨rfl, htl5, hpl5, S5⟩
      have uf1 := unl_facts (pg ++ [o]).length (pg ++ [o]) rfl
      have mo1 : o ∈ unl (pg ++ [o]) := (uf1.2 o).mpr (by simp)
      have il := List.idxOf_lt_length_of_mem mo1
      have ul1 := uf1.1
      rw [List.length_append, List.length_singleton, lpg] at ul1
      have ig : (unl (pg ++ [o]))[(unl (pg ++ [o])).idxOf o]? = some o := by rw [List.getElem?_eq_getElem il, List.getElem_idxOf il]
      refine ⟨_, rfl, _, rfl, .inl ⟨rfl, _, SqL.of hpl5⟩, _, rfl, pl, _, vV o, (unl (pg ++ [o])).idxOf o, vV o, rfl, rfl, SqL.of hpl5, flat_v o, flat_all _, by rw [List.getElem?_map, ig]; rfl, by rw [eqV_v, decide_eq_true rfl], idx_first o _, ?_⟩
      refine ⟨(((unl (pg ++ [o])).idxOf o : Nat) : Int), rfl, log2_ok (by omega), Str.ofString (toString (((unl (pg ++ [o])).idxOf o : Nat) : Int)), rfl, sz (by have := dg_le (i := (((unl (pg ++ [o])).idxOf o : Nat) : Int)) (by omega); unfold dg at this; omega), _, _, rfl, rfl, ?_⟩
      have eta : ((tableS pg + (if o ∈ unl pg then 0 else vsg o) : Nat) : Int) + (((Str.ofString (toString (((unl (pg ++ [o])).idxOf o : Nat) : Int))).length : Nat) : Int) = ((tableS (pg ++ [o]) : Nat) : Int) := by
        rw [table_snoc, Int.natCast_add (_ + _)]
        rfl
      dsimp only [gName]
      rw [eta]
      have hpt5 := S5.kp _ _ nn hpt
      clear hpl4 htl4 S4
      -- the letters shared
      refine seq_end (fun σ2 H2 => ∃ m : Nat, σ2 = [some v, some (.ref pt), some (.int (st : Int)), some (.int (up : Int)), some (.ref tl), some (.ref pl), some (.int (plainS (pg ++ [o]) : Int)), some (.int (runs' : Int)), some (.int (tableS (pg ++ [o]) : Int)), some (.int (sharedS pg : Int)), some (.int ((size' : Int) + 1)), some (.int (vsg o : Int)), some (.int ((st + j : Nat) : Int)), some (vV o), some (.int (m : Int)), x15] ∧ H2 = H5 ∧ m ≤ 60 ∧ ∀ l, o = some l → m = lc0 a l) ?_ (fun fin => ?_)
      rotate_left
      · refine ⟨_, rfl, _, rfl, rfl, _, rfl, ite2 (fun h => ?_) (fun h => ?_)⟩
        · have ej : j = 0 := by
            have := V.int.inj (of_decide_eq_true h)
            omega
          have an : a = none := by
            rw [← la]
            have : pg = [] := List.length_eq_zero_iff.mp (by omega)
            subst this
            rfl
          exact fin _ _ ⟨0, rfl, rfl, Nat.zero_le _, fun l _ => by rw [an]; rfl⟩
        · have jp : 0 < j := Nat.pos_of_ne_zero fun e => h (decide_eq_true (by rw [e]; rfl))
          cases o with
          | none => exact ⟨_, rfl, rfl, _, rfl, ite2 (fun _ => fin _ _ ⟨0, rfl, rfl, Nat.zero_le _, fun l e => (nomatch e)⟩) (fun h => absurd rfl h)⟩
          | some l =>
            have ex := ea jp
            have hxa : (os.map vV)[st + j - 1]? = some (vV a) := by rw [List.getElem?_map, ex]; rfl
            have ek1 : ((st + j : Nat) : Int) - 1 = ((st + j - 1 : Nat) : Int) := by omega
            have m60 : lc0 a l ≤ 60 := by
              cases a with
              | none => exact Nat.zero_le _
              | some k => have := lcp_le k l; have := aok k rfl; show lcp k l ≤ 60; omega
            refine ⟨_, rfl, rfl, _, rfl, ite2 (fun h => absurd h (by simp [vV])) (fun _ => ?_)⟩
            exact ⟨_, rfl, _, rfl, _, _, rfl, rfl, pt, _, ((st + j : Nat) : Int) - 1, vV a, rfl, rfl, SqL.of hpt5, by rw [ek1]; exact atI_nat hxa, _, rfl, a, l, rfl, aok, abo l rfl, fin _ _ ⟨lc0 a l, rfl, rfl, m60, fun l' e => by cases e; rfl⟩⟩
      rintro σ' H5' ⟨m, rfl, hH5, m60, em⟩
      subst hH5
      have edm : (Str.ofString (toString (m : Int))).length = dg (m : Int) := rfl
      have dm : dg (m : Int) ≤ 11 := dg_le (by omega)
      have esh : sharedS (pg ++ [o]) = sharedS pg + sgb a o := by rw [shared_snoc, la]
      -- the signs by shared
      refine seq_end (fun σ2 H2 => σ2 = [some v, some (.ref pt), some (.int (st : Int)), some (.int (up : Int)), some (.ref tl), some (.ref pl), some (.int (plainS (pg ++ [o]) : Int)), some (.int (runs' : Int)), some (.int (tableS (pg ++ [o]) : Int)), some (.int (sharedS (pg ++ [o]) : Int)), some (.int ((size' : Int) + 1)), some (.int (vsg o : Int)), some (.int ((st + j : Nat) : Int)), some (vV o), some (.int (m : Int)), x15] ∧ H2 = H5') ?_ (fun fin => ?_)
      rotate_left
      · cases o with
        | none =>
          refine ⟨_, rfl, _, rfl, rfl, _, rfl, ite2 (fun _ => ?_) (fun h => absurd rfl h)⟩
          refine ⟨_, _, rfl, rfl, fin _ _ ⟨?_, rfl⟩⟩
          rw [esh]
          rfl
        | some l =>
          have hl := abo l rfl
          have ml : m ≤ l.length := by
            rw [em l rfl]
            cases a with
            | none => exact Nat.zero_le _
            | some k => exact (lcp_le k l).2
          refine ⟨_, rfl, _, rfl, rfl, _, rfl, ite2 (fun h => absurd h (by simp [vV])) (fun _ => ?_)⟩
          refine ⟨_, rfl, _, rfl, _, _, rfl, rfl, _, rfl, (m : Int), rfl, log2_ok (by omega), _, rfl, sz (by rw [edm]; omega), _, _, rfl, rfl, _, _, rfl, rfl, ?_⟩
          refine fin _ _ ⟨?_, rfl⟩
          have e5 : (sharedS pg : Int) + ((vsg (some l) : Int) - (m : Int) + ((Str.ofString (toString (m : Int))).length : Int)) = ((sharedS (pg ++ [some l]) : Nat) : Int) := by
            rw [esh, sgb_some, ← em l rfl, edm]
            show (sharedS pg : Int) + (((l.length + 1 : Nat) : Int) - (m : Int) + (dg (m : Int) : Int)) = ((sharedS pg + (dg (m : Int) + ((l.drop m).length + 1)) : Nat) : Int)
            rw [List.length_drop]
            omega
          rw [← e5]
          rfl
      rintro σ' H5'' ⟨rfl, hH6⟩
      subst hH6
      have vo := vsg_le okp1 (show o ∈ pg ++ [o] by simp)
      have eds : (Str.ofString (toString ((size' : Int) + 1))).length = dg ((size' + 1 : Nat) : Int) := rfl
      have dsz : dg ((size' + 1 : Nat) : Int) ≤ 11 := dg_le (by omega)
      have erun : (runs' : Int) + (vsg o : Int) + ((Str.ofString (toString ((size' : Int) + 1))).length : Int) = ((cdF 1 (pg ++ [o]) : Nat) : Int) := by
        show _ = ((runsS (pg ++ [o]) : Nat) : Int)
        rw [eds, runsS_eq, es', rS_snoc, er']
        omega
      refine ⟨_, rfl, .inl ⟨_, rfl, _, rfl, _, rfl, _, _, rfl, rfl, _, rfl, _, rfl, log2_ok (by omega), _, rfl, sz (by rw [eds]; omega), _, _, rfl, rfl, .inl ⟨_, rfl, _, rfl, .inl ⟨_, rfl, _, rfl, .inl ⟨_, rfl, (by show 4 ≤ sizeLine; decide), fun q6 nq6 => ?_⟩⟩⟩⟩⟩
      rw [erun]
      have S6 : Stp [] H5'' (upd H5'' q6 (.lst [.int ((plainS (pg ++ [o]) : Nat) : Int), .int ((cdF 1 (pg ++ [o]) : Nat) : Int), .int ((tableS (pg ++ [o]) : Nat) : Int), .int ((sharedS (pg ++ [o]) : Nat) : Int)])) := Stp.new nq6 _
      have hq6 : (upd H5'' q6 (.lst [.int ((plainS (pg ++ [o]) : Nat) : Int), .int ((cdF 1 (pg ++ [o]) : Nat) : Int), .int ((tableS (pg ++ [o]) : Nat) : Int), .int ((sharedS (pg ++ [o]) : Nat) : Int)])) q6 = some (.lst [.int ((plainS (pg ++ [o]) : Nat) : Int), .int ((cdF 1 (pg ++ [o]) : Nat) : Int), .int ((tableS (pg ++ [o]) : Nat) : Int), .int ((sharedS (pg ++ [o]) : Nat) : Int)]) := upd_same
      generalize upd H5'' q6 (.lst [.int ((plainS (pg ++ [o]) : Nat) : Int), .int ((cdF 1 (pg ++ [o]) : Nat) : Int), .int ((tableS (pg ++ [o]) : Nat) : Int), .int ((sharedS (pg ++ [o]) : Nat) : Int)]) = H6 at *
      refine ⟨q6, [(cdF 0 (pg ++ [o]) : Int), (cdF 1 (pg ++ [o]) : Int), (cdF 2 (pg ++ [o]) : Int), (cdF 3 (pg ++ [o]) : Int)], rfl, SqL.of hq6, by simp, fun mn mm hm => ?_⟩
      rw [bs_min _ mm hm]
      have S06 := S5.trans S6
      have htl6 := S6.kp _ _ nn htl5
      have hpl6 := S6.kp _ _ nn hpl5
      have hpt6 := S06.kp _ _ nn hpt
      refine ⟨_, rfl, .inl ⟨rfl, _, SqL.of htl6⟩, _, rfl, _, rfl, _, rfl, _, rfl, (st : Int), rfl, _, rfl, _, _, rfl, rfl, _, rfl, pt, _, rfl, SqL.of hpt6, fun q7 nq7 => ?_⟩
      have ec7 : ((st + j : Nat) : Int) + 1 = (st : Int) + ((j + 1 : Nat) : Int) := by omega
      rw [ec7, show cutV (os.map vV) (some (st : Int)) (some ((st : Int) + ((j + 1 : Nat) : Int))) = _ from cut_mid os vV st (j + 1) (by omega), epg]
      have S7 : Stp [] H6 (upd H6 q7 (.lst ((pg ++ [o]).map vV))) := Stp.new nq7 _
      have hq7 : (upd H6 q7 (.lst ((pg ++ [o]).map vV))) q7 = some (.lst ((pg ++ [o]).map vV)) := upd_same
      generalize upd H6 q7 (.lst ((pg ++ [o]).map vV)) = H7 at *
      have fewp := okp1.2
      have nl := nsg_le (r := r) okp1.col
      refine ⟨v, q7, r, pg ++ [o], rfl, rv.up (S06.trans S7), okr, hq7, okp1.col, by omega, fun z H8 ez S8 => ?_⟩
      have S68 := S7.trans S8
      have htl8 := S68.kp _ _ nn htl6
      refine ⟨z, rfl, sz (by omega), _, _, rfl, rfl, tl, _, _, rfl, rfl, htl8, ?_, ?_⟩
      · unfold totL
        rw [List.length_map, List.length_range]
        exact Nat.lt_of_le_of_lt (show j ≤ 100 by omega) (by decide)
      have eco : (bsF (pg ++ [o]) : Int) + ((z.length : Nat) : Int) = (cost r (pg ++ [o]) : Int) := by rw [ez]; unfold cost; omega
      dsimp only
      rw [eco]
      refine ⟨runs', size' + 1, vsg o, _, _, _, _, rfl, ?_, ?_, ?_, (S06.trans S68).mut ntl⟩
      · exact .inr ⟨pg, o, si, rfl, es', er', rfl⟩
      · rw [upd_same]
        unfold totL
        rw [List.range_succ, List.map_append, List.map_singleton, epg]
      · rw [upd_ne tp.symm]
        exact S68.kp _ _ nn hpl6
    · rintro σ H4 ⟨runs, size, worth, x12, x13, x14, x15, rfl, opn, htl4, hpl4, S4⟩
      exact ⟨_, rfl, k tl H4 ntl S4 htl4⟩
abbrev s__law_due : Stmt := topS 67
abbrev N__law_due : List Str := ["kind", "things", "upto", "best", "sizes", "start", "totals", "least", "size", "k", "total"]
theorem sc__law_due : FnScope ["kind", "things", "upto", "best", "sizes", "start", "totals", "least", "size", "k", "total"] ["kind", "things", "upto"] (defScope s__law_due) := ⟨rfl, rfl, rfl, by decide +kernel, rfl, by decide +kernel, by decide +kernel⟩

/-! ### the cheapest pages by the law -/
def fP (r : Ru) (vs : List OT) (ps : List Pl) (k : Nat) : Nat := cost r (vs.take (k + 1)) + (ps.getD k one0).1
theorem pFr_first (r : Ru) (vs : List OT) {ps : List Pl} : ∀ (i : Nat), i + 1 ≤ ps.length → ∃ j, j ≤ i ∧ pFr r vs ps (i + 1) = some (fP r vs ps j, (j + 1) :: (ps.getD j one0).2) ∧ (∀ k, k ≤ i → fP r vs ps j ≤ fP r vs ps k) ∧ (∀ k, k < j → fP r vs ps j < fP r vs ps k)
  | 0, h => by
    have e : ps[0]? = some ps[0] := List.getElem?_eq_getElem (by omega)
    have g : ps.getD 0 one0 = ps[0] := by rw [List.getD_eq_getElem?_getD, e]; rfl
    refine ⟨0, Nat.le_refl _, ?_, fun k hk => by rw [Nat.le_zero.mp hk]; exact Nat.le_refl _, fun k hk => absurd hk (Nat.not_lt_zero _)⟩
    show (match ps[0]? with | none => pFr r vs ps 0 | some p => pUp r vs (pFr r vs ps 0) (0 + 1) p) = _
    rw [e]
    unfold fP
    rw [g]
    rfl
  | i + 1, h => by
    obtain ⟨j, hj, e1, a, b⟩ := pFr_first r vs (ps := ps) i (by omega)
    have e : ps[i + 1]? = some ps[i + 1] := List.getElem?_eq_getElem (by omega)
    have g : ps.getD (i + 1) one0 = ps[i + 1] := by rw [List.getD_eq_getElem?_getD, e]; rfl
    have ef : pFr r vs ps (i + 1 + 1) = if cost r (vs.take (i + 1 + 1)) + ps[i + 1].1 < fP r vs ps j then some (cost r (vs.take (i + 1 + 1)) + ps[i + 1].1, (i + 1 + 1) :: ps[i + 1].2) else some (fP r vs ps j, (j + 1) :: (ps.getD j one0).2) := by
      show (match ps[i + 1]? with | none => pFr r vs ps (i + 1) | some p => pUp r vs (pFr r vs ps (i + 1)) (i + 1 + 1) p) = _
      rw [e, e1]
      rfl
    have ev : fP r vs ps (i + 1) = cost r (vs.take (i + 1 + 1)) + ps[i + 1].1 := by unfold fP; rw [g]
    rw [ef, ← ev]
    by_cases c : fP r vs ps (i + 1) < fP r vs ps j
    · rw [if_pos c]
      refine ⟨i + 1, Nat.le_refl _, by rw [g], fun k hk => ?_, fun k hk => ?_⟩
      · rcases Nat.lt_or_ge i k with q | q
        · rw [show k = i + 1 by omega]; exact Nat.le_refl _
        · have := a k q; omega
      · have := a k (by omega); omega
    · rw [if_neg c]
      refine ⟨j, by omega, rfl, fun k hk => ?_, b⟩
      rcases Nat.lt_or_ge i k with q | q
      · rw [show k = i + 1 by omega]; omega
      · exact a k q
/-- the lists of lengths in the store -/
def SzE (K : PySem.W.Frag) (b s : Addr) (H : Hp) (v : V) (p : Pl) : Prop := ∃ l, v = .ref l ∧ H l = some (.lst (p.2.map fun n : Nat => V.int (n : Int))) ∧ l ≠ b ∧ l ≠ s
def SzR (K : PySem.W.Frag) (b s : Addr) (H : Hp) (vs : List V) (ps : List Pl) : Prop := Paired (SzE K b s H) vs ps
theorem SzR.up {K : PySem.W.Frag} {b s : Addr} {H H' : Hp} {vs : List V} {ps : List Pl} (h : SzR K b s H vs ps) (st : Stp [b, s] H H') : SzR K b s H' vs ps := by
  induction h with
  | nil => exact .nil
  | cons r _ ih =>
    obtain ⟨l, e, hl, n1, n2⟩ := r
    exact .cons ⟨l, e, st.kp _ _ (by simp [n1, n2]) hl, n1, n2⟩ ih
theorem SzR.len {K : PySem.W.Frag} {b s : Addr} {H : Hp} {vs : List V} {ps : List Pl} (h : SzR K b s H vs ps) : vs.length = ps.length := by
  induction h with
  | nil => rfl
  | cons _ _ ih => simp [ih]
theorem SzR.at {K : PySem.W.Frag} {b s : Addr} {H : Hp} {vs : List V} {ps : List Pl} (h : SzR K b s H vs ps) : ∀ {i : Nat} {p : Pl}, ps[i]? = some p → ∃ v, vs[i]? = some v ∧ SzE K b s H v p := by
  induction h with
  | nil => exact fun e => nomatch e
  | cons r _ ih =>
    intro i p e
    cases i with
    | zero => cases e; exact ⟨_, rfl, r⟩
    | succ i => exact ih e
theorem SzR.snoc {K : PySem.W.Frag} {b s : Addr} {H : Hp} {vs : List V} {ps : List Pl} {v : V} {p : Pl} (h : SzR K b s H vs ps) (e : SzE K b s H v p) : SzR K b s H (vs ++ [v]) (ps ++ [p]) := by
  induction h with
  | nil => exact .cons e .nil
  | cons r _ ih => exact .cons r ih
theorem rev_at {α : Type} {ps : List α} {k : Nat} (h : k < ps.length) : ps.reverse[ps.length - 1 - k]? = ps[k]? := by
  rw [List.getElem?_reverse (by omega)]
  congr 1
  omega
theorem call_lenK {X : Cx} {K : PySem.W.Frag} (hK : X.K = K) : CallR X (.builtin "len") fun xs H Q => ∃ p ys, xs = [V.ref p] ∧ (SqL K H p ys ∨ SqT K H p ys) ∧ Q (.int ys.length) H := by
  subst hK
  exact call_len_seq
theorem rgc_down {n : Nat} (h : n ≤ 1000) : RgC ((n : Int) - 1) (-1) (-1) n := by
  have e : Builtin.Range.rangeSize ((n : Int) - 1) (-1) (-1) = (n : Int) := by
    unfold Builtin.Range.rangeSize
    rw [if_neg (by decide)]
    split <;> (try simp only [Int.neg_neg, Int.ediv_one]) <;> omega
  refine ⟨by decide, by decide, ?_, e⟩
  unfold Builtin.Range.small
  rw [e]
  simp only [Builtin.Range.rangeFitsLong, Bool.and_eq_true, Bool.or_eq_true, decide_eq_true_eq, beq_iff_eq]
  simp
  omega
def spDue (K : PySem.W.Frag) : Sp := fun vs H Q _ => ∃ (v : V) (pt : Addr) (r : Ru) (os : List OT) (up : Nat), vs = [v, .ref pt, .int (up : Int)] ∧ Rv K [] H v (ruD r) ∧ RuOk r ∧ H pt = some (.lst (os.map vV)) ∧ Pgs os ∧ 1 ≤ up ∧ up ≤ 1000 ∧
  ∀ H' u, Stp [] H H' → PlE K (fun _ => True) H' u (che r up os) → Q u H'
theorem cl__law_due {f : Addr} {fd : FuncData} (D : Df K mg "_law_due" s__law_due ["kind", "things", "upto"] f fd) (T : Nm mg) (c__law_totals : Cl P w K mg base 3 "_law_totals" s__law_totals ["kind", "things", "start", "upto"] (spTot K)) : Cl P w K mg base 4 "_law_due" s__law_due ["kind", "things", "upto"] (spDue K) := by
  refine D.cl sc__law_due (fun vs H Q E h => ?_) (fun cdv A outer s H vs Q E hr h => ?_)
  · obtain ⟨v, pt, r, os, up, rfl, _⟩ := h
    rfl
  · obtain ⟨v, pt, r, os, up, rfl, rv, okr, hpt, ok, u1, u2, k⟩ := h
    refine ⟨_, (pss_cons (ps_asg (pe_tup (pa_cons (pe_lst (pa_cons pe_int pa_nil)) (pa_cons (pe_lst (pa_cons (pe_lst pa_nil) pa_nil)) pa_nil))) (pg_tup rfl (pgs_cons (pg_name (i := 3) sc__law_due.nd rfl (by first | exact Or.inl rfl | exact Or.inr rfl)) (pgs_cons (pg_name (i := 4) sc__law_due.nd rfl (by first | exact Or.inl rfl | exact Or.inr rfl)) pgs_nil (by rfl)) (by rfl)) (by rfl) (by rfl)))
      (pss_cons (ps_for PassesOwn.never rfl (pi_range3 (by rfl) T.n_range (pa_cons (pe_op op_sub (pe_callB call_len_seq (by rfl) T.n_len (by decide +kernel) (pa_cons (pv 1) pa_nil)) pe_int) (pa_cons (pe_un un_neg pe_int) (pa_cons (pe_un un_neg pe_int) pa_nil)))) (pg_name (i := 5) sc__law_due.nd rfl (by first | exact Or.inl rfl | exact Or.inr rfl)) (pss_cons (ps_set (i := 6) sc__law_due.nd rfl (by first | exact Or.inl rfl | exact Or.inr rfl) (pe_cl c__law_totals hr (by omega) (pa_cons (pv 0) (pa_cons (pv 1) (pa_cons (pv 5) (pa_cons (pv 2) pa_nil))))))
      (pss_cons (ps_set (i := 6) sc__law_due.nd rfl (by first | exact Or.inl rfl | exact Or.inr rfl) (pe_lc (own := [("k", 9)]) rfl sc__law_due.nd (pi_range1 (by rfl) T.n_range (pa_cons (pe_callB call_len_seq (by rfl) T.n_len (by decide +kernel) (pa_cons (pv 6) pa_nil)) pa_nil)) (blkOk_by (own := [("k", 9)]) (N := N__law_due) (sc := defScope s__law_due) (by decide +kernel)) (fun _ _ _ _ _ => (pg_name (i := 9) sc__law_due.nd rfl (by first | exact Or.inl rfl | exact Or.inr rfl))) (fun _ _ _ _ _ => pts_nil) (fun _ _ _ _ _ => (pe_op op_add (pe_ix (ix_listK rfl) (pv 6) (pv 9) (fun _ _ => rfl)) (pe_ix (ix_listK rfl) (pv 3) (pe_op op_sub (pe_op op_sub (pe_callB (call_lenK rfl) (by rfl) T.n_len (by decide +kernel) (pa_cons (pv 3) pa_nil)) pe_int) (pv 9)) (fun _ _ => rfl))))))
      (pss_cons (ps_set (i := 7) sc__law_due.nd rfl (by first | exact Or.inl rfl | exact Or.inr rfl) (pe_callB (cr_min rfl) (by rfl) T.n_min (by decide +kernel) (pa_cons (pe_lc (own := [("total", 10)]) rfl sc__law_due.nd (pi_list (pv 6)) (blkOk_by (own := [("total", 10)]) (N := N__law_due) (sc := defScope s__law_due) (by decide +kernel)) (fun _ _ _ _ _ => (pg_name (i := 10) sc__law_due.nd rfl (by first | exact Or.inl rfl | exact Or.inr rfl))) (fun _ _ _ _ _ => pts_nil) (fun _ _ _ _ _ => (pe_callTy call_int1 (by rfl) T.n_int (by decide +kernel) (pa_cons (pv 10) pa_nil)))) pa_nil)))
      (pss_cons (ps_set (i := 8) sc__law_due.nd rfl (by first | exact Or.inl rfl | exact Or.inr rfl) (pe_op op_add (pe_bm PySem.F.plainAttrs_list PySem.F.slot_list_index PySem.F.type_list_index mt_index (pv 6) (pa_cons (pv 7) pa_nil)) pe_int))
      (pss_cons (ps_expr (pe_bm PySem.F.plainAttrs_list PySem.F.slot_list_append PySem.F.type_list_append mt_append (pv 4) (pa_cons (pe_op op_cat (pe_lst (pa_cons (pv 8) pa_nil)) (pe_ix ix_list (pv 4) (pe_op op_sub (pe_callB call_len_seq (by rfl) T.n_len (by decide +kernel) (pa_cons (pv 4) pa_nil)) (pv 8)) (fun _ _ => rfl))) pa_nil)))
      (pss_one (ps_expr (pe_bm PySem.F.plainAttrs_list PySem.F.slot_list_append PySem.F.type_list_append mt_append (pv 3) (pa_cons (pv 7) pa_nil))))))))))
      (pss_one (ps_ret (pe_tup (pa_cons (pe_ix ix_list (pv 3) (pe_callB call_len_seq (by rfl) T.n_len (by decide +kernel) (pa_cons (pv 1) pa_nil)) (fun _ _ => rfl)) (pa_cons (pe_ix ix_list (pv 4) (pe_callB call_len_seq (by rfl) T.n_len (by decide +kernel) (pa_cons (pv 1) pa_nil)) (fun _ _ => rfl)) pa_nil))))))), ?_⟩
    have nn : ∀ {x : Addr}, x ∉ ([] : List Addr) := fun m => nomatch m
    have few := ok.2
    refine ⟨(by show 1 ≤ sizeLine; decide), fun b nb => ?_⟩
    have S1 : Stp [] H (upd H b (.lst [.int 0])) := Stp.new nb _
    have hb1 : (upd H b (.lst [.int 0])) b = some (.lst [.int 0]) := upd_same
    generalize upd H b (.lst [.int 0]) = H1 at *
    refine ⟨Nat.zero_le _, fun l0 nl0 => ⟨(by show 1 ≤ sizeLine; decide), fun sz1 nsz => ?_⟩⟩
    have S2 : Stp [] H1 (upd H1 l0 (.lst [])) := Stp.new nl0 _
    have hl2 : (upd H1 l0 (.lst [])) l0 = some (.lst []) := upd_same
    have hb2 := S2.kp _ _ nn hb1
    have lb : l0 ≠ b := (ne_of_none hb1 nl0).symm
    generalize upd H1 l0 (.lst []) = H2 at *
    have S3 : Stp [] H2 (upd H2 sz1 (.lst [.ref l0])) := Stp.new nsz _
    have hs3 : (upd H2 sz1 (.lst [.ref l0])) sz1 = some (.lst [.ref l0]) := upd_same
    have hb3 := S3.kp _ _ nn hb2
    have hl3 := S3.kp _ _ nn hl2
    have ls : l0 ≠ sz1 := ne_of_none hl2 nsz
    have bs : b ≠ sz1 := ne_of_none hb2 nsz
    have S03 := (S1.trans S2).trans S3
    have fsz : H sz1 = none := (S1.trans S2).fresh nn nsz
    have fb : H b = none := nb
    generalize upd H2 sz1 (.lst [.ref l0]) = H3 at *
    refine ⟨(by show 2 ≤ sizeLine; decide), fun t nt => ?_⟩
    have S4 : Stp [] H3 (upd H3 t (.tup [.ref b, .ref sz1])) := Stp.new nt _
    have ht4 : (upd H3 t (.tup [.ref b, .ref sz1])) t = some (.tup [.ref b, .ref sz1]) := upd_same
    have hb4 := S4.kp _ _ nn hb3
    have hs4 := S4.kp _ _ nn hs3
    have hl4 := S4.kp _ _ nn hl3
    have S04 := S03.trans S4
    generalize upd H3 t (.tup [.ref b, .ref sz1]) = H4 at *
    refine ⟨t, _, rfl, SqT.of ht4, rfl, _, _, rfl, _, _, rfl, rfl, ?_⟩
    have hpt4 := S04.kp _ _ nn hpt
    dsimp only [gName]
    refine ⟨_, rfl, pt, _, rfl, .inl (SqL.of hpt4), _, _, rfl, rfl, ?_⟩
    rw [List.length_map]
    refine ⟨1, rfl, 1, rfl, _, _, _, os.length, rfl, rgc_down (by omega), ?_⟩
    let B := fun ps : List Pl => ((ps.map fun p => V.int (p.1 : Int)).reverse)
    have sz0 : SzR K b sz1 H4 [.ref l0] (plans r up []).reverse := .cons ⟨l0, rfl, hl4, lb, ls⟩ .nil
    refine for_rangeC (fun i σ H5 => ∃ (ws : List V) (x5 x6 x7 x8 : Option V), σ = [some v, some (.ref pt), some (.int (up : Int)), some (.ref b), some (.ref sz1), x5, x6, x7, x8, none, none] ∧ H5 b = some (.lst (B (plans r up (os.drop (os.length - i))))) ∧ H5 sz1 = some (.lst ws) ∧ SzR K b sz1 H5 ws (plans r up (os.drop (os.length - i))).reverse ∧ Stp [] H H5)
      ⟨_, _, _, _, _, rfl, by rw [Nat.sub_zero, List.drop_length]; exact hb4, hs4, by rw [Nat.sub_zero, List.drop_length]; exact sz0, S04⟩ ?_ ?_
    · rintro i σ H5 hi ⟨ws, x5, x6, x7, x8, rfl, hb5, hs5, sz5, S5⟩
      obtain ⟨st, hst⟩ : ∃ st, st = os.length - (i + 1) := ⟨_, rfl⟩
      have est : ((os.length : Nat) : Int) - 1 + ((i : Nat) : Int) * (-1) = (st : Int) := by omega
      rw [est]
      have lst : st < os.length := by omega
      obtain ⟨o, eo⟩ : ∃ o, os[st]? = some o := ⟨_, List.getElem?_eq_getElem lst⟩
      have ed : os.drop st = o :: os.drop (os.length - i) := by
        obtain ⟨_, eg⟩ := List.getElem?_eq_some_iff.mp eo
        rw [List.drop_eq_getElem_cons lst, eg]
        congr 2
        omega
      have hpt5 := S5.kp _ _ nn hpt
      have pll := plans_len r up (os.drop (os.length - i))
      rw [List.length_drop] at pll
      have epl : plans r up (os.drop st) = ((pFr r ((os.drop st).take up) (plans r up (os.drop (os.length - i))) (min (plans r up (os.drop (os.length - i))).length ((os.drop st).take up).length)).getD one0) :: plans r up (os.drop (os.length - i)) := by
        rw [ed]
        rfl
      have pok := plans_ok r up _ (ok.dr (os.length - i))
      rw [← hst]
      generalize hps : plans r up (os.drop (os.length - i)) = ps at *
      have lps : ps.length = i + 1 := by omega
      have cnt1 : min (os.length - st) up ≤ i + 1 ∧ 1 ≤ min (os.length - st) up := by omega
      have emin : min ps.length ((os.drop st).take up).length = min (os.length - st) up := by rw [List.length_take, List.length_drop]; omega
      rw [emin] at epl
      refine ⟨_, rfl, _, rfl, _, rfl, _, rfl, v, pt, r, os, st, up, rfl, rv.up S5, okr, hpt5, ok, lst, u1, u2, fun f1 H6 nf1 S6 hf1 => ?_⟩
      have cup : min (os.length - st) up ≤ up := Nat.min_le_right _ _
      generalize min (os.length - st) up = cnt at *
      dsimp only [gName]
      have hb6 := S6.kp _ _ nn hb5
      have hs6 := S6.kp _ _ nn hs5
      have tl : (totL r os st cnt).length = cnt := by unfold totL; rw [List.length_map, List.length_range]
      have lB : (B ps).length = i + 1 := by show ((ps.map fun p => V.int (p.1 : Int)).reverse).length = _; rw [List.length_reverse, List.length_map, lps]
      obtain ⟨vs, hvs⟩ : ∃ vs, vs = (os.drop st).take up := ⟨_, rfl⟩
      rw [← hvs] at epl
      have vt : ∀ k, k < cnt → vs.take (k + 1) = (os.drop st).take (k + 1) := fun k hk => by rw [hvs, List.take_take, Nat.min_eq_left (by omega)]
      have gp : ∀ k, k ≤ i → ∃ p, ps[k]? = some p ∧ ps.getD k one0 = p := fun k hk => by
        have e : ps[k]? = some ps[k] := List.getElem?_eq_getElem (by omega)
        exact ⟨ps[k], e, by rw [List.getD_eq_getElem?_getD, e]; rfl⟩
      have gB : ∀ k, k ≤ i → (B ps)[i - k]? = some (.int ((ps.getD k one0).1 : Int)) := fun k hk => by
        obtain ⟨p, e1, e2⟩ := gp k hk
        have e3 := rev_at (ps := ps.map fun p => V.int (p.1 : Int)) (k := k) (by rw [List.length_map]; omega)
        rw [List.length_map, lps] at e3
        show ((ps.map fun p => V.int (p.1 : Int)).reverse)[i - k]? = _
        rw [show i - k = i + 1 - 1 - k by omega, e3, List.getElem?_map, e1, e2]
        rfl
      refine ⟨_, rfl, f1, _, rfl, .inl (SqL.of hf1), (cnt : Int), by rw [tl], by omega, by omega, fun L nL => ?_⟩
      refine lc_range (lo := 0) (n := cnt) (fun j H' => H' L = some (.lst ((List.range j).map fun k => V.int (fP r vs ps k : Int))) ∧ Stp [] H6 H') ⟨upd_same, Stp.new nL _⟩ ?_ ?_
      · rintro j H7 hj ⟨hL, S7⟩
        rw [Int.zero_add]
        have hf7 := S7.kp _ _ nn hf1
        have hb7 := S7.kp _ _ nn hb6
        have gt : (totL r os st cnt)[j]? = some (.int (cost r ((os.drop st).take (j + 1)) : Int)) := by unfold totL; rw [List.getElem?_map, List.getElem?_range hj]; rfl
        have eix : (((B ps).length : Nat) : Int) - 1 - (j : Int) = ((i - j : Nat) : Int) := by rw [lB]; omega
        refine ⟨rfl, _, rfl, _, rfl, f1, _, (j : Int), _, rfl, rfl, SqL.of hf7, atI_nat gt, _, rfl, _, rfl, b, _, rfl, .inl (SqL.of hb7), _, _, rfl, rfl, _, rfl, _, _, rfl, rfl, b, _, (((B ps).length : Nat) : Int) - 1 - (j : Int), _, rfl, rfl, SqL.of hb7, by rw [eix]; exact atI_nat (gB j (by omega)), _, _, rfl, rfl, _, hL, ?_, ?_, S7.mut nL⟩
        · rw [List.length_map, List.length_range]
          exact Nat.lt_of_le_of_lt (show j ≤ 100 by omega) (by decide)
        · rw [upd_same, List.range_succ, List.map_append, List.map_singleton]
          unfold fP
          rw [vt j hj, Int.natCast_add]
      rintro H7 ⟨hL, S7⟩
      have hb7 := S7.kp _ _ nn hb6
      have hs7 := S7.kp _ _ nn hs6
      have e7 : ((List.range cnt).map fun k => V.int (fP r vs ps k : Int)) = (List.range cnt).map fun k : Nat => V.int (fP r vs ps k : Int) := rfl
      refine ⟨_, rfl, L, rfl, ⟨_, SqL.of hL⟩, fun L2 nL2 => ?_⟩
      refine lc_vals (K := K) (os := List.range cnt) (φ := fun k : Nat => V.int (fP r vs ps k : Int)) (r := fun k => .int (fP r vs ps k : Int)) nL2 (SqL.of hL) (by rw [List.length_range]; omega) (fun j k H8 e S8 Q1 q1 => ⟨rfl, _, rfl, .inl ⟨_, rfl, q1 H8 (Stp.refl _ _)⟩⟩) (fun H8 S8 h8 => ?_)
      have hL8 := S8.kp _ _ nn hL
      have hb8 := S8.kp _ _ nn hb7
      have hs8 := S8.kp _ _ nn hs7
      obtain ⟨j, hj, ej, lej, ltj⟩ := pFr_first r vs (ps := ps) (cnt - 1) (by omega)
      rw [show cnt - 1 + 1 = cnt by omega] at ej
      have jc : j < cnt := by omega
      refine ⟨L2, (List.range cnt).map fun k : Nat => (fP r vs ps k : Int), rfl, SqL.of (by rw [h8, List.map_map]; rfl), by rw [List.length_map, List.length_range]; omega, fun m mm hm => ?_⟩
      have em : m = (fP r vs ps j : Int) := by
        obtain ⟨k, mk, rfl⟩ := List.mem_map.mp mm
        have k1 := lej k (by have := List.mem_range.mp mk; omega)
        have h1 := hm (fP r vs ps j : Int) (List.mem_map.mpr ⟨j, List.mem_range.mpr jc, rfl⟩)
        omega
      rw [em]
      have gL : ∀ k, k < cnt → ((List.range cnt).map fun k => V.int (fP r vs ps k : Int))[k]? = some (.int (fP r vs ps k : Int)) := fun k hk => by rw [List.getElem?_map, List.getElem?_range hk]; rfl
      refine ⟨_, rfl, .inl ⟨rfl, _, SqL.of hL8⟩, _, rfl, L, _, .int (fP r vs ps j : Int), j, .int (fP r vs ps j : Int), rfl, rfl, SqL.of hL8, rfl, ?_, gL j jc, beq_self_eq_true _, fun k z hk ez => ?_, ?_⟩
      · rw [List.all_eq_true]
        intro x mx
        obtain ⟨k, _, rfl⟩ := List.mem_map.mp mx
        rfl
      · rw [gL k (by omega)] at ez
        cases ez
        have := ltj k hk
        exact beq_eq_false_iff_ne.mpr (by omega)
      refine ⟨_, _, rfl, rfl, ?_⟩
      dsimp only [gName]
      obtain ⟨pj, epj, gpj⟩ := gp j (by omega)
      have sz8 : SzR K b sz1 H8 ws ps.reverse := sz5.up (((S6.trans S7).trans S8).nil)
      have lws := sz8.len
      rw [List.length_reverse, lps] at lws
      obtain ⟨vj, evj, lj, rfl, hlj, nlb, nls⟩ := sz8.at (i := i - j) (p := pj) (by
        have := rev_at (ps := ps) (k := j) (by omega)
        rw [lps, show i + 1 - 1 - j = i - j by omega] at this
        rw [this]
        exact epj)
      refine ⟨_, rfl, .inl ⟨rfl, _, SqL.of hs8⟩, _, rfl, (by show 1 ≤ sizeLine; decide), fun q1 nq1 => ?_⟩
      have S9 : Stp [] H8 (upd H8 q1 (.lst [.int ((j : Int) + 1)])) := Stp.new nq1 _
      have hq9 : (upd H8 q1 (.lst [.int ((j : Int) + 1)])) q1 = some (.lst [.int ((j : Int) + 1)]) := upd_same
      generalize upd H8 q1 (.lst [.int ((j : Int) + 1)]) = H9 at *
      have hs9 := S9.kp _ _ nn hs8
      have hb9 := S9.kp _ _ nn hb8
      have hlj9 := S9.kp _ _ nn hlj
      have eix : ((ws.length : Nat) : Int) - ((j : Int) + 1) = ((i - j : Nat) : Int) := by rw [lws]; omega
      have pjb := (pok pj (List.mem_of_getElem? epj)).2.1
      rw [List.length_drop] at pjb
      refine ⟨_, rfl, _, rfl, sz1, _, rfl, .inl (SqL.of hs9), _, rfl, _, _, rfl, rfl, sz1, _, ((ws.length : Nat) : Int) - ((j : Int) + 1), .ref lj, rfl, rfl, SqL.of hs9, by rw [eix]; exact atI_nat evj, q1, lj, _, _, rfl, rfl, hq9, hlj9, ?_, fun q2 nq2 => ?_⟩
      · rw [List.length_map]
        exact Nat.le_trans (show 1 + pj.2.length ≤ 200 by omega) (by decide)
      have elst : [V.int ((j : Int) + 1)] ++ pj.2.map (fun n : Nat => V.int (n : Int)) = ((j + 1) :: pj.2).map fun n : Nat => V.int (n : Int) := rfl
      rw [elst]
      have SA : Stp [] H9 (upd H9 q2 (.lst (((j + 1) :: pj.2).map fun n : Nat => V.int (n : Int)))) := Stp.new nq2 _
      have hqA : (upd H9 q2 (.lst (((j + 1) :: pj.2).map fun n : Nat => V.int (n : Int)))) q2 = some (.lst (((j + 1) :: pj.2).map fun n : Nat => V.int (n : Int))) := upd_same
      have q2b : q2 ≠ b := (ne_of_none hb9 nq2).symm
      have q2s : q2 ≠ sz1 := (ne_of_none hs9 nq2).symm
      generalize upd H9 q2 (.lst (((j + 1) :: pj.2).map fun n : Nat => V.int (n : Int))) = HA at *
      have hsA := SA.kp _ _ nn hs9
      have hbA := SA.kp _ _ nn hb9
      have S5A := (((S5.trans S6).trans S7).trans S8).trans (S9.trans SA)
      have szA : SzR K b sz1 HA ws ps.reverse := sz8.up ((S9.trans SA).nil)
      refine ⟨sz1, _, _, rfl, rfl, hsA, Nat.lt_of_le_of_lt (show ws.length ≤ 100 by omega) (by decide), ?_⟩
      have SB : Stp [b, sz1] HA (upd HA sz1 (.lst (ws ++ [.ref q2]))) := Stp.put (by simp)
      have hbB : (upd HA sz1 (.lst (ws ++ [.ref q2]))) b = some (.lst (B ps)) := by rw [upd_ne bs]; exact hbA
      refine ⟨_, rfl, .inl ⟨rfl, _, SqL.of hbB⟩, _, rfl, b, _, _, rfl, rfl, hbB, Nat.lt_of_le_of_lt (show (B ps).length ≤ 100 by omega) (by decide), ?_⟩
      have SC : Stp [b, sz1] (upd HA sz1 (.lst (ws ++ [.ref q2]))) (upd (upd HA sz1 (.lst (ws ++ [.ref q2]))) b (.lst (B ps ++ [.int (fP r vs ps j : Int)]))) := Stp.put (by simp)
      have enew : plans r up (os.drop st) = (fP r vs ps j, (j + 1) :: pj.2) :: ps := by rw [epl, ej, gpj]; rfl
      refine ⟨ws ++ [.ref q2], _, _, _, _, rfl, ?_, ?_, ?_, (S5A.mut fsz).mut fb⟩
      · rw [upd_same, enew]
        show _ = some (HO.lst (((fP r vs ps j, (j + 1) :: pj.2) :: ps).map fun p => V.int (p.1 : Int)).reverse)
        rw [List.map_cons, List.reverse_cons]
      · rw [upd_ne bs.symm, upd_same]
      · rw [enew, List.reverse_cons]
        refine ((szA.up SB).up SC).snoc ⟨q2, rfl, ?_, q2b, q2s⟩
        rw [upd_ne q2b, upd_ne q2s]
        exact hqA
    · rintro σ H5 ⟨ws, x5, x6, x7, x8, rfl, hb5, hs5, sz5, S5⟩
      rw [Nat.sub_self, List.drop_zero] at hb5 sz5
      have pll := plans_len r up os
      have hpt5 := S5.kp _ _ nn hpt
      have hch : (plans r up os)[0]? = some (che r up os) := by
        unfold che
        cases h : plans r up os with
        | nil => rw [h] at pll; cases pll
        | cons p ps => rfl
      generalize plans r up os = ps at *
      have e0 := rev_at (ps := ps) (k := 0) (by omega)
      rw [show ps.length - 1 - 0 = os.length by omega, hch] at e0
      obtain ⟨vl, evl, l, rfl, hl, _, _⟩ := sz5.at e0
      have eB : (B ps)[os.length]? = some (.int ((che r up os).1 : Int)) := by
        show ((ps.map fun p => V.int (p.1 : Int)).reverse)[os.length]? = _
        rw [← List.map_reverse, List.getElem?_map, e0]
        rfl
      refine ⟨_, rfl, _, rfl, pt, _, rfl, .inl (SqL.of hpt5), b, _, ((os.map vV).length : Int), _, rfl, rfl, SqL.of hb5, by rw [List.length_map]; exact atI_nat eB, ?_⟩
      refine ⟨_, rfl, _, rfl, pt, _, rfl, .inl (SqL.of hpt5), sz1, _, ((os.map vV).length : Int), _, rfl, rfl, SqL.of hs5, by rw [List.length_map]; exact atI_nat evl, (by show 2 ≤ sizeLine; decide), fun t9 nt9 => ?_⟩
      exact k _ _ (S5.new' nt9) ⟨t9, l, rfl, SqT.of upd_same, by rw [upd_ne (ne_of_none hl nt9)]; exact hl, trivial⟩
abbrev s__law_upto : Stmt := topS 69
abbrev N__law_upto : List Str := ["bag"]
theorem sc__law_upto : FnScope ["bag"] ["bag"] (defScope s__law_upto) := ⟨rfl, rfl, rfl, by decide +kernel, rfl, by decide +kernel, by decide +kernel⟩

abbrev s__law_right : Stmt := topS 68
abbrev N__law_right : List Str := ["kind", "things", "upto", "told", "whole", "at", "size", "sheet"]
theorem sc__law_right : FnScope ["kind", "things", "upto", "told", "whole", "at", "size", "sheet"] ["kind", "things", "upto"] (defScope s__law_right) := ⟨rfl, rfl, rfl, by decide +kernel, rfl, by decide +kernel, by decide +kernel⟩

/-! ### a column by its cheapest pages -/
def spUpto : Sp := fun vs H Q _ => ∃ (b : Addr) (n : Nat), vs = [.ref b] ∧ Bag H b n ∧ n + 5 < 2 ^ 30 ∧ ∀ (u : Nat) H', 1 ≤ u → u ≤ 1000 → Stp [b] H H' → Bag H' b (n + 2) → Q (.int (u : Int)) H'
theorem cl__law_upto {f : Addr} {fd : FuncData} (D : Df K mg "_law_upto" s__law_upto ["bag"] f fd) (T : Nm mg) (c__law_draw : Cl P w K mg base 1 "_law_draw" s__law_draw ["bag", "upto"] spDraw) : Cl P w K mg base 2 "_law_upto" s__law_upto ["bag"] spUpto := by
  refine D.cl sc__law_upto (fun vs H Q E h => ?_) (fun cdv A outer s H vs Q E hr h => ?_)
  · obtain ⟨b, n, rfl, _⟩ := h
    rfl
  · obtain ⟨b, n, rfl, B, hn, k⟩ := h
    refine ⟨_, (pss_one (ps_ret (pe_op op_add pe_int (pe_cl c__law_draw hr (by omega) (pa_cons (pv 0) (pa_cons (pe_ix ix_list (pe_lst (pa_cons pe_int (pa_cons pe_int (pa_cons pe_int (pa_cons pe_int (pa_cons pe_int (pa_cons pe_int (pa_cons pe_int (pa_cons pe_int pa_nil))))))))) (pe_cl c__law_draw hr (by omega) (pa_cons (pv 0) (pa_cons pe_int pa_nil))) (fun _ _ => rfl)) pa_nil)))))), ?_⟩
    have nn : ∀ {x : Addr}, x ∉ ([] : List Addr) := fun m => nomatch m
    have one : b ∈ [b] := List.mem_singleton.mpr rfl
    refine ⟨_, rfl, (by show 8 ≤ sizeLine; decide), fun l nl => ?_⟩
    have S1 : Stp [b] H (upd H l (.lst [.int 6, .int 6, .int 6, .int 6, .int 6, .int 6, .int 40, .int 1000])) := Stp.new nl _
    have hl1 : (upd H l (.lst [.int 6, .int 6, .int 6, .int 6, .int 6, .int 6, .int 40, .int 1000])) l = some (.lst [.int 6, .int 6, .int 6, .int 6, .int 6, .int 6, .int 40, .int 1000]) := upd_same
    have B1 := B.upd (o := .lst [.int 6, .int 6, .int 6, .int 6, .int 6, .int 6, .int 40, .int 1000]) (B.ne nl)
    have lb : l ≠ b := (B.ne nl).symm
    generalize upd H l (.lst [.int 6, .int 6, .int 6, .int 6, .int 6, .int 6, .int 40, .int 1000]) = H1 at *
    refine ⟨_, rfl, b, 8, n, rfl, B1, by omega, by decide, by decide, fun d H2 d0 d1 o2 B2 => ?_⟩
    obtain ⟨u, mu, eu⟩ := pick_int (ns := [6, 6, 6, 6, 6, 6, 40, 1000]) d0 d1
    have u0 : 1 ≤ u ∧ u ≤ 1000 := by
      simp at mu
      omega
    refine ⟨l, _, d, .int u, rfl, rfl, SqL.of (o2.at hl1 lb), eu, b, u, _, rfl, B2, by omega, by omega, by omega, fun e H3 e0 e1 o3 B3 => ?_⟩
    obtain ⟨e, rfl⟩ := Int.eq_ofNat_of_zero_le e0
    refine ⟨_, _, rfl, rfl, ?_⟩
    have ee : (1 : Int) + (e : Int) = ((1 + e : Nat) : Int) := by omega
    dsimp only
    rw [ee]
    exact k (1 + e) H3 (by omega) (by omega) ((S1.trans (o2.stp one)).trans (o3.stp one)) B3
/-- what pages of these lengths cost -/
def cst (r : Ru) : List OT → List Nat → Nat
  | _, [] => 0
  | os, k :: ls => cost r (os.take k) + cst r (os.drop k) ls
def PlW (r : Ru) (os : List OT) (p : Pl) : Prop := p.1 = cst r os p.2 ∧ p.2.sum = os.length ∧ ∀ k ∈ p.2, 1 ≤ k
theorem plans_w (r : Ru) {up : Nat} (u1 : 1 ≤ up) : ∀ (os : List OT) (i : Nat), i ≤ os.length → PlW r (os.drop i) ((plans r up os).getD i one0)
  | [], i, h => by
    rw [Nat.le_zero.mp h]
    exact ⟨rfl, rfl, fun _ m => nomatch m⟩
  | o :: os, i, h => by
    have ih := plans_w r u1 os
    have pll := plans_len r up os
    cases i with
    | succ i => exact ih i (Nat.le_of_succ_le_succ h)
    | zero =>
      show PlW r (o :: os) ((pFr r ((o :: os).take up) (plans r up os) (min (plans r up os).length ((o :: os).take up).length)).getD one0)
      have hm : min (plans r up os).length ((o :: os).take up).length = min (os.length + 1) up := by rw [List.length_take, List.length_cons]; omega
      rw [hm]
      obtain ⟨c, hc⟩ : ∃ c, min (os.length + 1) up = c + 1 := ⟨min (os.length + 1) up - 1, by omega⟩
      obtain ⟨j, hj, ej, _, _⟩ := pFr_first r ((o :: os).take up) (ps := plans r up os) c (by omega)
      rw [hc, ej]
      obtain ⟨w1, w2, w3⟩ := ih j (by omega)
      have et : ((o :: os).take up).take (j + 1) = (o :: os).take (j + 1) := by rw [List.take_take, Nat.min_eq_left (by omega)]
      refine ⟨?_, ?_, fun k m => ?_⟩
      · show fP r ((o :: os).take up) (plans r up os) j = cost r ((o :: os).take (j + 1)) + cst r (os.drop j) _
        unfold fP
        rw [et, w1]
      · show j + 1 + _ = os.length + 1
        rw [List.length_drop] at w2
        show j + 1 + ((plans r up os).getD j one0).2.sum = os.length + 1
        omega
      · rcases List.mem_cons.mp m with rfl | m
        · omega
        · exact w3 k m
theorem che_w (r : Ru) {up : Nat} (u1 : 1 ≤ up) (os : List OT) : PlW r os (che r up os) := by
  have h := plans_w r u1 os 0 (Nat.zero_le _)
  have pll := plans_len r up os
  unfold che
  cases e : plans r up os with
  | nil => rw [e] at pll; cases pll
  | cons p ps => rw [e] at h; exact h
theorem che_ok (r : Ru) (up : Nat) {os : List OT} (ok : Pgs os) : PlOk os.length (che r up os) := by
  have h := plans_ok r up os ok
  have pll := plans_len r up os
  unfold che
  cases e : plans r up os with
  | nil => rw [e] at pll; cases pll
  | cons p ps => rw [e] at h; exact h p List.mem_cons_self
/-- a plan as a value -/
def pD (p : Pl) : D := .tup [.int (p.1 : Int), .lst (p.2.map fun n : Nat => D.int (n : Int))]
theorem rvl_ints {K : PySem.W.Frag} {H : Hp} : ∀ (ls : List Nat), RvL K [] H (ls.map fun n : Nat => V.int (n : Int)) (ls.map fun n : Nat => D.int (n : Int))
  | [] => .nil
  | _ :: ls => .cons (.int _) (rvl_ints ls)
theorem pD_rv {K : PySem.W.Frag} {F : Addr → Prop} {H : Hp} {v : V} {p : Pl} (h : PlE K F H v p) (b : p.2.length ≤ 1000) : Rv K [] H v (pD p) := by
  obtain ⟨t, l, rfl, ht, hl, _⟩ := h
  exact .tup ht (by simp) (.cons (.int _) (.cons (.lst hl (fun m => nomatch m) (by rw [List.length_map]; omega) (rvl_ints _)) .nil))
theorem ints_ok : ∀ (ls : List Nat), (∀ n ∈ ls, n ≤ 60) → D.fairs (ls.map fun n : Nat => D.int (n : Int)) = true ∧ D.deeps (ls.map fun n : Nat => D.int (n : Int)) = 0 ∧ D.wts (ls.map fun n : Nat => D.int (n : Int)) ≤ 5000 * ls.length
  | [], _ => ⟨rfl, rfl, Nat.zero_le _⟩
  | n :: ls, h => by
    obtain ⟨a, b, c⟩ := ints_ok ls fun x m => h x (List.mem_cons_of_mem _ m)
    have i1 : (D.int (n : Int)).fair = true := decide_eq_true (by have := h n List.mem_cons_self; omega)
    have i2 : (D.int (n : Int)).deep = 0 := by unfold D.deep; rfl
    have i3 : (D.int (n : Int)).wt ≤ 4000 := by unfold D.wt; decide
    refine ⟨?_, ?_, ?_⟩
    · show D.fairs (D.int (n : Int) :: _) = true
      unfold D.fairs
      rw [i1, a]
      rfl
    · show D.deeps (D.int (n : Int) :: _) = 0
      unfold D.deeps
      rw [i2, b]
      rfl
    · show D.wts (D.int (n : Int) :: _) ≤ _
      unfold D.wts
      rw [List.length_cons]
      omega
theorem pD_fine {p : Pl} {m : Nat} (h : PlOk m p) (m60 : m ≤ 60) : (pD p).Fine := by
  obtain ⟨h1, h2, h3⟩ := h
  obtain ⟨a, b, c⟩ := ints_ok p.2 h3
  have i1 : (D.int (p.1 : Int)).fair = true := decide_eq_true (by omega)
  have i2 : (D.int (p.1 : Int)).deep = 0 := by unfold D.deep; rfl
  have i3 : (D.int (p.1 : Int)).wt ≤ 4000 := by unfold D.wt; decide
  unfold pD
  generalize (p.2.map fun n : Nat => D.int (n : Int)) = ds at *
  refine ⟨?_, ?_, ?_⟩
  · unfold D.fair D.fairs D.fairs D.fairs
    rw [i1]
    show (D.fair (.lst ds) && true) = true
    unfold D.fair
    rw [a]
    rfl
  · unfold D.deep D.deeps D.deeps D.deeps
    rw [i2]
    have : (D.lst ds).deep = 1 := by unfold D.deep; rw [b]
    rw [this]
    decide
  · unfold D.wt D.wts D.wts D.wts
    have : (D.lst ds).wt ≤ 5000 * p.2.length + 1000 := by unfold D.wt; omega
    omega
def spRight (K : PySem.W.Frag) : Sp := fun vs H Q _ => ∃ (v : V) (pt : Addr) (r : Ru) (os : List OT) (up : Nat), vs = [v, .ref pt, .int (up : Int)] ∧ Rv K [] H v (ruD r) ∧ RuOk r ∧ H pt = some (.lst (os.map vV)) ∧ Pgs os ∧ 1 ≤ up ∧ up ≤ 1000 ∧ ∀ H', Stp [] H H' → Q (.bl true) H'
theorem cl__law_right {f : Addr} {fd : FuncData} (D : Df K mg "_law_right" s__law_right ["kind", "things", "upto"] f fd) (T : Nm mg) (c_cheapest : Cl P w K mg base 8 "cheapest" s_cheapest ["rule", "column", "most"] (spChe K)) (c__law_due : Cl P w K mg base 4 "_law_due" s__law_due ["kind", "things", "upto"] (spDue K))
    (c_best_code : Cl P w K mg base 5 "best_code" s_best_code ["page"] (spBest K)) (c_note_signs : Cl P w K mg base 6 "note_signs" s_note_signs ["rule", "page"] (spNsg K)) : ClG P w K mg base 9 "_law_right" s__law_right ["kind", "things", "upto"] (spRight K) := by
  refine ⟨f, fd, D, D.g sc__law_right (fun vs H Q E h => ?_) (fun cdv A outer s H vs Q E hG hr h => ?_)⟩
  · obtain ⟨v, pt, r, os, up, rfl, _⟩ := h
    rfl
  · obtain ⟨v, pt, r, os, up, rfl, rv, okr, hpt, ok, u1, u2, k⟩ := h
    refine ⟨_, (pss_cons (ps_set (i := 3) sc__law_right.nd rfl (by first | exact Or.inl rfl | exact Or.inr rfl) (pe_cl c_cheapest hr (by omega) (pa_cons (pv 0) (pa_cons (pe_callTy call_list_of (by rfl) T.n_list (by decide +kernel) (pa_cons (pv 1) pa_nil)) (pa_cons (pv 2) pa_nil)))))
      (pss_cons (ps_if (pt_cmpR op_ne (pe_callB (Pv.call_reprD hG hr) (by rfl) T.n_repr (by decide +kernel) (pa_cons (pv 3) pa_nil)) (pe_callB (Pv.call_reprD hG hr) (by rfl) T.n_repr (by decide +kernel) (pa_cons (pe_cl c__law_due hr (by omega) (pa_cons (pv 0) (pa_cons (pv 1) (pa_cons (pv 2) pa_nil)))) pa_nil)) (by first | exact nomark _ | rfl)) (pss_one (ps_ret pe_bl)) pss_nil)
      (pss_cons (ps_asg (pe_tup (pa_cons pe_int (pa_cons pe_int pa_nil))) (pg_tup rfl (pgs_cons (pg_name (i := 4) sc__law_right.nd rfl (by first | exact Or.inl rfl | exact Or.inr rfl)) (pgs_cons (pg_name (i := 5) sc__law_right.nd rfl (by first | exact Or.inl rfl | exact Or.inr rfl)) pgs_nil (by rfl)) (by rfl)) (by rfl) (by rfl)))
      (pss_cons (ps_for PassesOwn.never rfl (pi_list (pe_ix ix_tup (pv 3) pe_int (fun _ _ => rfl))) (pg_name (i := 6) sc__law_right.nd rfl (by first | exact Or.inl rfl | exact Or.inr rfl)) (pss_cons (ps_set (i := 7) sc__law_right.nd rfl (by first | exact Or.inl rfl | exact Or.inr rfl) (pe_slice sl_list (pv 1) (po_some (pv 5)) (po_some (pe_op op_add (pv 5) (pv 6)))))
      (pss_cons (ps_set (i := 4) sc__law_right.nd rfl (by first | exact Or.inl rfl | exact Or.inr rfl) (pe_op op_add (pe_op op_add (pv 4) (pe_ix ix_tup (pe_cl c_best_code hr (by omega) (pa_cons (pv 7) pa_nil)) pe_int (fun _ _ => rfl))) (pe_cl c_note_signs hr (by omega) (pa_cons (pv 0) (pa_cons (pv 7) pa_nil)))))
      (pss_one (ps_set (i := 5) sc__law_right.nd rfl (by first | exact Or.inl rfl | exact Or.inr rfl) (pe_op op_add (pv 5) (pv 6)))))))
      (pss_one (ps_ret (pe_and (pe_cmpR op_eq (pv 4) (pe_ix ix_tup (pv 3) pe_int (fun _ _ => rfl)) (by first | exact nomark _ | rfl)) (pe_one (pe_cmpR op_eq (pv 5) (pe_callB call_len_seq (by rfl) T.n_len (by decide +kernel) (pa_cons (pv 1) pa_nil)) (by first | exact nomark _ | rfl)))))))))), ?_⟩
    have nn : ∀ {x : Addr}, x ∉ ([] : List Addr) := fun m => nomatch m
    have few := ok.2
    have cw := che_w r u1 os
    have co := che_ok r up ok
    refine ⟨_, rfl, _, rfl, pt, _, rfl, .inl (SqL.of hpt), fun q nq => ?_⟩
    have S1 : Stp [] H (upd H q (.lst (os.map vV))) := Stp.new nq _
    have hq1 : (upd H q (.lst (os.map vV))) q = some (.lst (os.map vV)) := upd_same
    generalize upd H q (.lst (os.map vV)) = H1 at *
    refine ⟨_, rfl, v, q, r, os, up, rfl, rv.up S1, okr, hq1, ok, u1, u2, fun H2 u S2 hu => ?_⟩
    have S12 := S1.trans S2
    have hpt2 := S12.kp _ _ nn hpt
    generalize hp : che r up os = p at *
    have pb : p.2.length ≤ 1000 := by have := co.2.1; omega
    have fine := pD_fine co few
    refine ⟨_, rfl, [], u, pD p, rfl, pD_rv hu pb, fine, ?_⟩
    refine ⟨_, rfl, _, rfl, _, rfl, v, pt, r, os, up, rfl, rv.up S12, okr, hpt2, ok, u1, u2, fun H3 u2 S3 hu2 => ?_⟩
    rw [hp] at hu2
    refine ⟨[], u2, pD p, rfl, pD_rv hu2 pb, fine, ?_⟩
    generalize (pD p).told = tt
    refine ⟨rfl, _, rfl, ite2 (fun h => absurd h nes) (fun _ => ?_)⟩
    dsimp only [tNext]
    have hu3 := hu.up S3 fun _ h => h
    obtain ⟨tu, l, rfl, ht3, hl3, _⟩ := hu3
    refine ⟨(by show 2 ≤ sizeLine; decide), fun t nt => ?_⟩
    have S4 : Stp [] H3 (upd H3 t (.tup [.int 0, .int 0])) := Stp.new nt _
    have ht4 : (upd H3 t (.tup [.int 0, .int 0])) t = some (.tup [.int 0, .int 0]) := upd_same
    have htu4 := sqt_stp S4 Lsts.nil ht3
    have hl4 := S4.kp _ _ nn hl3
    have S04 := (S12.trans S3).trans S4
    generalize upd H3 t (.tup [.int 0, .int 0]) = H4 at *
    refine ⟨t, _, rfl, SqT.of ht4, rfl, _, _, rfl, _, _, rfl, rfl, ?_⟩
    dsimp only [gName]
    obtain ⟨w1, w2, w3⟩ := cw
    refine ⟨_, rfl, tu, _, 1, .ref l, rfl, rfl, htu4, at1, l, rfl, ⟨_, SqL.of hl4⟩, ?_⟩
    refine for_list (K := K) (a := l) (xs := p.2.map fun n : Nat => V.int (n : Int)) (fun i σ H5 => ∃ (wh a : Nat) (x6 x7 : Option V), σ = [some v, some (.ref pt), some (.int (up : Int)), some (.ref tu), some (.int (wh : Int)), some (.int (a : Int)), x6, x7] ∧ wh + cst r (os.drop a) (p.2.drop i) = p.1 ∧ a + (p.2.drop i).sum = os.length ∧ Stp [] H4 H5)
      ⟨0, 0, _, _, rfl, by rw [List.drop_zero, List.drop_zero, w1]; omega, by rw [List.drop_zero, w2]; omega, Stp.refl _ _⟩ (fun i σ H5 _ ⟨_, _, _, _, _, _, _, S⟩ => SqL.of (S.kp _ _ nn hl4)) ?_ ?_
    · rintro i y σ H5 hi ⟨wh, a, x6, x7, rfl, e1, e2, S5⟩
      rw [List.getElem?_map] at hi
      cases e : p.2[i]? with
      | none => rw [e] at hi; cases hi
      | some n =>
        rw [e] at hi
        cases hi
        obtain ⟨lt, eg⟩ := List.getElem?_eq_some_iff.mp e
        have ed : p.2.drop i = n :: p.2.drop (i + 1) := by rw [List.drop_eq_getElem_cons lt, eg]
        rw [ed] at e1 e2
        have n1 := w3 n (List.mem_of_getElem? e)
        have e2 : a + (n + (p.2.drop (i + 1)).sum) = os.length := by rw [List.sum_cons] at e2; exact e2
        have e1 : wh + (cost r ((os.drop a).take n) + cst r ((os.drop a).drop n) (p.2.drop (i + 1))) = p.1 := e1
        have hpt5 := (S04.trans S5).kp _ _ nn hpt
        refine ⟨_, rfl, _, rfl, (a : Int), rfl, _, rfl, _, rfl, _, _, rfl, rfl, _, rfl, pt, _, rfl, SqL.of hpt5, fun q6 nq6 => ?_⟩
        rw [show cutV (os.map vV) (some (a : Int)) (some ((a : Int) + (n : Int))) = _ from cut_mid os vV a n (by omega)]
        have okp : Pgs ((os.drop a).take n) := (ok.dr a).tk n
        have pos : 0 < ((os.drop a).take n).length := by rw [List.length_take, List.length_drop]; omega
        generalize hpg : (os.drop a).take n = pg at *
        have S6 : Stp [] H5 (upd H5 q6 (.lst (pg.map vV))) := Stp.new nq6 _
        have hq6 : (upd H5 q6 (.lst (pg.map vV))) q6 = some (.lst (pg.map vV)) := upd_same
        generalize upd H5 q6 (.lst (pg.map vV)) = H6 at *
        refine ⟨_, rfl, _, rfl, q6, pg, rfl, hq6, okp, pos, fun H7 t7 S7 ht7 => ?_⟩
        refine ⟨t7, _, 0, .int (bsF pg : Int), rfl, rfl, ht7, at0, _, _, rfl, rfl, ?_⟩
        have hq7 := S7.kp _ _ nn hq6
        have S57 := S6.trans S7
        refine ⟨_, rfl, _, rfl, v, q6, r, pg, rfl, rv.up ((S04.trans S5).trans S57), okr, hq7, okp.col, pos, fun H8 S8 => ?_⟩
        refine ⟨_, _, rfl, rfl, _, rfl, _, rfl, _, _, rfl, rfl, ?_⟩
        refine ⟨wh + bsF pg + nsg r pg, a + n, some (.int (n : Int)), some (.ref q6), ?_, ?_, by omega, (S5.trans S57).trans S8⟩
        · rw [Int.natCast_add, Int.natCast_add, Int.natCast_add]; rfl
        · rw [List.drop_drop] at e1
          unfold cost at e1
          omega
    · rintro σ H5 ⟨wh, a, x6, x7, rfl, e1, e2, S5⟩
      rw [List.length_map, List.drop_length] at e1 e2
      have e1 : wh = p.1 := e1
      have e2 : a = os.length := e2
      subst e1
      subst e2
      have hpt5 := (S04.trans S5).kp _ _ nn hpt
      refine ⟨_, rfl, _, rfl, tu, _, 0, .int (p.1 : Int), rfl, rfl, sqt_stp S5 Lsts.nil htu4, at0, rfl, ?_⟩
      rw [decide_eq_true rfl]
      refine ⟨_, rfl, _, rfl, _, rfl, pt, _, rfl, .inl (SqL.of hpt5), rfl, ?_⟩
      rw [List.length_map, decide_eq_true rfl]
      exact k H5 (S04.trans S5)
abbrev s_law : Stmt := topS 70
abbrev N_law : List Str := ["script", "pool", "things", "cell", "bag", "way", "word", "sheet"]
theorem sc_law : FnScope ["script", "pool", "things", "cell", "bag", "way", "word", "sheet"] ["script"] (defScope s_law) := ⟨rfl, rfl, rfl, by decide +kernel, rfl, by decide +kernel, by decide +kernel⟩

/-! ### the law -/
def abP : List Pr := [([97, 98], none)]
theorem ab_lit : ("ab" : Str) = tx [97, 98] := by decide +kernel
theorem ab_spn {K : PySem.W.Frag} {H : Hp} {a t : Addr} (ha : SqT K H a [.ref t]) (ht : SqT K H t [.str "ab", .non]) : Spn K H a abP := by
  refine ⟨⟨_, ha, .cons ?_ .nil⟩, ⟨fun p m => ?_, List.pairwise_singleton _ _⟩, by decide⟩
  · rw [ab_lit] at ht
    exact .tup ht (by simp) (.cons (.str _ (by decide)) (.cons .non .nil))
  · rw [List.mem_singleton.mp m]
    exact ⟨⟨fun c m => by simp at m; omega, by decide⟩, fun e h => by cases h⟩
def abOs (n : Nat) : List OT := (List.range n).map fun j => some (af [97, 98] j)
theorem ab_tks (n : Nat) : (tks abP n []).map Tx = (abOs n).map vV := by
  have e : tks abP n [] = (List.range n).map (af [97, 98]) := by
    show [] ++ tk [97, 98] none (n - 0) = _
    rw [Nat.sub_zero, List.nil_append]
    exact tk_all fun j _ => rfl
  rw [e]
  unfold abOs
  rw [List.map_map, List.map_map]
  rfl
theorem ab_pgs {n : Nat} (h : n ≤ 58) : Pgs (abOs n) := by
  refine ⟨fun l m => ?_, by unfold abOs; rw [List.length_map, List.length_range]; omega⟩
  obtain ⟨j, mj, e⟩ := List.mem_map.mp m
  cases e
  have := List.mem_range.mp mj
  exact ⟨af_abc (fun c m => by simp at m; omega) j, by rw [af_len]; show 2 + j ≤ 60; omega⟩
theorem OkV.pgs {os : List OT} (h : OkV os) (n : os.length ≤ 60) : Pgs os := ⟨fun l m => ⟨(h l m).1, by have := (h l m).2; omega⟩, n⟩
def spLaw (K : PySem.W.Frag) : Sp := fun vs H Q _ => ∃ (a : Addr) (ns : List Int), vs = [.ref a] ∧ SqL K H a (ns.map V.int) ∧ ns.length ≤ 63 ∧ ∀ H', Q (.bl true) H'
theorem cl_law {f : Addr} {fd : FuncData} (D : Df K mg "law" s_law ["script"] f fd) (T : Nm mg) (c__law_bag : Cl P w K mg base 1 "_law_bag" s__law_bag ["cell"] spBag) (c__law_draw : Cl P w K mg base 1 "_law_draw" s__law_draw ["bag", "upto"] spDraw) (c__law_some : Cl P w K mg base 3 "_law_some" s__law_some ["bag", "pool"] spSome)
    (c__law_kind : Cl P w K mg base 2 "_law_kind" s__law_kind ["bag"] (spKind K)) (c__law_upto : Cl P w K mg base 2 "_law_upto" s__law_upto ["bag"] spUpto) (c__law_sheet : Cl P w K mg base 4 "_law_sheet" s__law_sheet ["bag", "upto"] spSheet) (c_texts_in : Cl P w K mg base 5 "texts_in" s_texts_in ["span", "most"] (spTexts K))
    (c__law_right : ClG P w K mg base 9 "_law_right" s__law_right ["kind", "things", "upto"] (spRight K)) : FnG P w K mg base 10 f fd ["script"] (spLaw K) := by
  refine Df.g D sc_law (fun vs H Q E h => ?_) (fun cdv A outer s H vs Q E hG hr h => ?_)
  · obtain ⟨a, ns, rfl, _⟩ := h
    rfl
  · obtain ⟨a, ns, rfl, hS, hlen, k⟩ := h
    refine ⟨_, (pss_cons (ps_par (i := 1) (j := 2) rfl sc_law.nd rfl rfl (by decide) rfl rfl (pa_cons (pe_lst pa_nil) (pa_cons (pe_lst pa_nil) pa_nil)) (by rfl))
      (pss_cons (ps_for PassesOwn.never rfl (pi_list (pe_slice sl_list (pv 0) po_none (po_some pe_int))) (pg_name (i := 3) sc_law.nd rfl (by first | exact Or.inl rfl | exact Or.inr rfl)) (pss_cons (ps_set (i := 4) sc_law.nd rfl (by first | exact Or.inl rfl | exact Or.inr rfl) (pe_cl c__law_bag hr (by omega) (pa_cons (pv 3) pa_nil)))
      (pss_cons (ps_set (i := 5) sc_law.nd rfl (by first | exact Or.inl rfl | exact Or.inr rfl) (pe_cl c__law_draw hr (by omega) (pa_cons (pv 4) (pa_cons pe_int pa_nil))))
      (pss_cons (ps_set (i := 6) sc_law.nd rfl (by first | exact Or.inl rfl | exact Or.inr rfl) (pe_ifExp (pt_cmpR op_eq (pv 5) pe_int (by first | exact nomark _ | rfl)) pe_non (pe_cl c__law_some hr (by omega) (pa_cons (pv 4) (pa_cons (pv 1) pa_nil)))))
      (pss_cons (ps_if (PW.pt (pw_and (pt_cmpR op_eq (pv 5) pe_int (by first | exact nomark _ | rfl)) (pw_and1 (pt_cmpR (Pv.op_neNil hr.units) (pv 2) (pe_lst pa_nil) (by first | exact nomark _ | rfl))))) (pss_one (ps_set (i := 6) sc_law.nd rfl (by first | exact Or.inl rfl | exact Or.inr rfl) (pe_ix ix_list (pv 2) (pe_cl c__law_draw hr (by omega) (pa_cons (pv 4) (pa_cons (pe_callB call_len_seq (by rfl) T.n_len (by decide +kernel) (pa_cons (pv 2) pa_nil)) pa_nil))) (fun _ _ => rfl)))) pss_nil)
      (pss_cons (ps_expr (pe_bm PySem.F.plainAttrs_list PySem.F.slot_list_append PySem.F.type_list_append mt_append (pv 2) (pa_cons (pv 6) pa_nil)))
      (pss_one (ps_if (pt_cmpR op_notN (pv 6) pe_non (by first | exact nomark _ | rfl)) (pss_one (ps_expr (pe_bm PySem.F.plainAttrs_list PySem.F.slot_list_append PySem.F.type_list_append mt_append (pv 1) (pa_cons (pv 6) pa_nil)))) pss_nil))))))))
      (pss_cons (ps_set (i := 4) sc_law.nd rfl (by first | exact Or.inl rfl | exact Or.inr rfl) (pe_cl c__law_bag hr (by omega) (pa_cons (pe_callB (cr_sum rfl) (by rfl) T.n_sum (by decide +kernel) (pa_cons (pe_lc (own := [("cell", 3)]) rfl sc_law.nd (pi_list (pv 0)) (blkOk_by (own := [("cell", 3)]) (N := N_law) (sc := defScope s_law) (by decide +kernel)) (fun _ _ _ _ _ => (pg_name (i := 3) sc_law.nd rfl (by first | exact Or.inl rfl | exact Or.inr rfl))) (fun _ _ _ _ _ => pts_nil) (fun _ _ _ _ _ => (pe_callTy call_int1 (by rfl) T.n_int (by decide +kernel) (pa_cons (pv 3) pa_nil)))) pa_nil)) pa_nil)))
      (pss_cons (ps_if (pt_not (pt_val (pe_clG c__law_right hG hr (by omega) (pa_cons (pe_cl c__law_kind hr (by omega) (pa_cons (pv 4) pa_nil)) (pa_cons (pv 2) (pa_cons (pe_cl c__law_upto hr (by omega) (pa_cons (pv 4) pa_nil)) pa_nil)))))) (pss_one (ps_ret pe_bl)) pss_nil)
      (pss_cons (ps_for PassesOwn.never rfl (pi_list (pe_op op_cat (pe_slice sl_list (pv 0) po_none (po_some pe_int)) (pe_lst (pa_cons (pe_op op_add (pe_op op_pow pe_int pe_int) pe_int) pa_nil)))) (pg_name (i := 3) sc_law.nd rfl (by first | exact Or.inl rfl | exact Or.inr rfl)) (pss_cons (ps_set (i := 4) sc_law.nd rfl (by first | exact Or.inl rfl | exact Or.inr rfl) (pe_cl c__law_bag hr (by omega) (pa_cons (pv 3) pa_nil)))
      (pss_cons (ps_set (i := 7) sc_law.nd rfl (by first | exact Or.inl rfl | exact Or.inr rfl) (pe_cl c__law_sheet hr (by omega) (pa_cons (pv 4) (pa_cons pe_int pa_nil))))
      (pss_cons (ps_if (pt_cmpR op_eq (pe_cl c__law_draw hr (by omega) (pa_cons (pv 4) (pa_cons pe_int pa_nil))) pe_int (by first | exact nomark _ | rfl)) (pss_one (ps_set (i := 7) sc_law.nd rfl (by first | exact Or.inl rfl | exact Or.inr rfl) (pe_cl c_texts_in hr (by omega) (pa_cons (pe_tup (pa_cons (pe_tup (pa_cons pe_str (pa_cons pe_non pa_nil))) pa_nil)) (pa_cons (pe_op op_add pe_int (pe_cl c__law_draw hr (by omega) (pa_cons (pv 4) (pa_cons pe_int pa_nil)))) pa_nil))))) pss_nil)
      (pss_one (ps_if (pt_not (pt_val (pe_clG c__law_right hG hr (by omega) (pa_cons (pe_cl c__law_kind hr (by omega) (pa_cons (pv 4) pa_nil)) (pa_cons (pv 7) (pa_cons (pe_cl c__law_upto hr (by omega) (pa_cons (pv 4) pa_nil)) pa_nil)))))) (pss_one (ps_ret pe_bl)) pss_nil))))))
      (pss_one (ps_ret pe_bl))))))), ?_⟩
    have nn : ∀ {x : Addr}, x ∉ ([] : List Addr) := fun m => nomatch m
    have len1 : (1 : Nat) ≤ sizeLine := by decide
    refine ⟨Nat.zero_le _, fun pl npl => ⟨Nat.zero_le _, fun th nth => ?_⟩⟩
    have S1 : Stp [] H (upd H pl (.lst [])) := Stp.new npl _
    have hpl1 : (upd H pl (.lst [])) pl = some (.lst []) := upd_same
    generalize upd H pl (.lst []) = H1 at *
    have S2 : Stp [] H1 (upd H1 th (.lst [])) := Stp.new nth _
    have hth2 : (upd H1 th (.lst [])) th = some (.lst []) := upd_same
    have hpl2 := S2.kp _ _ nn hpl1
    have pt9 : pl ≠ th := ne_of_none hpl1 nth
    have hS2 := sql_up (S1.trans S2) hS
    have S02 := S1.trans S2
    have nthH : H th = none := S1.fresh nn nth
    generalize upd H1 th (.lst []) = H2 at *
    refine ⟨_, _, rfl, ?_⟩
    refine ⟨_, rfl, 40, rfl, a, _, rfl, hS2, fun p4 np4 => ?_⟩
    rw [show cutV (ns.map V.int) none (some 40) = _ from cut_upto 40, ← List.map_take]
    have S4 : Stp [] H2 (upd H2 p4 (.lst ((ns.take 40).map V.int))) := Stp.new np4 _
    have hp4 : (upd H2 p4 (.lst ((ns.take 40).map V.int))) p4 = some (.lst ((ns.take 40).map V.int)) := upd_same
    have hth4 := S4.kp _ _ nn hth2
    have hpl4 := S4.kp _ _ nn hpl2
    have p4t : p4 ≠ th := (ne_of_none hth2 np4).symm
    have p4p : p4 ≠ pl := (ne_of_none hpl2 np4).symm
    have S04 := S02.trans S4
    generalize upd H2 p4 (.lst ((ns.take 40).map V.int)) = H4 at *
    refine ⟨p4, rfl, ⟨_, SqL.of hp4⟩, ?_⟩
    refine for_list (K := K) (a := p4) (xs := (ns.take 40).map V.int) (fun i σ H5 => ∃ (x3 x4 x5 x6 : Option V) (os : List OT) (ls : List (List Nat)), σ = [some (.ref a), some (.ref pl), some (.ref th), x3, x4, x5, x6, none] ∧ H5 th = some (.lst (os.map vV)) ∧ OkV os ∧ os.length = i ∧ Pool H5 pl ls ∧ ls.length ≤ i ∧ H5 p4 = some (.lst ((ns.take 40).map V.int)) ∧ Stp [] H H5)
      ⟨_, _, _, _, [], [], rfl, hth4, OkV.nil, rfl, ⟨hpl4, fun _ m => nomatch m⟩, Nat.le_refl _, hp4, S04⟩ (fun i σ H5 _ ⟨_, _, _, _, _, _, _, _, _, _, _, _, h, _⟩ => SqL.of h) ?_ ?_
    · rintro i y σ H5 hi ⟨x3, x4, x5, x6, os, ls, rfl, hth5, okv, lo, pool5, ll, hp45, S5⟩
      obtain ⟨c0, rfl⟩ : ∃ c, y = V.int c := by
        rw [List.getElem?_map] at hi
        cases e : (ns.take 40)[i]? with
        | none => rw [e] at hi; cases hi
        | some u => rw [e] at hi; exact ⟨u, (Option.some.inj hi).symm⟩
      have i40 : i < 40 := by
        have := (List.getElem?_eq_some_iff.mp hi).1
        rw [List.length_map, List.length_take] at this
        omega
      refine ⟨_, rfl, c0, rfl, fun b H6 nb S6 B6 => ?_⟩
      have one : b ∈ [b] := List.mem_singleton.mpr rfl
      refine ⟨_, rfl, b, 4, _, rfl, B6, by decide, by decide, by decide, fun way H7 w0 w1 o7 B7 => ?_⟩
      have nbH : H b = none := S5.fresh nn nb
      have bpl : pl ≠ b := ne_of_none pool5.1 nb
      have bth : th ≠ b := ne_of_none hth5 nb
      have bp4 : p4 ≠ b := ne_of_none hp45 nb
      have pn : ∀ {x : Addr}, x ≠ b → x ∉ [b] := fun h m => h (List.mem_singleton.mp m)
      have S57 : Stp [b] H5 H7 := S6.nil.trans (o7.stp one)
      have hth7 := S57.kp _ _ (pn bth) hth5
      have hpl7 := S57.kp _ _ (pn bpl) pool5.1
      have hp47 := S57.kp _ _ (pn bp4) hp45
      dsimp only [gName]
      let SX := fun (w5 w6 : Option V) => [some (V.ref a), some (V.ref pl), some (V.ref th), some (V.int c0), some (V.ref b), w5, w6, none]
      let OKo := fun o : OT => ∀ l, o = some l → Abc l ∧ l.length ≤ 12
      refine seq_end (fun σ' H' => ∃ o : OT, σ' = SX (some (.int way)) (some (vV o)) ∧ OKo o ∧ Stp [b] H5 H' ∧ Bag H' b 100) ?_ (fun fin => ?_)
      rotate_left
      · refine ⟨_, rfl, rfl, _, rfl, ite2 (fun h => ?_) (fun h => ?_)⟩
        · exact fin _ _ ⟨none, rfl, fun l e => (nomatch e), S57, B7.mono (by decide)⟩
        · exact ⟨_, rfl, _, rfl, b, pl, _, ls, rfl, B7, by decide, ⟨hpl7, pool5.2⟩, Nat.lt_of_le_of_lt (show ls.length ≤ 100 by omega) (by decide), bpl.symm, fun m H8 am lm S8 B8 => fin _ _ ⟨some m, rfl, fun l e => by cases e; exact ⟨am, lm⟩, S57.trans S8, B8.mono (by decide)⟩⟩
      rintro σ' H8 ⟨o, rfl, oko, S58, B8⟩
      have hth8 := S58.kp _ _ (pn bth) hth5
      refine seq_end (fun σ' H' => ∃ o : OT, σ' = SX (some (.int way)) (some (vV o)) ∧ OKo o ∧ Stp [b] H5 H') ?_ (fun fin => ?_)
      rotate_left
      · refine ⟨_, rfl, rfl, _, rfl, ite2 (fun h => ?_) (fun h => fin _ _ ⟨o, rfl, oko, S58⟩)⟩
        refine ⟨_, rfl, Nat.zero_le _, fun e ne => ?_⟩
        have S9 : Stp [] H8 (upd H8 e (.lst [])) := Stp.new ne _
        have he9 : (upd H8 e (.lst [])) e = some (.lst []) := upd_same
        have hth9 := S9.kp _ _ nn hth8
        have B9 := B8.kp S9 nn
        have te : th ≠ e := ne_of_none hth8 ne
        generalize upd H8 e (.lst []) = H9 at *
        refine ⟨th, e, _, rfl, rfl, te, SqL.of hth9, SqL.of he9, _, rfl, ite2 (fun h => ?_) (fun h => fin _ _ ⟨o, rfl, oko, S58.trans S9.nil⟩)⟩
        have ne0 : 0 < os.length := by
          cases os with
          | nil => exact absurd h (by decide)
          | cons _ _ => simp
        refine ⟨_, rfl, _, rfl, _, rfl, th, _, rfl, .inl (SqL.of hth9), b, ((os.map vV).length : Int), _, rfl, B9, by decide, by rw [List.length_map]; omega, by rw [List.length_map]; omega, fun d HA d0 d1 oA BA => ?_⟩
        rw [List.length_map] at d1
        obtain ⟨d, rfl⟩ := Int.eq_ofNat_of_zero_le d0
        obtain ⟨x, ex⟩ : ∃ x, os[d]? = some x := ⟨_, List.getElem?_eq_getElem (by omega)⟩
        have hthA := oA.at hth9 bth
        refine ⟨th, _, (d : Int), vV x, rfl, rfl, SqL.of hthA, atI_nat (by rw [List.getElem?_map, ex]; rfl), ?_⟩
        exact fin _ _ ⟨x, rfl, fun l e => by subst e; exact okv l (List.mem_of_getElem? ex), (S58.trans S9.nil).trans (oA.stp one)⟩
      rintro σ' H9 ⟨o2, rfl, oko2, S59⟩
      have hth9 := S59.kp _ _ (pn bth) hth5
      have hpl9 := S59.kp _ _ (pn bpl) pool5.1
      have hp49 := S59.kp _ _ (pn bp4) hp45
      have few1 : (os.map vV).length < sizeLine := Nat.lt_of_le_of_lt (show _ ≤ 100 by rw [List.length_map]; omega) (by decide)
      refine ⟨_, rfl, .inl ⟨rfl, _, SqL.of hth9⟩, _, rfl, th, _, _, rfl, rfl, hth9, few1, ?_⟩
      rw [show os.map vV ++ [vV o2] = (os ++ [o2]).map vV from vV_snoc os o2]
      have SA : Stp [b, th, pl] H5 (upd H9 th (.lst ((os ++ [o2]).map vV))) := (S59.sub (by simp)).put' (by simp)
      have hthA : (upd H9 th (.lst ((os ++ [o2]).map vV))) th = some (.lst ((os ++ [o2]).map vV)) := upd_same
      have hplA : (upd H9 th (.lst ((os ++ [o2]).map vV))) pl = some (.lst (ls.map Tx)) := by rw [upd_ne pt9]; exact hpl9
      have hp4A : (upd H9 th (.lst ((os ++ [o2]).map vV))) p4 = some (.lst ((ns.take 40).map V.int)) := by rw [upd_ne p4t]; exact hp49
      generalize upd H9 th (.lst ((os ++ [o2]).map vV)) = HA at *
      have back : ∀ H', Stp [b, th, pl] H5 H' → Stp [] H H' := fun H' S' => Stp.loc npl (Stp.loc nthH (Stp.loc nbH ((S5.nil).trans S')) |>.sub (by simp))
      cases o2 with
      | none =>
        refine ⟨_, rfl, rfl, _, rfl, ite2 (fun h => absurd h (by decide)) (fun _ => ?_)⟩
        exact ⟨_, _, _, _, os ++ [none], ls, rfl, hthA, okv.snoc oko2, by rw [List.length_append, lo]; rfl, ⟨hplA, pool5.2⟩, by omega, hp4A, back _ SA⟩
      | some m =>
        refine ⟨_, rfl, rfl, _, rfl, ite2 (fun _ => ?_) (fun h => absurd (by simp [vV]) h)⟩
        refine ⟨_, rfl, .inl ⟨rfl, _, SqL.of hplA⟩, _, rfl, pl, _, _, rfl, rfl, hplA, Nat.lt_of_le_of_lt (show (ls.map Tx).length ≤ 100 by rw [List.length_map]; omega) (by decide), ?_⟩
        rw [show ls.map Tx ++ [vV (some m)] = (ls ++ [m]).map Tx by rw [List.map_append]; rfl]
        refine ⟨_, _, _, _, os ++ [some m], ls ++ [m], rfl, by rw [upd_ne pt9.symm]; exact hthA, okv.snoc oko2, by rw [List.length_append, lo]; rfl, ⟨upd_same, fun l ml => ?_⟩, by rw [List.length_append, List.length_singleton]; omega, by rw [upd_ne p4p]; exact hp4A, back _ (SA.put' (by simp))⟩
        rcases List.mem_append.mp ml with ml | ml
        · exact pool5.2 l ml
        · rw [List.mem_singleton.mp ml]; exact oko2 m rfl
    · rintro σ H5 ⟨x3, x4, x5, x6, os, ls, rfl, hth5, okv, lo, pool5, ll, hp45, S5⟩
      rw [List.length_map, List.length_take] at lo
      have hS5 := sql_up S5 hS
      refine ⟨_, rfl, a, rfl, ⟨_, hS5⟩, fun L nL => ?_⟩
      refine lc_vals (K := K) (os := ns) (φ := V.int) (r := fun n => .int n) nL hS5 (by omega) (fun i n H6 e S Q1 q1 => ⟨rfl, _, rfl, .inl ⟨_, rfl, q1 H6 (Stp.refl _ _)⟩⟩) (fun H6 S6 h6 => ?_)
      refine ⟨L, ns, rfl, SqL.of h6, ns.sum, rfl, fun b H7 nb S7 B7 => ?_⟩
      have hth7 := (S6.trans S7).kp _ _ nn hth5
      have S07 := S5.trans (S6.trans S7)
      have nbH : H b = none := (S5.trans S6).fresh nn nb
      have bth : th ∉ [b] := fun m => ne_of_none (S6.kp _ _ nn hth5) nb (List.mem_singleton.mp m)
      have lsb : ∀ {H' : Hp} {n : Nat}, Bag H' b n → Lsts H' [b] := fun B => by
        obtain ⟨z1, z2, z3, hb, _⟩ := B
        exact .one hb
      refine ⟨_, rfl, b, 0, rfl, B7, by decide, fun v r H8 S8 B8 okr rv8 => ?_⟩
      refine ⟨_, rfl, _, rfl, b, _, rfl, B8, by decide, fun u H9 u1 u2 S9 B9 => ?_⟩
      have rv9 := Rv.any (S' := []) ((Rv.any (S' := [b]) rv8 (noL_ru r)).stp S9 (lsb B8)) (noL_ru r)
      have hth9 := (S8.trans S9).kp _ _ bth hth7
      refine ⟨v, th, r, os, u, rfl, rv9, okr, hth9, okv.pgs (by omega), u1, u2, fun HA SA => ?_⟩
      refine ⟨_, rfl, ite2 (fun h => absurd h (by decide)) (fun _ => ?_)⟩
      dsimp only [tNext]
      have S0A : Stp [] H HA := Stp.loc nbH (((S07.nil).trans (S8.trans S9)).trans SA.nil)
      have hSA := sql_up S0A hS
      clear hth9 hth7 rv9 rv8 B9 B8 B7 hth5 hp45 pool5
      -- the columns
      refine ⟨_, rfl, 2, rfl, a, _, rfl, hSA, fun p5 np5 => ?_⟩
      rw [show cutV (ns.map V.int) none (some 2) = _ from cut_upto 2]
      have T1 : Stp [] HA (upd HA p5 (.lst ((ns.map V.int).take 2))) := Stp.new np5 _
      have hp5 : (upd HA p5 (.lst ((ns.map V.int).take 2))) p5 = some (.lst ((ns.map V.int).take 2)) := upd_same
      generalize upd HA p5 (.lst ((ns.map V.int).take 2)) = HB at *
      refine ⟨_, _, rfl, rfl, ⟨by decide, by decide, by decide⟩, _, _, rfl, rfl, len1, fun p2 np2 => ?_⟩
      have T2 : Stp [] HB (upd HB p2 (.lst [V.int (10 ^ (18 : Int).toNat + 5)])) := Stp.new np2 _
      refine ⟨p5, p2, _, _, rfl, rfl, T2.kp _ _ nn hp5, upd_same, ?_, fun p3 np3 => ?_⟩
      · rw [List.length_take, List.length_map]
        exact sz (by simp; omega)
      obtain ⟨cs, ecs⟩ : ∃ cs : List Int, (ns.map V.int).take 2 ++ [V.int (10 ^ (18 : Int).toNat + 5)] = cs.map V.int := ⟨ns.take 2 ++ [10 ^ (18 : Int).toNat + 5], by rw [← List.map_take, List.map_append]; rfl⟩
      rw [ecs]
      refine ⟨p3, rfl, ⟨_, SqL.of upd_same⟩, for_list (K := K) (a := p3) (xs := cs.map V.int) (fun i σ H1 => ∃ x1 x2 x3 x4 x5 x6 x7 : Option V, σ = [some (.ref a), x1, x2, x3, x4, x5, x6, x7] ∧ H1 p3 = some (.lst (cs.map V.int)))
        ⟨_, _, _, _, _, _, _, rfl, upd_same⟩ (fun i σ H1 _ ⟨_, _, _, _, _, _, _, _, h⟩ => SqL.of h) ?_ (fun σ H1 ⟨x1, x2, x3, x4, x5, x6, x7, e, _⟩ => by rw [e]; exact k _)⟩
      rintro i y σ H1 hi ⟨x1, x2, x3, x4, x5, x6, x7, rfl, h3⟩
      obtain ⟨c0, rfl⟩ : ∃ c, y = V.int c := by
        rw [List.getElem?_map] at hi
        cases e : cs[i]? with
        | none => rw [e] at hi; cases hi
        | some u => rw [e] at hi; exact ⟨u, (Option.some.inj hi).symm⟩
      clear hS5 hSA S0A T1 T2 hp5 S07 S5 S6 S7 S8 S9 SA bth nbH nb lsb
      clear b
      refine ⟨_, rfl, c0, rfl, fun b H2 nb S2 B2 => ?_⟩
      have lsb : ∀ {H' : Hp} {n : Nat}, Bag H' b n → Lsts H' [b] := fun B => by
        obtain ⟨z1, z2, z3, hb, _⟩ := B
        exact .one hb
      have h32 : H2 p3 = some (.lst (cs.map V.int)) := S2.kp _ _ nn h3
      have n3b : p3 ≠ b := ne_of_none h3 nb
      have n3m : p3 ∉ [b] := fun m => n3b (List.mem_singleton.mp m)
      have one : b ∈ [b] := List.mem_singleton.mpr rfl
      refine ⟨_, rfl, b, 40, _, rfl, B2, by decide, by decide, by decide, fun fo os0 H6 nf hf6 ok0 pos0 few0 S6 B6 => ?_⟩
      have h36 := S6.kp _ _ n3m h32
      have fb : fo ≠ b := (B2.ne nf).symm
      dsimp only [gName]
      refine seq_end (fun σ' H' => ∃ (c : Addr) (os : List OT), σ' = [some (.ref a), x1, x2, some (.int c0), some (.ref b), x5, x6, some (.ref c)] ∧ H' c = some (.lst (os.map vV)) ∧ c ≠ b ∧ Pgs os ∧ H' p3 = some (.lst (cs.map V.int)) ∧ Bag H' b 5000) ?_ (fun fin => ?_)
      rotate_left
      · refine ⟨_, rfl, b, 6, _, rfl, B6, by decide, by decide, by decide, fun d2 H7 e0 e1 o7 B7 => ?_⟩
        have hf7 := o7.at hf6 fb
        have h37 := o7.at h36 n3b
        refine ⟨rfl, _, rfl, ite2 (fun h => ?_) (fun h => ?_)⟩
        · refine ⟨(by show 2 ≤ sizeLine; decide), fun t nt => ⟨(by show 1 ≤ sizeLine; decide), fun a2 na => ?_⟩⟩
          have St : Stp [] H7 (upd H7 t (.tup [.str "ab", .non])) := Stp.new nt _
          have Sa := St.new' (o := .tup [.ref t]) na
          have at_ne : t ≠ a2 := ne_of_none upd_same na
          have ht : SqT K (upd (upd H7 t (.tup [.str "ab", .non])) a2 (.tup [.ref t])) t [.str "ab", .non] := SqT.of (by rw [upd_ne at_ne]; exact upd_same)
          have ha : SqT K (upd (upd H7 t (.tup [.str "ab", .non])) a2 (.tup [.ref t])) a2 [.ref t] := SqT.of upd_same
          have B8 := B7.kp Sa nn
          have h38 := Sa.kp _ _ nn h37
          generalize upd (upd H7 t (.tup [.str "ab", .non])) a2 (.tup [.ref t]) = H8 at *
          refine ⟨_, rfl, b, 12, _, rfl, B8, by decide, by decide, by decide, fun d3 H9 f0 f1 o9 B9 => ?_⟩
          obtain ⟨m, rfl⟩ := Int.eq_ofNat_of_zero_le f0
          have S9 : Stp [b] H8 H9 := o9.stp one
          refine ⟨_, _, rfl, rfl, a2, abP, 14 + m, rfl, ab_spn (sqt_stp S9 (lsb B8) ha) (sqt_stp S9 (lsb B8) ht), by omega, by omega, fun q HA nq SA hq => ?_⟩
          rw [ab_tks] at hq
          exact fin _ _ ⟨q, abOs (14 + m), rfl, hq, (B9.ne nq).symm, ab_pgs (by omega), SA.kp _ _ nn (S9.kp _ _ n3m h38), (B9.kp SA nn).mono (by decide)⟩
        · exact fin _ _ ⟨fo, os0, rfl, hf7, fb, ok0.pgs (by omega), h37, B7.mono (by decide)⟩
      rintro σ H7 ⟨c, os, rfl, hc7, cb, ok, h37, B7⟩
      have cm : c ∉ [b] := fun m => cb (List.mem_singleton.mp m)
      refine ⟨_, rfl, b, _, rfl, B7, by decide, fun v r H8 S8 B8 okr rv8 => ?_⟩
      refine ⟨_, rfl, _, rfl, b, _, rfl, B8, by decide, fun u H9 u1 u2 S9 B9 => ?_⟩
      have rv9 := Rv.any (S' := []) ((Rv.any (S' := [b]) rv8 (noL_ru r)).stp S9 (lsb B8)) (noL_ru r)
      refine ⟨v, c, r, os, u, rfl, rv9, okr, (S8.trans S9).kp _ _ cm hc7, ok, u1, u2, fun HA SA => ?_⟩
      refine ⟨_, rfl, ite2 (fun h => absurd h (by decide)) (fun _ => ?_)⟩
      exact ⟨_, _, _, _, _, _, _, rfl, SA.kp _ _ nn ((S8.trans S9).kp _ _ n3m h37)⟩
/-! ### what the top has written, the head -/
theorem all_mk {l : PySem.W.OpenLaw} {w : World} {K : PySem.W.Frag} {h : Heap} {mg : Str → Option Value} {fa : Addr} (X : K.In h) (G : h.Ns mainGlobals mg) (hfa : mg "law" = some (.ref fa))
    {f0 : Addr} {od0 an0 : Option Addr} {sl0 : Array (Option Value)} {oc0 kV0 dc0 pm0 cd0 ct0 : Value}
    (a0 : PySem.W.nsIn K mainGlobals "is_text" = some (some (.ref f0))) (l0 : K.lookup f0 = some ⟨oc0, od0, .func (PySem.W.fnOf "is_text" "is_text" (defArgs s_is_text) (defBody s_is_text) (defScope s_is_text) .none kV0 dc0 pm0 an0 cd0 ct0), sl0⟩) (c0 : PySem.W.codeIn K cd0 "is_text" = true) (k0 : PySem.W.keepIn K (.ref f0) = true)
    {f1 : Addr} {od1 an1 : Option Addr} {sl1 : Array (Option Value)} {oc1 kV1 dc1 pm1 cd1 ct1 : Value}
    (a1 : PySem.W.nsIn K mainGlobals "check_text" = some (some (.ref f1))) (l1 : K.lookup f1 = some ⟨oc1, od1, .func (PySem.W.fnOf "check_text" "check_text" (defArgs s_check_text) (defBody s_check_text) (defScope s_check_text) .none kV1 dc1 pm1 an1 cd1 ct1), sl1⟩) (c1 : PySem.W.codeIn K cd1 "check_text" = true) (k1 : PySem.W.keepIn K (.ref f1) = true)
    {f2 : Addr} {od2 an2 : Option Addr} {sl2 : Array (Option Value)} {oc2 kV2 dc2 pm2 cd2 ct2 : Value}
    (a2 : PySem.W.nsIn K mainGlobals "beyond" = some (some (.ref f2))) (l2 : K.lookup f2 = some ⟨oc2, od2, .func (PySem.W.fnOf "beyond" "beyond" (defArgs s_beyond) (defBody s_beyond) (defScope s_beyond) .none kV2 dc2 pm2 an2 cd2 ct2), sl2⟩) (c2 : PySem.W.codeIn K cd2 "beyond" = true) (k2 : PySem.W.keepIn K (.ref f2) = true)
    {f3 : Addr} {od3 an3 : Option Addr} {sl3 : Array (Option Value)} {oc3 kV3 dc3 pm3 cd3 ct3 : Value}
    (a3 : PySem.W.nsIn K mainGlobals "ascending" = some (some (.ref f3))) (l3 : K.lookup f3 = some ⟨oc3, od3, .func (PySem.W.fnOf "ascending" "ascending" (defArgs s_ascending) (defBody s_ascending) (defScope s_ascending) .none kV3 dc3 pm3 an3 cd3 ct3), sl3⟩) (c3 : PySem.W.codeIn K cd3 "ascending" = true) (k3 : PySem.W.keepIn K (.ref f3) = true)
    {f4 : Addr} {od4 an4 : Option Addr} {sl4 : Array (Option Value)} {oc4 kV4 dc4 pm4 cd4 ct4 : Value}
    (a4 : PySem.W.nsIn K mainGlobals "is_value" = some (some (.ref f4))) (l4 : K.lookup f4 = some ⟨oc4, od4, .func (PySem.W.fnOf "is_value" "is_value" (defArgs s_is_value) (defBody s_is_value) (defScope s_is_value) .none kV4 dc4 pm4 an4 cd4 ct4), sl4⟩) (c4 : PySem.W.codeIn K cd4 "is_value" = true) (k4 : PySem.W.keepIn K (.ref f4) = true)
    {f5 : Addr} {od5 an5 : Option Addr} {sl5 : Array (Option Value)} {oc5 kV5 dc5 pm5 cd5 ct5 : Value}
    (a5 : PySem.W.nsIn K mainGlobals "is_rule" = some (some (.ref f5))) (l5 : K.lookup f5 = some ⟨oc5, od5, .func (PySem.W.fnOf "is_rule" "is_rule" (defArgs s_is_rule) (defBody s_is_rule) (defScope s_is_rule) .none kV5 dc5 pm5 an5 cd5 ct5), sl5⟩) (c5 : PySem.W.codeIn K cd5 "is_rule" = true) (k5 : PySem.W.keepIn K (.ref f5) = true)
    {f6 : Addr} {od6 an6 : Option Addr} {sl6 : Array (Option Value)} {oc6 kV6 dc6 pm6 cd6 ct6 : Value}
    (a6 : PySem.W.nsIn K mainGlobals "is_lacks_part" = some (some (.ref f6))) (l6 : K.lookup f6 = some ⟨oc6, od6, .func (PySem.W.fnOf "is_lacks_part" "is_lacks_part" (defArgs s_is_lacks_part) (defBody s_is_lacks_part) (defScope s_is_lacks_part) .none kV6 dc6 pm6 an6 cd6 ct6), sl6⟩) (c6 : PySem.W.codeIn K cd6 "is_lacks_part" = true) (k6 : PySem.W.keepIn K (.ref f6) = true)
    {f7 : Addr} {od7 an7 : Option Addr} {sl7 : Array (Option Value)} {oc7 kV7 dc7 pm7 cd7 ct7 : Value}
    (a7 : PySem.W.nsIn K mainGlobals "is_low_part" = some (some (.ref f7))) (l7 : K.lookup f7 = some ⟨oc7, od7, .func (PySem.W.fnOf "is_low_part" "is_low_part" (defArgs s_is_low_part) (defBody s_is_low_part) (defScope s_is_low_part) .none kV7 dc7 pm7 an7 cd7 ct7), sl7⟩) (c7 : PySem.W.codeIn K cd7 "is_low_part" = true) (k7 : PySem.W.keepIn K (.ref f7) = true)
    {f8 : Addr} {od8 an8 : Option Addr} {sl8 : Array (Option Value)} {oc8 kV8 dc8 pm8 cd8 ct8 : Value}
    (a8 : PySem.W.nsIn K mainGlobals "is_high_part" = some (some (.ref f8))) (l8 : K.lookup f8 = some ⟨oc8, od8, .func (PySem.W.fnOf "is_high_part" "is_high_part" (defArgs s_is_high_part) (defBody s_is_high_part) (defScope s_is_high_part) .none kV8 dc8 pm8 an8 cd8 ct8), sl8⟩) (c8 : PySem.W.codeIn K cd8 "is_high_part" = true) (k8 : PySem.W.keepIn K (.ref f8) = true)
    {f9 : Addr} {od9 an9 : Option Addr} {sl9 : Array (Option Value)} {oc9 kV9 dc9 pm9 cd9 ct9 : Value}
    (a9 : PySem.W.nsIn K mainGlobals "is_lost" = some (some (.ref f9))) (l9 : K.lookup f9 = some ⟨oc9, od9, .func (PySem.W.fnOf "is_lost" "is_lost" (defArgs s_is_lost) (defBody s_is_lost) (defScope s_is_lost) .none kV9 dc9 pm9 an9 cd9 ct9), sl9⟩) (c9 : PySem.W.codeIn K cd9 "is_lost" = true) (k9 : PySem.W.keepIn K (.ref f9) = true)
    {f10 : Addr} {od10 an10 : Option Addr} {sl10 : Array (Option Value)} {oc10 kV10 dc10 pm10 cd10 ct10 : Value}
    (a10 : PySem.W.nsIn K mainGlobals "is_letter_number" = some (some (.ref f10))) (l10 : K.lookup f10 = some ⟨oc10, od10, .func (PySem.W.fnOf "is_letter_number" "is_letter_number" (defArgs s_is_letter_number) (defBody s_is_letter_number) (defScope s_is_letter_number) .none kV10 dc10 pm10 an10 cd10 ct10), sl10⟩) (c10 : PySem.W.codeIn K cd10 "is_letter_number" = true) (k10 : PySem.W.keepIn K (.ref f10) = true)
    {f11 : Addr} {od11 an11 : Option Addr} {sl11 : Array (Option Value)} {oc11 kV11 dc11 pm11 cd11 ct11 : Value}
    (a11 : PySem.W.nsIn K mainGlobals "is_page" = some (some (.ref f11))) (l11 : K.lookup f11 = some ⟨oc11, od11, .func (PySem.W.fnOf "is_page" "is_page" (defArgs s_is_page) (defBody s_is_page) (defScope s_is_page) .none kV11 dc11 pm11 an11 cd11 ct11), sl11⟩) (c11 : PySem.W.codeIn K cd11 "is_page" = true) (k11 : PySem.W.keepIn K (.ref f11) = true)
    {f12 : Addr} {od12 an12 : Option Addr} {sl12 : Array (Option Value)} {oc12 kV12 dc12 pm12 cd12 ct12 : Value}
    (a12 : PySem.W.nsIn K mainGlobals "check_rule" = some (some (.ref f12))) (l12 : K.lookup f12 = some ⟨oc12, od12, .func (PySem.W.fnOf "check_rule" "check_rule" (defArgs s_check_rule) (defBody s_check_rule) (defScope s_check_rule) .none kV12 dc12 pm12 an12 cd12 ct12), sl12⟩) (c12 : PySem.W.codeIn K cd12 "check_rule" = true) (k12 : PySem.W.keepIn K (.ref f12) = true)
    {f13 : Addr} {od13 an13 : Option Addr} {sl13 : Array (Option Value)} {oc13 kV13 dc13 pm13 cd13 ct13 : Value}
    (a13 : PySem.W.nsIn K mainGlobals "check_page" = some (some (.ref f13))) (l13 : K.lookup f13 = some ⟨oc13, od13, .func (PySem.W.fnOf "check_page" "check_page" (defArgs s_check_page) (defBody s_check_page) (defScope s_check_page) .none kV13 dc13 pm13 an13 cd13 ct13), sl13⟩) (c13 : PySem.W.codeIn K cd13 "check_page" = true) (k13 : PySem.W.keepIn K (.ref f13) = true)
    {f14 : Addr} {od14 an14 : Option Addr} {sl14 : Array (Option Value)} {oc14 kV14 dc14 pm14 cd14 ct14 : Value}
    (a14 : PySem.W.nsIn K mainGlobals "note" = some (some (.ref f14))) (l14 : K.lookup f14 = some ⟨oc14, od14, .func (PySem.W.fnOf "note" "note" (defArgs s_note) (defBody s_note) (defScope s_note) .none kV14 dc14 pm14 an14 cd14 ct14), sl14⟩) (c14 : PySem.W.codeIn K cd14 "note" = true) (k14 : PySem.W.keepIn K (.ref f14) = true)
    {f15 : Addr} {od15 an15 : Option Addr} {sl15 : Array (Option Value)} {oc15 kV15 dc15 pm15 cd15 ct15 : Value}
    (a15 : PySem.W.nsIn K mainGlobals "lacks_note" = some (some (.ref f15))) (l15 : K.lookup f15 = some ⟨oc15, od15, .func (PySem.W.fnOf "lacks_note" "lacks_note" (defArgs s_lacks_note) (defBody s_lacks_note) (defScope s_lacks_note) .none kV15 dc15 pm15 an15 cd15 ct15), sl15⟩) (c15 : PySem.W.codeIn K cd15 "lacks_note" = true) (k15 : PySem.W.keepIn K (.ref f15) = true)
    {f16 : Addr} {od16 an16 : Option Addr} {sl16 : Array (Option Value)} {oc16 kV16 dc16 pm16 cd16 ct16 : Value}
    (a16 : PySem.W.nsIn K mainGlobals "low_note" = some (some (.ref f16))) (l16 : K.lookup f16 = some ⟨oc16, od16, .func (PySem.W.fnOf "low_note" "low_note" (defArgs s_low_note) (defBody s_low_note) (defScope s_low_note) .none kV16 dc16 pm16 an16 cd16 ct16), sl16⟩) (c16 : PySem.W.codeIn K cd16 "low_note" = true) (k16 : PySem.W.keepIn K (.ref f16) = true)
    {f17 : Addr} {od17 an17 : Option Addr} {sl17 : Array (Option Value)} {oc17 kV17 dc17 pm17 cd17 ct17 : Value}
    (a17 : PySem.W.nsIn K mainGlobals "high_note" = some (some (.ref f17))) (l17 : K.lookup f17 = some ⟨oc17, od17, .func (PySem.W.fnOf "high_note" "high_note" (defArgs s_high_note) (defBody s_high_note) (defScope s_high_note) .none kV17 dc17 pm17 an17 cd17 ct17), sl17⟩) (c17 : PySem.W.codeIn K cd17 "high_note" = true) (k17 : PySem.W.keepIn K (.ref f17) = true)
    {f18 : Addr} {od18 an18 : Option Addr} {sl18 : Array (Option Value)} {oc18 kV18 dc18 pm18 cd18 ct18 : Value}
    (a18 : PySem.W.nsIn K mainGlobals "is_range" = some (some (.ref f18))) (l18 : K.lookup f18 = some ⟨oc18, od18, .func (PySem.W.fnOf "is_range" "is_range" (defArgs s_is_range) (defBody s_is_range) (defScope s_is_range) .none kV18 dc18 pm18 an18 cd18 ct18), sl18⟩) (c18 : PySem.W.codeIn K cd18 "is_range" = true) (k18 : PySem.W.keepIn K (.ref f18) = true)
    {f19 : Addr} {od19 an19 : Option Addr} {sl19 : Array (Option Value)} {oc19 kV19 dc19 pm19 cd19 ct19 : Value}
    (a19 : PySem.W.nsIn K mainGlobals "is_span" = some (some (.ref f19))) (l19 : K.lookup f19 = some ⟨oc19, od19, .func (PySem.W.fnOf "is_span" "is_span" (defArgs s_is_span) (defBody s_is_span) (defScope s_is_span) .none kV19 dc19 pm19 an19 cd19 ct19), sl19⟩) (c19 : PySem.W.codeIn K cd19 "is_span" = true) (k19 : PySem.W.keepIn K (.ref f19) = true)
    {f20 : Addr} {od20 an20 : Option Addr} {sl20 : Array (Option Value)} {oc20 kV20 dc20 pm20 cd20 ct20 : Value}
    (a20 : PySem.W.nsIn K mainGlobals "reaches" = some (some (.ref f20))) (l20 : K.lookup f20 = some ⟨oc20, od20, .func (PySem.W.fnOf "reaches" "reaches" (defArgs s_reaches) (defBody s_reaches) (defScope s_reaches) .none kV20 dc20 pm20 an20 cd20 ct20), sl20⟩) (c20 : PySem.W.codeIn K cd20 "reaches" = true) (k20 : PySem.W.keepIn K (.ref f20) = true)
    {f21 : Addr} {od21 an21 : Option Addr} {sl21 : Array (Option Value)} {oc21 kV21 dc21 pm21 cd21 ct21 : Value}
    (a21 : PySem.W.nsIn K mainGlobals "check_span" = some (some (.ref f21))) (l21 : K.lookup f21 = some ⟨oc21, od21, .func (PySem.W.fnOf "check_span" "check_span" (defArgs s_check_span) (defBody s_check_span) (defScope s_check_span) .none kV21 dc21 pm21 an21 cd21 ct21), sl21⟩) (c21 : PySem.W.codeIn K cd21 "check_span" = true) (k21 : PySem.W.keepIn K (.ref f21) = true)
    {f22 : Addr} {od22 an22 : Option Addr} {sl22 : Array (Option Value)} {oc22 kV22 dc22 pm22 cd22 ct22 : Value}
    (a22 : PySem.W.nsIn K mainGlobals "check_most" = some (some (.ref f22))) (l22 : K.lookup f22 = some ⟨oc22, od22, .func (PySem.W.fnOf "check_most" "check_most" (defArgs s_check_most) (defBody s_check_most) (defScope s_check_most) .none kV22 dc22 pm22 an22 cd22 ct22), sl22⟩) (c22 : PySem.W.codeIn K cd22 "check_most" = true) (k22 : PySem.W.keepIn K (.ref f22) = true)
    {f23 : Addr} {od23 an23 : Option Addr} {sl23 : Array (Option Value)} {oc23 kV23 dc23 pm23 cd23 ct23 : Value}
    (a23 : PySem.W.nsIn K mainGlobals "behind" = some (some (.ref f23))) (l23 : K.lookup f23 = some ⟨oc23, od23, .func (PySem.W.fnOf "behind" "behind" (defArgs s_behind) (defBody s_behind) (defScope s_behind) .none kV23 dc23 pm23 an23 cd23 ct23), sl23⟩) (c23 : PySem.W.codeIn K cd23 "behind" = true) (k23 : PySem.W.keepIn K (.ref f23) = true)
    {f24 : Addr} {od24 an24 : Option Addr} {sl24 : Array (Option Value)} {oc24 kV24 dc24 pm24 cd24 ct24 : Value}
    (a24 : PySem.W.nsIn K mainGlobals "texts_in" = some (some (.ref f24))) (l24 : K.lookup f24 = some ⟨oc24, od24, .func (PySem.W.fnOf "texts_in" "texts_in" (defArgs s_texts_in) (defBody s_texts_in) (defScope s_texts_in) .none kV24 dc24 pm24 an24 cd24 ct24), sl24⟩) (c24 : PySem.W.codeIn K cd24 "texts_in" = true) (k24 : PySem.W.keepIn K (.ref f24) = true)
    {f25 : Addr} {od25 an25 : Option Addr} {sl25 : Array (Option Value)} {oc25 kV25 dc25 pm25 cd25 ct25 : Value}
    (a25 : PySem.W.nsIn K mainGlobals "check_column" = some (some (.ref f25))) (l25 : K.lookup f25 = some ⟨oc25, od25, .func (PySem.W.fnOf "check_column" "check_column" (defArgs s_check_column) (defBody s_check_column) (defScope s_check_column) .none kV25 dc25 pm25 an25 cd25 ct25), sl25⟩) (c25 : PySem.W.codeIn K cd25 "check_column" = true) (k25 : PySem.W.keepIn K (.ref f25) = true)
    {f26 : Addr} {od26 an26 : Option Addr} {sl26 : Array (Option Value)} {oc26 kV26 dc26 pm26 cd26 ct26 : Value}
    (a26 : PySem.W.nsIn K mainGlobals "digits" = some (some (.ref f26))) (l26 : K.lookup f26 = some ⟨oc26, od26, .func (PySem.W.fnOf "digits" "digits" (defArgs s_digits) (defBody s_digits) (defScope s_digits) .none kV26 dc26 pm26 an26 cd26 ct26), sl26⟩) (c26 : PySem.W.codeIn K cd26 "digits" = true) (k26 : PySem.W.keepIn K (.ref f26) = true)
    {f27 : Addr} {od27 an27 : Option Addr} {sl27 : Array (Option Value)} {oc27 kV27 dc27 pm27 cd27 ct27 : Value}
    (a27 : PySem.W.nsIn K mainGlobals "value_signs" = some (some (.ref f27))) (l27 : K.lookup f27 = some ⟨oc27, od27, .func (PySem.W.fnOf "value_signs" "value_signs" (defArgs s_value_signs) (defBody s_value_signs) (defScope s_value_signs) .none kV27 dc27 pm27 an27 cd27 ct27), sl27⟩) (c27 : PySem.W.codeIn K cd27 "value_signs" = true) (k27 : PySem.W.keepIn K (.ref f27) = true)
    {f28 : Addr} {od28 an28 : Option Addr} {sl28 : Array (Option Value)} {oc28 kV28 dc28 pm28 cd28 ct28 : Value}
    (a28 : PySem.W.nsIn K mainGlobals "plain_signs" = some (some (.ref f28))) (l28 : K.lookup f28 = some ⟨oc28, od28, .func (PySem.W.fnOf "plain_signs" "plain_signs" (defArgs s_plain_signs) (defBody s_plain_signs) (defScope s_plain_signs) .none kV28 dc28 pm28 an28 cd28 ct28), sl28⟩) (c28 : PySem.W.codeIn K cd28 "plain_signs" = true) (k28 : PySem.W.keepIn K (.ref f28) = true)
    {f29 : Addr} {od29 an29 : Option Addr} {sl29 : Array (Option Value)} {oc29 kV29 dc29 pm29 cd29 ct29 : Value}
    (a29 : PySem.W.nsIn K mainGlobals "runs_signs" = some (some (.ref f29))) (l29 : K.lookup f29 = some ⟨oc29, od29, .func (PySem.W.fnOf "runs_signs" "runs_signs" (defArgs s_runs_signs) (defBody s_runs_signs) (defScope s_runs_signs) .none kV29 dc29 pm29 an29 cd29 ct29), sl29⟩) (c29 : PySem.W.codeIn K cd29 "runs_signs" = true) (k29 : PySem.W.keepIn K (.ref f29) = true)
    {f30 : Addr} {od30 an30 : Option Addr} {sl30 : Array (Option Value)} {oc30 kV30 dc30 pm30 cd30 ct30 : Value}
    (a30 : PySem.W.nsIn K mainGlobals "stretches" = some (some (.ref f30))) (l30 : K.lookup f30 = some ⟨oc30, od30, .func (PySem.W.fnOf "stretches" "stretches" (defArgs s_stretches) (defBody s_stretches) (defScope s_stretches) .none kV30 dc30 pm30 an30 cd30 ct30), sl30⟩) (c30 : PySem.W.codeIn K cd30 "stretches" = true) (k30 : PySem.W.keepIn K (.ref f30) = true)
    {f31 : Addr} {od31 an31 : Option Addr} {sl31 : Array (Option Value)} {oc31 kV31 dc31 pm31 cd31 ct31 : Value}
    (a31 : PySem.W.nsIn K mainGlobals "table_signs" = some (some (.ref f31))) (l31 : K.lookup f31 = some ⟨oc31, od31, .func (PySem.W.fnOf "table_signs" "table_signs" (defArgs s_table_signs) (defBody s_table_signs) (defScope s_table_signs) .none kV31 dc31 pm31 an31 cd31 ct31), sl31⟩) (c31 : PySem.W.codeIn K cd31 "table_signs" = true) (k31 : PySem.W.keepIn K (.ref f31) = true)
    {f32 : Addr} {od32 an32 : Option Addr} {sl32 : Array (Option Value)} {oc32 kV32 dc32 pm32 cd32 ct32 : Value}
    (a32 : PySem.W.nsIn K mainGlobals "shared_signs" = some (some (.ref f32))) (l32 : K.lookup f32 = some ⟨oc32, od32, .func (PySem.W.fnOf "shared_signs" "shared_signs" (defArgs s_shared_signs) (defBody s_shared_signs) (defScope s_shared_signs) .none kV32 dc32 pm32 an32 cd32 ct32), sl32⟩) (c32 : PySem.W.codeIn K cd32 "shared_signs" = true) (k32 : PySem.W.keepIn K (.ref f32) = true)
    {f33 : Addr} {od33 an33 : Option Addr} {sl33 : Array (Option Value)} {oc33 kV33 dc33 pm33 cd33 ct33 : Value}
    (a33 : PySem.W.nsIn K mainGlobals "signs_behind" = some (some (.ref f33))) (l33 : K.lookup f33 = some ⟨oc33, od33, .func (PySem.W.fnOf "signs_behind" "signs_behind" (defArgs s_signs_behind) (defBody s_signs_behind) (defScope s_signs_behind) .none kV33 dc33 pm33 an33 cd33 ct33), sl33⟩) (c33 : PySem.W.codeIn K cd33 "signs_behind" = true) (k33 : PySem.W.keepIn K (.ref f33) = true)
    {f34 : Addr} {od34 an34 : Option Addr} {sl34 : Array (Option Value)} {oc34 kV34 dc34 pm34 cd34 ct34 : Value}
    (a34 : PySem.W.nsIn K mainGlobals "letters_shared" = some (some (.ref f34))) (l34 : K.lookup f34 = some ⟨oc34, od34, .func (PySem.W.fnOf "letters_shared" "letters_shared" (defArgs s_letters_shared) (defBody s_letters_shared) (defScope s_letters_shared) .none kV34 dc34 pm34 an34 cd34 ct34), sl34⟩) (c34 : PySem.W.codeIn K cd34 "letters_shared" = true) (k34 : PySem.W.keepIn K (.ref f34) = true)
    {f35 : Addr} {od35 an35 : Option Addr} {sl35 : Array (Option Value)} {oc35 kV35 dc35 pm35 cd35 ct35 : Value}
    (a35 : PySem.W.nsIn K mainGlobals "note_signs" = some (some (.ref f35))) (l35 : K.lookup f35 = some ⟨oc35, od35, .func (PySem.W.fnOf "note_signs" "note_signs" (defArgs s_note_signs) (defBody s_note_signs) (defScope s_note_signs) .none kV35 dc35 pm35 an35 cd35 ct35), sl35⟩) (c35 : PySem.W.codeIn K cd35 "note_signs" = true) (k35 : PySem.W.keepIn K (.ref f35) = true)
    {f36 : Addr} {od36 an36 : Option Addr} {sl36 : Array (Option Value)} {oc36 kV36 dc36 pm36 cd36 ct36 : Value}
    (a36 : PySem.W.nsIn K mainGlobals "lacks_signs" = some (some (.ref f36))) (l36 : K.lookup f36 = some ⟨oc36, od36, .func (PySem.W.fnOf "lacks_signs" "lacks_signs" (defArgs s_lacks_signs) (defBody s_lacks_signs) (defScope s_lacks_signs) .none kV36 dc36 pm36 an36 cd36 ct36), sl36⟩) (c36 : PySem.W.codeIn K cd36 "lacks_signs" = true) (k36 : PySem.W.keepIn K (.ref f36) = true)
    {f37 : Addr} {od37 an37 : Option Addr} {sl37 : Array (Option Value)} {oc37 kV37 dc37 pm37 cd37 ct37 : Value}
    (a37 : PySem.W.nsIn K mainGlobals "best_code" = some (some (.ref f37))) (l37 : K.lookup f37 = some ⟨oc37, od37, .func (PySem.W.fnOf "best_code" "best_code" (defArgs s_best_code) (defBody s_best_code) (defScope s_best_code) .none kV37 dc37 pm37 an37 cd37 ct37), sl37⟩) (c37 : PySem.W.codeIn K cd37 "best_code" = true) (k37 : PySem.W.keepIn K (.ref f37) = true)
    {f38 : Addr} {od38 an38 : Option Addr} {sl38 : Array (Option Value)} {oc38 kV38 dc38 pm38 cd38 ct38 : Value}
    (a38 : PySem.W.nsIn K mainGlobals "cheapest" = some (some (.ref f38))) (l38 : K.lookup f38 = some ⟨oc38, od38, .func (PySem.W.fnOf "cheapest" "cheapest" (defArgs s_cheapest) (defBody s_cheapest) (defScope s_cheapest) .none kV38 dc38 pm38 an38 cd38 ct38), sl38⟩) (c38 : PySem.W.codeIn K cd38 "cheapest" = true) (k38 : PySem.W.keepIn K (.ref f38) = true)
    {f39 : Addr} {od39 an39 : Option Addr} {sl39 : Array (Option Value)} {oc39 kV39 dc39 pm39 cd39 ct39 : Value}
    (a39 : PySem.W.nsIn K mainGlobals "cheapest_from" = some (some (.ref f39))) (l39 : K.lookup f39 = some ⟨oc39, od39, .func (PySem.W.fnOf "cheapest_from" "cheapest_from" (defArgs s_cheapest_from) (defBody s_cheapest_from) (defScope s_cheapest_from) .none kV39 dc39 pm39 an39 cd39 ct39), sl39⟩) (c39 : PySem.W.codeIn K cd39 "cheapest_from" = true) (k39 : PySem.W.keepIn K (.ref f39) = true)
    {f40 : Addr} {od40 an40 : Option Addr} {sl40 : Array (Option Value)} {oc40 kV40 dc40 pm40 cd40 ct40 : Value}
    (a40 : PySem.W.nsIn K mainGlobals "_law_bag" = some (some (.ref f40))) (l40 : K.lookup f40 = some ⟨oc40, od40, .func (PySem.W.fnOf "_law_bag" "_law_bag" (defArgs s__law_bag) (defBody s__law_bag) (defScope s__law_bag) .none kV40 dc40 pm40 an40 cd40 ct40), sl40⟩) (c40 : PySem.W.codeIn K cd40 "_law_bag" = true) (k40 : PySem.W.keepIn K (.ref f40) = true)
    {f41 : Addr} {od41 an41 : Option Addr} {sl41 : Array (Option Value)} {oc41 kV41 dc41 pm41 cd41 ct41 : Value}
    (a41 : PySem.W.nsIn K mainGlobals "_law_draw" = some (some (.ref f41))) (l41 : K.lookup f41 = some ⟨oc41, od41, .func (PySem.W.fnOf "_law_draw" "_law_draw" (defArgs s__law_draw) (defBody s__law_draw) (defScope s__law_draw) .none kV41 dc41 pm41 an41 cd41 ct41), sl41⟩) (c41 : PySem.W.codeIn K cd41 "_law_draw" = true) (k41 : PySem.W.keepIn K (.ref f41) = true)
    {f42 : Addr} {od42 an42 : Option Addr} {sl42 : Array (Option Value)} {oc42 kV42 dc42 pm42 cd42 ct42 : Value}
    (a42 : PySem.W.nsIn K mainGlobals "_law_text" = some (some (.ref f42))) (l42 : K.lookup f42 = some ⟨oc42, od42, .func (PySem.W.fnOf "_law_text" "_law_text" (defArgs s__law_text) (defBody s__law_text) (defScope s__law_text) .none kV42 dc42 pm42 an42 cd42 ct42), sl42⟩) (c42 : PySem.W.codeIn K cd42 "_law_text" = true) (k42 : PySem.W.keepIn K (.ref f42) = true)
    {f43 : Addr} {od43 an43 : Option Addr} {sl43 : Array (Option Value)} {oc43 kV43 dc43 pm43 cd43 ct43 : Value}
    (a43 : PySem.W.nsIn K mainGlobals "_law_near" = some (some (.ref f43))) (l43 : K.lookup f43 = some ⟨oc43, od43, .func (PySem.W.fnOf "_law_near" "_law_near" (defArgs s__law_near) (defBody s__law_near) (defScope s__law_near) .none kV43 dc43 pm43 an43 cd43 ct43), sl43⟩) (c43 : PySem.W.codeIn K cd43 "_law_near" = true) (k43 : PySem.W.keepIn K (.ref f43) = true)
    {f44 : Addr} {od44 an44 : Option Addr} {sl44 : Array (Option Value)} {oc44 kV44 dc44 pm44 cd44 ct44 : Value}
    (a44 : PySem.W.nsIn K mainGlobals "_law_past" = some (some (.ref f44))) (l44 : K.lookup f44 = some ⟨oc44, od44, .func (PySem.W.fnOf "_law_past" "_law_past" (defArgs s__law_past) (defBody s__law_past) (defScope s__law_past) .none kV44 dc44 pm44 an44 cd44 ct44), sl44⟩) (c44 : PySem.W.codeIn K cd44 "_law_past" = true) (k44 : PySem.W.keepIn K (.ref f44) = true)
    {f45 : Addr} {od45 an45 : Option Addr} {sl45 : Array (Option Value)} {oc45 kV45 dc45 pm45 cd45 ct45 : Value}
    (a45 : PySem.W.nsIn K mainGlobals "_law_some" = some (some (.ref f45))) (l45 : K.lookup f45 = some ⟨oc45, od45, .func (PySem.W.fnOf "_law_some" "_law_some" (defArgs s__law_some) (defBody s__law_some) (defScope s__law_some) .none kV45 dc45 pm45 an45 cd45 ct45), sl45⟩) (c45 : PySem.W.codeIn K cd45 "_law_some" = true) (k45 : PySem.W.keepIn K (.ref f45) = true)
    {f46 : Addr} {od46 an46 : Option Addr} {sl46 : Array (Option Value)} {oc46 kV46 dc46 pm46 cd46 ct46 : Value}
    (a46 : PySem.W.nsIn K mainGlobals "_law_sheet" = some (some (.ref f46))) (l46 : K.lookup f46 = some ⟨oc46, od46, .func (PySem.W.fnOf "_law_sheet" "_law_sheet" (defArgs s__law_sheet) (defBody s__law_sheet) (defScope s__law_sheet) .none kV46 dc46 pm46 an46 cd46 ct46), sl46⟩) (c46 : PySem.W.codeIn K cd46 "_law_sheet" = true) (k46 : PySem.W.keepIn K (.ref f46) = true)
    {f47 : Addr} {od47 an47 : Option Addr} {sl47 : Array (Option Value)} {oc47 kV47 dc47 pm47 cd47 ct47 : Value}
    (a47 : PySem.W.nsIn K mainGlobals "_law_word" = some (some (.ref f47))) (l47 : K.lookup f47 = some ⟨oc47, od47, .func (PySem.W.fnOf "_law_word" "_law_word" (defArgs s__law_word) (defBody s__law_word) (defScope s__law_word) .none kV47 dc47 pm47 an47 cd47 ct47), sl47⟩) (c47 : PySem.W.codeIn K cd47 "_law_word" = true) (k47 : PySem.W.keepIn K (.ref f47) = true)
    {f48 : Addr} {od48 an48 : Option Addr} {sl48 : Array (Option Value)} {oc48 kV48 dc48 pm48 cd48 ct48 : Value}
    (a48 : PySem.W.nsIn K mainGlobals "_law_kind" = some (some (.ref f48))) (l48 : K.lookup f48 = some ⟨oc48, od48, .func (PySem.W.fnOf "_law_kind" "_law_kind" (defArgs s__law_kind) (defBody s__law_kind) (defScope s__law_kind) .none kV48 dc48 pm48 an48 cd48 ct48), sl48⟩) (c48 : PySem.W.codeIn K cd48 "_law_kind" = true) (k48 : PySem.W.keepIn K (.ref f48) = true)
    {f49 : Addr} {od49 an49 : Option Addr} {sl49 : Array (Option Value)} {oc49 kV49 dc49 pm49 cd49 ct49 : Value}
    (a49 : PySem.W.nsIn K mainGlobals "_law_noted" = some (some (.ref f49))) (l49 : K.lookup f49 = some ⟨oc49, od49, .func (PySem.W.fnOf "_law_noted" "_law_noted" (defArgs s__law_noted) (defBody s__law_noted) (defScope s__law_noted) .none kV49 dc49 pm49 an49 cd49 ct49), sl49⟩) (c49 : PySem.W.codeIn K cd49 "_law_noted" = true) (k49 : PySem.W.keepIn K (.ref f49) = true)
    {f50 : Addr} {od50 an50 : Option Addr} {sl50 : Array (Option Value)} {oc50 kV50 dc50 pm50 cd50 ct50 : Value}
    (a50 : PySem.W.nsIn K mainGlobals "_law_alike" = some (some (.ref f50))) (l50 : K.lookup f50 = some ⟨oc50, od50, .func (PySem.W.fnOf "_law_alike" "_law_alike" (defArgs s__law_alike) (defBody s__law_alike) (defScope s__law_alike) .none kV50 dc50 pm50 an50 cd50 ct50), sl50⟩) (c50 : PySem.W.codeIn K cd50 "_law_alike" = true) (k50 : PySem.W.keepIn K (.ref f50) = true)
    {f51 : Addr} {od51 an51 : Option Addr} {sl51 : Array (Option Value)} {oc51 kV51 dc51 pm51 cd51 ct51 : Value}
    (a51 : PySem.W.nsIn K mainGlobals "_law_totals" = some (some (.ref f51))) (l51 : K.lookup f51 = some ⟨oc51, od51, .func (PySem.W.fnOf "_law_totals" "_law_totals" (defArgs s__law_totals) (defBody s__law_totals) (defScope s__law_totals) .none kV51 dc51 pm51 an51 cd51 ct51), sl51⟩) (c51 : PySem.W.codeIn K cd51 "_law_totals" = true) (k51 : PySem.W.keepIn K (.ref f51) = true)
    {f52 : Addr} {od52 an52 : Option Addr} {sl52 : Array (Option Value)} {oc52 kV52 dc52 pm52 cd52 ct52 : Value}
    (a52 : PySem.W.nsIn K mainGlobals "_law_due" = some (some (.ref f52))) (l52 : K.lookup f52 = some ⟨oc52, od52, .func (PySem.W.fnOf "_law_due" "_law_due" (defArgs s__law_due) (defBody s__law_due) (defScope s__law_due) .none kV52 dc52 pm52 an52 cd52 ct52), sl52⟩) (c52 : PySem.W.codeIn K cd52 "_law_due" = true) (k52 : PySem.W.keepIn K (.ref f52) = true)
    {f53 : Addr} {od53 an53 : Option Addr} {sl53 : Array (Option Value)} {oc53 kV53 dc53 pm53 cd53 ct53 : Value}
    (a53 : PySem.W.nsIn K mainGlobals "_law_right" = some (some (.ref f53))) (l53 : K.lookup f53 = some ⟨oc53, od53, .func (PySem.W.fnOf "_law_right" "_law_right" (defArgs s__law_right) (defBody s__law_right) (defScope s__law_right) .none kV53 dc53 pm53 an53 cd53 ct53), sl53⟩) (c53 : PySem.W.codeIn K cd53 "_law_right" = true) (k53 : PySem.W.keepIn K (.ref f53) = true)
    {f54 : Addr} {od54 an54 : Option Addr} {sl54 : Array (Option Value)} {oc54 kV54 dc54 pm54 cd54 ct54 : Value}
    (a54 : PySem.W.nsIn K mainGlobals "_law_upto" = some (some (.ref f54))) (l54 : K.lookup f54 = some ⟨oc54, od54, .func (PySem.W.fnOf "_law_upto" "_law_upto" (defArgs s__law_upto) (defBody s__law_upto) (defScope s__law_upto) .none kV54 dc54 pm54 an54 cd54 ct54), sl54⟩) (c54 : PySem.W.codeIn K cd54 "_law_upto" = true) (k54 : PySem.W.keepIn K (.ref f54) = true)
    {f55 : Addr} {od55 an55 : Option Addr} {sl55 : Array (Option Value)} {oc55 kV55 dc55 pm55 cd55 ct55 : Value}
    (a55 : PySem.W.nsIn K mainGlobals "law" = some (some (.ref f55))) (l55 : K.lookup f55 = some ⟨oc55, od55, .func (PySem.W.fnOf "law" "law" (defArgs s_law) (defBody s_law) (defScope s_law) .none kV55 dc55 pm55 an55 cd55 ct55), sl55⟩) (c55 : PySem.W.codeIn K cd55 "law" = true) (k55 : PySem.W.keepIn K (.ref f55) = true)
    {dC : Addr} {esC : Array DictEntry} {nC : Nat} {tC0 tC1 tC2 tC3 : Tok}
    (aC : PySem.W.nsIn K mainGlobals "COUNTS" = some (some (.ref dC)))
    (lC : K.lookup dC = some ⟨.type "dict", none, .dict esC nC, #[]⟩)
    (kNC : PySem.W.KeysLit w.params esC.toList)
    (vC0 : PySem.W.nsIn K dC "plain" = some (some (.ref f28)))
    (vC1 : PySem.W.nsIn K dC "runs" = some (some (.ref f29)))
    (vC2 : PySem.W.nsIn K dC "table" = some (some (.ref f31)))
    (vC3 : PySem.W.nsIn K dC "shared" = some (some (.ref f32)))
    (lwC : (dC == sysModules) = false)
    (lwM : esC.toList.map (·.key) = [.str "plain" tC0, .str "runs" tC1, .str "table" tC2, .str "shared" tC3])
    {dN0 : Addr} {esN0 : Array DictEntry} {nN0 : Nat} {tN0_0 tN0_1 : Tok}
    (aN0 : PySem.W.nsIn K mainGlobals "NEXT_LETTERS" = some (some (.ref dN0)))
    (lN0 : K.lookup dN0 = some ⟨.type "dict", none, .dict esN0 nN0, #[]⟩)
    (kN0 : PySem.W.KeysLit w.params esN0.toList)
    (vN0_0 : PySem.W.nsIn K dN0 "a" = some (some (.str "b" tN0_0)))
    (vN0_1 : PySem.W.nsIn K dN0 "b" = some (some (.str "c" tN0_1)))
    (z0 : PySem.W.nsIn K mainGlobals "int" = some none)
    (z1 : PySem.W.nsIn K mainGlobals "len" = some none)
    (z2 : PySem.W.nsIn K mainGlobals "max" = some none)
    (z3 : PySem.W.nsIn K mainGlobals "range" = some none)
    (z4 : PySem.W.nsIn K mainGlobals "type" = some none)
    (z5 : PySem.W.nsIn K mainGlobals "tuple" = some none)
    (z6 : PySem.W.nsIn K mainGlobals "list" = some none)
    (z7 : PySem.W.nsIn K mainGlobals "str" = some none)
    (z8 : PySem.W.nsIn K mainGlobals "bool" = some none)
    (z9 : PySem.W.nsIn K mainGlobals "all" = some none)
    (z10 : PySem.W.nsIn K mainGlobals "sorted" = some none)
    (z11 : PySem.W.nsIn K mainGlobals "set" = some none)
    (z12 : PySem.W.nsIn K mainGlobals "repr" = some none)
    (z13 : PySem.W.nsIn K mainGlobals "min" = some none)
    (z14 : PySem.W.nsIn K mainGlobals "zip" = some none)
    (z15 : PySem.W.nsIn K mainGlobals "sum" = some none)
    (z16 : PySem.W.nsIn K mainGlobals "any" = some none)
    (z17 : PySem.W.nsIn K mainGlobals "enumerate" = some none)
    (z18 : PySem.W.nsIn K mainGlobals "reversed" = some none)
    : ∃ fd : FuncData, (∀ (s : Shared) (v : Value), BindsTo s fd ⟨[v], []⟩ [("script", v)]) ∧ ∀ base : Heap, K.In base → base.Ns mainGlobals mg → FnG l.prog w K mg base 10 fa fd ["script"] (spLaw K) := by
  have e := hfa.symm.trans (PySem.W.mg_of X G a55)
  cases e
  have F_is_text := fun_mk (st := s_is_text) l0 c0 k0
  have D_is_text : Df K mg "is_text" s_is_text ["value"] f0 _ := ⟨F_is_text, PySem.W.mg_of X G a0, F_is_text.binds (ps := ["value"]) fun _ _ _ _ _ _ us hl => match us, hl with | [_], _ => rfl⟩
  have F_check_text := fun_mk (st := s_check_text) l1 c1 k1
  have D_check_text : Df K mg "check_text" s_check_text ["text"] f1 _ := ⟨F_check_text, PySem.W.mg_of X G a1, F_check_text.binds (ps := ["text"]) fun _ _ _ _ _ _ us hl => match us, hl with | [_], _ => rfl⟩
  have F_beyond := fun_mk (st := s_beyond) l2 c2 k2
  have D_beyond : Df K mg "beyond" s_beyond ["text"] f2 _ := ⟨F_beyond, PySem.W.mg_of X G a2, F_beyond.binds (ps := ["text"]) fun _ _ _ _ _ _ us hl => match us, hl with | [_], _ => rfl⟩
  have F_ascending := fun_mk (st := s_ascending) l3 c3 k3
  have D_ascending : Df K mg "ascending" s_ascending ["texts"] f3 _ := ⟨F_ascending, PySem.W.mg_of X G a3, F_ascending.binds (ps := ["texts"]) fun _ _ _ _ _ _ us hl => match us, hl with | [_], _ => rfl⟩
  have F_is_value := fun_mk (st := s_is_value) l4 c4 k4
  have D_is_value : Df K mg "is_value" s_is_value ["value"] f4 _ := ⟨F_is_value, PySem.W.mg_of X G a4, F_is_value.binds (ps := ["value"]) fun _ _ _ _ _ _ us hl => match us, hl with | [_], _ => rfl⟩
  have F_is_rule := fun_mk (st := s_is_rule) l5 c5 k5
  have D_is_rule : Df K mg "is_rule" s_is_rule ["value"] f5 _ := ⟨F_is_rule, PySem.W.mg_of X G a5, F_is_rule.binds (ps := ["value"]) fun _ _ _ _ _ _ us hl => match us, hl with | [_], _ => rfl⟩
  have F_is_lacks_part := fun_mk (st := s_is_lacks_part) l6 c6 k6
  have D_is_lacks_part : Df K mg "is_lacks_part" s_is_lacks_part ["part"] f6 _ := ⟨F_is_lacks_part, PySem.W.mg_of X G a6, F_is_lacks_part.binds (ps := ["part"]) fun _ _ _ _ _ _ us hl => match us, hl with | [_], _ => rfl⟩
  have F_is_low_part := fun_mk (st := s_is_low_part) l7 c7 k7
  have D_is_low_part : Df K mg "is_low_part" s_is_low_part ["part"] f7 _ := ⟨F_is_low_part, PySem.W.mg_of X G a7, F_is_low_part.binds (ps := ["part"]) fun _ _ _ _ _ _ us hl => match us, hl with | [_], _ => rfl⟩
  have F_is_high_part := fun_mk (st := s_is_high_part) l8 c8 k8
  have D_is_high_part : Df K mg "is_high_part" s_is_high_part ["part"] f8 _ := ⟨F_is_high_part, PySem.W.mg_of X G a8, F_is_high_part.binds (ps := ["part"]) fun _ _ _ _ _ _ us hl => match us, hl with | [_], _ => rfl⟩
  have F_is_lost := fun_mk (st := s_is_lost) l9 c9 k9
  have D_is_lost : Df K mg "is_lost" s_is_lost ["part"] f9 _ := ⟨F_is_lost, PySem.W.mg_of X G a9, F_is_lost.binds (ps := ["part"]) fun _ _ _ _ _ _ us hl => match us, hl with | [_], _ => rfl⟩
  have F_is_letter_number := fun_mk (st := s_is_letter_number) l10 c10 k10
  have D_is_letter_number : Df K mg "is_letter_number" s_is_letter_number ["part"] f10 _ := ⟨F_is_letter_number, PySem.W.mg_of X G a10, F_is_letter_number.binds (ps := ["part"]) fun _ _ _ _ _ _ us hl => match us, hl with | [_], _ => rfl⟩
  have F_is_page := fun_mk (st := s_is_page) l11 c11 k11
  have D_is_page : Df K mg "is_page" s_is_page ["value"] f11 _ := ⟨F_is_page, PySem.W.mg_of X G a11, F_is_page.binds (ps := ["value"]) fun _ _ _ _ _ _ us hl => match us, hl with | [_], _ => rfl⟩
  have F_check_rule := fun_mk (st := s_check_rule) l12 c12 k12
  have D_check_rule : Df K mg "check_rule" s_check_rule ["rule"] f12 _ := ⟨F_check_rule, PySem.W.mg_of X G a12, F_check_rule.binds (ps := ["rule"]) fun _ _ _ _ _ _ us hl => match us, hl with | [_], _ => rfl⟩
  have F_check_page := fun_mk (st := s_check_page) l13 c13 k13
  have D_check_page : Df K mg "check_page" s_check_page ["page"] f13 _ := ⟨F_check_page, PySem.W.mg_of X G a13, F_check_page.binds (ps := ["page"]) fun _ _ _ _ _ _ us hl => match us, hl with | [_], _ => rfl⟩
  have F_note := fun_mk (st := s_note) l14 c14 k14
  have D_note : Df K mg "note" s_note ["rule", "page"] f14 _ := ⟨F_note, PySem.W.mg_of X G a14, F_note.binds (ps := ["rule", "page"]) fun _ _ _ _ _ _ us hl => match us, hl with | [_, _], _ => rfl⟩
  have F_lacks_note := fun_mk (st := s_lacks_note) l15 c15 k15
  have D_lacks_note : Df K mg "lacks_note" s_lacks_note ["lacks", "lacking"] f15 _ := ⟨F_lacks_note, PySem.W.mg_of X G a15, F_lacks_note.binds (ps := ["lacks", "lacking"]) fun _ _ _ _ _ _ us hl => match us, hl with | [_, _], _ => rfl⟩
  have F_low_note := fun_mk (st := s_low_note) l16 c16 k16
  have D_low_note : Df K mg "low_note" s_low_note ["low", "texts"] f16 _ := ⟨F_low_note, PySem.W.mg_of X G a16, F_low_note.binds (ps := ["low", "texts"]) fun _ _ _ _ _ _ us hl => match us, hl with | [_, _], _ => rfl⟩
  have F_high_note := fun_mk (st := s_high_note) l17 c17 k17
  have D_high_note : Df K mg "high_note" s_high_note ["high", "texts"] f17 _ := ⟨F_high_note, PySem.W.mg_of X G a17, F_high_note.binds (ps := ["high", "texts"]) fun _ _ _ _ _ _ us hl => match us, hl with | [_, _], _ => rfl⟩
  have F_is_range := fun_mk (st := s_is_range) l18 c18 k18
  have D_is_range : Df K mg "is_range" s_is_range ["value"] f18 _ := ⟨F_is_range, PySem.W.mg_of X G a18, F_is_range.binds (ps := ["value"]) fun _ _ _ _ _ _ us hl => match us, hl with | [_], _ => rfl⟩
  have F_is_span := fun_mk (st := s_is_span) l19 c19 k19
  have D_is_span : Df K mg "is_span" s_is_span ["value"] f19 _ := ⟨F_is_span, PySem.W.mg_of X G a19, F_is_span.binds (ps := ["value"]) fun _ _ _ _ _ _ us hl => match us, hl with | [_], _ => rfl⟩
  have F_reaches := fun_mk (st := s_reaches) l20 c20 k20
  have D_reaches : Df K mg "reaches" s_reaches ["end", "first"] f20 _ := ⟨F_reaches, PySem.W.mg_of X G a20, F_reaches.binds (ps := ["end", "first"]) fun _ _ _ _ _ _ us hl => match us, hl with | [_, _], _ => rfl⟩
  have F_check_span := fun_mk (st := s_check_span) l21 c21 k21
  have D_check_span : Df K mg "check_span" s_check_span ["span"] f21 _ := ⟨F_check_span, PySem.W.mg_of X G a21, F_check_span.binds (ps := ["span"]) fun _ _ _ _ _ _ us hl => match us, hl with | [_], _ => rfl⟩
  have F_check_most := fun_mk (st := s_check_most) l22 c22 k22
  have D_check_most : Df K mg "check_most" s_check_most ["most"] f22 _ := ⟨F_check_most, PySem.W.mg_of X G a22, F_check_most.binds (ps := ["most"]) fun _ _ _ _ _ _ us hl => match us, hl with | [_], _ => rfl⟩
  have F_behind := fun_mk (st := s_behind) l23 c23 k23
  have D_behind : Df K mg "behind" s_behind ["text"] f23 _ := ⟨F_behind, PySem.W.mg_of X G a23, F_behind.binds (ps := ["text"]) fun _ _ _ _ _ _ us hl => match us, hl with | [_], _ => rfl⟩
  have F_texts_in := fun_mk (st := s_texts_in) l24 c24 k24
  have D_texts_in : Df K mg "texts_in" s_texts_in ["span", "most"] f24 _ := ⟨F_texts_in, PySem.W.mg_of X G a24, F_texts_in.binds (ps := ["span", "most"]) fun _ _ _ _ _ _ us hl => match us, hl with | [_, _], _ => rfl⟩
  have F_check_column := fun_mk (st := s_check_column) l25 c25 k25
  have D_check_column : Df K mg "check_column" s_check_column ["column"] f25 _ := ⟨F_check_column, PySem.W.mg_of X G a25, F_check_column.binds (ps := ["column"]) fun _ _ _ _ _ _ us hl => match us, hl with | [_], _ => rfl⟩
  have F_digits := fun_mk (st := s_digits) l26 c26 k26
  have D_digits : Df K mg "digits" s_digits ["number"] f26 _ := ⟨F_digits, PySem.W.mg_of X G a26, F_digits.binds (ps := ["number"]) fun _ _ _ _ _ _ us hl => match us, hl with | [_], _ => rfl⟩
  have F_value_signs := fun_mk (st := s_value_signs) l27 c27 k27
  have D_value_signs : Df K mg "value_signs" s_value_signs ["value"] f27 _ := ⟨F_value_signs, PySem.W.mg_of X G a27, F_value_signs.binds (ps := ["value"]) fun _ _ _ _ _ _ us hl => match us, hl with | [_], _ => rfl⟩
  have F_plain_signs := fun_mk (st := s_plain_signs) l28 c28 k28
  have D_plain_signs : Df K mg "plain_signs" s_plain_signs ["page"] f28 _ := ⟨F_plain_signs, PySem.W.mg_of X G a28, F_plain_signs.binds (ps := ["page"]) fun _ _ _ _ _ _ us hl => match us, hl with | [_], _ => rfl⟩
  have F_runs_signs := fun_mk (st := s_runs_signs) l29 c29 k29
  have D_runs_signs : Df K mg "runs_signs" s_runs_signs ["page"] f29 _ := ⟨F_runs_signs, PySem.W.mg_of X G a29, F_runs_signs.binds (ps := ["page"]) fun _ _ _ _ _ _ us hl => match us, hl with | [_], _ => rfl⟩
  have F_stretches := fun_mk (st := s_stretches) l30 c30 k30
  have D_stretches : Df K mg "stretches" s_stretches ["page"] f30 _ := ⟨F_stretches, PySem.W.mg_of X G a30, F_stretches.binds (ps := ["page"]) fun _ _ _ _ _ _ us hl => match us, hl with | [_], _ => rfl⟩
  have F_table_signs := fun_mk (st := s_table_signs) l31 c31 k31
  have D_table_signs : Df K mg "table_signs" s_table_signs ["page"] f31 _ := ⟨F_table_signs, PySem.W.mg_of X G a31, F_table_signs.binds (ps := ["page"]) fun _ _ _ _ _ _ us hl => match us, hl with | [_], _ => rfl⟩
  have F_shared_signs := fun_mk (st := s_shared_signs) l32 c32 k32
  have D_shared_signs : Df K mg "shared_signs" s_shared_signs ["page"] f32 _ := ⟨F_shared_signs, PySem.W.mg_of X G a32, F_shared_signs.binds (ps := ["page"]) fun _ _ _ _ _ _ us hl => match us, hl with | [_], _ => rfl⟩
  have F_signs_behind := fun_mk (st := s_signs_behind) l33 c33 k33
  have D_signs_behind : Df K mg "signs_behind" s_signs_behind ["ahead", "value"] f33 _ := ⟨F_signs_behind, PySem.W.mg_of X G a33, F_signs_behind.binds (ps := ["ahead", "value"]) fun _ _ _ _ _ _ us hl => match us, hl with | [_, _], _ => rfl⟩
  have F_letters_shared := fun_mk (st := s_letters_shared) l34 c34 k34
  have D_letters_shared : Df K mg "letters_shared" s_letters_shared ["one", "other"] f34 _ := ⟨F_letters_shared, PySem.W.mg_of X G a34, F_letters_shared.binds (ps := ["one", "other"]) fun _ _ _ _ _ _ us hl => match us, hl with | [_, _], _ => rfl⟩
  have F_note_signs := fun_mk (st := s_note_signs) l35 c35 k35
  have D_note_signs : Df K mg "note_signs" s_note_signs ["rule", "page"] f35 _ := ⟨F_note_signs, PySem.W.mg_of X G a35, F_note_signs.binds (ps := ["rule", "page"]) fun _ _ _ _ _ _ us hl => match us, hl with | [_, _], _ => rfl⟩
  have F_lacks_signs := fun_mk (st := s_lacks_signs) l36 c36 k36
  have D_lacks_signs : Df K mg "lacks_signs" s_lacks_signs ["lacks"] f36 _ := ⟨F_lacks_signs, PySem.W.mg_of X G a36, F_lacks_signs.binds (ps := ["lacks"]) fun _ _ _ _ _ _ us hl => match us, hl with | [_], _ => rfl⟩
  have F_best_code := fun_mk (st := s_best_code) l37 c37 k37
  have D_best_code : Df K mg "best_code" s_best_code ["page"] f37 _ := ⟨F_best_code, PySem.W.mg_of X G a37, F_best_code.binds (ps := ["page"]) fun _ _ _ _ _ _ us hl => match us, hl with | [_], _ => rfl⟩
  have F_cheapest := fun_mk (st := s_cheapest) l38 c38 k38
  have D_cheapest : Df K mg "cheapest" s_cheapest ["rule", "column", "most"] f38 _ := ⟨F_cheapest, PySem.W.mg_of X G a38, F_cheapest.binds (ps := ["rule", "column", "most"]) fun _ _ _ _ _ _ us hl => match us, hl with | [_, _, _], _ => rfl⟩
  have F_cheapest_from := fun_mk (st := s_cheapest_from) l39 c39 k39
  have D_cheapest_from : Df K mg "cheapest_from" s_cheapest_from ["rule", "values", "plans"] f39 _ := ⟨F_cheapest_from, PySem.W.mg_of X G a39, F_cheapest_from.binds (ps := ["rule", "values", "plans"]) fun _ _ _ _ _ _ us hl => match us, hl with | [_, _, _], _ => rfl⟩
  have F__law_bag := fun_mk (st := s__law_bag) l40 c40 k40
  have D__law_bag : Df K mg "_law_bag" s__law_bag ["cell"] f40 _ := ⟨F__law_bag, PySem.W.mg_of X G a40, F__law_bag.binds (ps := ["cell"]) fun _ _ _ _ _ _ us hl => match us, hl with | [_], _ => rfl⟩
  have F__law_draw := fun_mk (st := s__law_draw) l41 c41 k41
  have D__law_draw : Df K mg "_law_draw" s__law_draw ["bag", "upto"] f41 _ := ⟨F__law_draw, PySem.W.mg_of X G a41, F__law_draw.binds (ps := ["bag", "upto"]) fun _ _ _ _ _ _ us hl => match us, hl with | [_, _], _ => rfl⟩
  have F__law_text := fun_mk (st := s__law_text) l42 c42 k42
  have D__law_text : Df K mg "_law_text" s__law_text ["bag"] f42 _ := ⟨F__law_text, PySem.W.mg_of X G a42, F__law_text.binds (ps := ["bag"]) fun _ _ _ _ _ _ us hl => match us, hl with | [_], _ => rfl⟩
  have F__law_near := fun_mk (st := s__law_near) l43 c43 k43
  have D__law_near : Df K mg "_law_near" s__law_near ["bag", "word"] f43 _ := ⟨F__law_near, PySem.W.mg_of X G a43, F__law_near.binds (ps := ["bag", "word"]) fun _ _ _ _ _ _ us hl => match us, hl with | [_, _], _ => rfl⟩
  have F__law_past := fun_mk (st := s__law_past) l44 c44 k44
  have D__law_past : Df K mg "_law_past" s__law_past ["word"] f44 _ := ⟨F__law_past, PySem.W.mg_of X G a44, F__law_past.binds (ps := ["word"]) fun _ _ _ _ _ _ us hl => match us, hl with | [_], _ => rfl⟩
  have F__law_some := fun_mk (st := s__law_some) l45 c45 k45
  have D__law_some : Df K mg "_law_some" s__law_some ["bag", "pool"] f45 _ := ⟨F__law_some, PySem.W.mg_of X G a45, F__law_some.binds (ps := ["bag", "pool"]) fun _ _ _ _ _ _ us hl => match us, hl with | [_, _], _ => rfl⟩
  have F__law_sheet := fun_mk (st := s__law_sheet) l46 c46 k46
  have D__law_sheet : Df K mg "_law_sheet" s__law_sheet ["bag", "upto"] f46 _ := ⟨F__law_sheet, PySem.W.mg_of X G a46, F__law_sheet.binds (ps := ["bag", "upto"]) fun _ _ _ _ _ _ us hl => match us, hl with | [_, _], _ => rfl⟩
  have F__law_word := fun_mk (st := s__law_word) l47 c47 k47
  have D__law_word : Df K mg "_law_word" s__law_word ["thing"] f47 _ := ⟨F__law_word, PySem.W.mg_of X G a47, F__law_word.binds (ps := ["thing"]) fun _ _ _ _ _ _ us hl => match us, hl with | [_], _ => rfl⟩
  have F__law_kind := fun_mk (st := s__law_kind) l48 c48 k48
  have D__law_kind : Df K mg "_law_kind" s__law_kind ["bag"] f48 _ := ⟨F__law_kind, PySem.W.mg_of X G a48, F__law_kind.binds (ps := ["bag"]) fun _ _ _ _ _ _ us hl => match us, hl with | [_], _ => rfl⟩
  have F__law_noted := fun_mk (st := s__law_noted) l49 c49 k49
  have D__law_noted : Df K mg "_law_noted" s__law_noted ["kind", "sheet"] f49 _ := ⟨F__law_noted, PySem.W.mg_of X G a49, F__law_noted.binds (ps := ["kind", "sheet"]) fun _ _ _ _ _ _ us hl => match us, hl with | [_, _], _ => rfl⟩
  have F__law_alike := fun_mk (st := s__law_alike) l50 c50 k50
  have D__law_alike : Df K mg "_law_alike" s__law_alike ["last", "thing"] f50 _ := ⟨F__law_alike, PySem.W.mg_of X G a50, F__law_alike.binds (ps := ["last", "thing"]) fun _ _ _ _ _ _ us hl => match us, hl with | [_, _], _ => rfl⟩
  have F__law_totals := fun_mk (st := s__law_totals) l51 c51 k51
  have D__law_totals : Df K mg "_law_totals" s__law_totals ["kind", "things", "start", "upto"] f51 _ := ⟨F__law_totals, PySem.W.mg_of X G a51, F__law_totals.binds (ps := ["kind", "things", "start", "upto"]) fun _ _ _ _ _ _ us hl => match us, hl with | [_, _, _, _], _ => rfl⟩
  have F__law_due := fun_mk (st := s__law_due) l52 c52 k52
  have D__law_due : Df K mg "_law_due" s__law_due ["kind", "things", "upto"] f52 _ := ⟨F__law_due, PySem.W.mg_of X G a52, F__law_due.binds (ps := ["kind", "things", "upto"]) fun _ _ _ _ _ _ us hl => match us, hl with | [_, _, _], _ => rfl⟩
  have F__law_right := fun_mk (st := s__law_right) l53 c53 k53
  have D__law_right : Df K mg "_law_right" s__law_right ["kind", "things", "upto"] f53 _ := ⟨F__law_right, PySem.W.mg_of X G a53, F__law_right.binds (ps := ["kind", "things", "upto"]) fun _ _ _ _ _ _ us hl => match us, hl with | [_, _, _], _ => rfl⟩
  have F__law_upto := fun_mk (st := s__law_upto) l54 c54 k54
  have D__law_upto : Df K mg "_law_upto" s__law_upto ["bag"] f54 _ := ⟨F__law_upto, PySem.W.mg_of X G a54, F__law_upto.binds (ps := ["bag"]) fun _ _ _ _ _ _ us hl => match us, hl with | [_], _ => rfl⟩
  have F_law := fun_mk (st := s_law) l55 c55 k55
  have D_law : Df K mg "law" s_law ["script"] fa _ := ⟨F_law, PySem.W.mg_of X G a55, F_law.binds (ps := ["script"]) fun _ _ _ _ _ _ us hl => match us, hl with | [_], _ => rfl⟩
  have T : Nm mg := ⟨PySem.W.mg_none_of X G z0, PySem.W.mg_none_of X G z1, PySem.W.mg_none_of X G z2, PySem.W.mg_none_of X G z3, PySem.W.mg_none_of X G z4, PySem.W.mg_none_of X G z5, PySem.W.mg_none_of X G z6, PySem.W.mg_none_of X G z7, PySem.W.mg_none_of X G z8, PySem.W.mg_none_of X G z9, PySem.W.mg_none_of X G z10, PySem.W.mg_none_of X G z11, PySem.W.mg_none_of X G z12, PySem.W.mg_none_of X G z13, PySem.W.mg_none_of X G z14, PySem.W.mg_none_of X G z15, PySem.W.mg_none_of X G z16, PySem.W.mg_none_of X G z17, PySem.W.mg_none_of X G z18⟩
  have TG : Cs K w mg := ⟨dC, PySem.W.mg_of X G aC, (fun c => match c with | 0 => f28 | 1 => f29 | 2 => f31 | _ => f32), _, _, _, _, D_plain_signs, D_runs_signs, D_table_signs, D_shared_signs, (fun c h => match c, h with | 0, _ => ⟨esC, nC, _, lC, kNC, vC0, rfl⟩ | 1, _ => ⟨esC, nC, _, lC, kNC, vC1, rfl⟩ | 2, _ => ⟨esC, nC, _, lC, kNC, vC2, rfl⟩ | 3, _ => ⟨esC, nC, _, lC, kNC, vC3, rfl⟩ | n + 4, h => absurd h (by omega)), (fun c h => match c, h with | 0, _ => ⟨esC, nC, _, ⟨lC, kNC, lwC⟩, vC0, rfl⟩ | 1, _ => ⟨esC, nC, _, ⟨lC, kNC, lwC⟩, vC1, rfl⟩ | 2, _ => ⟨esC, nC, _, ⟨lC, kNC, lwC⟩, vC2, rfl⟩ | 3, _ => ⟨esC, nC, _, ⟨lC, kNC, lwC⟩, vC3, rfl⟩ | n + 4, h => absurd h (by omega)), ⟨⟨esC, nC, lC, lwC, by rw [lwM]; exact .cons ⟨_, rfl⟩ (.cons ⟨_, rfl⟩ (.cons ⟨_, rfl⟩ (.cons ⟨_, rfl⟩ .nil)))⟩⟩⟩
  have TN : Ng K w mg := ⟨dN0, PySem.W.mg_of X G aN0, (by rw [← a_lit]; exact ⟨esN0, nN0, _, lN0, kN0, vN0_0, ⟨_, rfl⟩⟩), (by rw [← b_lit]; exact ⟨esN0, nN0, _, lN0, kN0, vN0_1, ⟨_, rfl⟩⟩)⟩
  refine ⟨PySem.W.fnOf "law" "law" (defArgs s_law) (defBody s_law) (defScope s_law) .none kV55 dc55 pm55 an55 cd55 ct55, fun s v => .of_eq rfl, fun base _ _ => ?_⟩
  have c_lost := cl_is_lost (P := l.prog) (w := w) (base := base) D_is_lost T
  have c_num := cl_is_letter_number (P := l.prog) (w := w) (base := base) D_is_letter_number T
  have c_lac := cl_is_lacks_part (P := l.prog) (w := w) (base := base) D_is_lacks_part T
  have c_low := cl_is_low_part D_is_low_part T c_lost c_num
  have c_high := cl_is_high_part D_is_high_part T c_lost c_num
  have c_rule := cl_is_rule D_is_rule T c_lac c_low c_high
  have c_ist := cl_is_text (P := l.prog) (w := w) (base := base) D_is_text T
  have c_isv := cl_is_value D_is_value T c_ist
  have c_isp := cl_is_page D_is_page T c_isv
  have c_ckt := cl_check_text D_check_text T c_ist
  have c_ckr := cl_check_rule D_check_rule T c_rule
  have c_ckp := cl_check_page D_check_page T c_isp
  have c_bey := cl_beyond D_beyond T TN c_ckt
  have c_asc := cl_ascending (P := l.prog) (w := w) (base := base) D_ascending T
  have c_lan := cl_lacks_note (P := l.prog) (w := w) (base := base) D_lacks_note T
  have c_lon := cl_low_note (P := l.prog) (w := w) (base := base) D_low_note T
  have c_hin := cl_high_note D_high_note T c_bey
  have c_note := cl_note D_note T c_ckr c_ckp c_asc c_lan c_lon c_hin
  have c_bag := cl__law_bag (P := l.prog) (w := w) (base := base) D__law_bag T
  have c_draw := cl__law_draw (P := l.prog) (w := w) (base := base) D__law_draw T
  have c_text := cl__law_text D__law_text T c_draw
  have c_near := cl__law_near D__law_near T c_draw
  have c_some := cl__law_some D__law_some T c_draw c_near c_text
  have c_sheet := cl__law_sheet D__law_sheet T c_draw c_text c_some
  have c_istF := cl_is_textF (P := l.prog) (w := w) (base := base) D_is_text T
  have c_isr := cl_is_range D_is_range T c_istF
  have c_rea := cl_reaches (P := l.prog) (w := w) (base := base) D_reaches T
  have c_iss := cl_is_span D_is_span T c_isr c_rea
  have c_cks := cl_check_span D_check_span T c_iss
  have c_cktF := cl_check_textF D_check_text T c_istF
  have c_beh := cl_behind D_behind T c_cktF
  have c_ckm := cl_check_most (P := l.prog) (w := w) (base := base) D_check_most T
  have c_tin := cl_texts_in D_texts_in T c_cks c_ckm c_beh
  have c_dig := cl_digits (P := l.prog) (w := w) (base := base) D_digits T
  have c_vsg := cl_value_signs (P := l.prog) (w := w) (base := base) D_value_signs T
  have c_pls := cl_plain_signs D_plain_signs T c_vsg
  have c_lcp := cl_letters_shared (P := l.prog) (w := w) (base := base) D_letters_shared T
  have c_sgb := cl_signs_behind D_signs_behind T c_lcp c_dig c_vsg
  have c_shr := cl_shared_signs D_shared_signs T c_sgb
  have c_str := cl_stretches (P := l.prog) (w := w) (base := base) D_stretches T
  have c_run := cl_runs_signs D_runs_signs T c_str c_dig c_vsg
  have c_tab := cl_table_signs D_table_signs T c_pls c_dig
  have c_best := cl_best_code D_best_code T TG c_ckp c_pls c_run c_tab c_shr
  have c_past := cl__law_pastX (P := l.prog) (w := w) (base := base) D__law_past T
  have c_kind := cl__law_kind D__law_kind T c_draw
  have c_lsg := cl_lacks_signs D_lacks_signs T c_dig
  have c_nsg := cl_note_signs D_note_signs T c_note c_dig c_lsg c_vsg
  have c_word := cl__law_word (P := l.prog) (w := w) (base := base) D__law_word T
  have c_noted := cl__law_noted D__law_noted T c_past c_word
  have c_col := cl_check_column D_check_column T c_isv
  have c_from := cl_cheapest_from D_cheapest_from T c_best c_nsg
  have c_che := cl_cheapest D_cheapest T c_ckr c_col c_ckm c_from
  have c_ali := cl__law_alike (P := l.prog) (w := w) (base := base) D__law_alike T
  have c_tot := cl__law_totals D__law_totals T c_ali c_noted
  have c_due := cl__law_due D__law_due T c_tot
  have c_rig := cl__law_right D__law_right T c_che c_due c_best c_nsg
  have c_upt := cl__law_upto D__law_upto T c_draw
  exact cl_law D_law T c_bag c_draw c_some c_kind c_upt c_sheet c_tin c_rig
end
end Kq
open PySem PySem.W PyProof.Rows in
set_option maxRecDepth 100000 in
set_option maxHeartbeats 0 in
theorem PySem.Challenge.cw_pageskips_k39_whole_cheapest_columns_holds : PySem.Challenge.rw_pageskips_k39_whole_cheapest_columns.Holds := by
  w_on; o_law; k_head; (case hw => w_witness2)
  k_fill
  refine Pg.walk_g (l := PySem.Challenge.rw_pageskips_k39_whole_cheapest_columns) (n := 63) (k := 10) (x := "script") (sp := fun w => Kq.spLaw _) rfl (by decide) rfl ⟨rfl, by decide, by decide⟩ (fun w h Y => PySem.W.kIn_of Y) ?F (fun _ _ a ns hl _ hS => ⟨a, ns, rfl, hS, hl, fun _ => rfl⟩)
  case F =>
    intro w mg fa h KX G hmg
    refine' Kq.all_mk KX G hmg ?a0 ?l0 ?c0 ?k0 ?a1 ?l1 ?c1 ?k1 ?a2 ?l2 ?c2 ?k2 ?a3 ?l3 ?c3 ?k3 ?a4 ?l4 ?c4 ?k4 ?a5 ?l5 ?c5 ?k5 ?a6 ?l6 ?c6 ?k6 ?a7 ?l7 ?c7 ?k7 ?a8 ?l8 ?c8 ?k8 ?a9 ?l9 ?c9 ?k9 ?a10 ?l10 ?c10 ?k10 ?a11 ?l11 ?c11 ?k11 ?a12 ?l12 ?c12 ?k12 ?a13 ?l13 ?c13 ?k13 ?a14 ?l14 ?c14 ?k14 ?a15 ?l15 ?c15 ?k15 ?a16 ?l16 ?c16 ?k16 ?a17 ?l17 ?c17 ?k17 ?a18 ?l18 ?c18 ?k18 ?a19 ?l19 ?c19 ?k19 ?a20 ?l20 ?c20 ?k20 ?a21 ?l21 ?c21 ?k21 ?a22 ?l22 ?c22 ?k22 ?a23 ?l23 ?c23 ?k23 ?a24 ?l24 ?c24 ?k24 ?a25 ?l25 ?c25 ?k25 ?a26 ?l26 ?c26 ?k26 ?a27 ?l27 ?c27 ?k27 ?a28 ?l28 ?c28 ?k28 ?a29 ?l29 ?c29 ?k29 ?a30 ?l30 ?c30 ?k30 ?a31 ?l31 ?c31 ?k31 ?a32 ?l32 ?c32 ?k32 ?a33 ?l33 ?c33 ?k33 ?a34 ?l34 ?c34 ?k34 ?a35 ?l35 ?c35 ?k35 ?a36 ?l36 ?c36 ?k36 ?a37 ?l37 ?c37 ?k37 ?a38 ?l38 ?c38 ?k38 ?a39 ?l39 ?c39 ?k39 ?a40 ?l40 ?c40 ?k40 ?a41 ?l41 ?c41 ?k41 ?a42 ?l42 ?c42 ?k42 ?a43 ?l43 ?c43 ?k43 ?a44 ?l44 ?c44 ?k44 ?a45 ?l45 ?c45 ?k45 ?a46 ?l46 ?c46 ?k46 ?a47 ?l47 ?c47 ?k47 ?a48 ?l48 ?c48 ?k48 ?a49 ?l49 ?c49 ?k49 ?a50 ?l50 ?c50 ?k50 ?a51 ?l51 ?c51 ?k51 ?a52 ?l52 ?c52 ?k52 ?a53 ?l53 ?c53 ?k53 ?a54 ?l54 ?c54 ?k54 ?a55 ?l55 ?c55 ?k55 ?aC ?lC ?kNC ?vC0 ?vC1 ?vC2 ?vC3 ?lwC ?lwM ?aN0 ?lN0 ?kN0 ?vN0_0 ?vN0_1 ?z0 ?z1 ?z2 ?z3 ?z4 ?z5 ?z6 ?z7 ?z8 ?z9 ?z10 ?z11 ?z12 ?z13 ?z14 ?z15 ?z16 ?z17 ?z18
    (case a0 => k_is)
    (case l0 => k_is)
    (case c0 => k_is)
    (case k0 => k_is)
    (case a1 => k_is)
    (case l1 => k_is)
    (case c1 => k_is)
    (case k1 => k_is)
    (case a2 => k_is)
    (case l2 => k_is)
    (case c2 => k_is)
    (case k2 => k_is)
    (case a3 => k_is)
    (case l3 => k_is)
    (case c3 => k_is)
    (case k3 => k_is)
    (case a4 => k_is)
    (case l4 => k_is)
    (case c4 => k_is)
    (case k4 => k_is)
    (case a5 => k_is)
    (case l5 => k_is)
    (case c5 => k_is)
    (case k5 => k_is)
    (case a6 => k_is)
    (case l6 => k_is)
    (case c6 => k_is)
    (case k6 => k_is)
    (case a7 => k_is)
    (case l7 => k_is)
    (case c7 => k_is)
    (case k7 => k_is)
    (case a8 => k_is)
    (case l8 => k_is)
    (case c8 => k_is)
    (case k8 => k_is)
    (case a9 => k_is)
    (case l9 => k_is)
    (case c9 => k_is)
    (case k9 => k_is)
    (case a10 => k_is)
    (case l10 => k_is)
    (case c10 => k_is)
    (case k10 => k_is)
    (case a11 => k_is)
    (case l11 => k_is)
    (case c11 => k_is)
    (case k11 => k_is)
    (case a12 => k_is)
    (case l12 => k_is)
    (case c12 => k_is)
    (case k12 => k_is)
    (case a13 => k_is)
    (case l13 => k_is)
    (case c13 => k_is)
    (case k13 => k_is)
    (case a14 => k_is)
    (case l14 => k_is)
    (case c14 => k_is)
    (case k14 => k_is)
    (case a15 => k_is)
    (case l15 => k_is)
    (case c15 => k_is)
    (case k15 => k_is)
    (case a16 => k_is)
    (case l16 => k_is)
    (case c16 => k_is)
    (case k16 => k_is)
    (case a17 => k_is)
    (case l17 => k_is)
    (case c17 => k_is)
    (case k17 => k_is)
    (case a18 => k_is)
    (case l18 => k_is)
    (case c18 => k_is)
    (case k18 => k_is)
    (case a19 => k_is)
    (case l19 => k_is)
    (case c19 => k_is)
    (case k19 => k_is)
    (case a20 => k_is)
    (case l20 => k_is)
    (case c20 => k_is)
    (case k20 => k_is)
    (case a21 => k_is)
    (case l21 => k_is)
    (case c21 => k_is)
    (case k21 => k_is)
    (case a22 => k_is)
    (case l22 => k_is)
    (case c22 => k_is)
    (case k22 => k_is)
    (case a23 => k_is)
    (case l23 => k_is)
    (case c23 => k_is)
    (case k23 => k_is)
    (case a24 => k_is)
    (case l24 => k_is)
    (case c24 => k_is)
    (case k24 => k_is)
    (case a25 => k_is)
    (case l25 => k_is)
    (case c25 => k_is)
    (case k25 => k_is)
    (case a26 => k_is)
    (case l26 => k_is)
    (case c26 => k_is)
    (case k26 => k_is)
    (case a27 => k_is)
    (case l27 => k_is)
    (case c27 => k_is)
    (case k27 => k_is)
    (case a28 => k_is)
    (case l28 => k_is)
    (case c28 => k_is)
    (case k28 => k_is)
    (case a29 => k_is)
    (case l29 => k_is)
    (case c29 => k_is)
    (case k29 => k_is)
    (case a30 => k_is)
    (case l30 => k_is)
    (case c30 => k_is)
    (case k30 => k_is)
    (case a31 => k_is)
    (case l31 => k_is)
    (case c31 => k_is)
    (case k31 => k_is)
    (case a32 => k_is)
    (case l32 => k_is)
    (case c32 => k_is)
    (case k32 => k_is)
    (case a33 => k_is)
    (case l33 => k_is)
    (case c33 => k_is)
    (case k33 => k_is)
    (case a34 => k_is)
    (case l34 => k_is)
    (case c34 => k_is)
    (case k34 => k_is)
    (case a35 => k_is)
    (case l35 => k_is)
    (case c35 => k_is)
    (case k35 => k_is)
    (case a36 => k_is)
    (case l36 => k_is)
    (case c36 => k_is)
    (case k36 => k_is)
    (case a37 => k_is)
    (case l37 => k_is)
    (case c37 => k_is)
    (case k37 => k_is)
    (case a38 => k_is)
    (case l38 => k_is)
    (case c38 => k_is)
    (case k38 => k_is)
    (case a39 => k_is)
    (case l39 => k_is)
    (case c39 => k_is)
    (case k39 => k_is)
    (case a40 => k_is)
    (case l40 => k_is)
    (case c40 => k_is)
    (case k40 => k_is)
    (case a41 => k_is)
    (case l41 => k_is)
    (case c41 => k_is)
    (case k41 => k_is)
    (case a42 => k_is)
    (case l42 => k_is)
    (case c42 => k_is)
    (case k42 => k_is)
    (case a43 => k_is)
    (case l43 => k_is)
    (case c43 => k_is)
    (case k43 => k_is)
    (case a44 => k_is)
    (case l44 => k_is)
    (case c44 => k_is)
    (case k44 => k_is)
    (case a45 => k_is)
    (case l45 => k_is)
    (case c45 => k_is)
    (case k45 => k_is)
    (case a46 => k_is)
    (case l46 => k_is)
    (case c46 => k_is)
    (case k46 => k_is)
    (case a47 => k_is)
    (case l47 => k_is)
    (case c47 => k_is)
    (case k47 => k_is)
    (case a48 => k_is)
    (case l48 => k_is)
    (case c48 => k_is)
    (case k48 => k_is)
    (case a49 => k_is)
    (case l49 => k_is)
    (case c49 => k_is)
    (case k49 => k_is)
    (case a50 => k_is)
    (case l50 => k_is)
    (case c50 => k_is)
    (case k50 => k_is)
    (case a51 => k_is)
    (case l51 => k_is)
    (case c51 => k_is)
    (case k51 => k_is)
    (case a52 => k_is)
    (case l52 => k_is)
    (case c52 => k_is)
    (case k52 => k_is)
    (case a53 => k_is)
    (case l53 => k_is)
    (case c53 => k_is)
    (case k53 => k_is)
    (case a54 => k_is)
    (case l54 => k_is)
    (case c54 => k_is)
    (case k54 => k_is)
    (case a55 => k_is)
    (case l55 => k_is)
    (case c55 => k_is)
    (case k55 => k_is)
    (case aC => k_is)
    (case lC => k_is)
    (case kNC => k_keys)
    (case vC0 => k_is)
    (case vC1 => k_is)
    (case vC2 => k_is)
    (case vC3 => k_is)
    (case lwC => first | rfl | decide | k_is)
    (case lwM => first | rfl | decide | k_is)
    (case aN0 => k_is)
    (case lN0 => k_is)
    (case kN0 => k_keys)
    (case vN0_0 => k_is)
    (case vN0_1 => k_is)
    (case z0 => k_is)
    (case z1 => k_is)
    (case z2 => k_is)
    (case z3 => k_is)
    (case z4 => k_is)
    (case z5 => k_is)
    (case z6 => k_is)
    (case z7 => k_is)
    (case z8 => k_is)
    (case z9 => k_is)
    (case z10 => k_is)
    (case z11 => k_is)
    (case z12 => k_is)
    (case z13 => k_is)
    (case z14 => k_is)
    (case z15 => k_is)
    (case z16 => k_is)
    (case z17 => k_is)
    (case z18 => k_is)

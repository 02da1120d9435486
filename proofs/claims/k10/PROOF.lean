import PyProof.Rows.All
import Wide.All
import OpenK.AllK
import Wide.FinOn
import HandS.ForMost
import HandS.Wide
import HandS.TupAny
import HandS.ExcValue
import HandS.Style
import HandS.More
import HandS.Defaults
import HandS.EndBits
import HandS.Flow
import HandS.Zip
import HandS.Star
import HandS.StrMore
import PySem.Challenge.RW_pageskips_k10_filters_told
set_option Elab.async false
set_option linter.all false
set_option maxRecDepth 100000
set_option maxHeartbeats 2000000
namespace Pg
open PySem PySem.Spec PyProof.Rows L2
/-! ### heaps: what a piece of the program keeps -/
/-- all that was tracked outside of S stands as it was; in S lists stay lists -/
structure Stp (S : List Addr) (H H' : Hp) : Prop where
  kp : ∀ a o, a ∉ S → H a = some o → H' a = some o
  ls : ∀ a xs, H a = some (.lst xs) → ∃ ys, H' a = some (.lst ys)
theorem Stp.refl (S : List Addr) (H : Hp) : Stp S H H := ⟨fun _ _ _ h => h, fun _ xs h => ⟨xs, h⟩⟩
theorem Stp.trans {S : List Addr} {H H1 H2 : Hp} (a : Stp S H H1) (b : Stp S H1 H2) : Stp S H H2 :=
  ⟨fun x o n h => b.kp x o n (a.kp x o n h), fun x xs h => by
    obtain ⟨ys, h1⟩ := a.ls x xs h
    exact b.ls x ys h1⟩
theorem Stp.sub {S S' : List Addr} {H H' : Hp} (a : Stp S H H') (h : ∀ x ∈ S, x ∈ S') : Stp S' H H' :=
  ⟨fun x o n q => a.kp x o (fun m => n (h x m)) q, a.ls⟩
theorem Stp.nil {S : List Addr} {H H' : Hp} (a : Stp [] H H') : Stp S H H' := a.sub fun _ h => nomatch h
theorem Stp.new {H : Hp} {p : Addr} {o : HO} (h : H p = none) (S : List Addr) : Stp S H (upd H p o) :=
  ⟨fun x u _ q => by rw [upd_ne (ne_of_none q h)]; exact q, fun x xs q => ⟨xs, by rw [upd_ne (ne_of_none q h)]; exact q⟩⟩
theorem Stp.put {S : List Addr} {H : Hp} {p : Addr} {ys : List V} (m : p ∈ S) : Stp S H (upd H p (.lst ys)) :=
  ⟨fun x u n q => by
    rw [upd_ne (fun e => n (by rw [e]; exact m))]
    exact q, fun x xs q => by
    by_cases e : x = p
    · subst e
      exact ⟨ys, upd_same⟩
    · exact ⟨xs, by rw [upd_ne e]; exact q⟩⟩
/-- a local object: it was not there -/
theorem Stp.loc {S : List Addr} {H H' : Hp} {p : Addr} (h : H p = none) (a : Stp (p :: S) H H') : Stp S H H' :=
  ⟨fun x o n q => a.kp x o (fun m => by
    rcases List.mem_cons.mp m with e | m
    · exact ne_of_none q h e
    · exact n m) q, a.ls⟩
theorem Stp.fresh {S : List Addr} {H H' : Hp} {p : Addr} (a : Stp S H H') (n : p ∉ S) (h : H' p = none) : H p = none := by
  cases e : H p with
  | none => rfl
  | some o =>
    rw [a.kp p o n e] at h
    cases h
/-- a list that was not there is changed -/
theorem Stp.mut {S : List Addr} {H H' : Hp} {p : Addr} {ys : List V} (a : Stp S H H') (h : H p = none) : Stp S H (upd H' p (.lst ys)) :=
  ⟨fun x o n q => by
    rw [upd_ne (ne_of_none q h)]
    exact a.kp x o n q, fun x xs q => by
    rw [upd_ne (ne_of_none q h)]
    exact a.ls x xs q⟩
theorem Stp.put' {S : List Addr} {H H' : Hp} {p : Addr} {ys : List V} (a : Stp S H H') (m : p ∈ S) : Stp S H (upd H' p (.lst ys)) := a.trans (Stp.put m)
theorem Stp.new' {S : List Addr} {H H' : Hp} {p : Addr} {o : HO} (a : Stp S H H') (h : H' p = none) : Stp S H (upd H' p o) := a.trans (Stp.new h S)
/-- only the list at p may differ -/
def Only (p : Addr) (H H' : Hp) : Prop := ∃ ys, H' = upd H p (.lst ys)
theorem Only.at {p q : Addr} {H H' : Hp} {o : HO} (h : Only p H H') (e : H q = some o) (n : q ≠ p) : H' q = some o := by
  obtain ⟨ys, rfl⟩ := h
  rw [upd_ne n]
  exact e
theorem Only.stp {p : Addr} {H H' : Hp} {S : List Addr} (h : Only p H H') (m : p ∈ S) : Stp S H H' := by
  obtain ⟨ys, rfl⟩ := h
  exact Stp.put m

/-! ### the draws -/
def BagV (x y z : Int) (n : Nat) : Prop := 0 ≤ x ∧ 0 ≤ y ∧ y < 2 ^ 40 ∧ 0 ≤ z ∧ z ≤ (n : Int)
/-- a bag stands at b, from which at most n draws have been made -/
def Bag (H : Hp) (b : Addr) (n : Nat) : Prop := ∃ x y z, H b = some (.lst [.int x, .int y, .int z]) ∧ BagV x y z n
theorem Bag.mono {H : Hp} {b : Addr} {n m : Nat} (h : Bag H b n) (e : n ≤ m) : Bag H b m := by
  obtain ⟨x, y, z, h1, h2, h3, h4, h5, h6⟩ := h
  exact ⟨x, y, z, h1, h2, h3, h4, h5, by omega⟩
theorem Bag.kp {H H' : Hp} {b : Addr} {n : Nat} {S : List Addr} (h : Bag H b n) (s : Stp S H H') (m : b ∉ S) : Bag H' b n := by
  obtain ⟨x, y, z, h1, h2⟩ := h
  exact ⟨x, y, z, s.kp _ _ m h1, h2⟩
theorem Bag.upd {H : Hp} {b p : Addr} {n : Nat} {o : HO} (h : Bag H b n) (e : b ≠ p) : Bag (L2.upd H p o) b n := by
  obtain ⟨x, y, z, h1, h2⟩ := h
  exact ⟨x, y, z, by rw [upd_ne e]; exact h1, h2⟩
theorem Bag.ne {H : Hp} {b p : Addr} {n : Nat} (h : Bag H b n) (q : H p = none) : b ≠ p := by
  obtain ⟨x, y, z, h1, h2⟩ := h
  exact ne_of_none h1 q
theorem cmul {i j : Int} (a b : Nat) (h1 : 0 ≤ i) (h2 : i < 2 ^ a) (h3 : 0 ≤ j) (h4 : j < 2 ^ b) (ha : 0 < a) (hb : 0 < b) (h : a + b ≤ 1000000) : CMulW i j := by
  refine wide_mul (a := a) (b := b) ?_ ?_ ha hb h
  · have e : ((i.natAbs : Nat) : Int) < ((2 ^ a : Nat) : Int) := by
      rw [Int.natAbs_of_nonneg h1, Int.natCast_pow]
      exact h2
    exact Int.ofNat_lt.mp e
  · have e : ((j.natAbs : Nat) : Int) < ((2 ^ b : Nat) : Int) := by
      rw [Int.natAbs_of_nonneg h3, Int.natCast_pow]
      exact h4
    exact Int.ofNat_lt.mp e
theorem cdiv {i j : Int} (b : Nat) (h1 : 0 < j) (h2 : j < 2 ^ b) (hb : 0 < b) (h9 : b ≤ 9000) : CDivW i j := by
  refine wide_div (b := b) h1 ?_ hb h9
  have e : ((j.natAbs : Nat) : Int) < ((2 ^ b : Nat) : Int) := by
    rw [Int.natAbs_of_nonneg (by omega), Int.natCast_pow]
    exact h2
  exact Int.ofNat_lt.mp e
theorem mul_lt {i j : Int} {a b : Nat} (h1 : 0 ≤ i) (h2 : i < 2 ^ a) (h3 : 0 ≤ j) (h4 : j < 2 ^ b) : 0 ≤ i * j ∧ i * j < 2 ^ (a + b) := by
  refine ⟨Int.mul_nonneg h1 h3, ?_⟩
  have e1 : i * j ≤ i * 2 ^ b := Int.mul_le_mul_of_nonneg_left (Int.le_of_lt h4) h1
  have hp : (0 : Int) < 2 ^ b := Int.pow_pos (by omega)
  have e2 : i * 2 ^ b < 2 ^ a * 2 ^ b := Int.mul_lt_mul_of_pos_right h2 hp
  rw [Int.pow_add]
  omega
/-- a letter for a number -/
theorem genQ {Q : V → Hp → Prop} {H : Hp} {i : Int} (h : ∀ t, t = i → Q (.int t) H) : Q (.int i) H := h i rfl
/-! ### rules of my own -/
section
variable {X : Cx}
/-- 'a' * n -/
theorem op_mul_str : OpR X (binaryOp .Mult) (fun x y H Q => ∃ i j, x = .str i ∧ y = .int j ∧ MulOk i j ∧ Q (.str (Txt.mul i j)) H) := by
  intro pins s σ H x y v u Q I rx ry h
  obtain ⟨i, j, rfl, rfl, hz, q⟩ := h
  obtain ⟨t, rfl⟩ := rx
  obtain ⟨t', rfl⟩ := ry
  exact SB.mul hz (fun t' k => ⟨.str (Txt.mul i j), H, I.tok _, ⟨_, rfl⟩, q⟩)
end
end Pg
namespace Pg
open PySem PySem.Spec PyProof.Rows L2
/-! ### a def of the text: where it stands, what it keeps -/
/-- a def of the text, found by its name -/
structure Df (K : PySem.W.Frag) (mg : Str → Option Value) (x : Str) (st : Stmt) (ps : List Str) (f : Addr) (fd : FuncData) : Prop where
  fn : Fun K x x st f fd
  at_ : mg x = some (.ref f)
  bd : Binds K fd ps []
/-- .. with its promise -/
structure Cl (P : Program) (w : World) (K : PySem.W.Frag) (mg : Str → Option Value) (base : Heap) (k : Nat) (x : Str) (st : Stmt) (ps : List Str) (sp : Sp) : Prop where
  ex : ∃ f fd, Df K mg x st ps f fd ∧ FnOk P w K mg base CX0 k f fd ps sp
theorem Cl.mono {P : Program} {w : World} {K : PySem.W.Frag} {mg : Str → Option Value} {base : Heap} {j k : Nat} {x : Str} {st : Stmt} {ps : List Str} {sp : Sp} (c : Cl P w K mg base j x st ps sp) (h : j ≤ k) : Cl P w K mg base k x st ps sp := by
  obtain ⟨f, fd, D, F⟩ := c.ex
  exact ⟨f, fd, D, F.mono h⟩
theorem Df.cl {P : Program} {w : World} {K : PySem.W.Frag} {mg : Str → Option Value} {base : Heap} {x : Str} {st : Stmt} {f : Addr} {fd : FuncData} {N ps : List Str} {k : Nat} {sp : Sp} (D : Df K mg x st ps f fd) (S : FnScope N ps (defScope st)) (len : ∀ vs H Q E, sp vs H Q E → vs.length = ps.length)
    (hbody : ∀ (cdv : Value) (A : Around) (outer : List Env) (s : Shared) (H : Hp) (vs : List V) (Q : VK) (E : XK), Room k (A.deeper (envOfC x (defScope st) s.heap.objs.size f cdv)) → sp vs H Q E →
      ∃ t, PSs (cxOf CX0 P w K mg base N x (defScope st) f cdv A outer s H E).nox (defBody st) t ∧ t { nx := fun _ H' => Q .non H', rt := Q } (start N vs) H) : Cl P w K mg base (k + 1) x st ps sp :=
  ⟨f, fd, D, D.fn.ok S len hbody⟩
def tCl (sp : Sp) (t : TA) : TE := fun σ H Q => t σ H fun vs H1 => sp vs H1 Q E0
section
variable {X : Cx} {j k : Nat} {st : Stmt} {ps : List Str} {sp : Sp} {x : Str} {p pos : Pos} {e : Expr} {es : List Expr} {t : TA}
theorem pe_cl (c : Cl X.prog X.w X.K X.mg X.base k x st ps sp) (hr : Room j X.A) (hk : k ≤ j) (ha : PA X (e :: es) t) (hg : Gl X x := by rfl) (hdb : (x == ("__debug__" : Str)) = false := by decide)
    (he : starEach (e :: es) X.env = (false, eval e X.env) :: starEach es X.env := by rfl) (hpl : (backTo pos (starEach es X.env)).any (·.1) = false := by rfl) :
    PE X (.Call (.Name x p) (e :: es) [] pos) (tCl sp t) := by
  obtain ⟨f, fd, D, F⟩ := c.ex
  refine ⟨fun pins s σ H Q I h => ?_⟩
  have q := (pe_call (E := E0) (p := p) (F.mono hk) hr hg D.at_ D.fn.kp D.bd .nil pass0 ha hdb he hpl).run pins s σ H Q I
  refine q ?_
  have h' : t σ H (fun vs H1 => sp vs H1 Q E0) := h
  show t σ H fun vs H1 => sp (vs ++ []) H1 Q E0
  simp only [List.append_nil]
  exact h'
theorem pe_cl0 (c : Cl X.prog X.w X.K X.mg X.base k x st ps sp) (hr : Room j X.A) (hk : k ≤ j) (hg : Gl X x := by rfl) (hdb : (x == ("__debug__" : Str)) = false := by decide) :
    PE X (.Call (.Name x p) [] [] pos) (tCl sp tNil) := by
  obtain ⟨f, fd, D, F⟩ := c.ex
  exact pe_call0 (E := E0) (F.mono hk) hr hg D.at_ D.fn.kp D.bd .nil pass0 hdb
/-- f(k = v, ..) -/
def tClK (sp : Sp) (gV : List V → List V → List V) (tk : TA) : TE := fun σ H Q => tk σ H fun zs H1 => sp (gV [] zs) H1 Q E0
theorem pe_clK {ks : List Str} {g : List Value → List Value → List Value} {gV : List V → List V → List V} {kws : List Keyword} {tk : TA} (c : Cl X.prog X.w X.K X.mg X.base k x st ps sp) (hr : Room j X.A) (hk : k ≤ j)
    (hb : ∀ f fd, Fun X.K x x st f fd → KBinds X.K fd ps ks g gV) (hkw : PK X kws tk)
    (hg : Gl X x := by rfl) (hall : (backToKw pos (keywordEach kws X.env)).all (·.1.isSome) = true := by rfl) (hks : (backToKw pos (keywordEach kws X.env)).filterMap (·.1) = ks := by rfl) (hdb : (x == ("__debug__" : Str)) = false := by decide)
    (hpl : ((backTo pos (starEach [] X.env)).any (·.1) || (backToKw pos (keywordEach kws X.env)).any (·.1.isNone)) = false := by rfl) :
    PE X (.Call (.Name x p) [] kws pos) (tClK sp gV tk) := by
  obtain ⟨f, fd, D, F⟩ := c.ex
  refine ⟨fun pins s σ H Q I h => ?_⟩
  refine wpAny_Call_Name_kw (ld_glob I hg D.at_ ?_ hdb)
  refine PySem.W.callWith_KW0 (h₀ := X.base) I.ok.mod.kin D.fn.kp hall ?_ hpl
  refine thn (hkw.run pos pins s σ H _ I h) fun ws s2 ⟨zs, H2, I2, rz, q2⟩ => ⟨I2.kIn, ?_⟩
  rw [hks]
  exact run_fnk (E := E0) (us := []) (vs := []) (F.mono hk) hr (hb f fd D.fn) pass0 I2 .nil rz q2
end
/-- keywords alone, in an order of their own -/
theorem kb_of {K : PySem.W.Frag} {x : Str} {st : Stmt} {f : Addr} {fd : FuncData} {ps ks : List Str} {g : List Value → List Value} {gV : List V → List V} (F : Fun K x x st f fd) (hne : ps ≠ [])
    (h : ∀ (kV doc pm : Value) (an : Option Addr) (cdv ct : Value) (ws : List Value), (g ws).length = ps.length → bindArgs (PySem.W.fnOf x x (defArgs st) (defBody st) (defScope st) .none kV doc pm an cdv ct) ⟨[], ks.zip ws⟩ = pure (ps.zip (g ws)))
    (r : ∀ {zs : List V} {ws : List Value}, Vals zs ws → Vals (gV zs) (g ws)) : KBinds K fd ps ks (fun us ws => match us with | [] => g ws | _ :: _ => []) (fun vs zs => match vs with | [] => gV zs | _ :: _ => []) := by
  obtain ⟨oc, od, kV, doc, pm, an, cdv, ct, osl, rfl, lk, hcd⟩ := F.ex
  refine ⟨fun s us ws _ hl => ?_, fun {vs us zs ws} r1 r2 => ?_⟩
  · cases us with
    | nil => exact .of_eq (h kV doc pm an cdv ct ws hl)
    | cons u us => exact absurd (List.length_eq_zero_iff.mp hl.symm) hne
  · cases r1 with
    | nil => exact r r2
    | cons _ _ => exact .nil
end Pg
namespace Pg
open PySem PySem.Spec PyProof.Rows L2
open Builtin Builtin.Str
/-! ### texts as lists of letters -/
/-- the text of these signs -/
abbrev tx (l : List Nat) : Str := ⟨l.toArray⟩
abbrev Tx (l : List Nat) : V := .str (tx l)
/-- letters a, b, c alone -/
def Abc (l : List Nat) : Prop := ∀ c ∈ l, c = 97 ∨ c = 98 ∨ c = 99
theorem tx_inj {a b : List Nat} (h : tx a = tx b) : a = b := by
  have q : (tx a).cps.toList = (tx b).cps.toList := by rw [h]
  simpa using q
theorem tx_of (s : Str) : ∃ l, s = tx l := ⟨s.cps.toList, by cases s; simp [tx]⟩
theorem tx_len (l : List Nat) : (tx l).length = l.length := by simp [Str.length]
theorem tx_app (a b : List Nat) : tx a ++ tx b = tx (a ++ b) := by
  show (⟨a.toArray ++ b.toArray⟩ : Str) = _
  simp [tx]
theorem tx_cut (l : List Nat) (lo hi : Option Int) : cutS (tx l) lo hi = tx ((l.drop (HT.sIx l.length 0 lo)).take (HT.sIx l.length l.length hi - HT.sIx l.length 0 lo)) := by
  unfold cutS
  rw [tx_len]
theorem tx_upto (l : List Nat) (k : Nat) : cutS (tx l) none (some (k : Int)) = tx (l.take k) := by
  rw [tx_cut, HT.sIx_none, HT.sIx_nat]
  rw [List.drop_zero, Nat.sub_zero]
  rcases Nat.le_total k l.length with h | h
  · rw [Nat.min_eq_left h]
  · rw [Nat.min_eq_right h, List.take_of_length_le (Nat.le_refl _), List.take_of_length_le h]
theorem tx_init (l : List Nat) : cutS (tx l) none (some (-1)) = tx l.dropLast := by
  rw [tx_cut, HT.sIx_none]
  have e : HT.sIx l.length l.length (some (-1)) = l.length - 1 := by
    show (if (-1 : Int) < 0 then ((-1 : Int) + (l.length : Int)).toNat else min (-1 : Int).toNat l.length) = _
    rw [if_pos (by decide)]
    omega
  rw [e, List.drop_zero, Nat.sub_zero, ← List.dropLast_eq_take]
theorem tx_last (l : List Nat) : cutS (tx l) (some (-1)) none = tx (l.drop (l.length - 1)) := by
  rw [tx_cut, HT.sIx_none]
  have e : HT.sIx l.length 0 (some (-1)) = l.length - 1 := by
    show (if (-1 : Int) < 0 then ((-1 : Int) + (l.length : Int)).toNat else min (-1 : Int).toNat l.length) = _
    rw [if_pos (by decide)]
    omega
  rw [e]
  congr 2
  rw [List.take_of_length_le]
  rw [List.length_drop]
  exact Nat.le_refl _
theorem foldl_app_rep {α : Type} (c : α) : ∀ (n : Nat) (acc : Array α), (List.replicate n #[c]).foldl (· ++ ·) acc = acc ++ (List.replicate n c).toArray
  | 0, acc => by simp
  | n + 1, acc => by
    rw [List.replicate_succ, List.foldl_cons, foldl_app_rep c n, List.replicate_succ]
    apply Array.ext'
    simp
theorem tx_mul (c : Nat) (n : Int) : Txt.mul (tx [c]) n = tx (List.replicate n.toNat c) := by
  unfold Txt.mul
  by_cases h : n < 1
  · rw [if_pos h, show n.toNat = 0 by omega]
    rfl
  · rw [if_neg h]
    by_cases h1 : n = 1
    · subst h1
      rfl
    · rw [if_neg (by simp [h1, Str.length])]
      show (⟨(List.replicate n.toNat #[c]).foldl (· ++ ·) #[]⟩ : Str) = _
      rw [foldl_app_rep]
      simp [tx]
theorem mulOk (c : Nat) {n : Int} (h0 : -1000 ≤ n) (h1 : n ≤ 100000) : MulOk (tx [c]) n := by
  refine ⟨by simp; omega, fun a b q => ?_, fun a b => ?_⟩
  · rw [tx_len] at q
    have e : (1 : Int) ≤ (2 ^ 63 - 1) / n := by
      have hp : 0 < n := by omega
      exact (Int.le_ediv_iff_mul_le hp).mpr (by omega)
    have q' : (([c].length : Nat) : Int) = 1 := rfl
    rw [q'] at q
    have e2 : (1 : Int) > (2 ^ 63 - 1) / n := q
    exact absurd e (by omega)
  · rw [tx_len]
    have e : ([c].length * n.toNat) ≤ sizeLine := Nat.le_trans (show [c].length * n.toNat ≤ 100000 by simp; omega) (by decide)
    unfold tooLong
    simpa using e
theorem foldl_app {α : Type} : ∀ (ps : List (List α)) (acc : Array α), (ps.map List.toArray).foldl (fun a p => a ++ p) acc = acc ++ ps.flatten.toArray
  | [], acc => by simp
  | p :: ps, acc => by
    rw [List.map_cons, List.foldl_cons, foldl_app ps, List.flatten_cons]
    apply Array.ext'
    simp
theorem join_abc (cs : List Nat) : Txt.join (tx []) (cs.map fun c => tx [c]) = tx cs := by
  cases cs with
  | nil => rfl
  | cons c cs =>
    show (⟨((cs.map fun c => tx [c])).foldl (fun acc p => acc ++ (tx []).cps ++ p.cps) (tx [c]).cps⟩ : Str) = _
    have e : ∀ (l : List Nat) (acc : Array Nat), (l.map fun c => tx [c]).foldl (fun acc p => acc ++ (tx []).cps ++ p.cps) acc = acc ++ l.toArray := by
      intro l
      induction l with
      | nil => intro acc; simp
      | cons x l ih =>
        intro acc
        rw [List.map_cons, List.foldl_cons, ih]
        apply Array.ext'
        simp
    rw [e]
    simp [tx]
theorem Abc.nil : Abc [] := fun _ h => nomatch h
theorem Abc.app {a b : List Nat} (h : Abc a) (g : Abc b) : Abc (a ++ b) := fun c m => (List.mem_append.mp m).elim (h c) (g c)
theorem Abc.take {a : List Nat} (h : Abc a) (n : Nat) : Abc (a.take n) := fun c m => h c (List.mem_of_mem_take m)
theorem Abc.drop {a : List Nat} (h : Abc a) (n : Nat) : Abc (a.drop n) := fun c m => h c (List.mem_of_mem_drop m)
theorem Abc.init {a : List Nat} (h : Abc a) : Abc a.dropLast := fun c m => h c (List.dropLast_subset _ m)
theorem Abc.rep (n : Nat) {c : Nat} (h : c = 97 ∨ c = 98 ∨ c = 99) : Abc (List.replicate n c) := fun x m => by
  rw [(List.mem_replicate.mp m).2]
  exact h
theorem Abc.one {c : Nat} (h : c = 97 ∨ c = 98 ∨ c = 99) : Abc [c] := fun x m => by
  rw [List.mem_singleton.mp m]
  exact h
theorem abc_lit : ("abc" : Str) = tx [97, 98, 99] := by decide +kernel
theorem nil_lit : ("" : Str) = tx [] := by decide +kernel
theorem goes_abc (c : Nat) : (tx [97, 98, 99]).cps.contains c = true ↔ (c = 97 ∨ c = 98 ∨ c = 99) := by
  simp [tx]
/-- strip('abc') leaves nothing just of letters alone -/
theorem strip_abc (l : List Nat) : (Txt.stripChars (tx l) (tx [97, 98, 99]) = tx []) ↔ Abc l := by
  unfold Txt.stripChars
  rw [stripBy_eq]
  obtain ⟨a1, a2, a3⟩ := lo_facts (tx [97, 98, 99]).cps.contains (tx l)
  obtain ⟨b1, b2, b3, b4⟩ := hi_facts (tx [97, 98, 99]).cps.contains (tx l) _ a1
  generalize stripLo (tx [97, 98, 99]).cps.contains true (tx l) = lo at *
  generalize stripHi (tx [97, 98, 99]).cps.contains true (tx l) lo = hi at *
  have gd : ∀ k, (tx l).cps.getD k 0 = l.getD k 0 := fun k => by rw [← getD_list]
  have hlen : (tx l).length = l.length := tx_len l
  rw [hlen] at a1 a3 b2 b3
  have size : (strSub (tx l) lo hi).length = hi - lo := by
    unfold strSub Str.length
    simp
    omega
  constructor
  · intro h
    have e : hi - lo = 0 := by rw [← size, h]; rfl
    have e2 : hi = lo := by omega
    subst e2
    have all : ∀ k, k < l.length → (tx [97, 98, 99]).cps.contains (l.getD k 0) = true := fun k hk => by
      rw [← gd]
      by_cases q : k < hi
      · exact a2 k q
      · exact b3 k (by omega) hk
    intro c m
    obtain ⟨k, hk, rfl⟩ := List.mem_iff_getElem.mp m
    have := all k hk
    rw [List.getD_eq_getElem?_getD, List.getElem?_eq_getElem hk] at this
    exact (goes_abc _).mp this
  · intro h
    have e : lo = l.length := by
      rcases a3 with e | e
      · exact e
      · by_cases q : lo < l.length
        · rw [gd, List.getD_eq_getElem?_getD, List.getElem?_eq_getElem q] at e
          have := (goes_abc _).mpr (h _ (List.getElem_mem q))
          rw [Option.getD_some] at e
          rw [e] at this
          cases this
        · omega
    have z : (strSub (tx l) lo hi).length = 0 := by omega
    have : (strSub (tx l) lo hi).cps = #[] := Array.eq_empty_of_size_eq_zero z
    cases hh : strSub (tx l) lo hi with
    | mk c =>
      rw [hh] at this
      show (⟨c⟩ : Str) = ⟨#[]⟩
      rw [show c = #[] from this]
/-! ### picking -/
theorem pick {α : Type} {xs : List α} {d : Int} (h0 : 0 ≤ d) (h1 : d < (xs.length : Int)) : ∃ v, v ∈ xs ∧ atI xs d = some v := by
  obtain ⟨k, rfl⟩ := Int.eq_ofNat_of_zero_le h0
  have hk : k < xs.length := by omega
  exact ⟨xs[k], List.getElem_mem hk, atI_nat (List.getElem?_eq_getElem hk)⟩
theorem pick_int {ns : List Int} {d : Int} (h0 : 0 ≤ d) (h1 : d < (ns.length : Int)) : ∃ v, v ∈ ns ∧ atI (ns.map V.int) d = some (.int v) := by
  obtain ⟨v, m, e⟩ := pick (xs := ns.map V.int) h0 (by rw [List.length_map]; exact h1)
  obtain ⟨n, hn, rfl⟩ := List.mem_map.mp m
  exact ⟨n, hn, e⟩
theorem at0 {α : Type} {a : α} {l : List α} : atI (a :: l) 0 = some a := atI_nat (j := 0) rfl
theorem at1 {α : Type} {a b : α} {l : List α} : atI (a :: b :: l) 1 = some b := atI_nat (j := 1) rfl
theorem sz {n : Nat} (h : n ≤ 100000) : n ≤ sizeLine := Nat.le_trans h (by decide)
theorem szt {l : List Nat} (h : l.length ≤ 100000) : (tx l).length ≤ sizeLine := by
  rw [tx_len]
  exact sz h
theorem inV_str (s : Str) : ∀ ws : List Str, inV (.str s) (ws.map V.str) = decide (s ∈ ws)
  | [] => rfl
  | x :: ws => by
    have ih := inV_str s ws
    unfold inV at ih ⊢
    rw [List.map_cons, List.any_cons, ih]
    show ((x == s) || decide (s ∈ ws)) = _
    by_cases e : x = s
    · subst e
      simp
    · have : (x == s) = false := beq_eq_false_iff_ne.mpr e
      rw [this]
      simp
      exact fun q => absurd q.symm e
end Pg
namespace Pg
open PySem PySem.Spec PyProof.Rows L2
/-! ### lists of texts, compared -/
theorem strOk_abc {l : List Nat} (h : Abc l) : PyData.canLay0 (.str (tx l)) = true := by
  unfold PyData.canLay0 PyData.strOk
  simp
  intro c m
  rcases h c m with e | e | e <;> subst e <;> decide
theorem canLay_strs : ∀ {ls : List (List Nat)}, (∀ l ∈ ls, Abc l) → PyData.canLayAll0 (ls.map fun l => .str (tx l)) = true
  | [], _ => rfl
  | l :: ls, h => by
    show (PyData.canLay0 (.str (tx l)) && PyData.canLayAll0 (ls.map fun l => .str (tx l))) = true
    rw [strOk_abc (h l List.mem_cons_self), canLay_strs fun m q => h m (List.mem_cons_of_mem _ q)]
    rfl
theorem depth_strs : ∀ (ls : List (List Nat)), PyData.depthAll (ls.map fun l => .str (tx l)) = 0
  | [] => rfl
  | l :: ls => by
    show max 0 (PyData.depthAll (ls.map fun l => .str (tx l))) = 0
    rw [depth_strs ls]
    rfl
theorem shaped_strs {ls : List (List Nat)} (h : ∀ l ∈ ls, Abc l) : SeqAt.shaped (.list (ls.map fun l => .str (tx l))) = true := by
  unfold SeqAt.shaped
  rw [show PyData.canLay0 (.list (ls.map fun l => .str (tx l))) = true from canLay_strs h]
  rw [show PyData.depth (.list (ls.map fun l => .str (tx l))) = 0 + 1 by show PyData.depthAll _ + 1 = _; rw [depth_strs]]
  rfl
theorem dp_strs {K : PySem.W.Frag} {H : Hp} : ∀ (ls : List (List Nat)), DpAll K H (ls.map Tx) (ls.map fun l => .str (tx l))
  | [] => .nil
  | l :: ls => .cons (.str _) (dp_strs ls)
theorem ne_nil_strs {K : PySem.W.Frag} {H : Hp} {p q : Addr} {ls : List (List Nat)} {Q : VK} (hp : SqL K H p (ls.map Tx)) (h : ∀ l ∈ ls, Abc l) (hq : H q = some (.lst [])) (k : Q (.bl (!ls.isEmpty)) H) : rNeD K (.ref p) (.ref q) H Q := by
  refine ⟨.list (ls.map fun l => .str (tx l)), .list [], .lst hp (dp_strs ls), .lst (SqL.of hq) .nil, shaped_strs h, rfl, ?_⟩
  have e : PyData.eqv (.list (ls.map fun l => .str (tx l))) (.list []) = ls.isEmpty := by
    cases ls with
    | nil => rfl
    | cons l ls => rfl
  rw [e]
  exact k
end Pg
namespace Pg
open PySem PySem.Spec PyProof.Rows L2
/-! ### any values: what they are, as far as the program looks -/
inductive Dt where
  | non | bl (b : Bool) | int (i : Int) | str (l : List Nat) | tup (ds : List Dt) | lst | obj
mutual
def Dt.dep : Dt → Nat
  | .tup ds => Dt.depL ds + 1
  | _ => 0
def Dt.depL : List Dt → Nat
  | [] => 0
  | d :: ds => max d.dep (Dt.depL ds)
end
theorem Dt.dep_mem : ∀ {ds : List Dt} {d : Dt}, d ∈ ds → d.dep ≤ Dt.depL ds
  | e :: ds, d, m => by
    rcases List.mem_cons.mp m with rfl | m
    · exact Nat.le_max_left _ _
    · exact Nat.le_trans (Dt.dep_mem m) (Nat.le_max_right _ _)
theorem Dt.depL_le : ∀ {ds : List Dt} {n : Nat}, (∀ d ∈ ds, d.dep ≤ n) → Dt.depL ds ≤ n
  | [], _, _ => Nat.zero_le _
  | d :: ds, n, h => Nat.max_le.mpr ⟨h d List.mem_cons_self, Dt.depL_le fun e m => h e (List.mem_cons_of_mem _ m)⟩
mutual
inductive Rp (K : PySem.W.Frag) (H : Hp) : V → Dt → Prop
  | non : Rp K H .non .non
  | bl (b : Bool) : Rp K H (.bl b) (.bl b)
  | int (i : Int) : Rp K H (.int i) (.int i)
  | str (l : List Nat) (h : l.length ≤ 100000) : Rp K H (Tx l) (.str l)
  | tup {a : Addr} {vs : List V} {ds : List Dt} : SqT K H a vs → vs.length ≤ 100000 → RpL K H vs ds → Rp K H (.ref a) (.tup ds)
  | lst {a : Addr} {vs : List V} : H a = some (.lst vs) → Rp K H (.ref a) .lst
  | obj {a C : Addr} : H a = some (ExO (.ref C) a) → Rp K H (.ref a) .obj
inductive RpL (K : PySem.W.Frag) (H : Hp) : List V → List Dt → Prop
  | nil : RpL K H [] []
  | cons {v : V} {vs : List V} {d : Dt} {ds : List Dt} : Rp K H v d → RpL K H vs ds → RpL K H (v :: vs) (d :: ds)
end
/-- S has nothing but lists -/
def Lsts (H : Hp) (S : List Addr) : Prop := ∀ p ∈ S, ∃ xs, H p = some (.lst xs)
theorem Lsts.nil {H : Hp} : Lsts H [] := fun _ m => nomatch m
theorem Lsts.one {H : Hp} {p : Addr} {xs : List V} (h : H p = some (.lst xs)) : Lsts H [p] := fun q m => by
  rw [List.mem_singleton.mp m]
  exact ⟨xs, h⟩
theorem Lsts.cons {H : Hp} {p : Addr} {S : List Addr} {xs : List V} (h : H p = some (.lst xs)) (t : Lsts H S) : Lsts H (p :: S) := fun q m => by
  rcases List.mem_cons.mp m with rfl | m
  · exact ⟨xs, h⟩
  · exact t q m
theorem Lsts.stp {H H' : Hp} {S S' : List Addr} (h : Lsts H S) (s : Stp S' H H') : Lsts H' S := fun p m => by
  obtain ⟨xs, e⟩ := h p m
  exact s.ls p xs e
theorem sqt_stp {K : PySem.W.Frag} {H H' : Hp} {S : List Addr} {a : Addr} {vs : List V} (s : Stp S H H') (l : Lsts H S) (h : SqT K H a vs) : SqT K H' a vs := by
  rcases h with (h | ⟨o, h⟩) | h
  · refine .inl (.inl (s.kp a _ (fun m => ?_) h))
    obtain ⟨xs, e⟩ := l a m
    rw [h] at e
    cases e
  · refine .inl (.inr ⟨o, s.kp a _ (fun m => ?_) h⟩)
    obtain ⟨xs, e⟩ := l a m
    rw [h] at e
    cases e
  · exact .inr h
mutual
theorem Rp.stp {K : PySem.W.Frag} {H H' : Hp} {S : List Addr} (s : Stp S H H') (l : Lsts H S) : ∀ {v : V} {d : Dt}, Rp K H v d → Rp K H' v d
  | _, .non, .non => .non
  | _, .bl _, .bl b => .bl b
  | _, .int _, .int i => .int i
  | _, .str _, .str x h => .str x h
  | _, .tup ds, .tup h n r => .tup (sqt_stp s l h) n (RpL.stp s l r)
  | _, .lst, .lst (a := a) (vs := vs) h => by
    obtain ⟨ys, e⟩ := s.ls a vs h
    exact .lst e
  | _, .obj, .obj (a := a) (C := C) h => by
    refine .obj (C := C) (s.kp a _ (fun m => ?_) h)
    obtain ⟨xs, e⟩ := l a m
    rw [h] at e
    cases e
theorem RpL.stp {K : PySem.W.Frag} {H H' : Hp} {S : List Addr} (s : Stp S H H') (l : Lsts H S) : ∀ {vs : List V} {ds : List Dt}, RpL K H vs ds → RpL K H' vs ds
  | _, [], .nil => .nil
  | _, _ :: _, .cons h r => .cons (Rp.stp s l h) (RpL.stp s l r)
end
theorem RpL.len {K : PySem.W.Frag} {H : Hp} : ∀ {vs : List V} {ds : List Dt}, RpL K H vs ds → vs.length = ds.length
  | _, [], .nil => rfl
  | _, _ :: _, .cons _ r => by rw [List.length_cons, List.length_cons, RpL.len r]
theorem RpL.get {K : PySem.W.Frag} {H : Hp} : ∀ {vs : List V} {ds : List Dt} {i : Nat} {v : V}, RpL K H vs ds → vs[i]? = some v → ∃ d, ds[i]? = some d ∧ Rp K H v d
  | _, [], _, _, .nil, e => by simp at e
  | _, d :: _, 0, _, .cons h _, e => by
    simp at e
    subst e
    exact ⟨d, rfl, h⟩
  | _, _ :: _, i + 1, v, .cons _ r, e => RpL.get (i := i) (v := v) r (by simpa using e)
theorem RpL.app {K : PySem.W.Frag} {H : Hp} : ∀ {vs ws : List V} {ds es : List Dt}, RpL K H vs ds → RpL K H ws es → RpL K H (vs ++ ws) (ds ++ es)
  | _, _, [], _, .nil, q => q
  | _, _, _ :: _, _, .cons h r, q => .cons h (RpL.app r q)
theorem RpL.one {K : PySem.W.Frag} {H : Hp} : ∀ {vs : List V} {ds : List Dt}, RpL K H vs ds → vs.length = 1 → ∃ v d, vs = [v] ∧ ds = [d] ∧ Rp K H v d
  | _, [], .nil, h => by simp at h
  | _, [d], .cons h .nil, _ => ⟨_, d, rfl, rfl, h⟩
  | _, _ :: _ :: _, .cons _ (.cons _ _), h => by simp at h
/-! ### type(x), is -/
/-- the name of a value's built-in class; none for an object of the package -/
def Dt.ty : Dt → Option String
  | .non => some "NoneType"
  | .bl _ => some "bool"
  | .int _ => some "int"
  | .str _ => some "str"
  | .tup _ => some "tuple"
  | .lst => some "list"
  | .obj => none
def rTy (K : PySem.W.Frag) : List V → Hp → VK → Prop := fun xs H Q => ∃ x d, xs = [x] ∧ Rp K H x d ∧ ∀ y, (∀ T, d.ty = some T → y = .ty T) → (d.ty = none → ∃ C, y = .ref C) → Q y H
section
variable {X : Cx}
theorem call_type : CallR X (.type "type") (rTy X.K) := by
  intro pins s σ H xs us Q I r h
  obtain ⟨x, d, rfl, rp, q⟩ := h
  have old : ∀ T, TyB X.K H x T → d.ty = some T → wpAny (model X.prog X.w) X.A (call (.type "type") us) (EP X pins σ Q) X.xe s := fun T t e => by
    refine call_type1 pins s σ H [x] us Q I r ⟨x, T, rfl, t, q _ (fun T' e' => ?_) (fun n => ?_)⟩
    · rw [e] at e'
      cases e'
      rfl
    · rw [e] at n
      cases n
  cases rp with
  | non => exact old _ .non rfl
  | bl b => exact old _ (.bl b) rfl
  | int i => exact old _ (.int i) rfl
  | str l hl => exact old _ (.str _) rfl
  | tup hs hn ha => exact old _ (.tup hs) rfl
  | lst hs => exact old _ (.lst (SqL.of hs)) rfl
  | obj ho =>
    rename_i a C
    obtain ⟨u, rfl, rx⟩ := vals1 r
    cases rx
    obtain ⟨⟨oe, vs, e1, ⟨e2, e3⟩, e4, _⟩, _⟩ := I.hok _ _ ho
    obtain ⟨hh, g, dd, t, os⟩ := s
    exact call_type_obj e1 (by rw [e2]; rfl) (by rw [e2]; exact ⟨.ref C, H, I, rfl, q _ (fun T e => nomatch e) (fun _ => ⟨C, rfl⟩)⟩)
def rTyIs (neg : Bool) : R2 := fun x y H Q => ∃ T, y = .ty T ∧ ((∃ T', x = .ty T' ∧ Q (.bl (neg ^^ decide (T' = T))) H) ∨ ∃ C, x = .ref C ∧ Q (.bl neg) H)
theorem op_isTy : OpR X (compareOp .Is) (rTyIs false) := by
  intro pins s σ H x y v u Q I rx ry h
  obtain ⟨T, rfl, ⟨T', rfl, q⟩ | ⟨C, rfl, q⟩⟩ := h
  · exact op_isTyB pins s σ H _ _ _ _ _ I rx ry ⟨T', T, rfl, rfl, by rwa [Bool.false_xor] at q⟩
  · cases (show v = Value.ref C from rx)
    cases (show u = Value.type T from ry)
    exact wpAny_is_other rfl (by intro e; cases e) ⟨.bl false, H, I, rfl, q⟩
theorem op_notTy : OpR X (compareOp .IsNot) (rTyIs true) := by
  intro pins s σ H x y v u Q I rx ry h
  obtain ⟨T, rfl, ⟨T', rfl, q⟩ | ⟨C, rfl, q⟩⟩ := h
  · exact op_notTyB pins s σ H _ _ _ _ _ I rx ry ⟨T', T, rfl, rfl, by rwa [Bool.true_xor] at q⟩
  · cases (show v = Value.ref C from rx)
    cases (show u = Value.type T from ry)
    exact wpAny_isNot_other rfl (by intro e; cases e) ⟨.bl true, H, I, rfl, q⟩
end
/-- type(x) is T, type(x) is not T -/
theorem ty_is {K : PySem.W.Frag} {H : Hp} {x : V} {d : Dt} {T : String} {neg : Bool} {Q : VK} (r : Rp K H x d) (k : Q (.bl (neg ^^ decide (d.ty = some T))) H) : rTy K [x] H fun y H1 => rTyIs neg y (.ty T) H1 Q := by
  refine ⟨x, d, rfl, r, fun y h1 h2 => ⟨T, rfl, ?_⟩⟩
  cases e : d.ty with
  | none =>
    obtain ⟨C, rfl⟩ := h2 e
    refine .inr ⟨C, rfl, ?_⟩
    rw [e] at k
    simpa using k
  | some T' =>
    rw [h1 T' e]
    refine .inl ⟨T', rfl, ?_⟩
    rw [e] at k
    simpa using k
/-! ### type(e) is T as one piece -/
def Mono (te : TE) : Prop := ∀ σ H (Q Q' : VK), (∀ v H', Q v H' → Q' v H') → te σ H Q → te σ H Q'
theorem Mono.var {i : Nat} : Mono (tVar i) := fun σ H Q Q' h ⟨v, e, q⟩ => ⟨v, e, h _ _ q⟩
theorem Mono.c {v : V} : Mono (tC v) := fun σ H Q Q' h q => h _ _ q
theorem Mono.op {r : R2} {ta tb : TE} (ha : Mono ta) (hb : Mono tb) (hr : ∀ x y H (Q Q' : VK), (∀ v H', Q v H' → Q' v H') → r x y H Q → r x y H Q') : Mono (tOp r ta tb) := fun σ H Q Q' h q =>
  ha σ H _ _ (fun x H1 q1 => hb σ H1 _ _ (fun y H2 q2 => hr x y H2 _ _ h q2) q1) q
theorem Mono.ixT {K : PySem.W.Frag} {ta tb : TE} (ha : Mono ta) (hb : Mono tb) : Mono (tOp (rIxT K) ta tb) := Mono.op ha hb fun _ _ _ _ _ h ⟨p, xs, i, v, e1, e2, e3, e4, q⟩ => ⟨p, xs, i, v, e1, e2, e3, e4, h _ _ q⟩
theorem Mono.ixL {K : PySem.W.Frag} {ta tb : TE} (ha : Mono ta) (hb : Mono tb) : Mono (tOp (rIxL K) ta tb) := Mono.op ha hb fun _ _ _ _ _ h ⟨p, xs, i, v, e1, e2, e3, e4, q⟩ => ⟨p, xs, i, v, e1, e2, e3, e4, h _ _ q⟩
def tTyIs (K : PySem.W.Frag) (neg : Bool) (T : String) (te : TE) : TE := fun σ H Q => te σ H fun x H1 => ∃ d, Rp K H1 x d ∧ Q (.bl (neg ^^ decide (d.ty = some T))) H1
def tTTyIs (K : PySem.W.Frag) (neg : Bool) (T : String) (te : TE) : TT := fun σ H Q => te σ H fun x H1 => ∃ d, Rp K H1 x d ∧ Q (neg ^^ decide (d.ty = some T)) H1
section
variable {X : Cx} {e : Expr} {te : TE} {T : String} {x : Str} {p pos q pos2 : Pos}
theorem pe_tyIs (hm : Mono te) (he : PE X e te) (hn : X.mg "type" = none) (hT : X.mg x = none) (hv : bootBuiltins x = some (Value.type T)) (hg : Gl X "type" := by rfl) (hgT : Gl X x := by rfl) (hnn : x ≠ "__name__" := by decide) (hd : (x == ("__debug__" : Str)) = false := by decide)
    (hs : starEach [e] X.env = (false, eval e X.env) :: starEach [] X.env := by rfl) (hpl : (backTo pos (starEach [] X.env)).any (·.1) = false := by rfl) :
    PE X (.Compare (.Call (.Name "type" p) [e] [] pos) [.Is] [.Name x q] pos2) (tTyIs X.K false T te) := by
  have h := pe_cmpR (X := X) (pos := pos2) op_isTy (pe_callTy (p := p) (pos := pos) call_type hg hn (by decide +kernel) (pa_cons he pa_nil (hs := hs)) (he := hs) (hpl := hpl)) (pe_bltn (v := .ty T) (pos := q) hgT hT hv rfl hnn hd) (nomark _)
  refine ⟨fun pins s σ H Q I hw => h.run pins s σ H Q I ?_⟩
  exact hm σ H _ _ (fun v H1 ⟨d, r, k⟩ => ty_is (neg := false) r k) hw
theorem pe_tyNot (hm : Mono te) (he : PE X e te) (hn : X.mg "type" = none) (hT : X.mg x = none) (hv : bootBuiltins x = some (Value.type T)) (hg : Gl X "type" := by rfl) (hgT : Gl X x := by rfl) (hnn : x ≠ "__name__" := by decide) (hd : (x == ("__debug__" : Str)) = false := by decide)
    (hs : starEach [e] X.env = (false, eval e X.env) :: starEach [] X.env := by rfl) (hpl : (backTo pos (starEach [] X.env)).any (·.1) = false := by rfl) :
    PE X (.Compare (.Call (.Name "type" p) [e] [] pos) [.IsNot] [.Name x q] pos2) (tTyIs X.K true T te) := by
  have h := pe_cmpR (X := X) (pos := pos2) op_notTy (pe_callTy (p := p) (pos := pos) call_type hg hn (by decide +kernel) (pa_cons he pa_nil (hs := hs)) (he := hs) (hpl := hpl)) (pe_bltn (v := .ty T) (pos := q) hgT hT hv rfl hnn hd) (nomark _)
  refine ⟨fun pins s σ H Q I hw => h.run pins s σ H Q I ?_⟩
  exact hm σ H _ _ (fun v H1 ⟨d, r, k⟩ => ty_is (neg := true) r k) hw
theorem pt_tyIs (hm : Mono te) (he : PE X e te) (hn : X.mg "type" = none) (hT : X.mg x = none) (hv : bootBuiltins x = some (Value.type T)) (hg : Gl X "type" := by rfl) (hgT : Gl X x := by rfl) (hnn : x ≠ "__name__" := by decide) (hd : (x == ("__debug__" : Str)) = false := by decide)
    (hs : starEach [e] X.env = (false, eval e X.env) :: starEach [] X.env := by rfl) (hpl : (backTo pos (starEach [] X.env)).any (·.1) = false := by rfl) :
    PT X (.Compare (.Call (.Name "type" p) [e] [] pos) [.Is] [.Name x q] pos2) (tTTyIs X.K false T te) := by
  have h := pt_cmpR (X := X) (pos := pos2) op_isTy (pe_callTy (p := p) (pos := pos) call_type hg hn (by decide +kernel) (pa_cons he pa_nil (hs := hs)) (he := hs) (hpl := hpl)) (pe_bltn (v := .ty T) (pos := q) hgT hT hv rfl hnn hd) (nomark _)
  refine ⟨fun pins s σ H Q I hw => h.run pins s σ H Q I ?_⟩
  exact hm σ H _ _ (fun v H1 ⟨d, r, k⟩ => ty_is (neg := false) (Q := fun x H' => ∃ k, x = .bl k ∧ Q k H') r ⟨_, rfl, k⟩) hw
theorem pt_tyNot (hm : Mono te) (he : PE X e te) (hn : X.mg "type" = none) (hT : X.mg x = none) (hv : bootBuiltins x = some (Value.type T)) (hg : Gl X "type" := by rfl) (hgT : Gl X x := by rfl) (hnn : x ≠ "__name__" := by decide) (hd : (x == ("__debug__" : Str)) = false := by decide)
    (hs : starEach [e] X.env = (false, eval e X.env) :: starEach [] X.env := by rfl) (hpl : (backTo pos (starEach [] X.env)).any (·.1) = false := by rfl) :
    PT X (.Compare (.Call (.Name "type" p) [e] [] pos) [.IsNot] [.Name x q] pos2) (tTTyIs X.K true T te) := by
  have h := pt_cmpR (X := X) (pos := pos2) op_notTy (pe_callTy (p := p) (pos := pos) call_type hg hn (by decide +kernel) (pa_cons he pa_nil (hs := hs)) (he := hs) (hpl := hpl)) (pe_bltn (v := .ty T) (pos := q) hgT hT hv rfl hnn hd) (nomark _)
  refine ⟨fun pins s σ H Q I hw => h.run pins s σ H Q I ?_⟩
  exact hm σ H _ _ (fun v H1 ⟨d, r, k⟩ => ty_is (neg := true) (Q := fun x H' => ∃ k, x = .bl k ∧ Q k H') r ⟨_, rfl, k⟩) hw
end
end Pg
namespace Pg
open PySem PySem.Spec PyProof.Rows L2
/-! ### readings are monotone: a piece may be cut off by what it leaves -/
def MonoT (t : TT) : Prop := ∀ σ H (Q Q' : Bool → Hp → Prop), (∀ b H', Q b H' → Q' b H') → t σ H Q → t σ H Q'
def MonoA (t : TA) : Prop := ∀ σ H (Q Q' : List V → Hp → Prop), (∀ vs H', Q vs H' → Q' vs H') → t σ H Q → t σ H Q'
def MonoS (sp : Sp) : Prop := ∀ vs H (Q Q' : VK) E, (∀ v H', Q v H' → Q' v H') → sp vs H Q E → sp vs H Q' E
def MonoR (r : R2) : Prop := ∀ x y H (Q Q' : VK), (∀ v H', Q v H' → Q' v H') → r x y H Q → r x y H Q'
def MonoC (r : List V → Hp → VK → Prop) : Prop := ∀ vs H (Q Q' : VK), (∀ v H', Q v H' → Q' v H') → r vs H Q → r vs H Q'
theorem Mono.cut {te : TE} (m : Mono te) {σ : L2.St} {H : Hp} {Q : VK} (P : V → Hp → Prop) (h : te σ H P) (k : ∀ v H', P v H' → Q v H') : te σ H Q := m σ H P Q k h
theorem MonoT.cut {t : TT} (m : MonoT t) {σ : L2.St} {H : Hp} {Q : Bool → Hp → Prop} (P : Bool → Hp → Prop) (h : t σ H P) (k : ∀ b H', P b H' → Q b H') : t σ H Q := m σ H P Q k h
theorem MonoR.i0 {g : Int → Int → V} : MonoR (rI0 g) := fun _ _ _ _ _ h ⟨i, j, e1, e2, q⟩ => ⟨i, j, e1, e2, h _ _ q⟩
theorem MonoR.i {C : Int → Int → Prop} {g : Int → Int → V} : MonoR (rI C g) := fun _ _ _ _ _ h ⟨i, j, e1, e2, c, q⟩ => ⟨i, j, e1, e2, c, h _ _ q⟩
theorem MonoR.eq : MonoR rEq := fun _ _ _ _ _ h ⟨s, q⟩ => ⟨s, h _ _ q⟩
theorem MonoR.ne : MonoR rNe := fun _ _ _ _ _ h ⟨s, q⟩ => ⟨s, h _ _ q⟩
theorem MonoR.ixL {K : PySem.W.Frag} : MonoR (rIxL K) := fun _ _ _ _ _ h ⟨p, xs, i, v, e1, e2, e3, e4, q⟩ => ⟨p, xs, i, v, e1, e2, e3, e4, h _ _ q⟩
theorem MonoR.ixT {K : PySem.W.Frag} : MonoR (rIxT K) := fun _ _ _ _ _ h ⟨p, xs, i, v, e1, e2, e3, e4, q⟩ => ⟨p, xs, i, v, e1, e2, e3, e4, h _ _ q⟩
theorem MonoR.ixS : MonoR rIxS := fun _ _ _ _ _ h ⟨z, i, c, e1, e2, e3, e4, q⟩ => ⟨z, i, c, e1, e2, e3, e4, h _ _ q⟩
theorem MonoR.inn {K : PySem.W.Frag} {neg : Bool} : MonoR (rIn K neg) := fun _ _ _ _ _ h ⟨p, xs, e1, e2, e3, e4, q⟩ => ⟨p, xs, e1, e2, e3, e4, h _ _ q⟩
theorem MonoR.neD {K : PySem.W.Frag} : MonoR (rNeD K) := fun _ _ _ _ _ h ⟨d, e, a, b, c, f, q⟩ => ⟨d, e, a, b, c, f, h _ _ q⟩
theorem MonoR.eqD {K : PySem.W.Frag} : MonoR (rEqD K) := fun _ _ _ _ _ h ⟨d, e, a, b, c, f, q⟩ => ⟨d, e, a, b, c, f, h _ _ q⟩
theorem MonoR.str {C : Str → Str → Prop} {g : Str → Str → V} : MonoR (fun x y H Q => ∃ i j, x = .str i ∧ y = .str j ∧ C i j ∧ Q (g i j) H) := fun _ _ _ _ _ h ⟨i, j, a, b, c, q⟩ => ⟨i, j, a, b, c, h _ _ q⟩
theorem MonoR.str0 {g : Str → Str → V} : MonoR (fun x y H Q => ∃ i j, x = .str i ∧ y = .str j ∧ Q (g i j) H) := fun _ _ _ _ _ h ⟨i, j, a, b, q⟩ => ⟨i, j, a, b, h _ _ q⟩
theorem Mono.op' {r : R2} {ta tb : TE} (hr : MonoR r) (ha : Mono ta) (hb : Mono tb) : Mono (tOp r ta tb) := Mono.op ha hb hr
theorem Mono.tif {t : TT} {ta tb : TE} (ht : MonoT t) (ha : Mono ta) (hb : Mono tb) : Mono (tIf t ta tb) := fun σ H Q Q' h q => ht σ H _ _ (fun b H1 q1 => by
  cases b with
  | true => exact ha σ H1 _ _ h q1
  | false => exact hb σ H1 _ _ h q1) q
theorem MonoT.test {te : TE} (h : Mono te) : MonoT (tTest te) := fun σ H Q Q' k q => h σ H _ _ (fun x H1 ⟨c, e, q1⟩ => ⟨c, e, k _ _ q1⟩) q
theorem MonoT.b {te : TE} (h : Mono te) : MonoT (tB te) := fun σ H Q Q' k q => h σ H _ _ (fun x H1 ⟨c, e, q1⟩ => ⟨c, e, k _ _ q1⟩) q
theorem MonoT.not {t : TT} (h : MonoT t) : MonoT (tNot t) := fun σ H Q Q' k q => h σ H _ _ (fun b H1 q1 => k _ _ q1) q
theorem MonoT.and {t u : TT} (h : MonoT t) (g : MonoT u) : MonoT (tAnd t u) := fun σ H Q Q' k q => h σ H _ _ (fun b H1 q1 => by
  cases b with
  | true => exact g σ H1 _ _ k q1
  | false => exact k _ _ q1) q
theorem MonoT.or {t u : TT} (h : MonoT t) (g : MonoT u) : MonoT (tOr t u) := fun σ H Q Q' k q => h σ H _ _ (fun b H1 q1 => by
  cases b with
  | true => exact k _ _ q1
  | false => exact g σ H1 _ _ k q1) q
theorem MonoA.nil : MonoA tNil := fun _ _ _ _ h q => h _ _ q
theorem MonoA.cons {te : TE} {ta : TA} (h : Mono te) (g : MonoA ta) : MonoA (tCons te ta) := fun σ H Q Q' k q => h σ H _ _ (fun x H1 q1 => g σ H1 _ _ (fun vs H2 q2 => k _ _ q2) q1) q
theorem Mono.cl {sp : Sp} {ta : TA} (hs : MonoS sp) (ha : MonoA ta) : Mono (tCl sp ta) := fun σ H Q Q' k q => ha σ H _ _ (fun vs H1 q1 => hs vs H1 _ _ E0 k q1) q
theorem Mono.cb {r : List V → Hp → VK → Prop} {ta : TA} (hs : MonoC r) (ha : MonoA ta) : Mono (tCB r ta) := fun σ H Q Q' k q => ha σ H _ _ (fun vs H1 q1 => hs vs H1 _ _ k q1) q
theorem Mono.tup {ta : TA} (ha : MonoA ta) : Mono (tTup ta) := fun σ H Q Q' k q => ha σ H _ _ (fun vs H1 ⟨l, q1⟩ => ⟨l, fun p hp => k _ _ (q1 p hp)⟩) q
theorem Mono.lst {ta : TA} (ha : MonoA ta) : Mono (tLst ta) := fun σ H Q Q' k q => ha σ H _ _ (fun vs H1 ⟨l, q1⟩ => ⟨l, fun p hp => k _ _ (q1 p hp)⟩) q
/-- one of two constants -/
theorem ite_tC {c : Prop} [Decidable c] {a b : V} {σ : L2.St} {H : Hp} {Q : VK} (h : ∀ v, v = a ∨ v = b → Q v H) : if c then tC a σ H Q else tC b σ H Q := by
  split
  · exact h a (.inl rfl)
  · exact h b (.inr rfl)
theorem MonoC.two {g : Int → Int → V} : MonoC (fun xs H Q => ∃ i j, xs = [.int i, .int j] ∧ Q (g i j) H) := fun _ _ _ _ h ⟨i, j, e, q⟩ => ⟨i, j, e, h _ _ q⟩
theorem MonoC.int1 : MonoC (fun xs H Q => (∃ i, xs = [.int i] ∧ Q (.int i) H) ∨ ∃ k : Bool, xs = [.bl k] ∧ Q (.int (if k then 1 else 0)) H) := fun _ _ _ _ h q => by
  rcases q with ⟨i, e, q⟩ | ⟨i, e, q⟩
  · exact .inl ⟨i, e, h _ _ q⟩
  · exact .inr ⟨i, e, h _ _ q⟩
theorem RpL.strs {K : PySem.W.Frag} {H : Hp} : ∀ {ws : List (List Nat)}, (∀ l ∈ ws, l.length ≤ 100000) → RpL K H (ws.map Tx) (ws.map Dt.str)
  | [], _ => .nil
  | l :: ws, h => .cons (.str l (h l List.mem_cons_self)) (RpL.strs fun m q => h m (List.mem_cons_of_mem _ q))
theorem dep_strs : ∀ (ws : List (List Nat)), Dt.depL (ws.map Dt.str) = 0
  | [] => rfl
  | l :: ws => by
    show max 0 (Dt.depL (ws.map Dt.str)) = 0
    rw [dep_strs ws]
    rfl
/-- a text of the program's own as a value -/
theorem Rp.lit {K : PySem.W.Frag} {H : Hp} (s : Str) (h : s.cps.toList.length ≤ 100000 := by decide +kernel) : Rp K H (.str s) (.str s.cps.toList) := by
  have := Rp.str (K := K) (H := H) s.cps.toList h
  have e : tx s.cps.toList = s := by cases s <;> simp [tx]
  rwa [Tx, e] at this
end Pg
namespace Pg
open PySem PySem.Spec PyProof.Rows L2
/-! ### expressions that build data: what they evaluate to -/
def EvD (K : PySem.W.Frag) (te : TE) (σ : L2.St) (H : Hp) (d : Dt) : Prop := ∀ H1, Stp [] H H1 → ∀ Q : VK, (∀ v H2, Stp [] H1 H2 → Rp K H2 v d → Q v H2) → te σ H1 Q
def EvDA (K : PySem.W.Frag) (ta : TA) (σ : L2.St) (H : Hp) (ds : List Dt) : Prop := ∀ H1, Stp [] H H1 → ∀ Q : List V → Hp → Prop, (∀ vs H2, Stp [] H1 H2 → RpL K H2 vs ds → Q vs H2) → ta σ H1 Q
section
variable {K : PySem.W.Frag} {te : TE} {ta : TA} {σ : L2.St} {H : Hp} {d : Dt} {ds : List Dt}
theorem EvD.bl {b : Bool} : EvD K (tC (.bl b)) σ H (.bl b) := fun H1 _ _ k => k _ H1 (Stp.refl _ _) (.bl b)
theorem EvD.int {i : Int} : EvD K (tC (.int i)) σ H (.int i) := fun H1 _ _ k => k _ H1 (Stp.refl _ _) (.int i)
theorem EvD.non : EvD K (tC .non) σ H .non := fun H1 _ _ k => k _ H1 (Stp.refl _ _) .non
theorem EvD.str {s : Str} (h : s.cps.toList.length ≤ 100000 := by decide +kernel) : EvD K (tC (.str s)) σ H (.str s.cps.toList) := fun H1 _ _ k => k _ H1 (Stp.refl _ _) (Rp.lit s h)
theorem EvD.var {i : Nat} {v : V} (r : Rp K H v d) (e : σ[i]? = some (some v) := by rfl) : EvD K (tVar i) σ H d := fun H1 s _ k => ⟨v, e, k v H1 (Stp.refl _ _) (r.stp s Lsts.nil)⟩
theorem EvDA.nil : EvDA K tNil σ H [] := fun H1 _ _ k => k [] H1 (Stp.refl _ _) .nil
theorem EvDA.cons (h : EvD K te σ H d) (g : EvDA K ta σ H ds) : EvDA K (tCons te ta) σ H (d :: ds) := fun H1 s Q k =>
  h H1 s _ fun v H2 s2 r => g H2 (s.trans s2) _ fun vs H3 s3 rs => k (v :: vs) H3 (s2.trans s3) (.cons (r.stp s3 Lsts.nil) rs)
theorem EvD.tup (h : EvDA K ta σ H ds) (hl : ds.length ≤ 1000) : EvD K (tTup ta) σ H (.tup ds) := fun H1 s Q k =>
  h H1 s _ fun vs H2 s2 rs => ⟨sz (by rw [rs.len]; omega), fun p np => k _ _ (s2.new' np) (.tup (SqT.of upd_same) (by rw [rs.len]; omega) (rs.stp (Stp.new np []) Lsts.nil))⟩
theorem EvD.lst (h : EvDA K ta σ H ds) (hl : ds.length ≤ 1000) : EvD K (tLst ta) σ H .lst := fun H1 s Q k =>
  h H1 s _ fun vs H2 s2 rs => ⟨sz (by rw [rs.len]; omega), fun p np => k _ _ (s2.new' np) (.lst upd_same)⟩
theorem EvD.exc {C : Addr} (h : EvD K te σ H d) : EvD K (fun σ H Q => te σ H fun _ H1 => ∀ a, H1 a = none → Q (.ref a) (upd H1 a (ExO (.ref C) a))) σ H .obj := fun H1 s Q k =>
  h H1 s _ fun v H2 s2 _ => fun a na => k _ _ (s2.new' na) (.obj upd_same)
theorem EvD.cat {tb : TE} {a b : List Nat} (h : EvD K te σ H (.str a)) (g : EvD K tb σ H (.str b)) (hl : a.length + b.length ≤ 100000) : EvD K (tOp (fun x y H Q => ∃ i j, x = .str i ∧ y = .str j ∧ i.length + j.length ≤ sizeLine ∧ Q (.str (i ++ j)) H) te tb) σ H (.str (a ++ b)) := fun H1 s Q k =>
  h H1 s _ fun v H2 s2 r => g H2 (s.trans s2) _ fun u H3 s3 q => by
    cases r with
    | str _ h1 =>
      cases q with
      | str _ h2 =>
        refine ⟨tx a, tx b, rfl, rfl, by rw [tx_len, tx_len]; exact sz hl, ?_⟩
        rw [tx_app]
        exact k _ _ (s2.trans s3) (.str _ (by rw [List.length_append]; exact hl))
theorem EvD.pow {i j : Int} (h : CPow i j) : EvD K (tOp (rI CPow fun i j => .int (i ^ j.toNat)) (tC (.int i)) (tC (.int j))) σ H (.int (i ^ j.toNat)) := fun H1 s Q k =>
  ⟨i, j, rfl, rfl, h, k _ _ (Stp.refl _ _) (.int _)⟩
theorem EvD.neg {i : Int} : EvD K (tUn (rU fun i => .int (-i)) (tC (.int i))) σ H (.int (-i)) := fun H1 s Q k => ⟨i, rfl, k _ _ (Stp.refl _ _) (.int _)⟩
/-- list(t) of a tuple -/
theorem EvD.list (h : EvD K te σ H (.tup ds)) : EvD K (tCB (fun xs H Q => ∃ p ys, xs = [.ref p] ∧ (SqL K H p ys ∨ SqT K H p ys) ∧ ∀ l, H l = none → Q (.ref l) (upd H l (.lst ys))) (tCons te tNil)) σ H .lst := fun H1 s Q k =>
  h H1 s _ fun v H2 s2 r => by
    cases r with
    | tup hs hn rl => exact ⟨_, _, rfl, .inr hs, fun l nl => k _ _ (s2.new' nl) (.lst upd_same)⟩
theorem EvDA.use (h : EvDA K ta σ H ds) {Q : List V → Hp → Prop} (k : ∀ vs H2, Stp [] H H2 → RpL K H2 vs ds → Q vs H2) : ta σ H Q := h H (Stp.refl _ _) Q k
theorem EvD.use (h : EvD K te σ H d) {Q : VK} (k : ∀ v H2, Stp [] H H2 → Rp K H2 v d → Q v H2) : te σ H Q := h H (Stp.refl _ _) Q k
/-- a new list of data -/
theorem EvDA.newl (h : EvDA K ta σ H ds) (hl : ds.length ≤ 1000) {Q : VK} (k : ∀ p vs H2, Stp [] H H2 → H p = none → H2 p = some (.lst vs) → RpL K H2 vs ds → Q (.ref p) H2) : tLst ta σ H Q :=
  h.use fun vs H2 s rs => ⟨sz (by rw [rs.len]; omega), fun p np => k p vs _ (s.new' np) (s.fresh (fun m => nomatch m) np) upd_same (rs.stp (Stp.new np []) Lsts.nil)⟩
end
/-! ### tuples put together, cut -/
theorem catA_use {K : PySem.W.Frag} {H : Hp} {a b : Addr} {xs ys : List V} {Q : VK} (ha : SqT K H a xs) (hb : SqT K H b ys) (hl : xs.length + ys.length ≤ 100000) (k : ∀ p H', Stp [] H H' → SqT K H' p (xs ++ ys) → Q (.ref p) H') : rCatA K (.ref a) (.ref b) H Q := by
  refine ⟨a, b, xs, ys, rfl, rfl, ha, hb, sz hl, fun e => ?_, fun _ e => ?_, fun _ _ p np => ?_⟩
  · subst e
    exact k b H (Stp.refl _ _) hb
  · subst e
    refine k a H (Stp.refl _ _) ?_
    rw [List.append_nil]
    exact ha
  · exact k p _ (Stp.new np _) (SqT.of upd_same)
theorem slA_use {K : PySem.W.Frag} {H : Hp} {a : Addr} {xs : List V} {lo hi : Option Int} {Q : VK} (ha : SqT K H a xs) (k : ∀ p H', Stp [] H H' → SqT K H' p (cutV xs lo hi) → Q (.ref p) H') : rSlA K (.ref a) lo hi H Q := by
  refine ⟨a, xs, rfl, ha, fun ⟨e1, e2⟩ => ?_, fun _ p np => ?_⟩
  · refine k a H (Stp.refl _ _) ?_
    have e : cutV xs lo hi = xs := by
      unfold cutV
      rw [e1, e2, List.drop_zero, Nat.sub_zero, List.take_length]
    rw [e]
    exact ha
  · exact k p _ (Stp.new np _) (SqT.of upd_same)
theorem cut_upto {xs : List V} (k : Nat) : cutV xs none (some (k : Int)) = xs.take k := by
  unfold cutV
  rw [HT.sIx_none, HT.sIx_nat, List.drop_zero, Nat.sub_zero]
  rcases Nat.le_total k xs.length with h | h
  · rw [Nat.min_eq_left h]
  · rw [Nat.min_eq_right h, List.take_of_length_le (Nat.le_refl _), List.take_of_length_le h]
theorem cut_from {xs : List V} (k : Nat) : cutV xs (some (k : Int)) none = xs.drop k := by
  unfold cutV
  rw [HT.sIx_none, HT.sIx_nat]
  rcases Nat.le_total k xs.length with h | h
  · rw [Nat.min_eq_left h, List.take_of_length_le (by rw [List.length_drop]; exact Nat.le_refl _)]
  · rw [Nat.min_eq_right h, List.drop_length, List.drop_of_length_le h, List.take_nil]
theorem RpL.take {K : PySem.W.Frag} {H : Hp} : ∀ {vs : List V} {ds : List Dt} (n : Nat), RpL K H vs ds → RpL K H (vs.take n) (ds.take n)
  | _, _, 0, _ => by rw [List.take_zero, List.take_zero]; exact .nil
  | _, [], _ + 1, .nil => .nil
  | _, _ :: _, n + 1, .cons h r => .cons h (RpL.take n r)
theorem RpL.drop {K : PySem.W.Frag} {H : Hp} : ∀ {vs : List V} {ds : List Dt} (n : Nat), RpL K H vs ds → RpL K H (vs.drop n) (ds.drop n)
  | _, _, 0, r => r
  | _, [], _ + 1, .nil => .nil
  | _, _ :: _, n + 1, .cons _ r => RpL.drop n r
/-! ### heads of statements -/
theorem asg_name {te : TE} {i : Nat} {u : TS} {D : Ends} {σ : L2.St} {H : Hp} (h : te σ H fun x H1 => u D (σ.set i (some x)) H1) : tSeq (tAsg te (gName i)) u D σ H := h
theorem op_var {r : R2} {i : Nat} {tb : TE} {σ : L2.St} {H : Hp} {Q : VK} {v : V} (e : σ[i]? = some (some v)) (h : tb σ H fun y H2 => r v y H2 Q) : tOp r (tVar i) tb σ H Q := ⟨v, e, h⟩
theorem nopart {σ : L2.St} {H : Hp} {Q : Option Int → Hp → Prop} (h : Q none H) : tNoPart σ H Q := h
end Pg
namespace Kq
open PySem PySem.Spec PyProof.Rows L2 Pg
def topS (i : Nat) : Stmt := PySem.Challenge.pw_pageskips_k10_filters_told.main.body.getD i (.Pass ⟨0, 0, 0, 0⟩)
structure Nm (mg : Str → Option Value) : Prop where
  n_int : mg "int" = none
  n_len : mg "len" = none
  n_max : mg "max" = none
  n_min : mg "min" = none
  n_range : mg "range" = none
  n_type : mg "type" = none
  n_tuple : mg "tuple" = none
  n_list : mg "list" = none
  n_all : mg "all" = none
  n_str : mg "str" = none
  n_bool : mg "bool" = none
section
variable {P : Program} {w : World} {K : PySem.W.Frag} {mg : Str → Option Value} {base : Heap}
abbrev s__law_bag : Stmt := topS 9
abbrev N__law_bag : List Str := ["cell"]
theorem sc__law_bag : FnScope ["cell"] ["cell"] (defScope s__law_bag) := ⟨rfl, rfl, rfl, by decide +kernel, rfl, by decide +kernel, by decide +kernel⟩

abbrev s__law_draw : Stmt := topS 10
abbrev N__law_draw : List Str := ["bag", "upto", "digit", "turn", "mixed"]
theorem sc__law_draw : FnScope ["bag", "upto", "digit", "turn", "mixed"] ["bag", "upto"] (defScope s__law_draw) := ⟨rfl, rfl, rfl, by decide +kernel, rfl, by decide +kernel, by decide +kernel⟩

/-! ### the bag, the draws -/
def spBag : Sp := fun vs H Q _ => ∃ c : Int, vs = [.int c] ∧ ∀ b H', H b = none → Stp [] H H' → Bag H' b 0 → Q (.ref b) H'
theorem cl__law_bag {f : Addr} {fd : FuncData} (D : Df K mg "_law_bag" s__law_bag ["cell"] f fd) (T : Nm mg) : Cl P w K mg base 1 "_law_bag" s__law_bag ["cell"] spBag := by
  refine D.cl sc__law_bag (fun vs H Q E h => ?_) (fun cdv A outer s H vs Q E hr h => ?_)
  · obtain ⟨c, rfl, _⟩ := h
    rfl
  · obtain ⟨c, rfl, k⟩ := h
    refine ⟨_, (pss_one (ps_ret (pe_lst (pa_cons (pe_callB (call_max2 rfl) (by rfl) T.n_max (by decide +kernel) (pa_cons pe_int (pa_cons (pe_op op_sub (pe_callTy call_int1 (by rfl) T.n_int (by decide +kernel) (pa_cons (pv 0) pa_nil)) (pe_op op_pow pe_int pe_int)) pa_nil))) (pa_cons (pe_op op_mod (pe_callTy call_int1 (by rfl) T.n_int (by decide +kernel) (pa_cons (pv 0) pa_nil)) pe_int) (pa_cons pe_int pa_nil)))))), ?_⟩
    refine ⟨_, rfl, .inl ⟨c, rfl, _, _, rfl, rfl, ⟨by decide, by decide, by decide⟩, _, _, rfl, rfl, _, _, rfl, ?_⟩⟩
    refine ⟨_, rfl, .inl ⟨c, rfl, _, _, rfl, rfl, (by show (0 : Int) < 999999999989; decide), (by show 3 ≤ sizeLine; decide), fun b nb => ?_⟩⟩
    refine k b _ nb (Stp.new nb _) ⟨_, _, _, upd_same, ?_⟩
    have m1 : 0 ≤ c % 999999999989 := Int.emod_nonneg _ (by decide)
    have m2 : c % 999999999989 < 999999999989 := Int.emod_lt_of_pos _ (by decide)
    refine ⟨?_, m1, by omega, by omega, by omega⟩
    split <;> omega
def spDraw : Sp := fun vs H Q _ => ∃ (b : Addr) (up : Int) (n : Nat), vs = [.ref b, .int up] ∧ Bag H b n ∧ n < 2 ^ 30 ∧ 0 < up ∧ up < 2 ^ 30 ∧
  ∀ d H', 0 ≤ d → d < up → Only b H H' → Bag H' b (n + 1) → Q (.int d) H'
theorem cl__law_draw {f : Addr} {fd : FuncData} (D : Df K mg "_law_draw" s__law_draw ["bag", "upto"] f fd) (T : Nm mg) : Cl P w K mg base 1 "_law_draw" s__law_draw ["bag", "upto"] spDraw := by
  refine D.cl sc__law_draw (fun vs H Q E h => ?_) (fun cdv A outer s H vs Q E hr h => ?_)
  · obtain ⟨b, up, n, rfl, _⟩ := h
    rfl
  · obtain ⟨b, up, n, rfl, ⟨x, y, z, hb, x0, y0, y1, z0, z1⟩, hn, u0, u1, k⟩ := h
    refine ⟨_, (pss_cons (ps_if (pt_cmpR op_gt (pe_ix ix_list (pv 0) pe_int (fun _ _ => rfl)) pe_int (by first | exact nomark _ | rfl)) (pss_cons (ps_set (i := 2) sc__law_draw.nd rfl (by first | exact Or.inl rfl | exact Or.inr rfl) (pe_op op_mod (pe_callTy call_int1 (by rfl) T.n_int (by decide +kernel) (pa_cons (pe_ix ix_list (pv 0) pe_int (fun _ _ => rfl)) pa_nil)) (pv 1)))
      (pss_cons (ps_asg (pe_op op_fdivW (pe_ix ix_list (pv 0) pe_int (fun _ _ => rfl)) (pv 1)) (pg_sub (pv 0) pe_int set_list))
      (pss_one (ps_ret (pv 2))))) pss_nil)
      (pss_cons (ps_set (i := 3) sc__law_draw.nd rfl (by first | exact Or.inl rfl | exact Or.inr rfl) (pe_op op_add (pe_ix ix_list (pv 0) pe_int (fun _ _ => rfl)) pe_int))
      (pss_cons (ps_asg (pv 3) (pg_sub (pv 0) pe_int set_list))
      (pss_cons (ps_set (i := 4) sc__law_draw.nd rfl (by first | exact Or.inl rfl | exact Or.inr rfl) (pe_op op_add (pe_op op_mulW (pe_op op_add (pe_ix ix_list (pv 0) pe_int (fun _ _ => rfl)) pe_int) (pe_op op_add (pe_op op_add (pe_op op_mulW (pv 3) (pv 3)) (pe_op op_mulW pe_int (pv 3))) pe_int)) (pe_op op_mulW pe_int (pv 3))))
      (pss_cons (ps_set (i := 4) sc__law_draw.nd rfl (by first | exact Or.inl rfl | exact Or.inr rfl) (pe_op op_fdivW (pe_op op_mod (pe_callTy call_int1 (by rfl) T.n_int (by decide +kernel) (pa_cons (pe_op op_add (pe_op op_add (pe_op op_mulW (pv 4) (pv 4)) (pe_op op_mulW pe_int (pv 4))) (pv 3)) pa_nil)) pe_int) pe_int))
      (pss_one (ps_ret (pe_op op_mod (pe_op op_fdivW (pe_op op_mod (pe_callTy call_int1 (by rfl) T.n_int (by decide +kernel) (pa_cons (pe_op op_add (pe_op op_add (pe_op op_mulW (pv 4) (pv 4)) (pe_op op_mulW pe_int (pv 4))) (pv 3)) pa_nil)) pe_int) pe_int) (pv 1))))))))), ?_⟩
    refine ⟨_, rfl, b, _, 0, .int x, rfl, rfl, SqL.of hb, rfl, _, _, rfl, rfl, _, rfl, ite2 (fun hx => ?_) (fun hx => ?_)⟩
    · refine ⟨_, rfl, b, _, 0, .int x, rfl, rfl, SqL.of hb, rfl, .inl ⟨x, rfl, _, rfl, _, _, rfl, rfl, u0, ?_⟩⟩
      refine ⟨_, rfl, b, _, 0, .int x, rfl, rfl, SqL.of hb, rfl, _, rfl, _, _, rfl, rfl, cdiv 30 u0 u1 (by decide) (by decide), ?_⟩
      refine ⟨_, rfl, b, _, 0, 0, rfl, rfl, hb, rfl, ?_⟩
      refine ⟨_, rfl, k _ _ (Int.emod_nonneg _ (by omega)) (Int.emod_lt_of_pos _ u0) ⟨_, rfl⟩ ⟨_, _, _, upd_same, ?_⟩⟩
      exact ⟨Int.ediv_nonneg x0 (by omega), y0, y1, z0, by omega⟩
    · refine ⟨_, rfl, b, _, 2, .int z, rfl, rfl, SqL.of hb, rfl, _, _, rfl, rfl, ?_⟩
      obtain ⟨t, et⟩ : ∃ t, t = z + 1 := ⟨_, rfl⟩
      dsimp only
      rw [← et]
      have t0 : 0 ≤ t := by omega
      have t1 : t < 2 ^ 31 := by omega
      refine ⟨_, rfl, _, rfl, b, _, 2, 2, rfl, rfl, hb, rfl, ?_⟩
      have a1 := mul_lt (a := 31) (b := 31) t0 t1 t0 t1
      have a2 := mul_lt (i := 1009) (a := 10) (b := 31) (by decide) (by decide) t0 t1
      have a3 := mul_lt (i := y + 5) (j := t * t + 1009 * t + 61) (a := 41) (b := 63) (by omega) (by omega) (by omega) (by omega)
      have a4 := mul_lt (i := 9176) (a := 14) (b := 31) (by decide) (by decide) t0 t1
      refine ⟨_, rfl, b, _, 1, .int y, rfl, rfl, SqL.of upd_same, rfl, _, _, rfl, rfl,
        _, rfl, _, rfl, _, _, rfl, rfl, cmul 31 31 t0 t1 t0 t1 (by decide) (by decide) (by decide),
        _, rfl, _, _, rfl, rfl, cmul 10 31 (by decide) (by decide) t0 t1 (by decide) (by decide) (by decide), _, _, rfl, rfl, _, _, rfl, rfl,
        _, _, rfl, rfl, cmul 41 63 (by omega) (by omega) (by omega) (by omega) (by decide) (by decide) (by decide),
        _, rfl, _, _, rfl, rfl, cmul 14 31 (by decide) (by decide) t0 t1 (by decide) (by decide) (by decide), _, _, rfl, rfl, ?_⟩
      obtain ⟨m, em⟩ : ∃ m, m = (y + 5) * (t * t + 1009 * t + 61) + 9176 * t := ⟨_, rfl⟩
      dsimp only
      rw [← em]
      have m0 : 0 ≤ m := by omega
      have m1 : m < 2 ^ 105 := by omega
      refine ⟨_, rfl, _, rfl, _, _, rfl, rfl, cmul 105 105 m0 m1 m0 m1 (by decide) (by decide) (by decide),
        _, rfl, _, _, rfl, rfl, cmul 20 105 (by decide) (by decide) m0 m1 (by decide) (by decide) (by decide), _, _, rfl, rfl,
        _, rfl, _, _, rfl, rfl, .inl ⟨_, rfl, _, _, rfl, rfl, (by show (0 : Int) < 1000000000039; decide), _, _, rfl, rfl, cdiv 8 (by decide) (by decide) (by decide) (by decide), ?_⟩⟩
      obtain ⟨v, ev⟩ : ∃ v, v = (m * m + 524287 * m + t) % 1000000000039 / 131 := ⟨_, rfl⟩
      dsimp only
      rw [← ev]
      have w0 : 0 ≤ (m * m + 524287 * m + t) % 1000000000039 := Int.emod_nonneg _ (by decide)
      have w1 : (m * m + 524287 * m + t) % 1000000000039 < 1000000000039 := Int.emod_lt_of_pos _ (by decide)
      have v0 : 0 ≤ v := by omega
      have v1 : v < 2 ^ 40 := by omega
      refine ⟨_, rfl, _, rfl, _, _, rfl, rfl, cmul 40 40 v0 v1 v0 v1 (by decide) (by decide) (by decide),
        _, rfl, _, _, rfl, rfl, cmul 13 40 (by decide) (by decide) v0 v1 (by decide) (by decide) (by decide), _, _, rfl, rfl,
        _, rfl, _, _, rfl, rfl, .inl ⟨_, rfl, _, _, rfl, rfl, (by show (0 : Int) < 2147483587; decide), _, _, rfl, rfl, cdiv 5 (by decide) (by decide) (by decide) (by decide), _, rfl, _, _, rfl, rfl, u0, ?_⟩⟩
      exact k _ _ (Int.emod_nonneg _ (by omega)) (Int.emod_lt_of_pos _ u0) ⟨_, rfl⟩ ⟨_, _, _, upd_same, x0, y0, y1, by omega, by omega⟩
abbrev s__law_text : Stmt := topS 11
abbrev N__law_text : List Str := ["bag", "size", "k"]
theorem sc__law_text : FnScope ["bag", "size", "k"] ["bag"] (defScope s__law_text) := ⟨rfl, rfl, rfl, by decide +kernel, rfl, by decide +kernel, by decide +kernel⟩

/-! ### drawn texts -/
def spText : Sp := fun vs H Q _ => ∃ (b : Addr) (n : Nat), vs = [.ref b] ∧ Bag H b n ∧ n + 20 < 2 ^ 30 ∧ ∀ l H', Abc l → l.length ≤ 12 → Stp [b] H H' → Bag H' b (n + 14) → Q (Tx l) H'
theorem cl__law_text {f : Addr} {fd : FuncData} (D : Df K mg "_law_text" s__law_text ["bag"] f fd) (T : Nm mg) (c__law_draw : Cl P w K mg base 1 "_law_draw" s__law_draw ["bag", "upto"] spDraw) : Cl P w K mg base 2 "_law_text" s__law_text ["bag"] spText := by
  refine D.cl sc__law_text (fun vs H Q E h => ?_) (fun cdv A outer s H vs Q E hr h => ?_)
  · obtain ⟨b, n, rfl, _⟩ := h
    rfl
  · obtain ⟨b, n, rfl, B, hn, k⟩ := h
    refine ⟨_, (pss_cons (ps_set (i := 1) sc__law_text.nd rfl (by first | exact Or.inl rfl | exact Or.inr rfl) (pe_cl c__law_draw hr (by omega) (pa_cons (pv 0) (pa_cons (pe_ix ix_list (pe_lst (pa_cons pe_int (pa_cons pe_int (pa_cons pe_int (pa_cons pe_int pa_nil))))) (pe_cl c__law_draw hr (by omega) (pa_cons (pv 0) (pa_cons pe_int pa_nil))) (fun _ _ => rfl)) pa_nil))))
      (pss_one (ps_ret (pe_join pe_str (pe_lc (own := [("k", 2)]) rfl sc__law_text.nd (pi_range1 (by rfl) T.n_range (pa_cons (pv 1) pa_nil)) (blkOk_by (own := [("k", 2)]) (N := N__law_text) (sc := defScope s__law_text) (by decide +kernel)) (fun _ _ _ _ _ => (pg_name (i := 2) sc__law_text.nd rfl (by first | exact Or.inl rfl | exact Or.inr rfl))) (fun _ _ _ _ _ => pts_nil) (fun _ _ _ _ _ => (pe_ix ix_str pe_str (pe_cl c__law_draw hr (by omega) (pa_cons (pv 0) (pa_cons pe_int pa_nil))) (fun _ _ => rfl)))))))), ?_⟩
    refine ⟨_, rfl, (by show 4 ≤ sizeLine; decide), fun l nl => ?_⟩
    have S1 : Stp [b] H (upd H l (.lst [.int 3, .int 4, .int 6, .int 13])) := Stp.new nl _
    refine ⟨_, rfl, b, 4, n, rfl, B.upd (B.ne nl), by omega, by decide, by decide, fun d H2 d0 d1 o1 B1 => ?_⟩
    have S2 : Stp [b] H H2 := S1.trans (o1.stp (List.mem_singleton.mpr rfl))
    have hl : H2 l = some (.lst [.int 3, .int 4, .int 6, .int 13]) := o1.at upd_same (B.ne nl).symm
    obtain ⟨u, mu, eu⟩ := pick_int (ns := [3, 4, 6, 13]) d0 d1
    have u0 : 0 < u ∧ u ≤ 13 := by
      simp at mu
      omega
    refine ⟨l, _, d, .int u, rfl, rfl, SqL.of hl, eu, b, u, n + 1, rfl, B1, by omega, u0.1, by omega, fun z H3 z0 z1 o2 B2 => ?_⟩
    have S3 : Stp [b] H H3 := S2.trans (o2.stp (List.mem_singleton.mpr rfl))
    refine ⟨⟨_, rfl⟩, _, rfl, z, rfl, by omega, by omega, fun L nL => ?_⟩
    refine lc_range (lo := 0) (n := z.toNat) (fun i H4 => ∃ cs : List Nat, Abc cs ∧ cs.length = i ∧ H4 L = some (.lst (cs.map fun c => Tx [c])) ∧ Stp [b] H3 H4 ∧ Bag H4 b (n + 2 + i))
      ⟨[], Abc.nil, rfl, upd_same, Stp.new nL _, B2.upd (B2.ne nL)⟩ ?_ ?_
    · rintro i H4 hi ⟨cs, ha, hcl, hL, S4, B4⟩
      refine ⟨rfl, _, rfl, b, 3, _, rfl, B4, by omega, by decide, by decide, fun d H5 d0 d1 o3 B5 => ?_⟩
      obtain ⟨c, mc, ec⟩ := pick (xs := [97, 98, 99]) d0 d1
      have nLb : L ≠ b := (B2.ne nL).symm
      have hL5 : H5 L = some (.lst (cs.map fun c => Tx [c])) := o3.at hL nLb
      have S5 : Stp [b] H4 H5 := o3.stp (List.mem_singleton.mpr rfl)
      have hc : c = 97 ∨ c = 98 ∨ c = 99 := by
        simp at mc
        exact mc
      refine ⟨("abc" : Str), d, c, rfl, rfl, (by rw [abc_lit]; exact szt (by decide)), (by rw [abc_lit]; exact ec), cs.map fun c => Tx [c], hL5, ?_, ?_⟩
      · rw [List.length_map, hcl]
        exact Nat.lt_of_lt_of_le (show i < 100000 by omega) (by decide)
      · refine ⟨cs ++ [c], ha.app (Abc.one hc), by simp [hcl], ?_, ?_, ?_⟩
        · rw [List.map_append]
          exact upd_same
        · exact (S4.trans S5).mut nL
        · exact B5.upd nLb.symm
    · rintro H4 ⟨cs, ha, hcl, hL, S4, B4⟩
      refine ⟨_, L, cs.map (fun c => tx [c]), rfl, rfl, .inl (SqL.of (by rw [List.map_map]; exact hL)), ?_, ?_⟩
      · rw [List.map_map, nil_lit]
        have e : ∀ l : List Nat, (l.map ((fun x : Str => x.length) ∘ fun c => tx [c])).sum = l.length := by
          intro l
          induction l with
          | nil => rfl
          | cons x l ih =>
            rw [List.map_cons, List.sum_cons, ih, List.length_cons]
            show (tx [x]).length + l.length = l.length + 1
            rw [tx_len]
            simp
            omega
        rw [e, List.length_map, tx_len]
        simp
        omega
      · rw [nil_lit, join_abc]
        exact k _ _ ha (by omega) (S3.trans S4) (B4.mono (by omega))
abbrev s__law_near : Stmt := topS 12
abbrev N__law_near : List Str := ["bag", "word", "way", "sign"]
theorem sc__law_near : FnScope ["bag", "word", "way", "sign"] ["bag", "word"] (defScope s__law_near) := ⟨rfl, rfl, rfl, by decide +kernel, rfl, by decide +kernel, by decide +kernel⟩

abbrev s__law_some : Stmt := topS 14
abbrev N__law_some : List Str := ["bag", "pool"]
theorem sc__law_some : FnScope ["bag", "pool"] ["bag", "pool"] (defScope s__law_some) := ⟨rfl, rfl, rfl, by decide +kernel, rfl, by decide +kernel, by decide +kernel⟩

theorem a_lit : ("a" : Str) = tx [97] := by decide +kernel
theorem atx {l m : List Nat} (h : Abc l) (e : l = m) : Abc m := e ▸ h
def spNear : Sp := fun vs H Q _ => ∃ (b : Addr) (n : Nat) (l : List Nat), vs = [.ref b, Tx l] ∧ Bag H b n ∧ n + 10 < 2 ^ 30 ∧ Abc l ∧ l.length ≤ 12 ∧ ∀ m H', Abc m → m.length ≤ 12 → Stp [b] H H' → Bag H' b (n + 3) → Q (Tx m) H'
theorem cl__law_near {f : Addr} {fd : FuncData} (D : Df K mg "_law_near" s__law_near ["bag", "word"] f fd) (T : Nm mg) (c__law_draw : Cl P w K mg base 1 "_law_draw" s__law_draw ["bag", "upto"] spDraw) : Cl P w K mg base 2 "_law_near" s__law_near ["bag", "word"] spNear := by
  refine D.cl sc__law_near (fun vs H Q E h => ?_) (fun cdv A outer s H vs Q E hr h => ?_)
  · obtain ⟨b, n, l, rfl, _⟩ := h
    rfl
  · obtain ⟨b, n, l, rfl, B, hn, ha, hl, k⟩ := h
    refine ⟨_, (pss_cons (ps_par (i := 2) (j := 3) rfl sc__law_near.nd rfl rfl (by decide) rfl rfl (pa_cons (pe_cl c__law_draw hr (by omega) (pa_cons (pv 0) (pa_cons pe_int pa_nil))) (pa_cons (pe_ix ix_str pe_str (pe_cl c__law_draw hr (by omega) (pa_cons (pv 0) (pa_cons pe_int pa_nil))) (fun _ _ => rfl)) pa_nil)) (by rfl))
      (pss_cons (ps_if (pt_cmpR op_lt (pv 2) pe_int (by first | exact nomark _ | rfl)) (pss_one (ps_ret (pv 1))) pss_nil)
      (pss_cons (ps_if (pt_cmpR op_lt (pv 2) pe_int (by first | exact nomark _ | rfl)) (pss_one (ps_ret (pe_slice sl_str (pe_op op_add_str (pe_op op_add_str (pv 1) (pe_op Pg.op_mul_str pe_str (pe_op op_sub (pv 2) pe_int))) (pv 3)) po_none (po_some pe_int)))) pss_nil)
      (pss_cons (ps_if (pt_cmpR op_eq (pv 2) pe_int (by first | exact nomark _ | rfl)) (pss_one (ps_ret (pe_slice sl_str (pe_op op_add_str (pv 1) (pe_op Pg.op_mul_str (pv 3) pe_int)) po_none (po_some pe_int)))) pss_nil)
      (pss_cons (ps_if (pt_cmpR op_eq (pv 2) pe_int (by first | exact nomark _ | rfl)) (pss_one (ps_ret (pe_op op_add_str (pe_slice sl_str (pv 1) po_none (po_some (pe_un un_neg pe_int))) (pv 3)))) pss_nil)
      (pss_cons (ps_if (pt_cmpR op_eq (pv 2) pe_int (by first | exact nomark _ | rfl)) (pss_one (ps_ret (pe_slice sl_str (pv 1) po_none (po_some (pe_un un_neg pe_int))))) pss_nil)
      (pss_one (ps_ret (pe_slice sl_str (pv 1) po_none (po_some (pe_cl c__law_draw hr (by omega) (pa_cons (pv 0) (pa_cons (pe_op op_add (pe_callB call_len_str (by rfl) T.n_len (by decide +kernel) (pa_cons (pv 1) pa_nil)) pe_int) pa_nil))))))))))))), ?_⟩
    refine ⟨_, rfl, b, 8, n, rfl, B, by omega, by decide, by decide, fun way H1 w0 w1 o1 B1 => ?_⟩
    refine ⟨_, rfl, b, 3, n + 1, rfl, B1, by omega, by decide, by decide, fun d H2 d0 d1 o2 B2 => ?_⟩
    have S2 : Stp [b] H H2 := (o1.stp (List.mem_singleton.mpr rfl)).trans (o2.stp (List.mem_singleton.mpr rfl))
    obtain ⟨c, mc, ec⟩ := pick (xs := [97, 98, 99]) d0 d1
    have hc : c = 97 ∨ c = 98 ∨ c = 99 := by
      simp at mc
      exact mc
    refine ⟨("abc" : Str), d, c, rfl, rfl, (by rw [abc_lit]; exact szt (by decide)), (by rw [abc_lit]; exact ec), _, _, rfl, ?_⟩
    refine ⟨_, rfl, _, _, rfl, rfl, _, rfl, ite2 (fun h1 => ?_) (fun h1 => ?_)⟩
    · exact ⟨_, rfl, k _ _ ha hl S2 (B2.mono (by omega))⟩
    have h1 : ¬ way < 2 := fun q => h1 (decide_eq_true q)
    refine ⟨_, rfl, _, _, rfl, rfl, _, rfl, ite2 (fun h2 => ?_) (fun h2 => ?_)⟩
    · have h2 : way < 4 := of_decide_eq_true h2
      refine ⟨_, rfl, _, rfl, _, _, rfl, rfl, tx [97], way - 2, congrArg V.str a_lit, rfl, mulOk 97 (by omega) (by omega), ?_⟩
      refine ⟨tx l, tx (List.replicate (way - 2).toNat 97), rfl, congrArg V.str (tx_mul _ _), (by rw [tx_len, tx_len, List.length_replicate]; exact sz (by omega)), ?_⟩
      refine ⟨_, rfl, tx (l ++ List.replicate (way - 2).toNat 97), tx [c], congrArg V.str (tx_app _ _), rfl, (by rw [tx_len, tx_len, List.length_append, List.length_replicate, List.length_singleton]; exact sz (by omega)), 12, rfl, ?_⟩
      refine ⟨tx (l ++ List.replicate (way - 2).toNat 97 ++ [c]), congrArg V.str (tx_app _ _), szt (by simp; omega), ?_⟩
      show Q _ _
      rw [show cutS _ none (some 12) = _ from tx_upto _ 12]
      exact k _ _ (((ha.app (Abc.rep _ (.inl rfl))).app (Abc.one hc)).take 12) (by rw [List.length_take]; omega) S2 (B2.mono (by omega))
    have h2 : ¬ way < 4 := fun q => h2 (decide_eq_true q)
    refine ⟨_, rfl, rfl, _, rfl, ite2 (fun h3 => ?_) (fun h3 => ?_)⟩
    · refine ⟨_, rfl, _, rfl, tx [c], 12, rfl, rfl, mulOk c (by decide) (by decide), ?_⟩
      refine ⟨tx l, tx (List.replicate (12 : Int).toNat c), rfl, congrArg V.str (tx_mul _ _), (by rw [tx_len, tx_len, List.length_replicate]; exact sz (by simp; omega)), 12, rfl, ?_⟩
      refine ⟨tx (l ++ List.replicate (12 : Int).toNat c), congrArg V.str (tx_app _ _), szt (by simp; omega), ?_⟩
      show Q _ _
      rw [show cutS _ none (some 12) = _ from tx_upto _ 12]
      exact k _ _ ((ha.app (Abc.rep _ hc)).take 12) (by rw [List.length_take]; omega) S2 (B2.mono (by omega))
    refine ⟨_, rfl, rfl, _, rfl, ite2 (fun h4 => ?_) (fun h4 => ?_)⟩
    · refine ⟨_, rfl, 1, rfl, -1, rfl, tx l, rfl, szt (by omega), _, rfl, tx l.dropLast, tx [c], congrArg V.str (tx_init l), rfl, (by rw [tx_len, tx_len, List.length_dropLast, List.length_singleton]; exact sz (by omega)), ?_⟩
      show Q _ _
      rw [tx_app]
      exact k _ _ (ha.init.app (Abc.one hc)) (by rw [List.length_append, List.length_dropLast, List.length_singleton]; omega) S2 (B2.mono (by omega))
    refine ⟨_, rfl, rfl, _, rfl, ite2 (fun h5 => ?_) (fun h5 => ?_)⟩
    · refine ⟨_, rfl, 1, rfl, -1, rfl, tx l, rfl, szt (by omega), ?_⟩
      show Q _ _
      rw [show cutS _ none (some (-1)) = _ from tx_init l]
      exact k _ _ ha.init (by rw [List.length_dropLast]; omega) S2 (B2.mono (by omega))
    · refine ⟨_, rfl, _, rfl, _, rfl, tx l, rfl, szt (by omega), _, _, rfl, rfl, b, _, n + 2, rfl, B2, by omega, ?_, ?_, fun d H3 d0 d1 o3 B3 => ?_⟩
      · have := tx_len l
        omega
      · have := tx_len l
        omega
      obtain ⟨e, rfl⟩ := Int.eq_ofNat_of_zero_le d0
      refine ⟨_, rfl, tx l, rfl, szt (by omega), ?_⟩
      show Q _ _
      rw [show cutS _ none (some (e : Int)) = _ from tx_upto l e]
      exact k _ _ (ha.take _) (by rw [List.length_take]; omega) (S2.trans (o3.stp (List.mem_singleton.mpr rfl))) B3
/-- a pool: some texts -/
def Pool (H : Hp) (p : Addr) (ls : List (List Nat)) : Prop := H p = some (.lst (ls.map Tx)) ∧ ∀ l ∈ ls, Abc l ∧ l.length ≤ 12
def spSome : Sp := fun vs H Q _ => ∃ (b p : Addr) (n : Nat) (ls : List (List Nat)), vs = [.ref b, .ref p] ∧ Bag H b n ∧ n + 40 < 2 ^ 30 ∧ Pool H p ls ∧ ls.length < 2 ^ 20 ∧ b ≠ p ∧ ∀ m H', Abc m → m.length ≤ 12 → Stp [b] H H' → Bag H' b (n + 20) → Q (Tx m) H'
theorem cl__law_some {f : Addr} {fd : FuncData} (D : Df K mg "_law_some" s__law_some ["bag", "pool"] f fd) (T : Nm mg) (c__law_draw : Cl P w K mg base 1 "_law_draw" s__law_draw ["bag", "upto"] spDraw)
    (c__law_near : Cl P w K mg base 2 "_law_near" s__law_near ["bag", "word"] spNear) (c__law_text : Cl P w K mg base 2 "_law_text" s__law_text ["bag"] spText) : Cl P w K mg base 3 "_law_some" s__law_some ["bag", "pool"] spSome := by
  refine D.cl sc__law_some (fun vs H Q E h => ?_) (fun cdv A outer s H vs Q E hr h => ?_)
  · obtain ⟨b, p, n, ls, rfl, _⟩ := h
    rfl
  · obtain ⟨b, p, n, ls, rfl, B, hn, ⟨hp, ha⟩, hls, ne, k⟩ := h
    refine ⟨_, (pss_cons (ps_if (PW.pt (pw_and (pt_cmpR (op_neD hr.units) (pv 1) (pe_lst pa_nil) (by first | exact nomark _ | rfl)) (pw_and1 (pt_cmpR op_gt (pe_cl c__law_draw hr (by omega) (pa_cons (pv 0) (pa_cons pe_int pa_nil))) pe_int (by first | exact nomark _ | rfl))))) (pss_one (ps_ret (pe_cl c__law_near hr (by omega) (pa_cons (pv 0) (pa_cons (pe_ix ix_list (pv 1) (pe_cl c__law_draw hr (by omega) (pa_cons (pv 0) (pa_cons (pe_callB call_len_seq (by rfl) T.n_len (by decide +kernel) (pa_cons (pv 1) pa_nil)) pa_nil))) (fun _ _ => rfl)) pa_nil))))) pss_nil)
      (pss_one (ps_ret (pe_cl c__law_text hr (by omega) (pa_cons (pv 0) pa_nil))))), ?_⟩
    have npb : p ∉ [b] := fun m => ne (List.mem_singleton.mp m).symm
    have fin : ∀ H1 m, Stp [b] H H1 → Bag H1 b m → m ≤ n + 2 → tRet (tCl spText (tCons (tVar 0) tNil)) { nx := fun _ H' => Q .non H', rt := Q } (start N__law_some [.ref b, .ref p]) H1 := fun H1 m S1 B1 hm => by
      refine ⟨_, rfl, b, m, rfl, B1, by omega, fun l H2 hl hll S2 B2 => ?_⟩
      exact k l H2 hl hll (S1.trans S2) (B2.mono (by omega))
    refine ⟨_, rfl, Nat.zero_le _, fun q hq => ?_⟩
    have S0 : Stp [b] H (upd H q (.lst [])) := Stp.new hq _
    have B0 := B.upd (o := .lst []) (B.ne hq)
    refine ne_nil_strs (SqL.of (S0.kp _ _ npb hp)) (fun l m => (ha l m).1) upd_same ?_
    cases ls with
    | nil => exact ⟨false, rfl, fin _ n S0 B0 (by omega)⟩
    | cons l0 ls =>
    refine ⟨true, rfl, ?_⟩
    refine ⟨_, rfl, b, 3, n, rfl, B0, by omega, by decide, by decide, fun d H1 d0 d1 o1 B1 => ?_⟩
    have S1 : Stp [b] H H1 := S0.trans (o1.stp (List.mem_singleton.mpr rfl))
    refine ⟨_, _, rfl, rfl, _, rfl, ite2 (fun h1 => ?_) (fun h1 => ?_)⟩
    · refine ⟨_, rfl, _, rfl, _, rfl, _, rfl, p, _, rfl, .inl (SqL.of (S1.kp _ _ npb hp)), b, _, n + 1, rfl, B1, by omega, ?_, ?_, fun e H2 e0 e1 o2 B2 => ?_⟩
      · rw [List.length_map, List.length_cons]
        omega
      · rw [List.length_map]
        omega
      have S2 : Stp [b] H H2 := S1.trans (o2.stp (List.mem_singleton.mpr rfl))
      obtain ⟨v, mv, ev⟩ := pick e0 e1
      obtain ⟨m, mm, rfl⟩ := List.mem_map.mp mv
      refine ⟨p, _, e, Tx m, rfl, rfl, SqL.of (S2.kp _ _ npb hp), ev, b, n + 2, m, rfl, B2, by omega, (ha m mm).1, (ha m mm).2, fun m' H3 a3 l3 S3 B3 => ?_⟩
      exact k m' H3 a3 l3 (S2.trans S3) (B3.mono (by omega))
    · exact fin H1 (n + 1) S1 B1 (by omega)
abbrev s_is_text : Stmt := topS 4
abbrev N_is_text : List Str := ["value"]
theorem sc_is_text : FnScope ["value"] ["value"] (defScope s_is_text) := ⟨rfl, rfl, rfl, by decide +kernel, rfl, by decide +kernel, by decide +kernel⟩

abbrev s_is_filter : Stmt := topS 6
abbrev N_is_filter : List Str := ["value"]
theorem sc_is_filter : FnScope ["value"] ["value"] (defScope s_is_filter) := ⟨rfl, rfl, rfl, by decide +kernel, rfl, by decide +kernel, by decide +kernel⟩

abbrev s_can_follow : Stmt := topS 7
abbrev N_can_follow : List Str := ["word", "part", "text", "inner"]
theorem sc_can_follow : FnScope ["word", "part", "text", "inner"] ["word", "part"] (defScope s_can_follow) := ⟨rfl, rfl, rfl, by decide +kernel, rfl, by decide +kernel, by decide +kernel⟩

/-! ### is_text, is_filter -/
def IsTx (d : Dt) : Prop := ∃ l, d = .str l ∧ Abc l
def spIsText (K : PySem.W.Frag) : Sp := fun vs H Q _ => ∃ v d, vs = [v] ∧ Rp K H v d ∧ ∀ b : Bool, (b = true ↔ IsTx d) → Q (.bl b) H
theorem cl_is_text {f : Addr} {fd : FuncData} (D : Df K mg "is_text" s_is_text ["value"] f fd) (T : Nm mg) : Cl P w K mg base 1 "is_text" s_is_text ["value"] (spIsText K) := by
  refine D.cl sc_is_text (fun vs H Q E h => ?_) (fun cdv A outer s H vs Q E hr h => ?_)
  · obtain ⟨v, d, rfl, _⟩ := h
    rfl
  · obtain ⟨v, d, rfl, r, k⟩ := h
    refine ⟨_, (pss_one (ps_ret (pe_and (pe_tyIs (T := "str") Mono.var (pv 0) T.n_type T.n_str (by decide +kernel)) (pe_one (pe_cmpR op_eq (pe_bm PySem.F.plainAttrs_str PySem.F.slot_str_strip PySem.F.type_str_strip mt_stripChars (pv 0) (pa_cons pe_str pa_nil)) pe_str (by first | exact nomark _ | rfl)))))), ?_⟩
    have no : (∀ l, d ≠ .str l) → Q (.bl false) H := fun n => k false ⟨fun e => (nomatch e), fun ⟨l, e, _⟩ => absurd e (n l)⟩
    refine ⟨_, rfl, d, r, _, rfl, ?_⟩
    cases r with
    | str l hl =>
      refine ⟨_, rfl, rfl, tx l, ("abc" : Str), rfl, rfl, szt hl, rfl, ?_⟩
      refine k _ ?_
      rw [abc_lit, nil_lit]
      constructor
      · intro h
        exact ⟨l, rfl, (strip_abc l).mp (V.str.inj (of_decide_eq_true h))⟩
      · rintro ⟨l', e, ha⟩
        cases e
        exact decide_eq_true (congrArg V.str ((strip_abc l).mpr ha))
    | _ => exact no (fun l e => nomatch e)
/-- the filters of the document -/
inductive Flt : Dt → Prop
  | tx {wd : Str} {l : List Nat} (hw : wd = "is" ∨ wd = "below" ∨ wd = "above" ∨ wd = "begins") (h : Abc l) : Flt (.tup [.str wd.cps.toList, .str l])
  | none : Flt (.tup [.str ("none" : Str).cps.toList])
  | say (b : Bool) : Flt (.tup [.str ("say" : Str).cps.toList, .bl b])
  | not {d : Dt} : Flt d → Flt (.tup [.str ("not" : Str).cps.toList, d])
  | among {ds : List Dt} : (∀ d ∈ ds, IsTx d) → Flt (.tup [.str ("among" : Str).cps.toList, .tup ds])
  | many {wd : Str} {ds : List Dt} (hw : wd = "and" ∨ wd = "or") : (∀ d ∈ ds, Flt d) → Flt (.tup [.str wd.cps.toList, .tup ds])
/-! ### what a filter is, by its first part -/
def CanF (wd : Str) (d : Dt) : Prop :=
  ((wd = "is" ∨ wd = "below" ∨ wd = "above" ∨ wd = "begins") ∧ IsTx d) ∨ (wd = "say" ∧ ∃ b, d = .bl b) ∨ (wd = "not" ∧ Flt d) ∨
  (wd = "among" ∧ ∃ ds, d = .tup ds ∧ ∀ e ∈ ds, IsTx e) ∨ ((wd = "and" ∨ wd = "or") ∧ ∃ ds, d = .tup ds ∧ ∀ e ∈ ds, Flt e)
theorem lit_tx (wd : Str) : tx wd.cps.toList = wd := by cases wd <;> simp [tx]
theorem tx_lit {l : List Nat} {wd : Str} (h : tx l = wd) : l = wd.cps.toList := by rw [← h]
theorem flt_two {l : List Nat} {d : Dt} : Flt (.tup [.str l, d]) ↔ CanF (tx l) d := by
  constructor
  · intro h
    cases h with
    | tx hw ha => exact .inl ⟨by rw [lit_tx]; exact hw, _, rfl, ha⟩
    | say b => exact .inr (.inl ⟨lit_tx _, b, rfl⟩)
    | not h => exact .inr (.inr (.inl ⟨lit_tx _, h⟩))
    | among h => exact .inr (.inr (.inr (.inl ⟨lit_tx _, _, rfl, h⟩)))
    | many hw h => exact .inr (.inr (.inr (.inr ⟨by rw [lit_tx]; exact hw, _, rfl, h⟩)))
  · rintro (⟨hw, l', rfl, ha⟩ | ⟨hw, b, rfl⟩ | ⟨hw, h⟩ | ⟨hw, ds, rfl, h⟩ | ⟨hw, ds, rfl, h⟩)
    · have := Flt.tx (wd := tx l) hw ha
      simpa [tx] using this
    · rw [tx_lit hw]
      exact .say b
    · rw [tx_lit hw]
      exact .not h
    · rw [tx_lit hw]
      exact .among h
    · have := Flt.many (wd := tx l) hw h
      simpa [tx] using this
theorem flt_one {l : List Nat} : Flt (.tup [.str l]) ↔ tx l = "none" := by
  constructor
  · intro h
    cases h
    exact lit_tx _
  · intro h
    rw [tx_lit h]
    exact .none
theorem flt_head {d : Dt} (h : Flt d) : ∃ l rest, d = .tup (.str l :: rest) ∧ rest.length ≤ 1 := by
  cases h <;> exact ⟨_, _, rfl, by simp⟩
theorem not_none {d : Dt} : ¬ CanF "none" d := by
  rintro (⟨h | h | h | h, _⟩ | ⟨h, _⟩ | ⟨h, _⟩ | ⟨h, _⟩ | ⟨h | h, _⟩) <;> exact absurd h (by decide +kernel)
theorem flt_none {rest : List Dt} {l : List Nat} (h : tx l = "none") : Flt (.tup (.str l :: rest)) ↔ rest.length = 0 := by
  constructor
  · intro f
    obtain ⟨l', r', e, hl⟩ := flt_head f
    cases e
    cases rest with
    | nil => rfl
    | cons d rest =>
      cases rest with
      | nil =>
        rw [flt_two, h] at f
        exact (not_none f).elim
      | cons _ _ => simp at hl
  · intro e
    rw [List.length_eq_zero_iff.mp e]
    exact flt_one.mpr h
theorem flt_not_none {rest : List Dt} {l : List Nat} (h : tx l ≠ "none") : Flt (.tup (.str l :: rest)) ↔ ∃ p, rest = [p] ∧ CanF (tx l) p := by
  constructor
  · intro f
    obtain ⟨l', r', e, hl⟩ := flt_head f
    cases e
    cases rest with
    | nil => exact absurd (flt_one.mp f) h
    | cons d rest =>
      cases rest with
      | nil => exact ⟨d, rfl, flt_two.mp f⟩
      | cons _ _ => simp at hl
  · rintro ⟨p, rfl, c⟩
    exact flt_two.mpr c
def spIsF (K : PySem.W.Frag) (n : Nat) : Sp := fun vs H Q _ => ∃ v d, vs = [v] ∧ Rp K H v d ∧ d.dep < n ∧ ∀ (b : Bool) H', (b = true ↔ Flt d) → Stp [] H H' → Q (.bl b) H'
def spCan (K : PySem.W.Frag) (n : Nat) : Sp := fun vs H Q _ => ∃ l v d, vs = [Tx l, v] ∧ Rp K H v d ∧ d.dep < n ∧ ∀ (b : Bool) H', (b = true ↔ CanF (tx l) d) → Stp [] H H' → Q (.bl b) H'
theorem isf_step {f : Addr} {fd : FuncData} (D : Df K mg "is_filter" s_is_filter ["value"] f fd) (T : Nm mg) {n m : Nat} (hm : 1 ≤ m) (c_can_follow : Cl P w K mg base m "can_follow" s_can_follow ["word", "part"] (spCan K n)) :
    Cl P w K mg base (m + 1) "is_filter" s_is_filter ["value"] (spIsF K (n + 1)) := by
  refine D.cl sc_is_filter (fun vs H Q E h => ?_) (fun cdv A outer s H vs Q E hr h => ?_)
  · obtain ⟨v, d, rfl, _⟩ := h
    rfl
  · obtain ⟨v, d, rfl, r, hd, k⟩ := h
    refine ⟨_, (pss_cons (ps_if (PW.pt (pw_or (pt_tyNot (T := "tuple") Mono.var (pv 0) T.n_type T.n_tuple (by decide +kernel)) (pw_or (pt_not (pt_truth (pv 0) (by intro _; rfl))) (pw_or1 (pt_tyNot (T := "str") (Mono.ixT Mono.var Mono.c) (pe_ix ix_tup (pv 0) pe_int (fun _ _ => rfl)) T.n_type T.n_str (by decide +kernel)))))) (pss_one (ps_ret pe_bl)) pss_nil)
      (pss_cons (ps_if (pt_cmpR op_eq (pe_ix ix_tup (pv 0) pe_int (fun _ _ => rfl)) pe_str (by first | exact nomark _ | rfl)) (pss_one (ps_ret (pe_cmpR op_eq (pe_callB call_len_seq (by rfl) T.n_len (by decide +kernel) (pa_cons (pv 0) pa_nil)) pe_int (by first | exact nomark _ | rfl)))) pss_nil)
      (pss_one (ps_ret (pe_and (pe_cmpR op_eq (pe_callB call_len_seq (by rfl) T.n_len (by decide +kernel) (pa_cons (pv 0) pa_nil)) pe_int (by first | exact nomark _ | rfl)) (pe_one (pe_cl c_can_follow hr (by omega) (pa_cons (pe_ix ix_tup (pv 0) pe_int (fun _ _ => rfl)) (pa_cons (pe_ix ix_tup (pv 0) pe_int (fun _ _ => rfl)) pa_nil))))))))), ?_⟩
    have no : ¬ Flt d → Q (.bl false) H := fun n => k false H ⟨fun e => (nomatch e), fun f => absurd f n⟩ (Stp.refl _ _)
    refine ⟨_, rfl, d, r, ?_⟩
    cases r with
    | tup hs hn rl =>
      rename_i a xs ds
      rw [if_neg (by simp [Dt.ty])]
      refine ⟨_, rfl, _, .inr (.inl ⟨_, hs, rfl⟩), ?_⟩
      cases rl with
      | nil =>
        refine no fun f => ?_
        obtain ⟨l, rest, e, _⟩ := flt_head f
        cases e
      | cons r0 rr =>
        rename_i v0 vr d0 dr
        refine ⟨_, rfl, a, _, 0, v0, rfl, rfl, hs, at0, d0, r0, ?_⟩
        cases r0 with
        | str l hl =>
          rw [if_neg (by simp [Dt.ty])]
          refine ⟨_, rfl, a, _, 0, Tx l, rfl, rfl, hs, at0, rfl, _, rfl, ite2 (fun h1 => ?_) (fun h1 => ?_)⟩
          · have h1 : tx l = "none" := V.str.inj (of_decide_eq_true h1)
            refine ⟨_, rfl, a, _, rfl, .inr hs, rfl, ?_⟩
            refine k _ H ?_ (Stp.refl _ _)
            rw [flt_none h1, decide_eq_true_iff]
            constructor
            · intro e
              have e := V.int.inj e
              rw [List.length_cons, rr.len] at e
              omega
            · intro e
              rw [List.length_cons, rr.len, e]
              rfl
          · have h1 : tx l ≠ "none" := fun e => h1 (decide_eq_true (congrArg V.str e))
            refine ⟨_, rfl, a, _, rfl, .inr hs, rfl, _, rfl, ite2 (fun h2 => ?_) (fun h2 => ?_)⟩
            · have hlen : vr.length = 1 := by
                have := V.int.inj (of_decide_eq_true h2)
                rw [List.length_cons] at this
                omega
              obtain ⟨v1, d1, rfl, rfl, r1⟩ := rr.one hlen
              refine ⟨_, rfl, a, _, 0, Tx l, rfl, rfl, hs, at0, _, rfl, a, _, 1, v1, rfl, rfl, hs, at1, l, v1, d1, rfl, r1, ?_, fun b H' hb S => ?_⟩
              · have := Dt.dep_mem (ds := [Dt.str l, d1]) (d := d1) (by simp)
                have e : (Dt.tup [Dt.str l, d1]).dep = Dt.depL [Dt.str l, d1] + 1 := rfl
                omega
              · refine k b H' ?_ S
                rw [hb, flt_two]
            · refine k false H ⟨fun e => (nomatch e), fun f => ?_⟩ (Stp.refl _ _)
              rw [flt_not_none h1] at f
              obtain ⟨p, rfl, _⟩ := f
              refine absurd (decide_eq_true ?_) h2
              rw [List.length_cons, rr.len]
              rfl
        | _ =>
          rw [if_pos (by simp [Dt.ty])]
          refine no fun f => ?_
          obtain ⟨l, rest, e, _⟩ := flt_head f
          cases e
    | _ =>
      rw [if_pos (by simp [Dt.ty])]
      refine no fun f => ?_
      obtain ⟨l, rest, e, _⟩ := flt_head f
      cases e
/-- all of them: the truths of a list, one for each part -/
theorem all_iff {P : Dt → Prop} : ∀ {bs : List Bool} {ds : List Dt}, bs.length = ds.length → (∀ (j : Nat) b d, bs[j]? = some b → ds[j]? = some d → (b = true ↔ P d)) → (bs.all id = true ↔ ∀ d ∈ ds, P d)
  | [], [], _, _ => by simp
  | b :: bs, d :: ds, hl, h => by
    have ih := all_iff (P := P) (bs := bs) (ds := ds) (by simpa using hl) fun j b d e1 e2 => h (j + 1) b d (by simpa using e1) (by simpa using e2)
    have h0 := h 0 b d rfl rfl
    rw [List.all_cons, Bool.and_eq_true, ih]
    simp only [id]
    rw [h0]
    simp
/-- one truth more -/
theorem more_iff {P : Dt → Prop} {bs : List Bool} {ds : List Dt} {b : Bool} {d : Dt} (h : ∀ (j : Nat) b d, bs[j]? = some b → ds[j]? = some d → (b = true ↔ P d)) (e : ds[bs.length]? = some d) (hb : b = true ↔ P d) :
    ∀ (j : Nat) b' d', (bs ++ [b])[j]? = some b' → ds[j]? = some d' → (b' = true ↔ P d') := fun j b' d' e1 e2 => by
  by_cases hj : j < bs.length
  · rw [List.getElem?_append_left hj] at e1
    exact h j b' d' e1 e2
  · rw [List.getElem?_append_right (by omega)] at e1
    have hj2 : j - bs.length = 0 := by
      have := (List.getElem?_eq_some_iff.mp e1).1
      simp at this
      omega
    have e3 : j = bs.length := by omega
    subst e3
    rw [e] at e2
    cases e2
    simp at e1
    subst e1
    exact hb
theorem can_is {wd : Str} {d : Dt} (h : wd = "is" ∨ wd = "below" ∨ wd = "above" ∨ wd = "begins") : CanF wd d ↔ IsTx d := by
  refine ⟨fun q => ?_, fun q => .inl ⟨h, q⟩⟩
  rcases q with ⟨_, q⟩ | ⟨e, _⟩ | ⟨e, _⟩ | ⟨e, _⟩ | ⟨e | e, _⟩
  · exact q
  all_goals (subst e; exact absurd h (by decide +kernel))
theorem can_say {d : Dt} : CanF "say" d ↔ ∃ b, d = .bl b := by
  refine ⟨fun q => ?_, fun q => .inr (.inl ⟨rfl, q⟩)⟩
  rcases q with ⟨e, _⟩ | ⟨_, q⟩ | ⟨e, _⟩ | ⟨e, _⟩ | ⟨e, _⟩
  · exact absurd e (by decide +kernel)
  · exact q
  all_goals exact absurd e (by decide +kernel)
theorem can_not {d : Dt} : CanF "not" d ↔ Flt d := by
  refine ⟨fun q => ?_, fun q => .inr (.inr (.inl ⟨rfl, q⟩))⟩
  rcases q with ⟨e, _⟩ | ⟨e, _⟩ | ⟨_, q⟩ | ⟨e, _⟩ | ⟨e, _⟩
  · exact absurd e (by decide +kernel)
  · exact absurd e (by decide +kernel)
  · exact q
  all_goals exact absurd e (by decide +kernel)
theorem can_among {d : Dt} : CanF "among" d ↔ ∃ ds, d = .tup ds ∧ ∀ e ∈ ds, IsTx e := by
  refine ⟨fun q => ?_, fun q => .inr (.inr (.inr (.inl ⟨rfl, q⟩)))⟩
  rcases q with ⟨e, _⟩ | ⟨e, _⟩ | ⟨e, _⟩ | ⟨_, q⟩ | ⟨e, _⟩
  · exact absurd e (by decide +kernel)
  · exact absurd e (by decide +kernel)
  · exact absurd e (by decide +kernel)
  · exact q
  · exact absurd e (by decide +kernel)
theorem can_many {wd : Str} {d : Dt} (h : wd = "and" ∨ wd = "or") : CanF wd d ↔ ∃ ds, d = .tup ds ∧ ∀ e ∈ ds, Flt e := by
  refine ⟨fun q => ?_, fun q => .inr (.inr (.inr (.inr ⟨h, q⟩)))⟩
  rcases q with ⟨e | e | e | e, _⟩ | ⟨e, _⟩ | ⟨e, _⟩ | ⟨e, _⟩ | ⟨_, q⟩
  all_goals first | exact q | (subst e; exact absurd h (by decide +kernel))
theorem can_other {wd : Str} {d : Dt} (h : wd ∉ (["is", "below", "above", "begins"] : List Str)) (h2 : wd ≠ "say") (h3 : wd ≠ "not") (h4 : wd ≠ "among") (h5 : wd ∉ (["and", "or"] : List Str)) : ¬ CanF wd d := by
  rintro (⟨e, _⟩ | ⟨e, _⟩ | ⟨e, _⟩ | ⟨e, _⟩ | ⟨e, _⟩)
  · exact h (by simpa using e)
  · exact h2 e
  · exact h3 e
  · exact h4 e
  · exact h5 (by simpa using e)
theorem can_step {f : Addr} {fd : FuncData} (D : Df K mg "can_follow" s_can_follow ["word", "part"] f fd) (T : Nm mg) {n m : Nat} (hm : 1 ≤ m) (c_is_text : Cl P w K mg base 1 "is_text" s_is_text ["value"] (spIsText K))
    (c_is_filter : Cl P w K mg base m "is_filter" s_is_filter ["value"] (spIsF K n)) : Cl P w K mg base (m + 1) "can_follow" s_can_follow ["word", "part"] (spCan K n) := by
  refine D.cl sc_can_follow (fun vs H Q E h => ?_) (fun cdv A outer s H vs Q E hr h => ?_)
  · obtain ⟨l, v, d, rfl, _⟩ := h
    rfl
  · obtain ⟨l, v, d, rfl, r, hd, k⟩ := h
    refine ⟨_, (pss_cons (ps_if (pt_cmpR op_in_seq (pv 0) (pe_tup (pa_cons pe_str (pa_cons pe_str (pa_cons pe_str (pa_cons pe_str pa_nil))))) (by first | exact nomark _ | rfl)) (pss_one (ps_ret (pe_cl c_is_text hr (by omega) (pa_cons (pv 1) pa_nil)))) pss_nil)
      (pss_cons (ps_if (pt_cmpR op_eq (pv 0) pe_str (by first | exact nomark _ | rfl)) (pss_one (ps_ret (pe_tyIs (T := "bool") Mono.var (pv 1) T.n_type T.n_bool (by decide +kernel)))) pss_nil)
      (pss_cons (ps_if (pt_cmpR op_eq (pv 0) pe_str (by first | exact nomark _ | rfl)) (pss_one (ps_ret (pe_cl c_is_filter hr (by omega) (pa_cons (pv 1) pa_nil)))) pss_nil)
      (pss_cons (ps_if (pt_cmpR op_eq (pv 0) pe_str (by first | exact nomark _ | rfl)) (pss_one (ps_ret (pe_and (pe_tyIs (T := "tuple") Mono.var (pv 1) T.n_type T.n_tuple (by decide +kernel)) (pe_one (pe_callB (cr_all rfl) (by rfl) T.n_all (by decide +kernel) (pa_cons (pe_lc (own := [("text", 2)]) rfl sc_can_follow.nd (pi_tup (pv 1)) (blkOk_by (own := [("text", 2)]) (N := N_can_follow) (sc := defScope s_can_follow) (by decide +kernel)) (fun _ _ _ _ _ => (pg_name (i := 2) sc_can_follow.nd rfl (by first | exact Or.inl rfl | exact Or.inr rfl))) (fun _ _ _ _ _ => pts_nil) (fun _ _ _ _ _ => (pe_cl c_is_text hr (by omega) (pa_cons (pv 2) pa_nil)))) pa_nil)))))) pss_nil)
      (pss_cons (ps_if (pt_cmpR op_in_seq (pv 0) (pe_tup (pa_cons pe_str (pa_cons pe_str pa_nil))) (by first | exact nomark _ | rfl)) (pss_one (ps_ret (pe_and (pe_tyIs (T := "tuple") Mono.var (pv 1) T.n_type T.n_tuple (by decide +kernel)) (pe_one (pe_callB (cr_all rfl) (by rfl) T.n_all (by decide +kernel) (pa_cons (pe_lc (own := [("inner", 3)]) rfl sc_can_follow.nd (pi_tup (pv 1)) (blkOk_by (own := [("inner", 3)]) (N := N_can_follow) (sc := defScope s_can_follow) (by decide +kernel)) (fun _ _ _ _ _ => (pg_name (i := 3) sc_can_follow.nd rfl (by first | exact Or.inl rfl | exact Or.inr rfl))) (fun _ _ _ _ _ => pts_nil) (fun _ _ _ _ _ => (pe_cl c_is_filter hr (by omega) (pa_cons (pv 3) pa_nil)))) pa_nil)))))) pss_nil)
      (pss_one (ps_ret pe_bl))))))), ?_⟩
    refine ⟨_, rfl, (by show 4 ≤ sizeLine; decide), fun t nt => ?_⟩
    have S1 : Stp [] H (upd H t (.tup [.str "is", .str "below", .str "above", .str "begins"])) := Stp.new nt _
    refine ⟨t, _, rfl, .inr (SqT.of upd_same), rfl, rfl, _, rfl, ?_⟩
    generalize upd H t (.tup [.str "is", .str "below", .str "above", .str "begins"]) = H1 at *
    have r1 : Rp K H1 v d := r.stp S1 Lsts.nil
    have i1 := inV_str (tx l) (["is", "below", "above", "begins"] : List Str)
    refine ite2 (fun h1 => ?_) (fun h1 => ?_)
    · refine ⟨_, rfl, v, d, rfl, r1, fun b hb => ?_⟩
      refine k b _ ?_ S1
      have h2 : inV (Tx l) ((["is", "below", "above", "begins"] : List Str).map V.str) = true := h1
      rw [i1] at h2
      rw [hb, can_is (by simpa using of_decide_eq_true h2)]
    have g1 : tx l ∉ (["is", "below", "above", "begins"] : List Str) := fun q => h1 (i1.trans (decide_eq_true q))
    refine ⟨_, rfl, rfl, _, rfl, ite2 (fun h2 => ?_) (fun h2 => ?_)⟩
    · have h2 : tx l = "say" := V.str.inj (of_decide_eq_true h2)
      refine ⟨_, rfl, d, r1, k _ _ ?_ S1⟩
      rw [h2, can_say, Bool.false_xor, decide_eq_true_iff]
      constructor
      · intro e
        cases d <;> simp [Dt.ty] at e
        exact ⟨_, rfl⟩
      · rintro ⟨b, rfl⟩
        rfl
    have g2 : tx l ≠ "say" := fun e => h2 (decide_eq_true (congrArg V.str e))
    refine ⟨_, rfl, rfl, _, rfl, ite2 (fun h3 => ?_) (fun h3 => ?_)⟩
    · have h3 : tx l = "not" := V.str.inj (of_decide_eq_true h3)
      refine ⟨_, rfl, v, d, rfl, r1, hd, fun b H' hb S => k b H' ?_ (S1.trans S)⟩
      rw [hb, h3, can_not]
    have g3 : tx l ≠ "not" := fun e => h3 (decide_eq_true (congrArg V.str e))
    refine ⟨_, rfl, rfl, _, rfl, ite2 (fun h4 => ?_) (fun h4 => ?_)⟩
    · have h4 : tx l = "among" := V.str.inj (of_decide_eq_true h4)
      refine ⟨_, rfl, d, r1, _, rfl, ?_⟩
      cases r1 with
      | tup hs hn rl =>
        rename_i a xs ds
        rw [if_pos (by simp [Dt.ty])]
        refine ⟨_, rfl, a, rfl, ⟨_, hs⟩, fun L nL => ?_⟩
        refine lc_tup (a := a) (xs := xs) (fun i H2 => ∃ bs : List Bool, bs.length = i ∧ H2 L = some (.lst (bs.map V.bl)) ∧ Stp [] H1 H2 ∧ ∀ (j : Nat) b d, bs[j]? = some b → ds[j]? = some d → (b = true ↔ IsTx d))
          ⟨[], rfl, upd_same, Stp.new nL _, fun j b d e => by simp at e⟩ (fun i H2 _ ⟨bs, _, _, S, _⟩ => sqt_stp S Lsts.nil hs) ?_ ?_
        · rintro i x H2 hi ⟨bs, hl, hL, S, hb⟩
          obtain ⟨e, he, re⟩ := rl.get hi
          refine ⟨rfl, _, rfl, x, e, rfl, re.stp S Lsts.nil, fun b hbe => ?_⟩
          refine ⟨bs.map V.bl, hL, ?_, bs ++ [b], by simp [hl], ?_, S.mut nL, more_iff hb (by rw [hl]; exact he) hbe⟩
          · have h1 := (List.getElem?_eq_some_iff.mp hi).1
            rw [List.length_map, hl]
            exact Nat.lt_of_lt_of_le (show i < 100000 by omega) (by decide)
          · rw [List.map_append]
            exact upd_same
        · rintro H2 ⟨bs, hl, hL, S, hb⟩
          refine ⟨L, bs, rfl, SqL.of hL, k _ _ ?_ (S1.trans S)⟩
          rw [all_iff (by rw [hl, rl.len]) hb, h4, can_among]
          exact ⟨fun q => ⟨ds, rfl, q⟩, fun ⟨ds', e, q⟩ => by cases e; exact q⟩
      | _ =>
        rw [if_neg (by simp [Dt.ty])]
        refine k _ _ ⟨fun e => (nomatch e), fun q => ?_⟩ S1
        rw [h4, can_among] at q
        obtain ⟨ds, e, _⟩ := q
        cases e
    have g4 : tx l ≠ "among" := fun e => h4 (decide_eq_true (congrArg V.str e))
    refine ⟨_, rfl, (by show 2 ≤ sizeLine; decide), fun t2 nt2 => ?_⟩
    have S2 : Stp [] H1 (upd H1 t2 (.tup [.str "and", .str "or"])) := Stp.new nt2 _
    refine ⟨t2, _, rfl, .inr (SqT.of upd_same), rfl, rfl, _, rfl, ?_⟩
    generalize upd H1 t2 (.tup [.str "and", .str "or"]) = H2 at *
    have r2 : Rp K H2 v d := r1.stp S2 Lsts.nil
    have i2 := inV_str (tx l) (["and", "or"] : List Str)
    have SS := S1.trans S2
    refine ite2 (fun h5 => ?_) (fun h5 => ?_)
    · have h6 : inV (Tx l) ((["and", "or"] : List Str).map V.str) = true := h5
      rw [i2] at h6
      have h7 : tx l = "and" ∨ tx l = "or" := by simpa using of_decide_eq_true h6
      refine ⟨_, rfl, d, r2, _, rfl, ?_⟩
      cases r2 with
      | tup hs hn rl =>
        rename_i a xs ds
        rw [if_pos (by simp [Dt.ty])]
        refine ⟨_, rfl, a, rfl, ⟨_, hs⟩, fun L nL => ?_⟩
        refine lc_tup (a := a) (xs := xs) (fun i H3 => ∃ bs : List Bool, bs.length = i ∧ H3 L = some (.lst (bs.map V.bl)) ∧ Stp [] H2 H3 ∧ ∀ (j : Nat) b d, bs[j]? = some b → ds[j]? = some d → (b = true ↔ Flt d))
          ⟨[], rfl, upd_same, Stp.new nL _, fun j b d e => by simp at e⟩ (fun i H3 _ ⟨bs, _, _, S, _⟩ => sqt_stp S Lsts.nil hs) ?_ ?_
        · rintro i x H3 hi ⟨bs, hl, hL, S, hb⟩
          obtain ⟨e, he, re⟩ := rl.get hi
          refine ⟨rfl, _, rfl, x, e, rfl, re.stp S Lsts.nil, ?_, fun b H4 hbe S4 => ?_⟩
          · have h1 := Dt.dep_mem (List.mem_of_getElem? he)
            have h2 : (Dt.tup ds).dep = Dt.depL ds + 1 := rfl
            omega
          refine ⟨bs.map V.bl, S4.kp _ _ (fun m => nomatch m) hL, ?_, bs ++ [b], by simp [hl], ?_, (S.trans S4).mut nL, more_iff hb (by rw [hl]; exact he) hbe⟩
          · have h1 := (List.getElem?_eq_some_iff.mp hi).1
            rw [List.length_map, hl]
            exact Nat.lt_of_lt_of_le (show i < 100000 by omega) (by decide)
          · rw [List.map_append]
            exact upd_same
        · rintro H3 ⟨bs, hl, hL, S, hb⟩
          refine ⟨L, bs, rfl, SqL.of hL, k _ _ ?_ (SS.trans S)⟩
          rw [all_iff (by rw [hl, rl.len]) hb, can_many h7]
          exact ⟨fun q => ⟨ds, rfl, q⟩, fun ⟨ds', e, q⟩ => by cases e; exact q⟩
      | _ =>
        rw [if_neg (by simp [Dt.ty])]
        refine k _ _ ⟨fun e => (nomatch e), fun q => ?_⟩ SS
        rw [can_many h7] at q
        obtain ⟨ds, e, _⟩ := q
        cases e
    have g5 : tx l ∉ (["and", "or"] : List Str) := fun q => h5 (i2.trans (decide_eq_true q))
    exact k _ _ ⟨fun e => (nomatch e), fun q => absurd q (can_other g1 g2 g3 g4 g5)⟩ SS
/-- a promise that asks for nothing -/
theorem cl_never {x : Str} {st : Stmt} {ps : List Str} {f : Addr} {fd : FuncData} (D : Df K mg x st ps f fd) {sp : Sp} (h : ∀ vs H Q E, ¬ sp vs H Q E) (k : Nat) : Cl P w K mg base k x st ps sp :=
  ⟨f, fd, D, ⟨fun vs H Q E q => absurd q (h vs H Q E), fun A outer s H args us vs Q E _ _ _ _ q => absurd q (h vs H Q E)⟩⟩
theorem both_filter {f1 f2 f3 : Addr} {fd1 fd2 fd3 : FuncData} (D1 : Df K mg "is_text" s_is_text ["value"] f1 fd1) (D2 : Df K mg "is_filter" s_is_filter ["value"] f2 fd2) (D3 : Df K mg "can_follow" s_can_follow ["word", "part"] f3 fd3) (T : Nm mg) :
    ∀ n : Nat, Cl P w K mg base (2 * n + 1) "is_filter" s_is_filter ["value"] (spIsF K n) ∧ Cl P w K mg base (2 * n + 2) "can_follow" s_can_follow ["word", "part"] (spCan K n)
  | 0 => by
    have h1 : Cl P w K mg base 1 "is_filter" s_is_filter ["value"] (spIsF K 0) := cl_never D2 (fun vs H Q E ⟨v, d, _, _, hd, _⟩ => Nat.not_lt_zero _ hd) 1
    exact ⟨h1, can_step D3 T (Nat.le_refl _) (cl_is_text D1 T) h1⟩
  | n + 1 => by
    obtain ⟨h1, h2⟩ := both_filter D1 D2 D3 T n
    have h3 : Cl P w K mg base (2 * (n + 1) + 1) "is_filter" s_is_filter ["value"] (spIsF K (n + 1)) := (isf_step D2 T (by omega) h2).mono (by omega)
    exact ⟨h3, can_step D3 T (by omega) (cl_is_text D1 T) h3⟩
abbrev s__law_leaf : Stmt := topS 15
abbrev N__law_leaf : List Str := ["bag", "room", "pool", "way", "wide", "many", "words", "k"]
theorem sc__law_leaf : FnScope ["bag", "room", "pool", "way", "wide", "many", "words", "k"] ["bag", "room", "pool"] (defScope s__law_leaf) := ⟨rfl, rfl, rfl, by decide +kernel, rfl, by decide +kernel, by decide +kernel⟩

theorem monoDraw : MonoS spDraw := fun vs H Q Q' E h ⟨b, up, n, e, B, h1, h2, h3, k⟩ => ⟨b, up, n, e, B, h1, h2, h3, fun d H' a b c e => h _ _ (k d H' a b c e)⟩
/-- what a drawn filter is -/
def Made (K : PySem.W.Frag) (H : Hp) (v : V) (m : Nat) : Prop := ∃ d, Rp K H v d ∧ Flt d ∧ d.dep ≤ m
theorem Made.stp {K : PySem.W.Frag} {H H' : Hp} {v : V} {m : Nat} {S : List Addr} (h : Made K H v m) (s : Stp S H H') (l : Lsts H S) : Made K H' v m := by
  obtain ⟨d, r, f, e⟩ := h
  exact ⟨d, r.stp s l, f, e⟩
/-- the bag, the room, the pool -/
structure Sto (H : Hp) (b r p : Addr) (n : Nat) (r0 r1 : Int) (ls : List (List Nat)) : Prop where
  bag : Bag H b n
  room : H r = some (.lst [.int r0, .int r1])
  pool : Pool H p ls
  br : b ≠ r
  bp : b ≠ p
  rp : r ≠ p
  pos : 0 ≤ r1
  few : (ls.length : Int) + r1 ≤ 100
theorem Sto.lsts {H : Hp} {b r p : Addr} {n : Nat} {r0 r1 : Int} {ls : List (List Nat)} (s : Sto H b r p n r0 r1 ls) : Lsts H [b, r, p] := by
  obtain ⟨x, y, z, h, _⟩ := s.bag
  exact .cons h (.cons s.room (.one s.pool.1))
theorem Sto.lb {H : Hp} {b r p : Addr} {n : Nat} {r0 r1 : Int} {ls : List (List Nat)} (s : Sto H b r p n r0 r1 ls) : Lsts H [b] := fun q m => s.lsts q (by rw [List.mem_singleton.mp m]; simp)
/-- behind a step that changes the bag alone -/
theorem Sto.draw {H H' : Hp} {b r p : Addr} {n m : Nat} {r0 r1 : Int} {ls : List (List Nat)} (s : Sto H b r p n r0 r1 ls) (st : Stp [b] H H') (B : Bag H' b m) : Sto H' b r p m r0 r1 ls :=
  ⟨B, st.kp _ _ (fun q => s.br (List.mem_singleton.mp q).symm) s.room, ⟨st.kp _ _ (fun q => s.bp (List.mem_singleton.mp q).symm) s.pool.1, s.pool.2⟩, s.br, s.bp, s.rp, s.pos, s.few⟩
theorem Sto.fresh {H : Hp} {b r p q : Addr} {n : Nat} {r0 r1 : Int} {ls : List (List Nat)} {o : HO} (s : Sto H b r p n r0 r1 ls) (h : H q = none) : Sto (upd H q o) b r p n r0 r1 ls :=
  s.draw (Stp.new h _) (s.bag.upd (s.bag.ne h))
def spLeaf (K : PySem.W.Frag) : Sp := fun vs H Q _ => ∃ (b r p : Addr) (n : Nat) (r0 r1 : Int) (ls : List (List Nat)), vs = [.ref b, .ref r, .ref p] ∧ Sto H b r p n r0 r1 ls ∧ n + 1000 < 2 ^ 30 ∧
  ∀ v H' r1' ls', Made K H' v 2 → Stp [b, r, p] H H' → Sto H' b r p (n + 400) r0 r1' ls' → Q v H'
theorem b_in {b r p : Addr} : ∀ x ∈ ([b] : List Addr), x ∈ [b, r, p] := fun x m => by rw [List.mem_singleton.mp m]; simp
theorem cl__law_leaf {f : Addr} {fd : FuncData} (D : Df K mg "_law_leaf" s__law_leaf ["bag", "room", "pool"] f fd) (T : Nm mg) (c__law_draw : Cl P w K mg base 1 "_law_draw" s__law_draw ["bag", "upto"] spDraw)
    (c__law_some : Cl P w K mg base 3 "_law_some" s__law_some ["bag", "pool"] spSome) : Cl P w K mg base 4 "_law_leaf" s__law_leaf ["bag", "room", "pool"] (spLeaf K) := by
  refine D.cl sc__law_leaf (fun vs H Q E h => ?_) (fun cdv A outer s H vs Q E hr h => ?_)
  · obtain ⟨b, r, p, n, r0, r1, ls, rfl, _⟩ := h
    rfl
  · obtain ⟨b, r, p, n, r0, r1, ls, rfl, s0, hn, k⟩ := h
    refine ⟨_, (pss_cons (ps_set (i := 3) sc__law_leaf.nd rfl (by first | exact Or.inl rfl | exact Or.inr rfl) (pe_cl c__law_draw hr (by omega) (pa_cons (pv 0) (pa_cons pe_int pa_nil))))
      (pss_cons (ps_if (PW.pt (pw_or (pt_cmpR op_eq (pv 3) pe_int (by first | exact nomark _ | rfl)) (pw_or1 (PW.pt (pw_and (pt_cmpR op_lt (pe_ix ix_list (pv 1) pe_int (fun _ _ => rfl)) pe_int (by first | exact nomark _ | rfl)) (pw_and1 (pt_cmpR op_gt (pv 3) pe_int (by first | exact nomark _ | rfl)))))))) (pss_one (ps_ret (pe_tup (pa_cons pe_str pa_nil)))) pss_nil)
      (pss_cons (ps_if (pt_cmpR op_eq (pv 3) pe_int (by first | exact nomark _ | rfl)) (pss_one (ps_ret (pe_tup (pa_cons pe_str (pa_cons (pe_cmpR op_eq (pe_cl c__law_draw hr (by omega) (pa_cons (pv 0) (pa_cons pe_int pa_nil))) pe_int (by first | exact nomark _ | rfl)) pa_nil))))) pss_nil)
      (pss_cons (ps_set (i := 4) sc__law_leaf.nd rfl (by first | exact Or.inl rfl | exact Or.inr rfl) (pe_ifExp (pt_cmpR op_eq (pe_cl c__law_draw hr (by omega) (pa_cons (pv 0) (pa_cons pe_int pa_nil))) pe_int (by first | exact nomark _ | rfl)) pe_int pe_int))
      (pss_cons (ps_set (i := 5) sc__law_leaf.nd rfl (by first | exact Or.inl rfl | exact Or.inr rfl) (pe_ifExp (pt_cmpR op_eq (pv 3) pe_int (by first | exact nomark _ | rfl)) (pe_cl c__law_draw hr (by omega) (pa_cons (pv 0) (pa_cons (pe_op op_add (pe_callB (call_min2 rfl) (by rfl) T.n_min (by decide +kernel) (pa_cons (pv 4) (pa_cons (pe_callTy call_int1 (by rfl) T.n_int (by decide +kernel) (pa_cons (pe_ix ix_list (pv 1) pe_int (fun _ _ => rfl)) pa_nil)) pa_nil))) pe_int) pa_nil))) pe_int))
      (pss_cons (ps_asg (pe_op op_sub (pe_ix ix_list (pv 1) pe_int (fun _ _ => rfl)) (pv 5)) (pg_sub (pv 1) pe_int set_list))
      (pss_cons (ps_set (i := 6) sc__law_leaf.nd rfl (by first | exact Or.inl rfl | exact Or.inr rfl) (pe_lst pa_nil))
      (pss_cons (ps_for PassesOwn.never rfl (pi_range1 (by rfl) T.n_range (pa_cons (pv 5) pa_nil)) (pg_name (i := 7) sc__law_leaf.nd rfl (by first | exact Or.inl rfl | exact Or.inr rfl)) (pss_cons (ps_expr (pe_bm PySem.F.plainAttrs_list PySem.F.slot_list_append PySem.F.type_list_append mt_append (pv 6) (pa_cons (pe_cl c__law_some hr (by omega) (pa_cons (pv 0) (pa_cons (pv 2) pa_nil))) pa_nil)))
      (pss_one (ps_expr (pe_bm PySem.F.plainAttrs_list PySem.F.slot_list_append PySem.F.type_list_append mt_append (pv 2) (pa_cons (pe_ix ix_list (pv 6) (pv 7) (fun _ _ => rfl)) pa_nil))))))
      (pss_cons (ps_if (pt_cmpR op_eq (pv 3) pe_int (by first | exact nomark _ | rfl)) (pss_one (ps_ret (pe_tup (pa_cons pe_str (pa_cons (pe_callTy call_tuple_of (by rfl) T.n_tuple (by decide +kernel) (pa_cons (pv 6) pa_nil)) pa_nil))))) pss_nil)
      (pss_one (ps_ret (pe_tup (pa_cons (pe_ix ix_list (pe_lst (pa_cons pe_str (pa_cons pe_str (pa_cons pe_str (pa_cons pe_str (pa_cons pe_str pa_nil)))))) (pe_op op_sub (pv 3) pe_int) (fun _ _ => rfl)) (pa_cons (pe_ix ix_list (pv 6) pe_int (fun _ _ => rfl)) pa_nil)))))))))))))), ?_⟩
    have one : b ∈ [b] := List.mem_singleton.mpr rfl
    refine ⟨_, rfl, b, 8, n, rfl, s0.bag, by omega, by decide, by decide, fun way H1 w0 w1 o1 B1 => ?_⟩
    have S1 : Stp [b] H H1 := o1.stp one
    have s1 := s0.draw S1 B1
    have fin : ∀ H2 m t xs ds, Stp [b] H H2 → Bag H2 b m → m ≤ n + 400 → H2 t = none → RpL K (upd H2 t (.tup xs)) xs ds → xs.length ≤ 10 → Flt (.tup ds) → (Dt.tup ds).dep ≤ 2 → Q (.ref t) (upd H2 t (.tup xs)) := fun H2 m t xs ds S2 B2 hm nt rl hx hf hd => by
      have s2 := (s0.draw S2 B2).fresh (o := .tup xs) nt
      exact k _ _ r1 ls ⟨.tup ds, .tup (SqT.of upd_same) (by omega) rl, hf, hd⟩ ((S2.new' nt).sub b_in) ⟨s2.bag.mono hm, s2.room, s2.pool, s0.br, s0.bp, s0.rp, s0.pos, s0.few⟩
    refine MonoT.cut (t := tOr _ _) (MonoT.or (MonoT.test (Mono.op' MonoR.eq Mono.var Mono.c)) (MonoT.and (MonoT.test (Mono.op' MonoR.i0 (Mono.op' MonoR.ixL Mono.var Mono.c) Mono.c)) (MonoT.test (Mono.op' MonoR.i0 Mono.var Mono.c))))
      (fun c H' => H' = H1 ∧ (c = true ∨ (way ≠ 0 ∧ (way = 1 ∨ 1 ≤ r1)))) ?_ ?_
    · refine ⟨_, rfl, rfl, _, rfl, ite2 (fun h1 => ⟨rfl, .inl rfl⟩) (fun h1 => ?_)⟩
      have g1 : way ≠ 0 := fun e => h1 (decide_eq_true (congrArg V.int e))
      refine ⟨_, rfl, r, _, 1, .int r1, rfl, rfl, SqL.of s1.room, rfl, _, _, rfl, rfl, _, rfl, ite2 (fun h2 => ?_) (fun h2 => ⟨rfl, .inr ⟨g1, .inr ?_⟩⟩)⟩
      · refine ⟨_, rfl, _, _, rfl, rfl, _, rfl, rfl, ?_⟩
        by_cases h3 : 1 < way
        · exact .inl (decide_eq_true h3)
        · exact .inr ⟨g1, .inl (by omega)⟩
      · have : ¬ r1 < 1 := fun e => h2 (decide_eq_true e)
        omega
    rintro c H' ⟨rfl, hc⟩
    refine ite2 (fun ec => ?_) (fun ec => ?_)
    · refine ⟨(by show 1 ≤ sizeLine; decide), fun t nt => ?_⟩
      exact fin _ _ t _ [.str ("none" : Str).cps.toList] S1 B1 (by omega) nt (.cons (Rp.lit _) .nil) (by decide) .none (by decide)
    obtain ⟨g0, g1⟩ := hc.resolve_left ec
    refine ⟨_, rfl, rfl, _, rfl, ite2 (fun h2 => ?_) (fun h2 => ?_)⟩
    · refine ⟨_, rfl, b, 2, n + 1, rfl, B1, by omega, by decide, by decide, fun d H2 d0 d1 o2 B2 => ?_⟩
      refine ⟨rfl, (by show 2 ≤ sizeLine; decide), fun t nt => ?_⟩
      exact fin _ _ t _ [.str ("say" : Str).cps.toList, .bl _] (S1.trans (o2.stp one)) B2 (by omega) nt (.cons (Rp.lit _) (.cons (.bl _) .nil)) (by simp) (.say _) (by simp [Dt.dep, Dt.depL])
    have g2 : 1 ≤ r1 := by
      have : way ≠ 1 := fun e => h2 (decide_eq_true (congrArg V.int e))
      omega
    refine ⟨_, rfl, b, 8, n + 1, rfl, B1, by omega, by decide, by decide, fun d H2 d0 d1 o2 B2 => ?_⟩
    have S2 := S1.trans (o2.stp one)
    have s2 := s0.draw S2 B2
    refine ⟨rfl, _, rfl, ite_tC fun wd hw => ?_⟩
    obtain ⟨u, rfl, u0, u1⟩ : ∃ u, wd = .int u ∧ 4 ≤ u ∧ u ≤ 8 := by
      rcases hw with rfl | rfl
      · exact ⟨8, rfl, by decide, by decide⟩
      · exact ⟨4, rfl, by decide, by decide⟩
    refine Mono.cut (te := tIf _ _ _) (Mono.tif (MonoT.test (Mono.op' MonoR.eq Mono.var Mono.c)) (Mono.cl monoDraw (MonoA.cons Mono.var (MonoA.cons (Mono.op' MonoR.i0 (Mono.cb MonoC.two (MonoA.cons Mono.var (MonoA.cons (Mono.cb MonoC.int1 (MonoA.cons (Mono.op' MonoR.ixL Mono.var Mono.c) MonoA.nil)) MonoA.nil))) Mono.c) MonoA.nil))) Mono.c)
      (fun v H' => ∃ m, v = .int m ∧ 0 ≤ m ∧ m ≤ 8 ∧ m ≤ r1 ∧ (way ≠ 2 → m = 1) ∧ Stp [b] H H' ∧ Bag H' b (n + 3)) ?_ ?_
    · refine ⟨_, rfl, rfl, _, rfl, ite2 (fun h3 => ?_) (fun h3 => ?_)⟩
      · have h3 : way = 2 := V.int.inj (of_decide_eq_true h3)
        refine ⟨_, rfl, _, rfl, _, rfl, r, _, 1, .int r1, rfl, rfl, SqL.of s2.room, rfl, .inl ⟨r1, rfl, u, r1, rfl, _, _, rfl, rfl, b, _, n + 2, rfl, B2, by omega, ?_, ?_, fun m H3 m0 m1 o3 B3 => ?_⟩⟩
        · split <;> omega
        · split <;> omega
        · refine ⟨m, rfl, m0, ?_, ?_, fun e => absurd h3 e, S2.trans (o3.stp one), B3⟩
          · split at m1 <;> omega
          · split at m1 <;> omega
      · exact ⟨1, rfl, by decide, by decide, g2, fun _ => rfl, S2, B2.mono (by omega)⟩
    rintro v H3 ⟨m, rfl, m0, m8, mr, mone, S3, B3⟩
    have s3 := s0.draw S3 B3
    refine ⟨_, rfl, r, _, 1, .int r1, rfl, rfl, SqL.of s3.room, rfl, _, rfl, _, _, rfl, rfl, _, rfl, r, _, 1, 1, rfl, rfl, s3.room, rfl, ?_⟩
    have mr' : r ∈ [b, r, p] := by simp
    have nrb : r ∉ [b] := fun q => s0.br (List.mem_singleton.mp q).symm
    obtain ⟨H4, e4⟩ : ∃ H4, H4 = upd H3 r (.lst ([.int r0, .int r1].set 1 (.int (r1 - m)))) := ⟨_, rfl⟩
    dsimp only
    have S4 : Stp [b, r, p] H H4 := by
      rw [e4]
      exact (S3.sub b_in).put' mr'
    have s4 : Sto H4 b r p (n + 3) r0 (r1 - m) ls := by
      rw [e4]
      refine ⟨B3.upd s0.br, upd_same, ⟨?_, s0.pool.2⟩, s0.br, s0.bp, s0.rp, by omega, by have := s0.few; omega⟩
      rw [upd_ne s0.rp.symm]
      exact s3.pool.1
    refine ⟨Nat.zero_le _, fun W nW => ?_⟩
    have nW4 : H4 W = none := by
      rw [e4]
      exact nW
    have hx := s4.lsts
    have wne : ∀ q, q ∈ [b, r, p] → W ≠ q := fun q mq e => by
      obtain ⟨xs, ex⟩ := hx q mq
      rw [← e, nW4] at ex
      cases ex
    have wb : W ≠ b := wne b (by simp)
    have wr : W ≠ r := wne r (by simp)
    have wp : W ≠ p := wne p (by simp)
    have nW0 : H W = none := S4.fresh (fun q => wne W q rfl) nW4
    have s5 := s4.fresh (o := .lst []) nW4
    rw [e4] at s5
    refine ⟨_, rfl, m, rfl, by omega, by omega, for_range (lo := 0) (n := m.toNat) (fun i σ H5 => ∃ (ws : List (List Nat)) (x : Option V), ws.length = i ∧ (∀ l ∈ ws, Abc l ∧ l.length ≤ 12) ∧
      σ = [some (.ref b), some (.ref r), some (.ref p), some (.int way), some (.int u), some (.int m), some (.ref W), x] ∧ H5 W = some (.lst (ws.map Tx)) ∧ Stp [b, r, p] H H5 ∧ Sto H5 b r p (n + 3 + 20 * i) r0 (r1 - m) (ls ++ ws))
      ⟨[], none, rfl, fun l q => (nomatch q), rfl, upd_same, ?_, ?_⟩ ?_ ?_⟩
    · have := S4.new' (o := .lst []) nW4
      rwa [e4] at this
    · rw [List.append_nil]
      exact s5
    · rintro i σ H5 hi ⟨ws, x, hl, ha, rfl, hW, S5, s5⟩
      have few := s0.few
      have hls : ls.length ≤ 100 := by have := s0.pos; omega
      refine ⟨_, rfl, .inl ⟨rfl, _, SqL.of hW⟩, _, rfl, _, rfl, b, p, _, ls ++ ws, rfl, s5.bag, by omega, s5.pool, ?_, s0.bp, fun l H6 al ll S6 B6 => ?_⟩
      · rw [List.length_append]
        omega
      have hW6 : H6 W = some (.lst (ws.map Tx)) := S6.kp _ _ (fun q => wb (List.mem_singleton.mp q)) hW
      have s6 := s5.draw S6 B6
      refine ⟨W, _, _, rfl, rfl, hW6, ?_, ?_⟩
      · rw [List.length_map, hl]
        exact Nat.lt_of_lt_of_le (show i < 100000 by omega) (by decide)
      have e7 : (upd H6 W (.lst (ws.map Tx ++ [Tx l]))) p = some (.lst ((ls ++ ws).map Tx)) := by
        rw [upd_ne wp.symm]
        exact s6.pool.1
      have e8 : (upd H6 W (.lst (ws.map Tx ++ [Tx l]))) W = some (.lst (ws.map Tx ++ [Tx l])) := upd_same
      refine ⟨_, rfl, .inl ⟨rfl, _, SqL.of e7⟩, _, rfl, _, rfl, W, _, _, Tx l, rfl, rfl, SqL.of e8, ?_, p, _, _, rfl, rfl, e7, ?_, ?_⟩
      · rw [Int.zero_add]
        refine atI_nat ?_
        rw [List.getElem?_append_right (by rw [List.length_map, hl]; exact Nat.le_refl _), List.length_map, hl, Nat.sub_self]
        rfl
      · rw [List.length_map, List.length_append, hl]
        exact Nat.lt_of_lt_of_le (show ls.length + i < 100000 by omega) (by decide)
      · refine ⟨ws ++ [l], _, by simp [hl], fun l' q => ?_, rfl, ?_, ?_, ?_⟩
        · rcases List.mem_append.mp q with q | q
          · exact ha l' q
          · rw [List.mem_singleton.mp q]
            exact ⟨al, ll⟩
        · rw [upd_ne wp, e8, List.map_append]
          rfl
        · exact ((S5.trans (S6.sub b_in)).mut nW0).put' (by simp)
        · refine ⟨?_, ?_, ⟨?_, fun l' q => ?_⟩, s0.br, s0.bp, s0.rp, by omega, ?_⟩
          · exact ((B6.upd wb.symm).upd s0.bp).mono (by omega)
          · rw [upd_ne s0.rp, upd_ne wr.symm]
            exact s6.room
          · rw [upd_same, ← List.append_assoc, List.map_append (l₂ := [l])]
            rfl
          · rw [← List.append_assoc] at q
            rcases List.mem_append.mp q with q | q
            · exact s6.pool.2 l' q
            · rw [List.mem_singleton.mp q]
              exact ⟨al, ll⟩
          · rw [List.length_append, List.length_append, hl, List.length_singleton]
            omega
    · rintro σ H5 ⟨ws, x, hl, ha, rfl, hW, S5, s5⟩
      have bud : n + 3 + 20 * m.toNat ≤ n + 400 := by omega
      have s6 : Sto H5 b r p (n + 400) r0 (r1 - m) (ls ++ ws) := ⟨s5.bag.mono bud, s5.room, s5.pool, s0.br, s0.bp, s0.rp, s5.pos, s5.few⟩
      have hws : ∀ l ∈ ws, l.length ≤ 100000 := fun l q => Nat.le_trans (ha l q).2 (by decide)
      refine ⟨_, rfl, rfl, _, rfl, ite2 (fun h3 => ?_) (fun h3 => ?_)⟩
      · refine ⟨_, rfl, W, _, rfl, .inl ⟨SqL.of hW, fun t nt => ⟨(by show 2 ≤ sizeLine; decide), fun t2 nt2 => ?_⟩⟩⟩
        have ntt : t ≠ t2 := ne_of_none upd_same nt2
        refine k _ _ (r1 - m) (ls ++ ws) ⟨.tup [.str ("among" : Str).cps.toList, .tup (ws.map Dt.str)], .tup (SqT.of upd_same) (by simp) (.cons (Rp.lit _) (.cons (.tup (SqT.of (Eq.trans (upd_ne ntt) upd_same)) ?_ (RpL.strs hws)) .nil)), .among fun d q => ?_, ?_⟩ ((S5.new' nt).new' nt2) ((s6.fresh nt).fresh nt2)
        · rw [List.length_map, hl]
          omega
        · obtain ⟨l, ml, rfl⟩ := List.mem_map.mp q
          exact ⟨l, rfl, (ha l ml).1⟩
        · simp [Dt.dep, Dt.depL, dep_strs]
      · have g3 : way ≠ 2 := fun e => h3 (decide_eq_true (congrArg V.int e))
        have m1 := mone g3
        have g4 : way ≠ 1 := fun e => h2 (decide_eq_true (congrArg V.int e))
        obtain ⟨l, rfl⟩ : ∃ l, ws = [l] := by
          cases ws with
          | nil => simp [m1] at hl
          | cons l ws =>
            cases ws with
            | nil => exact ⟨l, rfl⟩
            | cons _ _ => simp [m1] at hl
        obtain ⟨al, ll⟩ := ha l (by simp)
        refine ⟨(by show 5 ≤ sizeLine; decide), fun q nq => ?_⟩
        have s7 := s6.fresh (o := .lst [.str "is", .str "below", .str "above", .str "begins", .str "is"]) nq
        obtain ⟨v, mv, ev⟩ := pick (xs := ([.str "is", .str "below", .str "above", .str "begins", .str "is"] : List V)) (d := way - 3) (by omega) (by simp; omega)
        have hq : (upd H5 q (.lst [.str "is", .str "below", .str "above", .str "begins", .str "is"])) W = some (.lst [Tx l]) := by
          rw [upd_ne (ne_of_none hW nq)]
          exact hW
        refine ⟨_, rfl, _, _, rfl, rfl, q, _, way - 3, v, rfl, rfl, SqL.of upd_same, ev, _, rfl, W, _, 0, Tx l, rfl, rfl, SqL.of hq, at0, (by show 2 ≤ sizeLine; decide), fun t nt => ?_⟩
        obtain ⟨wd, rfl, hwd⟩ : ∃ wd : Str, v = .str wd ∧ (wd = "is" ∨ wd = "below" ∨ wd = "above" ∨ wd = "begins") := by
          simp at mv
          rcases mv with rfl | rfl | rfl | rfl | rfl
          · exact ⟨_, rfl, .inl rfl⟩
          · exact ⟨_, rfl, .inr (.inl rfl)⟩
          · exact ⟨_, rfl, .inr (.inr (.inl rfl))⟩
          · exact ⟨_, rfl, .inr (.inr (.inr rfl))⟩
          · exact ⟨_, rfl, .inl rfl⟩
        have lw : wd.cps.toList.length ≤ 100000 := by
          rcases hwd with rfl | rfl | rfl | rfl <;> decide +kernel
        exact k _ _ (r1 - m) (ls ++ [l]) ⟨.tup [.str wd.cps.toList, .str l], .tup (SqT.of upd_same) (by simp) (.cons (Rp.lit wd lw) (.cons (.str l (Nat.le_trans ll (by decide))) .nil)), .tx hwd al, by simp [Dt.dep, Dt.depL]⟩ ((S5.new' nq).new' nt) (s7.fresh nt)
abbrev s__law_sieve : Stmt := topS 16
abbrev N__law_sieve : List Str := ["bag", "room", "pool", "levels", "way", "parts", "k"]
theorem sc__law_sieve : FnScope ["bag", "room", "pool", "levels", "way", "parts", "k"] ["bag", "room", "pool", "levels"] (defScope s__law_sieve) := ⟨rfl, rfl, rfl, by decide +kernel, rfl, by decide +kernel, by decide +kernel⟩

/-- so many draws at most for so many levels -/
def cst : Nat → Nat
  | 0 => 2000
  | n + 1 => 2000 + 12 * cst n
theorem cst_pos : ∀ n, 2000 ≤ cst n
  | 0 => Nat.le_refl _
  | n + 1 => by show 2000 ≤ 2000 + 12 * cst n; omega
theorem cst_le {m n : Nat} (h : m ≤ n) : cst m ≤ cst n := by
  induction h with
  | refl => exact Nat.le_refl _
  | step h ih => rename_i k; show cst m ≤ 2000 + 12 * cst k; omega
def spSieve (K : PySem.W.Frag) (lv : Nat) : Sp := fun vs H Q _ => ∃ (b r p : Addr) (n : Nat) (r0 r1 : Int) (ls : List (List Nat)) (j : Nat), vs = [.ref b, .ref r, .ref p, .int (j : Int)] ∧ j < lv ∧ Sto H b r p n r0 r1 ls ∧ n + cst j < 2 ^ 30 ∧
  ∀ v H' r0' r1' ls', Made K H' v (2 * j + 2) → Stp [b, r, p] H H' → Sto H' b r p (n + cst j) r0' r1' ls' → Q v H'
theorem sieve_step {f : Addr} {fd : FuncData} (D : Df K mg "_law_sieve" s__law_sieve ["bag", "room", "pool", "levels"] f fd) (T : Nm mg) (c__law_draw : Cl P w K mg base 1 "_law_draw" s__law_draw ["bag", "upto"] spDraw)
    (c__law_leaf : Cl P w K mg base 4 "_law_leaf" s__law_leaf ["bag", "room", "pool"] (spLeaf K)) {lv m : Nat} (hm : 4 ≤ m) (c__law_sieve : Cl P w K mg base m "_law_sieve" s__law_sieve ["bag", "room", "pool", "levels"] (spSieve K lv)) :
    Cl P w K mg base (m + 1) "_law_sieve" s__law_sieve ["bag", "room", "pool", "levels"] (spSieve K (lv + 1)) := by
  refine D.cl sc__law_sieve (fun vs H Q E h => ?_) (fun cdv A outer s H vs Q E hr h => ?_)
  · obtain ⟨b, r, p, n, r0, r1, ls, j, rfl, _⟩ := h
    rfl
  · obtain ⟨b, r, p, n, r0, r1, ls, j, rfl, hj, s0, hn, k⟩ := h
    refine ⟨_, (pss_cons (ps_asg (pe_op op_sub (pe_ix ix_list (pv 1) pe_int (fun _ _ => rfl)) pe_int) (pg_sub (pv 1) pe_int set_list))
      (pss_cons (ps_set (i := 4) sc__law_sieve.nd rfl (by first | exact Or.inl rfl | exact Or.inr rfl) (pe_cl c__law_draw hr (by omega) (pa_cons (pv 0) (pa_cons pe_int pa_nil))))
      (pss_cons (ps_if (PW.pt (pw_or (pt_cmpR op_lt (pv 3) pe_int (by first | exact nomark _ | rfl)) (pw_or (pt_cmpR op_lt (pe_ix ix_list (pv 1) pe_int (fun _ _ => rfl)) pe_int (by first | exact nomark _ | rfl)) (pw_or1 (pt_cmpR op_gt (pv 4) pe_int (by first | exact nomark _ | rfl)))))) (pss_one (ps_ret (pe_cl c__law_leaf hr (by omega) (pa_cons (pv 0) (pa_cons (pv 1) (pa_cons (pv 2) pa_nil)))))) pss_nil)
      (pss_cons (ps_if (pt_cmpR op_eq (pv 4) pe_int (by first | exact nomark _ | rfl)) (pss_one (ps_ret (pe_tup (pa_cons pe_str (pa_cons (pe_cl c__law_sieve hr (by omega) (pa_cons (pv 0) (pa_cons (pv 1) (pa_cons (pv 2) (pa_cons (pe_op op_sub (pv 3) pe_int) pa_nil))))) pa_nil))))) pss_nil)
      (pss_cons (ps_set (i := 5) sc__law_sieve.nd rfl (by first | exact Or.inl rfl | exact Or.inr rfl) (pe_lst pa_nil))
      (pss_cons (ps_for PassesOwn.never rfl (pi_range1 (by rfl) T.n_range (pa_cons (pe_cl c__law_draw hr (by omega) (pa_cons (pv 0) (pa_cons (pe_ifExp (pt_cmpR op_eq (pe_cl c__law_draw hr (by omega) (pa_cons (pv 0) (pa_cons pe_int pa_nil))) pe_int (by first | exact nomark _ | rfl)) pe_int pe_int) pa_nil))) pa_nil)) (pg_name (i := 6) sc__law_sieve.nd rfl (by first | exact Or.inl rfl | exact Or.inr rfl)) (pss_one (ps_if (pt_cmpR op_gt (pe_ix ix_list (pv 1) pe_int (fun _ _ => rfl)) pe_int (by first | exact nomark _ | rfl)) (pss_one (ps_expr (pe_bm PySem.F.plainAttrs_list PySem.F.slot_list_append PySem.F.type_list_append mt_append (pv 5) (pa_cons (pe_cl c__law_sieve hr (by omega) (pa_cons (pv 0) (pa_cons (pv 1) (pa_cons (pv 2) (pa_cons (pe_op op_sub (pv 3) pe_int) pa_nil))))) pa_nil)))) pss_nil)))
      (pss_one (ps_ret (pe_tup (pa_cons (pe_ix ix_list (pe_lst (pa_cons pe_str (pa_cons pe_str pa_nil))) (pe_op op_mod (pe_callTy call_int1 (by rfl) T.n_int (by decide +kernel) (pa_cons (pv 4) pa_nil)) pe_int) (fun _ _ => rfl)) (pa_cons (pe_callTy call_tuple_of (by rfl) T.n_tuple (by decide +kernel) (pa_cons (pv 5) pa_nil)) pa_nil))))))))))), ?_⟩
    have one : b ∈ [b] := List.mem_singleton.mpr rfl
    have cp := cst_pos j
    refine ⟨_, rfl, r, _, 0, .int r0, rfl, rfl, SqL.of s0.room, rfl, _, _, rfl, rfl, _, rfl, r, _, 0, 0, rfl, rfl, s0.room, rfl, ?_⟩
    have S1 : Stp [b, r, p] H (upd H r (.lst ([.int r0, .int r1].set 0 (.int (r0 - 1))))) := Stp.put (by simp)
    have s1 : Sto (upd H r (.lst ([.int r0, .int r1].set 0 (.int (r0 - 1))))) b r p n (r0 - 1) r1 ls :=
      ⟨s0.bag.upd s0.br, upd_same, ⟨by rw [upd_ne s0.rp.symm]; exact s0.pool.1, s0.pool.2⟩, s0.br, s0.bp, s0.rp, s0.pos, s0.few⟩
    refine ⟨_, rfl, b, 6, n, rfl, s1.bag, by omega, by decide, by decide, fun way H2 w0 w1 o2 B2 => ?_⟩
    have S2 := S1.trans ((o2.stp one).sub b_in)
    have s2 := s1.draw (o2.stp one) B2
    refine MonoT.cut (t := tOr _ _) (MonoT.or (MonoT.test (Mono.op' MonoR.i0 Mono.var Mono.c)) (MonoT.or (MonoT.test (Mono.op' MonoR.i0 (Mono.op' MonoR.ixL Mono.var Mono.c) Mono.c)) (MonoT.test (Mono.op' MonoR.i0 Mono.var Mono.c))))
      (fun c H' => H' = H2 ∧ (c = true ∨ (2 ≤ j ∧ way ≤ 3))) ?_ ?_
    · refine ⟨_, rfl, _, _, rfl, rfl, _, rfl, ite2 (fun h1 => ⟨rfl, .inl rfl⟩) (fun h1 => ?_)⟩
      refine ⟨_, rfl, r, _, 0, .int (r0 - 1), rfl, rfl, SqL.of s2.room, rfl, _, _, rfl, rfl, _, rfl, ite2 (fun h2 => ⟨rfl, .inl rfl⟩) (fun h2 => ?_)⟩
      refine ⟨_, rfl, _, _, rfl, rfl, _, rfl, rfl, ?_⟩
      by_cases h3 : 3 < way
      · exact .inl (decide_eq_true h3)
      · have : ¬ (j : Int) < 2 := fun e => h1 (decide_eq_true e)
        exact .inr ⟨by omega, by omega⟩
    rintro c H' ⟨rfl, hc⟩
    refine ite2 (fun ec => ?_) (fun ec => ?_)
    · refine ⟨_, rfl, _, rfl, _, rfl, b, r, p, n + 1, _, _, ls, rfl, s2, by omega, fun v H3 r1' ls' md S3 s3 => ?_⟩
      obtain ⟨d, rd, fd', dd⟩ := md
      exact k v H3 _ r1' ls' ⟨d, rd, fd', by omega⟩ (S2.trans S3) ⟨s3.bag.mono (by omega), s3.room, s3.pool, s0.br, s0.bp, s0.rp, s3.pos, s3.few⟩
    obtain ⟨j2, w3⟩ := hc.resolve_left ec
    obtain ⟨i, rfl⟩ : ∃ i, j = i + 1 := ⟨j - 1, by omega⟩
    have ec2 : cst (i + 1) = 2000 + 12 * cst i := rfl
    refine ⟨_, rfl, rfl, _, rfl, ite2 (fun h1 => ?_) (fun h1 => ?_)⟩
    · refine ⟨_, rfl, _, rfl, _, rfl, _, rfl, _, _, rfl, rfl, b, r, p, n + 1, _, _, ls, i, ?_, by omega, s2, by omega, fun v H3 r0' r1' ls' md S3 s3 => ?_⟩
      · have : ((i + 1 : Nat) : Int) - 1 = (i : Int) := by omega
        show [V.ref b, V.ref r, V.ref p, V.int (((i + 1 : Nat) : Int) - 1)] = _
        rw [this]
      · obtain ⟨d, rd, fd', dd⟩ := md
        refine ⟨(by show 2 ≤ sizeLine; decide), fun t nt => ?_⟩
        refine k _ _ r0' r1' ls' ⟨.tup [.str ("not" : Str).cps.toList, d], .tup (SqT.of upd_same) (by simp) (.cons (Rp.lit _) (.cons (rd.stp (Stp.new nt []) Lsts.nil) .nil)), .not fd', ?_⟩ ((S2.trans S3).new' nt) ?_
        · simp [Dt.dep, Dt.depL]
          omega
        · have s4 := s3.fresh (o := .tup [.str "not", v]) nt
          exact ⟨s4.bag.mono (by omega), s4.room, s4.pool, s0.br, s0.bp, s0.rp, s4.pos, s4.few⟩
    refine ⟨Nat.zero_le _, fun W nW => ?_⟩
    have hx := s2.lsts
    have wne : ∀ q, q ∈ [b, r, p] → W ≠ q := fun q mq e => by
      obtain ⟨xs, ex⟩ := hx q mq
      rw [← e, nW] at ex
      cases ex
    have wb : W ≠ b := wne b (by simp)
    have wr : W ≠ r := wne r (by simp)
    have wp : W ≠ p := wne p (by simp)
    have wS : W ∉ [b, r, p] := fun q => wne W q rfl
    have nW0 : H W = none := S2.fresh wS nW
    have s3 := s2.fresh (o := .lst []) nW
    refine ⟨_, rfl, _, rfl, b, 8, n + 1, rfl, s3.bag, by omega, by decide, by decide, fun d3 H4 d30 d31 o4 B4 => ?_⟩
    refine ⟨rfl, _, rfl, ite_tC fun wd hw => ?_⟩
    obtain ⟨u, rfl, u0, u1⟩ : ∃ u, wd = .int u ∧ 4 ≤ u ∧ u ≤ 12 := by
      rcases hw with rfl | rfl
      · exact ⟨12, rfl, by decide, by decide⟩
      · exact ⟨4, rfl, by decide, by decide⟩
    refine ⟨b, u, n + 2, rfl, B4, by omega, by omega, by omega, fun z H5 z0 z1 o5 B5 => ?_⟩
    have S3 : Stp [b, r, p] H (upd _ W (.lst [])) := S2.new' nW
    have S5 := (S3.trans ((o4.stp one).sub b_in)).trans ((o5.stp one).sub b_in)
    have s5 := (s3.draw (o4.stp one) B4).draw (o5.stp one) B5
    have hW5 : H5 W = some (.lst []) := o5.at (o4.at upd_same wb) wb
    refine ⟨z, rfl, by omega, by omega, for_range (lo := 0) (n := z.toNat) (fun q σ H6 => ∃ (xs : List V) (ds : List Dt) (r0' r1' : Int) (ls' : List (List Nat)) (x : Option V), xs.length ≤ q ∧ RpL K H6 xs ds ∧ (∀ d ∈ ds, Flt d ∧ d.dep ≤ 2 * i + 2) ∧
      σ = [some (.ref b), some (.ref r), some (.ref p), some (.int ((i + 1 : Nat) : Int)), some (.int way), some (.ref W), x] ∧ H6 W = some (.lst xs) ∧ Stp [b, r, p] H H6 ∧ Sto H6 b r p (n + 3 + cst i * q) r0' r1' ls')
      ⟨[], [], _, _, ls, none, Nat.le_refl _, .nil, fun d q => (nomatch q), rfl, hW5, S5, s5⟩ ?_ ?_⟩
    · rintro q σ H6 hq ⟨xs, ds, r0', r1', ls', x, hl, rl, hf, rfl, hW, S6, s6⟩
      have hq11 : cst i * q ≤ cst i * 10 := Nat.mul_le_mul_left _ (by omega)
      refine ⟨_, rfl, r, _, 0, .int r0', rfl, rfl, SqL.of s6.room, rfl, _, _, rfl, rfl, _, rfl, ite2 (fun h2 => ?_) (fun h2 => ?_)⟩
      · refine ⟨_, rfl, .inl ⟨rfl, _, SqL.of hW⟩, _, rfl, _, rfl, _, rfl, _, rfl, _, _, rfl, rfl, b, r, p, _, _, _, ls', i, ?_, by omega, s6, ?_, fun v H7 r0'' r1'' ls'' md S7 s7 => ?_⟩
        · have : ((i + 1 : Nat) : Int) - 1 = (i : Int) := by omega
          show [V.ref b, V.ref r, V.ref p, V.int (((i + 1 : Nat) : Int) - 1)] = _
          rw [this]
        · have : cst i * q + cst i ≤ cst i * 12 := by
            have : cst i * (q + 1) ≤ cst i * 12 := Nat.mul_le_mul_left _ (by omega)
            rwa [Nat.mul_add, Nat.mul_one] at this
          omega
        · obtain ⟨d, rd, fd', dd⟩ := md
          have hW7 : H7 W = some (.lst xs) := S7.kp _ _ wS hW
          have lW : Lsts H7 [W] := .one hW7
          have S8 : Stp [W] H7 (upd H7 W (.lst (xs ++ [v]))) := Stp.put (by simp)
          refine ⟨W, _, _, rfl, rfl, hW7, Nat.lt_of_lt_of_le (show xs.length < 100000 by omega) (by decide), ?_⟩
          refine ⟨xs ++ [v], ds ++ [d], r0'', r1'', ls'', _, by simp; omega, ?_, fun e me => ?_, rfl, upd_same, (S6.trans S7).mut nW0, ?_⟩
          · exact (rl.stp S7 s6.lsts |>.stp S8 lW).app (.cons (rd.stp S8 lW) .nil)
          · rcases List.mem_append.mp me with me | me
            · exact hf e me
            · rw [List.mem_singleton.mp me]
              exact ⟨fd', dd⟩
          · refine ⟨(s7.bag.upd wb.symm).mono ?_, by rw [upd_ne wr.symm]; exact s7.room, ⟨by rw [upd_ne wp.symm]; exact s7.pool.1, s7.pool.2⟩, s0.br, s0.bp, s0.rp, s7.pos, s7.few⟩
            rw [Nat.mul_add, Nat.mul_one]
            omega
      · refine ⟨xs, ds, r0', r1', ls', _, by omega, rl, hf, rfl, hW, S6, ⟨s6.bag.mono ?_, s6.room, s6.pool, s0.br, s0.bp, s0.rp, s6.pos, s6.few⟩⟩
        rw [Nat.mul_add]
        omega
    · rintro σ H6 ⟨xs, ds, r0', r1', ls', x, hl, rl, hf, rfl, hW, S6, s6⟩
      have bud : cst i * z.toNat ≤ cst i * 12 := Nat.mul_le_mul_left _ (by omega)
      refine ⟨(by show 2 ≤ sizeLine; decide), fun q nq => ?_⟩
      obtain ⟨v, mv, ev⟩ := pick (xs := ([.str "and", .str "or"] : List V)) (d := way % 2) (by omega) (by simp; omega)
      have S7 : Stp [] H6 (upd H6 q (.lst [.str "and", .str "or"])) := Stp.new nq _
      have hq : (upd H6 q (.lst [.str "and", .str "or"])) W = some (.lst xs) := S7.kp _ _ (fun m => nomatch m) hW
      refine ⟨_, rfl, .inl ⟨_, rfl, _, _, rfl, rfl, (by show (0 : Int) < 2; decide), q, _, way % 2, v, rfl, rfl, SqL.of upd_same, ev, ?_⟩⟩
      obtain ⟨wd, rfl, hwd⟩ : ∃ wd : Str, v = .str wd ∧ (wd = "and" ∨ wd = "or") := by
        simp at mv
        rcases mv with rfl | rfl
        · exact ⟨_, rfl, .inl rfl⟩
        · exact ⟨_, rfl, .inr rfl⟩
      have lw : wd.cps.toList.length ≤ 100000 := by
        rcases hwd with rfl | rfl <;> decide +kernel
      refine ⟨_, rfl, W, _, rfl, .inl ⟨SqL.of hq, fun t nt => ⟨(by show 2 ≤ sizeLine; decide), fun t2 nt2 => ?_⟩⟩⟩
      have ntt : t ≠ t2 := ne_of_none upd_same nt2
      have S8 := Stp.new (o := .tup xs) nt []
      have S9 := Stp.new (o := .tup [.str wd, .ref t]) nt2 []
      refine k _ _ r0' r1' ls' ⟨.tup [.str wd.cps.toList, .tup ds], .tup (SqT.of upd_same) (by simp) (.cons (Rp.lit wd lw) (.cons (.tup (SqT.of (Eq.trans (upd_ne ntt) upd_same)) (by omega) ?_) .nil)), .many hwd fun d md => (hf d md).1, ?_⟩ (((S6.new' nq).new' nt).new' nt2) ?_
      · exact (((rl.stp S7 Lsts.nil).stp S8 Lsts.nil).stp S9 Lsts.nil)
      · have : Dt.depL ds ≤ 2 * i + 2 := Dt.depL_le fun d md => (hf d md).2
        simp [Dt.dep, Dt.depL]
        omega
      · have s9 := ((s6.fresh (o := .lst [.str "and", .str "or"]) nq).fresh (o := .tup xs) nt).fresh (o := .tup [.str wd, .ref t]) nt2
        exact ⟨s9.bag.mono (by omega), s9.room, s9.pool, s0.br, s0.bp, s0.rp, s9.pos, s9.few⟩
theorem cl__law_sieve {f : Addr} {fd : FuncData} (D : Df K mg "_law_sieve" s__law_sieve ["bag", "room", "pool", "levels"] f fd) (T : Nm mg) (c__law_draw : Cl P w K mg base 1 "_law_draw" s__law_draw ["bag", "upto"] spDraw)
    (c__law_leaf : Cl P w K mg base 4 "_law_leaf" s__law_leaf ["bag", "room", "pool"] (spLeaf K)) : ∀ lv : Nat, Cl P w K mg base (4 + lv) "_law_sieve" s__law_sieve ["bag", "room", "pool", "levels"] (spSieve K lv)
  | 0 => cl_never D (fun vs H Q E ⟨b, r, p, n, r0, r1, ls, j, _, hj, _⟩ => Nat.not_lt_zero _ hj) _
  | lv + 1 => sieve_step D T c__law_draw c__law_leaf (Nat.le_add_right 4 lv) (cl__law_sieve D T c__law_draw c__law_leaf lv)
/-! ### what is no filter -/
theorem nf_of {d : Dt} (h : ∀ l rest, d ≠ .tup (.str l :: rest)) : ¬ Flt d := fun f => by
  obtain ⟨l, rest, e, _⟩ := flt_head f
  exact h l rest e
theorem nf_non : ¬ Flt .non := nf_of fun _ _ e => nomatch e
theorem nf_bl {b : Bool} : ¬ Flt (.bl b) := nf_of fun _ _ e => nomatch e
theorem nf_int {i : Int} : ¬ Flt (.int i) := nf_of fun _ _ e => nomatch e
theorem nf_str {l : List Nat} : ¬ Flt (.str l) := nf_of fun _ _ e => nomatch e
theorem nf_lst : ¬ Flt .lst := nf_of fun _ _ e => nomatch e
theorem nf_obj : ¬ Flt .obj := nf_of fun _ _ e => nomatch e
theorem nf_nil : ¬ Flt (.tup []) := nf_of fun _ _ e => nomatch e
theorem nf_hd {d : Dt} {rest : List Dt} (h : ∀ l, d ≠ .str l) : ¬ Flt (.tup (d :: rest)) := nf_of fun l r e => by
  injection e with e
  injection e with e1 _
  exact h l e1
theorem nf_3 {a b c : Dt} {rest : List Dt} : ¬ Flt (.tup (a :: b :: c :: rest)) := fun f => by
  obtain ⟨l, r, e, hl⟩ := flt_head f
  injection e with e
  injection e with _ e2
  subst e2
  simp at hl
theorem nf_1s {s : Str} (h : s ≠ "none") : ¬ Flt (.tup [.str s.cps.toList]) := fun f => by
  rw [flt_one, lit_tx] at f
  exact h f
theorem nf_2 {s : Str} {d : Dt} (h : ¬ CanF s d) : ¬ Flt (.tup [.str s.cps.toList, d]) := fun f => by
  rw [flt_two, lit_tx] at f
  exact h f
theorem ntx_cat {l m : List Nat} (h : ¬ ∀ c ∈ m, c = 97 ∨ c = 98 ∨ c = 99) : ¬ IsTx (.str (l ++ m)) := fun ⟨k, e, a⟩ => by
  injection e with e
  subst e
  exact h fun c q => a c (List.mem_append_right _ q)
theorem nall {p : Dt → Prop} {ds : List Dt} {x : Dt} (m : x ∈ ds) (h : ¬ p x) : ¬ ∃ es, Dt.tup ds = .tup es ∧ ∀ e ∈ es, p e := fun ⟨es, e, q⟩ => by
  injection e with e
  subst e
  exact h (q x m)
theorem nsieve {ds : List Dt} (f : Flt (.tup ds)) : ¬ ∃ es, Dt.tup ds = .tup es ∧ ∀ e ∈ es, Flt e := by
  obtain ⟨l, r, e, _⟩ := flt_head f
  injection e with e
  subst e
  exact nall (x := .str l) (by simp) nf_str
/-- none of them a filter, none deep -/
def Odds (n : Nat) (xs : List Dt) : Prop := ∀ d ∈ xs, ¬ Flt d ∧ d.dep ≤ n + 3
theorem Odds.nil {n : Nat} : Odds n [] := fun _ m => nomatch m
theorem Odds.cons {n : Nat} {d : Dt} {xs : List Dt} (h : ¬ Flt d) (g : d.dep ≤ n + 3) (t : Odds n xs) : Odds n (d :: xs) := fun e m => by
  rcases List.mem_cons.mp m with rfl | m
  · exact ⟨h, g⟩
  · exact t e m
theorem Odds.app {n : Nat} {xs ys : List Dt} (h : Odds n xs) (g : Odds n ys) : Odds n (xs ++ ys) := fun e m => (List.mem_append.mp m).elim (h e) (g e)
section
variable {l : List Nat} {ds : List Dt}
theorem odds_0 (hf : Flt (.tup ds)) : Odds (Dt.tup ds).dep [.non, .bl true, .bl false, .int 0, .int 1, .str ("" : Str).cps.toList, .str l, .str ("none" : Str).cps.toList, .tup [], .lst, .tup [.str ("is" : Str).cps.toList], .tup [.str ("Is" : Str).cps.toList, .str l], .tup [.str ("is" : Str).cps.toList, .str l, .str l]] :=
  .cons nf_non (by simp [Dt.dep, Dt.depL]; try omega) (.cons nf_bl (by simp [Dt.dep, Dt.depL]; try omega) (.cons nf_bl (by simp [Dt.dep, Dt.depL]; try omega) (.cons nf_int (by simp [Dt.dep, Dt.depL]; try omega) (.cons nf_int (by simp [Dt.dep, Dt.depL]; try omega) (.cons nf_str (by simp [Dt.dep, Dt.depL]; try omega) (.cons nf_str (by simp [Dt.dep, Dt.depL]; try omega) (.cons nf_str (by simp [Dt.dep, Dt.depL]; try omega) (.cons nf_nil (by simp [Dt.dep, Dt.depL]; try omega) (.cons nf_lst (by simp [Dt.dep, Dt.depL]; try omega) (.cons (nf_1s (by decide +kernel)) (by simp [Dt.dep, Dt.depL]; try omega) (.cons (nf_2 (can_other (by decide +kernel) (by decide +kernel) (by decide +kernel) (by decide +kernel) (by decide +kernel))) (by simp [Dt.dep, Dt.depL]; try omega) (.cons nf_3 (by simp [Dt.dep, Dt.depL]; try omega) (.nil)))))))))))))
theorem odds_1 (hf : Flt (.tup ds)) : Odds (Dt.tup ds).dep [.tup [.str ("is" : Str).cps.toList, .non], .tup [.str ("is" : Str).cps.toList, .tup [.str l]], .tup [.str ("is" : Str).cps.toList, .str (l ++ ("d" : Str).cps.toList)], .tup [.str ("begins" : Str).cps.toList, .lst], .tup [.str ("among" : Str).cps.toList, .lst]] :=
  .cons (nf_2 fun q => (fun ⟨_, e, _⟩ => nomatch e) ((can_is (by decide +kernel)).mp q)) (by simp [Dt.dep, Dt.depL]; try omega) (.cons (nf_2 fun q => (fun ⟨_, e, _⟩ => nomatch e) ((can_is (by decide +kernel)).mp q)) (by simp [Dt.dep, Dt.depL]; try omega) (.cons (nf_2 fun q => (ntx_cat (by decide +kernel)) ((can_is (by decide +kernel)).mp q)) (by simp [Dt.dep, Dt.depL]; try omega) (.cons (nf_2 fun q => (fun ⟨_, e, _⟩ => nomatch e) ((can_is (by decide +kernel)).mp q)) (by simp [Dt.dep, Dt.depL]; try omega) (.cons (nf_2 fun q => (fun ⟨_, e, _⟩ => nomatch e : ¬ ∃ ds, Dt.lst = Dt.tup ds ∧ _) (can_among.mp q)) (by simp [Dt.dep, Dt.depL]; try omega) (.nil)))))
theorem odds_2 (hf : Flt (.tup ds)) : Odds (Dt.tup ds).dep [.tup [.str ("among" : Str).cps.toList, .str l], .tup [.str ("among" : Str).cps.toList, .tup [.str l, .non]], .tup [.str ("none" : Str).cps.toList, .non], .tup [.str ("none" : Str).cps.toList, .tup []], .tup [.str ("say" : Str).cps.toList, .int 1], .tup [.str ("say" : Str).cps.toList, .int 0]] :=
  .cons (nf_2 fun q => (fun ⟨_, e, _⟩ => nomatch e : ¬ ∃ ds, Dt.str l = Dt.tup ds ∧ _) (can_among.mp q)) (by simp [Dt.dep, Dt.depL]; try omega) (.cons (nf_2 fun q => nall (p := IsTx) (x := .non) (by simp) (fun ⟨_, e, _⟩ => nomatch e) (can_among.mp q)) (by simp [Dt.dep, Dt.depL]; try omega) (.cons (nf_2 not_none) (by simp [Dt.dep, Dt.depL]; try omega) (.cons (nf_2 not_none) (by simp [Dt.dep, Dt.depL]; try omega) (.cons (nf_2 fun q => (fun ⟨_, e⟩ => nomatch e : ¬ ∃ b, Dt.int 1 = Dt.bl b) (can_say.mp q)) (by simp [Dt.dep, Dt.depL]; try omega) (.cons (nf_2 fun q => (fun ⟨_, e⟩ => nomatch e : ¬ ∃ b, Dt.int 0 = Dt.bl b) (can_say.mp q)) (by simp [Dt.dep, Dt.depL]; try omega) (.nil))))))
theorem odds_3 (hf : Flt (.tup ds)) : Odds (Dt.tup ds).dep [.tup [.str ("say" : Str).cps.toList, .str ("yes" : Str).cps.toList], .tup [.str ("say" : Str).cps.toList, .non], .tup [.str ("say" : Str).cps.toList], .tup [.str ("not" : Str).cps.toList], .tup [.str ("not" : Str).cps.toList, .tup []], .tup [.str ("not" : Str).cps.toList, .tup [.tup ds]], .tup [.str ("and" : Str).cps.toList, .tup ds]] :=
  .cons (nf_2 fun q => (fun ⟨_, e⟩ => nomatch e : ¬ ∃ b, Dt.str ("yes" : Str).cps.toList = Dt.bl b) (can_say.mp q)) (by simp [Dt.dep, Dt.depL]; try omega) (.cons (nf_2 fun q => (fun ⟨_, e⟩ => nomatch e : ¬ ∃ b, Dt.non = Dt.bl b) (can_say.mp q)) (by simp [Dt.dep, Dt.depL]; try omega) (.cons (nf_1s (by decide +kernel)) (by simp [Dt.dep, Dt.depL]; try omega) (.cons (nf_1s (by decide +kernel)) (by simp [Dt.dep, Dt.depL]; try omega) (.cons (nf_2 fun q => nf_nil (can_not.mp q)) (by simp [Dt.dep, Dt.depL]; try omega) (.cons (nf_2 fun q => (nf_hd (d := .tup ds) (fun _ e => nomatch e)) (can_not.mp q)) (by simp [Dt.dep, Dt.depL]; try omega) (.cons (nf_2 fun q => nsieve hf ((can_many (by decide +kernel)).mp q)) (by simp [Dt.dep, Dt.depL]; try omega) (.nil)))))))
theorem odds_4 (hf : Flt (.tup ds)) : Odds (Dt.tup ds).dep [.tup [.str ("or" : Str).cps.toList, .lst], .tup [.str ("and" : Str).cps.toList, .tup ds, .tup ds], .tup [.str ("or" : Str).cps.toList, .tup [.tup ds, .non]], .tup [.str ("or" : Str).cps.toList, .tup [.tup [], .tup ds]], .lst] :=
  .cons (nf_2 fun q => (fun ⟨_, e, _⟩ => nomatch e : ¬ ∃ ds, Dt.lst = Dt.tup ds ∧ _) ((can_many (by decide +kernel)).mp q)) (by simp [Dt.dep, Dt.depL]; try omega) (.cons nf_3 (by simp [Dt.dep, Dt.depL]; try omega) (.cons (nf_2 fun q => nall (p := Flt) (x := .non) (by simp) nf_non ((can_many (by decide +kernel)).mp q)) (by simp [Dt.dep, Dt.depL]; try omega) (.cons (nf_2 fun q => nall (p := Flt) (x := .tup []) (by simp) nf_nil ((can_many (by decide +kernel)).mp q)) (by simp [Dt.dep, Dt.depL]; try omega) (.cons nf_lst (by simp [Dt.dep, Dt.depL]; try omega) (.nil)))))
theorem odds_5 (hf : Flt (.tup ds)) : Odds (Dt.tup ds).dep [.lst, .tup [.str ("and" : Str).cps.toList], .tup [.str ("xor" : Str).cps.toList, .tup [.tup ds]], .tup [.str ("any" : Str).cps.toList, .tup []], .tup [.tup ds], .lst, .tup [.non], .tup [.int 0, .str l]] :=
  .cons nf_lst (by simp [Dt.dep, Dt.depL]; try omega) (.cons (nf_1s (by decide +kernel)) (by simp [Dt.dep, Dt.depL]; try omega) (.cons (nf_2 (can_other (by decide +kernel) (by decide +kernel) (by decide +kernel) (by decide +kernel) (by decide +kernel))) (by simp [Dt.dep, Dt.depL]; try omega) (.cons (nf_2 (can_other (by decide +kernel) (by decide +kernel) (by decide +kernel) (by decide +kernel) (by decide +kernel))) (by simp [Dt.dep, Dt.depL]; try omega) (.cons (nf_hd (d := .tup ds) (fun _ e => nomatch e)) (by simp [Dt.dep, Dt.depL]; try omega) (.cons nf_lst (by simp [Dt.dep, Dt.depL]; try omega) (.cons (nf_hd (d := .non) (fun _ e => nomatch e)) (by simp [Dt.dep, Dt.depL]; try omega) (.cons (nf_hd (d := .int 0) (fun _ e => nomatch e)) (by simp [Dt.dep, Dt.depL]; try omega) (.nil))))))))
theorem odds_6 (hf : Flt (.tup ds)) : Odds (Dt.tup ds).dep [.tup [.tup [.str ("none" : Str).cps.toList], .tup [.str ("none" : Str).cps.toList]], .tup [.bl true, .str l], .tup [.str ("below" : Str).cps.toList, .int 0], .tup [.str ("above" : Str).cps.toList, .bl true], .tup [.str ("" : Str).cps.toList, .str l], .int (10 ^ (30 : Int).toNat)] :=
  .cons (nf_hd (d := .tup [.str ("none" : Str).cps.toList]) (fun _ e => nomatch e)) (by simp [Dt.dep, Dt.depL]; try omega) (.cons (nf_hd (d := .bl true) (fun _ e => nomatch e)) (by simp [Dt.dep, Dt.depL]; try omega) (.cons (nf_2 fun q => (fun ⟨_, e, _⟩ => nomatch e) ((can_is (by decide +kernel)).mp q)) (by simp [Dt.dep, Dt.depL]; try omega) (.cons (nf_2 fun q => (fun ⟨_, e, _⟩ => nomatch e) ((can_is (by decide +kernel)).mp q)) (by simp [Dt.dep, Dt.depL]; try omega) (.cons (nf_2 (can_other (by decide +kernel) (by decide +kernel) (by decide +kernel) (by decide +kernel) (by decide +kernel))) (by simp [Dt.dep, Dt.depL]; try omega) (.cons nf_int (by simp [Dt.dep, Dt.depL]; try omega) (.nil))))))
theorem odds_7 (hf : Flt (.tup ds)) : Odds (Dt.tup ds).dep [.tup [.str ("not" : Str).cps.toList, .tup ds, .tup ds], .tup [.str ("among" : Str).cps.toList], .tup [.str ("among" : Str).cps.toList, .tup [.str l], .str l], .tup [.str ("above" : Str).cps.toList, .str (l ++ ("\n" : Str).cps.toList)], .tup [.str ("NONE" : Str).cps.toList]] :=
  .cons nf_3 (by simp [Dt.dep, Dt.depL]; try omega) (.cons (nf_1s (by decide +kernel)) (by simp [Dt.dep, Dt.depL]; try omega) (.cons nf_3 (by simp [Dt.dep, Dt.depL]; try omega) (.cons (nf_2 fun q => (ntx_cat (by decide +kernel)) ((can_is (by decide +kernel)).mp q)) (by simp [Dt.dep, Dt.depL]; try omega) (.cons (nf_1s (by decide +kernel)) (by simp [Dt.dep, Dt.depL]; try omega) (.nil)))))
theorem odds_8 (hf : Flt (.tup ds)) : Odds (Dt.tup ds).dep [.tup [.str ("among" : Str).cps.toList, .tup [.tup [.str l]]], .tup [.str ("and" : Str).cps.toList, .tup [.str l]], .tup [.str ("not" : Str).cps.toList, .str ("none" : Str).cps.toList], .tup [.str ("or" : Str).cps.toList, .str ("none" : Str).cps.toList], .obj] :=
  .cons (nf_2 fun q => nall (p := IsTx) (x := .tup [.str l]) (by simp) (fun ⟨_, e, _⟩ => nomatch e) (can_among.mp q)) (by simp [Dt.dep, Dt.depL]; try omega) (.cons (nf_2 fun q => nall (p := Flt) (x := .str l) (by simp) nf_str ((can_many (by decide +kernel)).mp q)) (by simp [Dt.dep, Dt.depL]; try omega) (.cons (nf_2 fun q => nf_str (can_not.mp q)) (by simp [Dt.dep, Dt.depL]; try omega) (.cons (nf_2 fun q => (fun ⟨_, e, _⟩ => nomatch e : ¬ ∃ ds, Dt.str ("none" : Str).cps.toList = Dt.tup ds ∧ _) ((can_many (by decide +kernel)).mp q)) (by simp [Dt.dep, Dt.depL]; try omega) (.cons nf_obj (by simp [Dt.dep, Dt.depL]; try omega) (.nil)))))
theorem odds_9 (hf : Flt (.tup ds)) : Odds (Dt.tup ds).dep [.tup [.lst, .str l], .tup [.lst, .str l], .tup [.lst, .str l], .tup [.lst, .tup ds], .tup [.str ("among" : Str).cps.toList, .tup [.str l, .str l, .non]]] :=
  .cons (nf_hd (d := .lst) (fun _ e => nomatch e)) (by simp [Dt.dep, Dt.depL]; try omega) (.cons (nf_hd (d := .lst) (fun _ e => nomatch e)) (by simp [Dt.dep, Dt.depL]; try omega) (.cons (nf_hd (d := .lst) (fun _ e => nomatch e)) (by simp [Dt.dep, Dt.depL]; try omega) (.cons (nf_hd (d := .lst) (fun _ e => nomatch e)) (by simp [Dt.dep, Dt.depL]; try omega) (.cons (nf_2 fun q => nall (p := IsTx) (x := .non) (by simp) (fun ⟨_, e, _⟩ => nomatch e) (can_among.mp q)) (by simp [Dt.dep, Dt.depL]; try omega) (.nil)))))
theorem odds_10 (hf : Flt (.tup ds)) : Odds (Dt.tup ds).dep [.tup [.str ("among" : Str).cps.toList, .tup [.non, .str l]], .tup [.str ("among" : Str).cps.toList, .tup [.str l, .str (l ++ ("d" : Str).cps.toList), .str l]], .tup [.str ("say" : Str).cps.toList, .bl true, .bl true]] :=
  .cons (nf_2 fun q => nall (p := IsTx) (x := .non) (by simp) (fun ⟨_, e, _⟩ => nomatch e) (can_among.mp q)) (by simp [Dt.dep, Dt.depL]; try omega) (.cons (nf_2 fun q => nall (p := IsTx) (x := .str (l ++ ("d" : Str).cps.toList)) (by simp) (ntx_cat (by decide +kernel)) (can_among.mp q)) (by simp [Dt.dep, Dt.depL]; try omega) (.cons nf_3 (by simp [Dt.dep, Dt.depL]; try omega) (.nil)))
end
abbrev s__law_odd_sieve : Stmt := topS 17
abbrev N__law_odd_sieve : List Str := ["bag", "sieve", "word", "odd"]
theorem sc__law_odd_sieve : FnScope ["bag", "sieve", "word", "odd"] ["bag", "sieve", "word"] (defScope s__law_odd_sieve) := ⟨rfl, rfl, rfl, by decide +kernel, rfl, by decide +kernel, by decide +kernel⟩

theorem catsz {l : List Nat} {k : Nat} (h : l.length ≤ 12) (g : k ≤ 1000) : l.length + k ≤ 100000 := by omega
/-- the class InvalidFilter -/
structure Nx (K : PySem.W.Frag) (mg : Str → Option Value) (C : Addr) : Prop where
  x_InvalidFilter : PySem.W.excIn K C [.type "ValueError", .type "Exception", .type "BaseException", .type "object"] "ValueError.__new__" = true
  g_InvalidFilter : mg "InvalidFilter" = some (.ref C)
  k_InvalidFilter : PySem.W.keepIn K (.ref C) = true
def spOdd (K : PySem.W.Frag) : Sp := fun vs H Q _ => ∃ (b : Addr) (n : Nat) (v : V) (l : List Nat) (d : Dt), vs = [.ref b, v, Tx l] ∧ Bag H b n ∧ n + 100 < 2 ^ 30 ∧ Rp K H v d ∧ Flt d ∧ Abc l ∧ l.length ≤ 12 ∧
  ∀ v' H' d', Rp K H' v' d' → ¬ Flt d' → d'.dep ≤ d.dep + 3 → Stp [b] H H' → Bag H' b (n + 1) → Q v' H'
theorem cl__law_odd_sieve {f C : Addr} {fd : FuncData} (D : Df K mg "_law_odd_sieve" s__law_odd_sieve ["bag", "sieve", "word"] f fd) (T : Nm mg) (TX : Nx K mg C) (c__law_draw : Cl P w K mg base 1 "_law_draw" s__law_draw ["bag", "upto"] spDraw) :
    Cl P w K mg base 2 "_law_odd_sieve" s__law_odd_sieve ["bag", "sieve", "word"] (spOdd K) := by
  refine D.cl sc__law_odd_sieve (fun vs H Q E h => ?_) (fun cdv A outer s H vs Q E hr h => ?_)
  · obtain ⟨b, n, v, l, d, rfl, _⟩ := h
    rfl
  · obtain ⟨b, n, v, l, d, rfl, B, hn, r, hf, ha, hl, k⟩ := h
    refine ⟨_, (pss_cons (ps_set (i := 3) sc__law_odd_sieve.nd rfl (by first | exact Or.inl rfl | exact Or.inr rfl) (pe_lst (pa_cons pe_non (pa_cons pe_bl (pa_cons pe_bl (pa_cons pe_int (pa_cons pe_int (pa_cons pe_str (pa_cons (pv 2) (pa_cons pe_str (pa_cons (pe_tup pa_nil) (pa_cons (pe_lst pa_nil) (pa_cons (pe_tup (pa_cons pe_str pa_nil)) (pa_cons (pe_tup (pa_cons pe_str (pa_cons (pv 2) pa_nil))) (pa_cons (pe_tup (pa_cons pe_str (pa_cons (pv 2) (pa_cons (pv 2) pa_nil)))) pa_nil)))))))))))))))
      (pss_cons (ps_set (i := 3) sc__law_odd_sieve.nd rfl (by first | exact Or.inl rfl | exact Or.inr rfl) (pe_op op_cat (pv 3) (pe_lst (pa_cons (pe_tup (pa_cons pe_str (pa_cons pe_non pa_nil))) (pa_cons (pe_tup (pa_cons pe_str (pa_cons (pe_tup (pa_cons (pv 2) pa_nil)) pa_nil))) (pa_cons (pe_tup (pa_cons pe_str (pa_cons (pe_op op_add_str (pv 2) pe_str) pa_nil))) (pa_cons (pe_tup (pa_cons pe_str (pa_cons (pe_lst (pa_cons pe_str pa_nil)) pa_nil))) (pa_cons (pe_tup (pa_cons pe_str (pa_cons (pe_lst (pa_cons (pv 2) pa_nil)) pa_nil))) pa_nil))))))))
      (pss_cons (ps_set (i := 3) sc__law_odd_sieve.nd rfl (by first | exact Or.inl rfl | exact Or.inr rfl) (pe_op op_cat (pv 3) (pe_lst (pa_cons (pe_tup (pa_cons pe_str (pa_cons (pv 2) pa_nil))) (pa_cons (pe_tup (pa_cons pe_str (pa_cons (pe_tup (pa_cons (pv 2) (pa_cons pe_non pa_nil))) pa_nil))) (pa_cons (pe_tup (pa_cons pe_str (pa_cons pe_non pa_nil))) (pa_cons (pe_tup (pa_cons pe_str (pa_cons (pe_tup pa_nil) pa_nil))) (pa_cons (pe_tup (pa_cons pe_str (pa_cons pe_int pa_nil))) (pa_cons (pe_tup (pa_cons pe_str (pa_cons pe_int pa_nil))) pa_nil)))))))))
      (pss_cons (ps_set (i := 3) sc__law_odd_sieve.nd rfl (by first | exact Or.inl rfl | exact Or.inr rfl) (pe_op op_cat (pv 3) (pe_lst (pa_cons (pe_tup (pa_cons pe_str (pa_cons pe_str pa_nil))) (pa_cons (pe_tup (pa_cons pe_str (pa_cons pe_non pa_nil))) (pa_cons (pe_tup (pa_cons pe_str pa_nil)) (pa_cons (pe_tup (pa_cons pe_str pa_nil)) (pa_cons (pe_tup (pa_cons pe_str (pa_cons (pe_tup pa_nil) pa_nil))) (pa_cons (pe_tup (pa_cons pe_str (pa_cons (pe_tup (pa_cons (pv 1) pa_nil)) pa_nil))) (pa_cons (pe_tup (pa_cons pe_str (pa_cons (pv 1) pa_nil))) pa_nil))))))))))
      (pss_cons (ps_set (i := 3) sc__law_odd_sieve.nd rfl (by first | exact Or.inl rfl | exact Or.inr rfl) (pe_op op_cat (pv 3) (pe_lst (pa_cons (pe_tup (pa_cons pe_str (pa_cons (pe_lst (pa_cons (pv 1) pa_nil)) pa_nil))) (pa_cons (pe_tup (pa_cons pe_str (pa_cons (pv 1) (pa_cons (pv 1) pa_nil)))) (pa_cons (pe_tup (pa_cons pe_str (pa_cons (pe_tup (pa_cons (pv 1) (pa_cons pe_non pa_nil))) pa_nil))) (pa_cons (pe_tup (pa_cons pe_str (pa_cons (pe_tup (pa_cons (pe_tup pa_nil) (pa_cons (pv 1) pa_nil))) pa_nil))) (pa_cons (pe_lst (pa_cons pe_str pa_nil)) pa_nil))))))))
      (pss_cons (ps_set (i := 3) sc__law_odd_sieve.nd rfl (by first | exact Or.inl rfl | exact Or.inr rfl) (pe_op op_cat (pv 3) (pe_lst (pa_cons (pe_callTy call_list_of (by rfl) T.n_list (by decide +kernel) (pa_cons (pv 1) pa_nil)) (pa_cons (pe_tup (pa_cons pe_str pa_nil)) (pa_cons (pe_tup (pa_cons pe_str (pa_cons (pe_tup (pa_cons (pv 1) pa_nil)) pa_nil))) (pa_cons (pe_tup (pa_cons pe_str (pa_cons (pe_tup pa_nil) pa_nil))) (pa_cons (pe_tup (pa_cons (pv 1) pa_nil)) (pa_cons (pe_lst (pa_cons (pv 1) pa_nil)) (pa_cons (pe_tup (pa_cons pe_non pa_nil)) (pa_cons (pe_tup (pa_cons pe_int (pa_cons (pv 2) pa_nil))) pa_nil)))))))))))
      (pss_cons (ps_set (i := 3) sc__law_odd_sieve.nd rfl (by first | exact Or.inl rfl | exact Or.inr rfl) (pe_op op_cat (pv 3) (pe_lst (pa_cons (pe_tup (pa_cons (pe_tup (pa_cons pe_str pa_nil)) (pa_cons (pe_tup (pa_cons pe_str pa_nil)) pa_nil))) (pa_cons (pe_tup (pa_cons pe_bl (pa_cons (pv 2) pa_nil))) (pa_cons (pe_tup (pa_cons pe_str (pa_cons pe_int pa_nil))) (pa_cons (pe_tup (pa_cons pe_str (pa_cons pe_bl pa_nil))) (pa_cons (pe_tup (pa_cons pe_str (pa_cons (pv 2) pa_nil))) (pa_cons (pe_op op_pow pe_int pe_int) pa_nil)))))))))
      (pss_cons (ps_set (i := 3) sc__law_odd_sieve.nd rfl (by first | exact Or.inl rfl | exact Or.inr rfl) (pe_op op_cat (pv 3) (pe_lst (pa_cons (pe_tup (pa_cons pe_str (pa_cons (pv 1) (pa_cons (pv 1) pa_nil)))) (pa_cons (pe_tup (pa_cons pe_str pa_nil)) (pa_cons (pe_tup (pa_cons pe_str (pa_cons (pe_tup (pa_cons (pv 2) pa_nil)) (pa_cons (pv 2) pa_nil)))) (pa_cons (pe_tup (pa_cons pe_str (pa_cons (pe_op op_add_str (pv 2) pe_str) pa_nil))) (pa_cons (pe_tup (pa_cons pe_str pa_nil)) pa_nil))))))))
      (pss_cons (ps_set (i := 3) sc__law_odd_sieve.nd rfl (by first | exact Or.inl rfl | exact Or.inr rfl) (pe_op op_cat (pv 3) (pe_lst (pa_cons (pe_tup (pa_cons pe_str (pa_cons (pe_tup (pa_cons (pe_tup (pa_cons (pv 2) pa_nil)) pa_nil)) pa_nil))) (pa_cons (pe_tup (pa_cons pe_str (pa_cons (pe_tup (pa_cons (pv 2) pa_nil)) pa_nil))) (pa_cons (pe_tup (pa_cons pe_str (pa_cons pe_str pa_nil))) (pa_cons (pe_tup (pa_cons pe_str (pa_cons pe_str pa_nil))) (pa_cons (pe_exc1 PySem.F.excBase_ValueError TX.x_InvalidFilter TX.g_InvalidFilter TX.k_InvalidFilter rfl (pv 2)) pa_nil))))))))
      (pss_cons (ps_set (i := 3) sc__law_odd_sieve.nd rfl (by first | exact Or.inl rfl | exact Or.inr rfl) (pe_op op_cat (pv 3) (pe_lst (pa_cons (pe_tup (pa_cons (pe_lst (pa_cons (pv 2) pa_nil)) (pa_cons (pv 2) pa_nil))) (pa_cons (pe_tup (pa_cons (pe_lst pa_nil) (pa_cons (pv 2) pa_nil))) (pa_cons (pe_tup (pa_cons (pe_lst (pa_cons pe_str pa_nil)) (pa_cons (pv 2) pa_nil))) (pa_cons (pe_tup (pa_cons (pe_lst (pa_cons pe_str pa_nil)) (pa_cons (pv 1) pa_nil))) (pa_cons (pe_tup (pa_cons pe_str (pa_cons (pe_tup (pa_cons (pv 2) (pa_cons (pv 2) (pa_cons pe_non pa_nil)))) pa_nil))) pa_nil))))))))
      (pss_cons (ps_set (i := 3) sc__law_odd_sieve.nd rfl (by first | exact Or.inl rfl | exact Or.inr rfl) (pe_op op_cat (pv 3) (pe_lst (pa_cons (pe_tup (pa_cons pe_str (pa_cons (pe_tup (pa_cons pe_non (pa_cons (pv 2) pa_nil))) pa_nil))) (pa_cons (pe_tup (pa_cons pe_str (pa_cons (pe_tup (pa_cons (pv 2) (pa_cons (pe_op op_add_str (pv 2) pe_str) (pa_cons (pv 2) pa_nil)))) pa_nil))) (pa_cons (pe_tup (pa_cons pe_str (pa_cons pe_bl (pa_cons pe_bl pa_nil)))) pa_nil))))))
      (pss_one (ps_ret (pe_ix ix_list (pv 3) (pe_cl c__law_draw hr (by omega) (pa_cons (pv 0) (pa_cons (pe_callB call_len_seq (by rfl) T.n_len (by decide +kernel) (pa_cons (pv 3) pa_nil)) pa_nil))) (fun _ _ => rfl))))))))))))))), ?_⟩
    have rw0 : Rp K H (Tx l) (.str l) := .str l (Nat.le_trans hl (by decide))
    obtain ⟨ds, rfl⟩ : ∃ ds, d = .tup ds := by
      obtain ⟨x, y, e, _⟩ := flt_head hf
      exact ⟨_, e⟩
    refine asg_name ?_
    refine' EvDA.newl (K := K) ?e0 ?l0 ?k0
    case e0 => (repeat' first | exact EvDA.nil | apply EvDA.cons | exact EvD.bl | exact EvD.int | exact EvD.non | exact EvD.str | exact EvD.var rw0 | exact EvD.var r | apply EvD.tup | apply EvD.lst | apply EvD.list | apply EvD.exc | exact EvD.pow ⟨by decide, by decide, by decide⟩ | apply EvD.neg | apply EvD.cat | exact catsz hl (by decide +kernel) | (simp; done))
    case l0 => simp
    case k0 =>
    intro L0 vs0 H0 S0 n0 h0 r0
    have E0 := S0
    have r1_ := r.stp E0 Lsts.nil
    have w1_ : Rp K H0 (Tx l) (.str l) := rw0.stp E0 Lsts.nil
    refine asg_name ?_
    refine op_var rfl ?_
    refine' EvDA.newl (K := K) ?e1 ?l1 ?k1
    case e1 => (repeat' first | exact EvDA.nil | apply EvDA.cons | exact EvD.bl | exact EvD.int | exact EvD.non | exact EvD.str | exact EvD.var w1_ | exact EvD.var r1_ | apply EvD.tup | apply EvD.lst | apply EvD.list | apply EvD.exc | exact EvD.pow ⟨by decide, by decide, by decide⟩ | apply EvD.neg | apply EvD.cat | exact catsz hl (by decide +kernel) | (simp; done))
    case l1 => simp
    case k1 =>
    intro M1 ws1 G1 T1 m1 g1 q1
    refine ⟨_, _, _, _, rfl, rfl, T1.kp _ _ (fun m => nomatch m) h0, g1, ?z1, fun L1 n1 => ?_⟩
    case z1 => rw [r0.len, q1.len]; exact sz (by simp)
    have nb1 : b ≠ L1 := (B.kp (E0.trans T1) (fun m => nomatch m)).ne n1
    have r1 := ((r0.stp T1 Lsts.nil).app q1).stp (Stp.new (o := .lst (vs0 ++ ws1)) n1 []) Lsts.nil
    have E1 := (E0.trans T1).new' (o := .lst (vs0 ++ ws1)) n1
    have h1 : (upd G1 L1 (.lst (vs0 ++ ws1))) L1 = some (.lst (vs0 ++ ws1)) := upd_same
    generalize vs0 ++ ws1 = vs1 at *
    generalize upd G1 L1 (.lst vs1) = H1 at *
    have r2_ := r.stp E1 Lsts.nil
    have w2_ : Rp K H1 (Tx l) (.str l) := rw0.stp E1 Lsts.nil
    refine asg_name ?_
    refine op_var rfl ?_
    refine' EvDA.newl (K := K) ?e2 ?l2 ?k2
    case e2 => (repeat' first | exact EvDA.nil | apply EvDA.cons | exact EvD.bl | exact EvD.int | exact EvD.non | exact EvD.str | exact EvD.var w2_ | exact EvD.var r2_ | apply EvD.tup | apply EvD.lst | apply EvD.list | apply EvD.exc | exact EvD.pow ⟨by decide, by decide, by decide⟩ | apply EvD.neg | apply EvD.cat | exact catsz hl (by decide +kernel) | (simp; done))
    case l2 => simp
    case k2 =>
    intro M2 ws2 G2 T2 m2 g2 q2
    refine ⟨_, _, _, _, rfl, rfl, T2.kp _ _ (fun m => nomatch m) h1, g2, ?z2, fun L2 n2 => ?_⟩
    case z2 => rw [r1.len, q2.len]; exact sz (by simp)
    have nb2 : b ≠ L2 := (B.kp (E1.trans T2) (fun m => nomatch m)).ne n2
    have r2 := ((r1.stp T2 Lsts.nil).app q2).stp (Stp.new (o := .lst (vs1 ++ ws2)) n2 []) Lsts.nil
    have E2 := (E1.trans T2).new' (o := .lst (vs1 ++ ws2)) n2
    have h2 : (upd G2 L2 (.lst (vs1 ++ ws2))) L2 = some (.lst (vs1 ++ ws2)) := upd_same
    generalize vs1 ++ ws2 = vs2 at *
    generalize upd G2 L2 (.lst vs2) = H2 at *
    have r3_ := r.stp E2 Lsts.nil
    have w3_ : Rp K H2 (Tx l) (.str l) := rw0.stp E2 Lsts.nil
    refine asg_name ?_
    refine op_var rfl ?_
    refine' EvDA.newl (K := K) ?e3 ?l3 ?k3
    case e3 => (repeat' first | exact EvDA.nil | apply EvDA.cons | exact EvD.bl | exact EvD.int | exact EvD.non | exact EvD.str | exact EvD.var w3_ | exact EvD.var r3_ | apply EvD.tup | apply EvD.lst | apply EvD.list | apply EvD.exc | exact EvD.pow ⟨by decide, by decide, by decide⟩ | apply EvD.neg | apply EvD.cat | exact catsz hl (by decide +kernel) | (simp; done))
    case l3 => simp
    case k3 =>
    intro M3 ws3 G3 T3 m3 g3 q3
    refine ⟨_, _, _, _, rfl, rfl, T3.kp _ _ (fun m => nomatch m) h2, g3, ?z3, fun L3 n3 => ?_⟩
    case z3 => rw [r2.len, q3.len]; exact sz (by simp)
    have nb3 : b ≠ L3 := (B.kp (E2.trans T3) (fun m => nomatch m)).ne n3
    have r3 := ((r2.stp T3 Lsts.nil).app q3).stp (Stp.new (o := .lst (vs2 ++ ws3)) n3 []) Lsts.nil
    have E3 := (E2.trans T3).new' (o := .lst (vs2 ++ ws3)) n3
    have h3 : (upd G3 L3 (.lst (vs2 ++ ws3))) L3 = some (.lst (vs2 ++ ws3)) := upd_same
    generalize vs2 ++ ws3 = vs3 at *
    generalize upd G3 L3 (.lst vs3) = H3 at *
    have r4_ := r.stp E3 Lsts.nil
    have w4_ : Rp K H3 (Tx l) (.str l) := rw0.stp E3 Lsts.nil
    refine asg_name ?_
    refine op_var rfl ?_
    refine' EvDA.newl (K := K) ?e4 ?l4 ?k4
    case e4 => (repeat' first | exact EvDA.nil | apply EvDA.cons | exact EvD.bl | exact EvD.int | exact EvD.non | exact EvD.str | exact EvD.var w4_ | exact EvD.var r4_ | apply EvD.tup | apply EvD.lst | apply EvD.list | apply EvD.exc | exact EvD.pow ⟨by decide, by decide, by decide⟩ | apply EvD.neg | apply EvD.cat | exact catsz hl (by decide +kernel) | (simp; done))
    case l4 => simp
    case k4 =>
    intro M4 ws4 G4 T4 m4 g4 q4
    refine ⟨_, _, _, _, rfl, rfl, T4.kp _ _ (fun m => nomatch m) h3, g4, ?z4, fun L4 n4 => ?_⟩
    case z4 => rw [r3.len, q4.len]; exact sz (by simp)
    have nb4 : b ≠ L4 := (B.kp (E3.trans T4) (fun m => nomatch m)).ne n4
    have r4 := ((r3.stp T4 Lsts.nil).app q4).stp (Stp.new (o := .lst (vs3 ++ ws4)) n4 []) Lsts.nil
    have E4 := (E3.trans T4).new' (o := .lst (vs3 ++ ws4)) n4
    have h4 : (upd G4 L4 (.lst (vs3 ++ ws4))) L4 = some (.lst (vs3 ++ ws4)) := upd_same
    generalize vs3 ++ ws4 = vs4 at *
    generalize upd G4 L4 (.lst vs4) = H4 at *
    have r5_ := r.stp E4 Lsts.nil
    have w5_ : Rp K H4 (Tx l) (.str l) := rw0.stp E4 Lsts.nil
    refine asg_name ?_
    refine op_var rfl ?_
    refine' EvDA.newl (K := K) ?e5 ?l5 ?k5
    case e5 => (repeat' first | exact EvDA.nil | apply EvDA.cons | exact EvD.bl | exact EvD.int | exact EvD.non | exact EvD.str | exact EvD.var w5_ | exact EvD.var r5_ | apply EvD.tup | apply EvD.lst | apply EvD.list | apply EvD.exc | exact EvD.pow ⟨by decide, by decide, by decide⟩ | apply EvD.neg | apply EvD.cat | exact catsz hl (by decide +kernel) | (simp; done))
    case l5 => simp
    case k5 =>
    intro M5 ws5 G5 T5 m5 g5 q5
    refine ⟨_, _, _, _, rfl, rfl, T5.kp _ _ (fun m => nomatch m) h4, g5, ?z5, fun L5 n5 => ?_⟩
    case z5 => rw [r4.len, q5.len]; exact sz (by simp)
    have nb5 : b ≠ L5 := (B.kp (E4.trans T5) (fun m => nomatch m)).ne n5
    have r5 := ((r4.stp T5 Lsts.nil).app q5).stp (Stp.new (o := .lst (vs4 ++ ws5)) n5 []) Lsts.nil
    have E5 := (E4.trans T5).new' (o := .lst (vs4 ++ ws5)) n5
    have h5 : (upd G5 L5 (.lst (vs4 ++ ws5))) L5 = some (.lst (vs4 ++ ws5)) := upd_same
    generalize vs4 ++ ws5 = vs5 at *
    generalize upd G5 L5 (.lst vs5) = H5 at *
    have r6_ := r.stp E5 Lsts.nil
    have w6_ : Rp K H5 (Tx l) (.str l) := rw0.stp E5 Lsts.nil
    refine asg_name ?_
    refine op_var rfl ?_
    refine' EvDA.newl (K := K) ?e6 ?l6 ?k6
    case e6 => (repeat' first | exact EvDA.nil | apply EvDA.cons | exact EvD.bl | exact EvD.int | exact EvD.non | exact EvD.str | exact EvD.var w6_ | exact EvD.var r6_ | apply EvD.tup | apply EvD.lst | apply EvD.list | apply EvD.exc | exact EvD.pow ⟨by decide, by decide, by decide⟩ | apply EvD.neg | apply EvD.cat | exact catsz hl (by decide +kernel) | (simp; done))
    case l6 => simp
    case k6 =>
    intro M6 ws6 G6 T6 m6 g6 q6
    refine ⟨_, _, _, _, rfl, rfl, T6.kp _ _ (fun m => nomatch m) h5, g6, ?z6, fun L6 n6 => ?_⟩
    case z6 => rw [r5.len, q6.len]; exact sz (by simp)
    have nb6 : b ≠ L6 := (B.kp (E5.trans T6) (fun m => nomatch m)).ne n6
    have r6 := ((r5.stp T6 Lsts.nil).app q6).stp (Stp.new (o := .lst (vs5 ++ ws6)) n6 []) Lsts.nil
    have E6 := (E5.trans T6).new' (o := .lst (vs5 ++ ws6)) n6
    have h6 : (upd G6 L6 (.lst (vs5 ++ ws6))) L6 = some (.lst (vs5 ++ ws6)) := upd_same
    generalize vs5 ++ ws6 = vs6 at *
    generalize upd G6 L6 (.lst vs6) = H6 at *
    have r7_ := r.stp E6 Lsts.nil
    have w7_ : Rp K H6 (Tx l) (.str l) := rw0.stp E6 Lsts.nil
    refine asg_name ?_
    refine op_var rfl ?_
    refine' EvDA.newl (K := K) ?e7 ?l7 ?k7
    case e7 => (repeat' first | exact EvDA.nil | apply EvDA.cons | exact EvD.bl | exact EvD.int | exact EvD.non | exact EvD.str | exact EvD.var w7_ | exact EvD.var r7_ | apply EvD.tup | apply EvD.lst | apply EvD.list | apply EvD.exc | exact EvD.pow ⟨by decide, by decide, by decide⟩ | apply EvD.neg | apply EvD.cat | exact catsz hl (by decide +kernel) | (simp; done))
    case l7 => simp
    case k7 =>
    intro M7 ws7 G7 T7 m7 g7 q7
    refine ⟨_, _, _, _, rfl, rfl, T7.kp _ _ (fun m => nomatch m) h6, g7, ?z7, fun L7 n7 => ?_⟩
    case z7 => rw [r6.len, q7.len]; exact sz (by simp)
    have nb7 : b ≠ L7 := (B.kp (E6.trans T7) (fun m => nomatch m)).ne n7
    have r7 := ((r6.stp T7 Lsts.nil).app q7).stp (Stp.new (o := .lst (vs6 ++ ws7)) n7 []) Lsts.nil
    have E7 := (E6.trans T7).new' (o := .lst (vs6 ++ ws7)) n7
    have h7 : (upd G7 L7 (.lst (vs6 ++ ws7))) L7 = some (.lst (vs6 ++ ws7)) := upd_same
    generalize vs6 ++ ws7 = vs7 at *
    generalize upd G7 L7 (.lst vs7) = H7 at *
    have r8_ := r.stp E7 Lsts.nil
    have w8_ : Rp K H7 (Tx l) (.str l) := rw0.stp E7 Lsts.nil
    refine asg_name ?_
    refine op_var rfl ?_
    refine' EvDA.newl (K := K) ?e8 ?l8 ?k8
    case e8 => (repeat' first | exact EvDA.nil | apply EvDA.cons | exact EvD.bl | exact EvD.int | exact EvD.non | exact EvD.str | exact EvD.var w8_ | exact EvD.var r8_ | apply EvD.tup | apply EvD.lst | apply EvD.list | apply EvD.exc | exact EvD.pow ⟨by decide, by decide, by decide⟩ | apply EvD.neg | apply EvD.cat | exact catsz hl (by decide +kernel) | (simp; done))
    case l8 => simp
    case k8 =>
    intro M8 ws8 G8 T8 m8 g8 q8
    refine ⟨_, _, _, _, rfl, rfl, T8.kp _ _ (fun m => nomatch m) h7, g8, ?z8, fun L8 n8 => ?_⟩
    case z8 => rw [r7.len, q8.len]; exact sz (by simp)
    have nb8 : b ≠ L8 := (B.kp (E7.trans T8) (fun m => nomatch m)).ne n8
    have r8 := ((r7.stp T8 Lsts.nil).app q8).stp (Stp.new (o := .lst (vs7 ++ ws8)) n8 []) Lsts.nil
    have E8 := (E7.trans T8).new' (o := .lst (vs7 ++ ws8)) n8
    have h8 : (upd G8 L8 (.lst (vs7 ++ ws8))) L8 = some (.lst (vs7 ++ ws8)) := upd_same
    generalize vs7 ++ ws8 = vs8 at *
    generalize upd G8 L8 (.lst vs8) = H8 at *
    have r9_ := r.stp E8 Lsts.nil
    have w9_ : Rp K H8 (Tx l) (.str l) := rw0.stp E8 Lsts.nil
    refine asg_name ?_
    refine op_var rfl ?_
    refine' EvDA.newl (K := K) ?e9 ?l9 ?k9
    case e9 => (repeat' first | exact EvDA.nil | apply EvDA.cons | exact EvD.bl | exact EvD.int | exact EvD.non | exact EvD.str | exact EvD.var w9_ | exact EvD.var r9_ | apply EvD.tup | apply EvD.lst | apply EvD.list | apply EvD.exc | exact EvD.pow ⟨by decide, by decide, by decide⟩ | apply EvD.neg | apply EvD.cat | exact catsz hl (by decide +kernel) | (simp; done))
    case l9 => simp
    case k9 =>
    intro M9 ws9 G9 T9 m9 g9 q9
    refine ⟨_, _, _, _, rfl, rfl, T9.kp _ _ (fun m => nomatch m) h8, g9, ?z9, fun L9 n9 => ?_⟩
    case z9 => rw [r8.len, q9.len]; exact sz (by simp)
    have nb9 : b ≠ L9 := (B.kp (E8.trans T9) (fun m => nomatch m)).ne n9
    have r9 := ((r8.stp T9 Lsts.nil).app q9).stp (Stp.new (o := .lst (vs8 ++ ws9)) n9 []) Lsts.nil
    have E9 := (E8.trans T9).new' (o := .lst (vs8 ++ ws9)) n9
    have h9 : (upd G9 L9 (.lst (vs8 ++ ws9))) L9 = some (.lst (vs8 ++ ws9)) := upd_same
    generalize vs8 ++ ws9 = vs9 at *
    generalize upd G9 L9 (.lst vs9) = H9 at *
    have r10_ := r.stp E9 Lsts.nil
    have w10_ : Rp K H9 (Tx l) (.str l) := rw0.stp E9 Lsts.nil
    refine asg_name ?_
    refine op_var rfl ?_
    refine' EvDA.newl (K := K) ?e10 ?l10 ?k10
    case e10 => (repeat' first | exact EvDA.nil | apply EvDA.cons | exact EvD.bl | exact EvD.int | exact EvD.non | exact EvD.str | exact EvD.var w10_ | exact EvD.var r10_ | apply EvD.tup | apply EvD.lst | apply EvD.list | apply EvD.exc | exact EvD.pow ⟨by decide, by decide, by decide⟩ | apply EvD.neg | apply EvD.cat | exact catsz hl (by decide +kernel) | (simp; done))
    case l10 => simp
    case k10 =>
    intro M10 ws10 G10 T10 m10 g10 q10
    refine ⟨_, _, _, _, rfl, rfl, T10.kp _ _ (fun m => nomatch m) h9, g10, ?z10, fun L10 n10 => ?_⟩
    case z10 => rw [r9.len, q10.len]; exact sz (by simp)
    have nb10 : b ≠ L10 := (B.kp (E9.trans T10) (fun m => nomatch m)).ne n10
    have r10 := ((r9.stp T10 Lsts.nil).app q10).stp (Stp.new (o := .lst (vs9 ++ ws10)) n10 []) Lsts.nil
    have E10 := (E9.trans T10).new' (o := .lst (vs9 ++ ws10)) n10
    have h10 : (upd G10 L10 (.lst (vs9 ++ ws10))) L10 = some (.lst (vs9 ++ ws10)) := upd_same
    generalize vs9 ++ ws10 = vs10 at *
    generalize upd G10 L10 (.lst vs10) = H10 at *
    have Bn : Bag H10 b n := B.kp E10 (fun m => nomatch m)
    clear r0 r1 r2 r3 r4 r5 r6 r7 r8 r9
    refine ⟨_, rfl, _, rfl, _, rfl, L10, vs10, rfl, .inl (SqL.of h10), b, _, n, rfl, Bn, by omega, ?_, ?_, fun e H11 e0 e1 o1 B1 => ?_⟩
    · rw [r10.len]
      simp
    · rw [r10.len]
      simp
    have S11 : Stp [b] H10 H11 := o1.stp (List.mem_singleton.mpr rfl)
    obtain ⟨x, y, z, hb, _⟩ := id Bn
    have lb : Lsts H10 [b] := .one hb
    have nLb : L10 ∉ [b] := fun m => nb10 (List.mem_singleton.mp m).symm
    obtain ⟨j, rfl⟩ := Int.eq_ofNat_of_zero_le e0
    have hj : j < vs10.length := by omega
    obtain ⟨d', hd', rd'⟩ := r10.get (List.getElem?_eq_getElem hj)
    refine ⟨L10, vs10, (j : Int), vs10[j], rfl, rfl, SqL.of (S11.kp _ _ nLb h10), atI_nat (List.getElem?_eq_getElem hj), ?_⟩
    have all := ((((((((((odds_0 (l := l) hf).app (odds_1 (l := l) hf)).app (odds_2 (l := l) hf)).app (odds_3 hf)).app (odds_4 hf)).app (odds_5 (l := l) hf)).app (odds_6 (l := l) hf)).app (odds_7 (l := l) hf)).app (odds_8 (l := l) hf)).app (odds_9 (l := l) hf)).app (odds_10 (l := l) hf)
    obtain ⟨nf, nd⟩ := all d' (List.mem_of_getElem? hd')
    exact k _ H11 d' (rd'.stp S11 lb) nf nd (E10.nil.trans S11) B1
abbrev s__law_bent : Stmt := topS 18
abbrev N__law_bent : List Str := ["bag", "sieve", "word", "at", "part", "odd", "k"]
theorem sc__law_bent : FnScope ["bag", "sieve", "word", "at", "part", "odd", "k"] ["bag", "sieve", "word"] (defScope s__law_bent) := ⟨rfl, rfl, rfl, by decide +kernel, rfl, by decide +kernel, by decide +kernel⟩

/-! ### bent filters -/
theorem layAll {K : PySem.W.Frag} {H : Hp} : ∀ {ds : List Dt} {vs : List V}, RpL K H vs ds → (∀ d ∈ ds, ∀ v, Rp K H v d → ∃ e, Dp K H v e ∧ e.canLay0 = true ∧ e.depth ≤ d.dep) →
    ∃ es, DpAll K H vs es ∧ PyData.canLayAll0 es = true ∧ PyData.depthAll es ≤ Dt.depL ds ∧ es.length = ds.length
  | [], _, .nil, _ => ⟨[], .nil, rfl, Nat.le_refl _, rfl⟩
  | d :: ds, _, .cons h r, q => by
    obtain ⟨e, h1, h2, h3⟩ := q d List.mem_cons_self _ h
    obtain ⟨es, g1, g2, g3, g4⟩ := layAll r fun e m => q e (List.mem_cons_of_mem _ m)
    refine ⟨e :: es, .cons h1 g1, ?_, ?_, by rw [List.length_cons, List.length_cons, g4]⟩
    · show (PyData.canLay0 e && PyData.canLayAll0 es) = true
      rw [h2, g2]
      rfl
    · show max e.depth (PyData.depthAll es) ≤ max d.dep (Dt.depL ds)
      omega
theorem lay_str {K : PySem.W.Frag} {H : Hp} {v : V} {l : List Nat} (h : ∀ c ∈ l, c < 1000) (r : Rp K H v (.str l)) : ∃ e, Dp K H v e ∧ e.canLay0 = true ∧ e.depth ≤ (Dt.str l).dep := by
  cases r with
  | str _ hl =>
    refine ⟨.str (tx l), .str _, ?_, Nat.le_refl _⟩
    unfold PyData.canLay0 PyData.strOk
    simp
    intro c m
    have := h c m
    omega
theorem small_abc {l : List Nat} (h : Abc l) : ∀ c ∈ l, c < 1000 := fun c m => by
  rcases h c m with e | e | e <;> omega
theorem flt_lay {K : PySem.W.Frag} {H : Hp} {d : Dt} (f : Flt d) : ∀ v, Rp K H v d → ∃ e, Dp K H v e ∧ e.canLay0 = true ∧ e.depth ≤ d.dep := by
  have two : ∀ {s : List Nat} {x : Dt}, (∀ c ∈ s, c < 1000) → (∀ v, Rp K H v x → ∃ e, Dp K H v e ∧ e.canLay0 = true ∧ e.depth ≤ x.dep) → ∀ v, Rp K H v (.tup [.str s, x]) → ∃ e, Dp K H v e ∧ e.canLay0 = true ∧ e.depth ≤ (Dt.tup [.str s, x]).dep := fun {s x} hs hx v r => by
    cases r with
    | tup hq hn rl =>
      obtain ⟨es, g1, g2, g3, _⟩ := layAll rl fun d m v r => by
        rcases List.mem_cons.mp m with rfl | m
        · exact lay_str hs r
        · rw [List.mem_singleton.mp m] at r ⊢
          exact hx v r
      exact ⟨.tuple es, .tup hq g1, g2, Nat.succ_le_succ g3⟩
  have texts : ∀ {ds : List Dt}, (∀ d ∈ ds, IsTx d) → ∀ v, Rp K H v (.tup ds) → ∃ e, Dp K H v e ∧ e.canLay0 = true ∧ e.depth ≤ (Dt.tup ds).dep := fun {ds} h v r => by
    cases r with
    | tup hq hn rl =>
      obtain ⟨es, g1, g2, g3, _⟩ := layAll rl fun d m v r => by
        obtain ⟨l, rfl, a⟩ := h d m
        exact lay_str (small_abc a) r
      exact ⟨.tuple es, .tup hq g1, g2, Nat.succ_le_succ g3⟩
  induction f with
  | tx hw h =>
    refine two ?_ fun v r => lay_str (small_abc h) r
    rcases hw with rfl | rfl | rfl | rfl <;> decide +kernel
  | none =>
    intro v r
    cases r with
    | tup hq hn rl =>
      obtain ⟨es, g1, g2, g3, _⟩ := layAll rl fun d m v r => by
        rw [List.mem_singleton.mp m] at r ⊢
        exact lay_str (by decide +kernel) r
      exact ⟨.tuple es, .tup hq g1, g2, Nat.succ_le_succ g3⟩
  | say b =>
    refine two (by decide +kernel) fun v r => ?_
    cases r
    exact ⟨.bool b, .bl b, rfl, Nat.le_refl _⟩
  | not h ih => exact two (by decide +kernel) ih
  | among h => exact two (by decide +kernel) (texts h)
  | many hw h ih =>
    refine two ?_ fun v r => ?_
    · rcases hw with rfl | rfl <;> decide +kernel
    · cases r with
      | tup hq hn rl =>
        obtain ⟨es, g1, g2, g3, _⟩ := layAll rl fun d m v r => ih d m v r
        exact ⟨.tuple es, .tup hq g1, g2, Nat.succ_le_succ g3⟩
/-- x != () of a tuple of filters -/
theorem ne_empty {K : PySem.W.Frag} {H : Hp} {a q : Addr} {vs : List V} {ds : List Dt} {Q : VK} (hs : SqT K H a vs) (rl : RpL K H vs ds) (hf : ∀ d ∈ ds, Flt d) (hd : Dt.depL ds ≤ 60) (hq : SqT K H q []) (k : Q (.bl (!ds.isEmpty)) H) : rNeD K (.ref a) (.ref q) H Q := by
  obtain ⟨es, g1, g2, g3, g4⟩ := layAll rl fun d m v r => flt_lay (hf d m) v r
  refine ⟨.tuple es, .tuple [], .tup hs g1, .tup hq .nil, ?_, rfl, ?_⟩
  · unfold SeqAt.shaped
    rw [show PyData.canLay0 (.tuple es) = true from g2]
    have : PyData.depth (.tuple es) ≤ 64 := by show PyData.depthAll es + 1 ≤ 64; omega
    simp [this]
  · have e : PyData.eqv (.tuple es) (.tuple []) = ds.isEmpty := by
      cases es with
      | nil =>
        cases ds with
        | nil => rfl
        | cons _ _ => simp at g4
      | cons _ _ =>
        cases ds with
        | nil => simp at g4
        | cons _ _ => rfl
    rw [e]
    exact k
def spBent (K : PySem.W.Frag) (m : Nat) : Sp := fun vs H Q _ => ∃ (b : Addr) (n : Nat) (v : V) (l : List Nat) (d : Dt), vs = [.ref b, v, Tx l] ∧ d.dep < m ∧ d.dep ≤ 60 ∧ Bag H b n ∧ n + 1000 * (d.dep + 1) < 2 ^ 30 ∧ Rp K H v d ∧ Flt d ∧ Abc l ∧ l.length ≤ 12 ∧
  ∀ v' H' d', Rp K H' v' d' → ¬ Flt d' → d'.dep ≤ d.dep + 40 → Stp [b] H H' → Bag H' b (n + 50 * (d.dep + 1)) → Q v' H'
theorem bent_step {f : Addr} {fd : FuncData} (D : Df K mg "_law_bent" s__law_bent ["bag", "sieve", "word"] f fd) (T : Nm mg) (c__law_draw : Cl P w K mg base 1 "_law_draw" s__law_draw ["bag", "upto"] spDraw)
    (c__law_odd_sieve : Cl P w K mg base 2 "_law_odd_sieve" s__law_odd_sieve ["bag", "sieve", "word"] (spOdd K)) {m lv : Nat} (hlv : 2 ≤ lv) (c__law_bent : Cl P w K mg base lv "_law_bent" s__law_bent ["bag", "sieve", "word"] (spBent K m)) :
    Cl P w K mg base (lv + 1) "_law_bent" s__law_bent ["bag", "sieve", "word"] (spBent K (m + 1)) := by
  refine D.cl sc__law_bent (fun vs H Q E h => ?_) (fun cdv A outer s H vs Q E hr h => ?_)
  · obtain ⟨b, n, v, l, d, rfl, _⟩ := h
    rfl
  · obtain ⟨b, n, v, l, d, rfl, hm, h60, B, hn, r, hf, ha, hl, k⟩ := h
    refine ⟨_, (pss_cons (ps_if (PW.pt (pw_and (pt_cmpR op_eq (pe_ix ix_tup (pv 1) pe_int (fun _ _ => rfl)) pe_str (by first | exact nomark _ | rfl)) (pw_and1 (pt_cmpR op_gt (pe_cl c__law_draw hr (by omega) (pa_cons (pv 0) (pa_cons pe_int pa_nil))) pe_int (by first | exact nomark _ | rfl))))) (pss_one (ps_ret (pe_tup (pa_cons pe_str (pa_cons (pe_cl c__law_bent hr (by omega) (pa_cons (pv 0) (pa_cons (pe_ix ix_tup (pv 1) pe_int (fun _ _ => rfl)) (pa_cons (pv 2) pa_nil)))) pa_nil))))) pss_nil)
      (pss_cons (ps_if (PW.pt (pw_and (pt_cmpR op_in_seq (pe_ix ix_tup (pv 1) pe_int (fun _ _ => rfl)) (pe_tup (pa_cons pe_str (pa_cons pe_str pa_nil))) (by first | exact nomark _ | rfl)) (pw_and (pt_cmpR (op_neD hr.units) (pe_ix ix_tup (pv 1) pe_int (fun _ _ => rfl)) (pe_tup pa_nil) (by first | exact nomark _ | rfl)) (pw_and1 (pt_cmpR op_gt (pe_cl c__law_draw hr (by omega) (pa_cons (pv 0) (pa_cons pe_int pa_nil))) pe_int (by first | exact nomark _ | rfl)))))) (pss_cons (ps_set (i := 3) sc__law_bent.nd rfl (by first | exact Or.inl rfl | exact Or.inr rfl) (pe_cl c__law_draw hr (by omega) (pa_cons (pv 0) (pa_cons (pe_callB call_len_seq (by rfl) T.n_len (by decide +kernel) (pa_cons (pe_ix ix_tup (pv 1) pe_int (fun _ _ => rfl)) pa_nil)) pa_nil))))
      (pss_cons (ps_set (i := 4) sc__law_bent.nd rfl (by first | exact Or.inl rfl | exact Or.inr rfl) (pe_cl c__law_bent hr (by omega) (pa_cons (pv 0) (pa_cons (pe_ix ix_tup (pe_ix ix_tup (pv 1) pe_int (fun _ _ => rfl)) (pv 3) (fun _ _ => rfl)) (pa_cons (pv 2) pa_nil)))))
      (pss_one (ps_ret (pe_tup (pa_cons (pe_ix ix_tup (pv 1) pe_int (fun _ _ => rfl)) (pa_cons (pe_op op_catA (pe_op op_catA (pe_slice sl_tupA (pe_ix ix_tup (pv 1) pe_int (fun _ _ => rfl)) po_none (po_some (pv 3))) (pe_tup (pa_cons (pv 4) pa_nil))) (pe_slice sl_tupA (pe_ix ix_tup (pv 1) pe_int (fun _ _ => rfl)) (po_some (pe_op op_add (pv 3) pe_int)) po_none)) pa_nil))))))) pss_nil)
      (pss_cons (ps_set (i := 5) sc__law_bent.nd rfl (by first | exact Or.inl rfl | exact Or.inr rfl) (pe_cl c__law_odd_sieve hr (by omega) (pa_cons (pv 0) (pa_cons (pv 1) (pa_cons (pv 2) pa_nil)))))
      (pss_cons (ps_if (pt_cmpR op_eq (pe_cl c__law_draw hr (by omega) (pa_cons (pv 0) (pa_cons pe_int pa_nil))) pe_int (by first | exact nomark _ | rfl)) (pss_one (ps_for PassesOwn.never rfl (pi_range1 (by rfl) T.n_range (pa_cons (pe_cl c__law_draw hr (by omega) (pa_cons (pv 0) (pa_cons pe_int pa_nil))) pa_nil)) (pg_name (i := 6) sc__law_bent.nd rfl (by first | exact Or.inl rfl | exact Or.inr rfl)) (pss_one (ps_set (i := 5) sc__law_bent.nd rfl (by first | exact Or.inl rfl | exact Or.inr rfl) (pe_tup (pa_cons pe_str (pa_cons (pv 5) pa_nil))))))) pss_nil)
      (pss_one (ps_ret (pv 5))))))), ?_⟩
    obtain ⟨x0, y0, z0, hb, _⟩ := id B
    have lb : Lsts H [b] := .one hb
    have one : b ∈ [b] := List.mem_singleton.mpr rfl
    obtain ⟨l0, rest, rfl, _⟩ := flt_head hf
    cases r with
    | tup hs hnn rl =>
    rename_i a xs
    obtain ⟨vr, rfl, rr, r0⟩ : ∃ vr, xs = Tx l0 :: vr ∧ RpL K H vr rest ∧ Rp K H (Tx l0) (.str l0) := by
      cases rl with
      | cons h1 h2 =>
        cases h1 with
        | str _ h3 => exact ⟨_, rfl, h2, .str _ h3⟩
    have r : Rp K H (.ref a) (.tup (.str l0 :: rest)) := .tup hs hnn rl
    have rwd : Rp K H (Tx l) (.str l) := .str l (Nat.le_trans hl (by decide))
    refine MonoT.cut (t := tAnd _ _) (MonoT.and (MonoT.test (Mono.op' MonoR.eq (Mono.op' MonoR.ixT Mono.var Mono.c) Mono.c)) (MonoT.test (Mono.op' MonoR.i0 (Mono.cl monoDraw (MonoA.cons Mono.var (MonoA.cons Mono.c MonoA.nil))) Mono.c)))
      (fun c H' => Stp [b] H H' ∧ Bag H' b (n + 1) ∧ (c = true → tx l0 = "not")) ?_ ?_
    · refine ⟨_, rfl, a, _, 0, Tx l0, rfl, rfl, hs, at0, rfl, _, rfl, ite2 (fun h1 => ?_) (fun h1 => ⟨Stp.refl _ _, B.mono (by omega), fun e => nomatch e⟩)⟩
      have h1 : tx l0 = "not" := V.str.inj (of_decide_eq_true h1)
      refine ⟨_, rfl, b, 3, n, rfl, B, by omega, by decide, by decide, fun d1 H1 d10 d11 o1 B1 => ?_⟩
      exact ⟨_, _, rfl, rfl, _, rfl, o1.stp one, B1, fun _ => h1⟩
    rintro c H1 ⟨S1, B1, hc⟩
    have hs1 := sqt_stp S1 lb hs
    have rr1 := rr.stp S1 lb
    have r1 := r.stp S1 lb
    have lb1 := lb.stp S1
    refine ite2 (fun ec => ?_) (fun _ => ?_)
    · have h1 := hc ec
      rw [flt_not_none (by rw [h1]; decide +kernel)] at hf
      obtain ⟨p, rfl, hp⟩ := hf
      rw [h1, can_not] at hp
      cases rr1 with
      | cons q1 q2 =>
      cases q2 with
      | nil =>
      rename_i v1
      have dp : p.dep < (Dt.tup [.str l0, p]).dep := by
        have := Dt.dep_mem (ds := [Dt.str l0, p]) (d := p) (by simp)
        exact Nat.lt_succ_of_le this
      refine ⟨_, rfl, _, rfl, a, _, 1, v1, rfl, rfl, hs1, at1, _, rfl, b, n + 1, v1, l, p, rfl, by omega, by omega, B1, by omega, q1, hp, ha, hl, fun v' H2 d' rd nf dd S2 B2 => ?_⟩
      refine ⟨(by show 2 ≤ sizeLine; decide), fun t nt => ?_⟩
      refine k _ _ (.tup [.str ("not" : Str).cps.toList, d']) (.tup (SqT.of upd_same) (by simp) (.cons (Rp.lit _) (.cons (rd.stp (Stp.new nt []) Lsts.nil) .nil))) (nf_2 fun q => nf (can_not.mp q)) ?_ ((S1.trans S2).new' nt) ((B2.upd (B2.ne nt)).mono ?_)
      · simp [Dt.dep, Dt.depL] at dp ⊢
        omega
      · have : 50 * (p.dep + 1) ≤ 50 * (Dt.tup [.str l0, p]).dep := Nat.mul_le_mul_left _ dp
        rw [Nat.mul_add]
        omega
    refine MonoT.cut (t := tAnd _ _) (MonoT.and (MonoT.test (Mono.op' MonoR.inn (Mono.op' MonoR.ixT Mono.var Mono.c) (Mono.tup (MonoA.cons Mono.c (MonoA.cons Mono.c MonoA.nil))))) (MonoT.and (MonoT.test (Mono.op' MonoR.neD (Mono.op' MonoR.ixT Mono.var Mono.c) (Mono.tup MonoA.nil))) (MonoT.test (Mono.op' MonoR.i0 (Mono.cl monoDraw (MonoA.cons Mono.var (MonoA.cons Mono.c MonoA.nil))) Mono.c))))
      (fun c H' => Stp [b] H1 H' ∧ Bag H' b (n + 2) ∧ (c = true → ∃ ds, (tx l0 = "and" ∨ tx l0 = "or") ∧ rest = [.tup ds] ∧ (∀ d ∈ ds, Flt d) ∧ ds ≠ [])) ?_ ?_
    · refine ⟨_, rfl, a, _, 0, Tx l0, rfl, rfl, hs1, at0, (by show 2 ≤ sizeLine; decide), fun t nt => ?_⟩
      have St : Stp [] H1 (upd H1 t (.tup [.str "and", .str "or"])) := Stp.new nt _
      have Bt := B1.upd (o := .tup [.str "and", .str "or"]) (B1.ne nt)
      refine ⟨t, _, rfl, .inr (SqT.of upd_same), rfl, rfl, _, rfl, ?_⟩
      have i1 := inV_str (tx l0) (["and", "or"] : List Str)
      generalize upd H1 t (.tup [.str "and", .str "or"]) = H2 at *
      refine ite2 (fun h2 => ?_) (fun h2 => ⟨St.nil, Bt.mono (by omega), fun e => nomatch e⟩)
      have h3 : inV (Tx l0) ((["and", "or"] : List Str).map V.str) = true := h2
      rw [i1] at h3
      have h4 : tx l0 = "and" ∨ tx l0 = "or" := by simpa using of_decide_eq_true h3
      have hf' := hf
      rw [flt_not_none (by rcases h4 with e | e <;> rw [e] <;> decide +kernel)] at hf'
      obtain ⟨p, ep, hp⟩ := hf'
      rw [can_many h4] at hp
      obtain ⟨ds, e2, hds⟩ := hp
      subst e2
      subst ep
      have r2 := rr1.stp St Lsts.nil
      have hs2 := sqt_stp St Lsts.nil hs1
      cases r2 with
      | cons q1 q2 =>
      cases q2 with
      | nil =>
      cases q1 with
      | tup hq hqn hql =>
      rename_i a2 v2
      refine ⟨_, rfl, a, _, 1, .ref a2, rfl, rfl, hs2, at1, Nat.zero_le _, fun t2 nt2 => ?_⟩
      have St2 : Stp [] H2 (upd H2 t2 (.tup [])) := Stp.new nt2 _
      refine ne_empty (sqt_stp St2 Lsts.nil hq) (hql.stp St2 Lsts.nil) hds ?_ (SqT.of upd_same) ?_
      · have : (Dt.tup [.str l0, .tup ds]).dep = Dt.depL [.str l0, .tup ds] + 1 := rfl
        have h7 := Dt.dep_mem (ds := [Dt.str l0, .tup ds]) (d := .tup ds) (by simp)
        have h8 : (Dt.tup ds).dep = Dt.depL ds + 1 := rfl
        omega
      · have Bt2 := Bt.upd (o := .tup []) (Bt.ne nt2)
        cases ds with
        | nil => exact ⟨false, rfl, (St.trans St2).nil, Bt2.mono (by omega), fun e => nomatch e⟩
        | cons e ds =>
          refine ⟨true, rfl, ?_⟩
          refine ⟨_, rfl, b, 3, n + 1, rfl, Bt2, by omega, by decide, by decide, fun d1 H3 d10 d11 o3 B3 => ?_⟩
          exact ⟨_, _, rfl, rfl, _, rfl, (St.trans St2).nil.trans (o3.stp one), B3, fun _ => ⟨_, h4, rfl, hds, by simp⟩⟩
    rintro c2 H2 ⟨S2, B2, hc2⟩
    have hs2 := sqt_stp S2 lb1 hs1
    have rr2 := rr1.stp S2 lb1
    have r2 := r1.stp S2 lb1
    have lb2 := lb1.stp S2
    have S02 := S1.trans S2
    refine ite2 (fun ec => ?_) (fun _ => ?_)
    · obtain ⟨ds, h4, rfl, hds, hne⟩ := hc2 ec
      cases rr2 with
      | cons q1 q2 =>
      cases q2 with
      | nil =>
      cases q1 with
      | tup hq hqn hql =>
      rename_i a2 v2
      have hlen : 0 < v2.length := by
        rw [hql.len]
        cases ds with
        | nil => exact absurd rfl hne
        | cons _ _ => simp
      refine ⟨_, rfl, _, rfl, a, _, 1, .ref a2, rfl, rfl, hs2, at1, a2, _, rfl, .inr hq, b, _, n + 2, rfl, B2, by omega, by omega, by omega, fun at_ H3 a0 a1 o3 B3 => ?_⟩
      have S3 : Stp [b] H2 H3 := o3.stp one
      obtain ⟨j, rfl⟩ := Int.eq_ofNat_of_zero_le a0
      have hj : j < v2.length := by omega
      obtain ⟨e, he, re⟩ := hql.get (List.getElem?_eq_getElem hj)
      have me := List.mem_of_getElem? he
      have hs3 := sqt_stp S3 lb2 hs2
      have hq3 := sqt_stp S3 lb2 hq
      have dTop : (Dt.tup [.str l0, .tup ds]).dep = Dt.depL [.str l0, .tup ds] + 1 := rfl
      have dMid := Dt.dep_mem (ds := [Dt.str l0, .tup ds]) (d := .tup ds) (by simp)
      have dIn : (Dt.tup ds).dep = Dt.depL ds + 1 := rfl
      have dE := Dt.dep_mem me
      refine ⟨_, rfl, _, rfl, a, _, 1, .ref a2, rfl, rfl, hs3, at1, _, rfl, a2, v2, (j : Int), v2[j], rfl, rfl, hq3, atI_nat (List.getElem?_eq_getElem hj), _, rfl, b, n + 3, v2[j], l, e, rfl, by omega, by omega, B3, by omega, re.stp S3 lb2, hds e me, ha, hl, fun v' H4 d' rd nf dd S4 B4 => ?_⟩
      have lb3 := lb2.stp S3
      have hs4 := sqt_stp S4 lb3 hs3
      have hq4 := sqt_stp S4 lb3 hq3
      have rl4 := (hql.stp S3 lb2).stp S4 lb3
      refine ⟨_, rfl, a, _, 0, Tx l0, rfl, rfl, hs4, at0, _, rfl, a, _, 1, .ref a2, rfl, rfl, hs4, at1, _, rfl, (j : Int), rfl, ?_⟩
      refine slA_use hq4 fun p1 H5 S5 q5 => ?_
      refine ⟨_, rfl, (by show 1 ≤ sizeLine; decide), fun t nt => ?_⟩
      have S6 : Stp [] H5 (upd H5 t (.tup [v'])) := Stp.new nt _
      have S56 := S5.trans S6
      refine catA_use (sqt_stp S6 Lsts.nil q5) (SqT.of upd_same) ?_ fun p2 H6 S7 q6 => ?_
      · rw [cut_upto, List.length_take]
        simp
        omega
      have S57 := S56.trans S7
      refine ⟨_, rfl, a, _, 1, .ref a2, rfl, rfl, sqt_stp S57 Lsts.nil hs4, at1, _, rfl, _, _, rfl, rfl, ((j + 1 : Nat) : Int), rfl, ?_⟩
      refine Pg.nopart ?_
      refine slA_use (sqt_stp S57 Lsts.nil hq4) fun p3 H7 S8 q7 => ?_
      have S58 := S57.trans S8
      refine catA_use (sqt_stp S8 Lsts.nil q6) q7 ?_ fun p4 H8 S9 q8 => ?_
      · rw [cut_upto, cut_from, List.length_append, List.length_take, List.length_drop]
        simp
        omega
      have S59 := S58.trans S9
      refine ⟨(by show 2 ≤ sizeLine; decide), fun t2 nt2 => ?_⟩
      have S10 : Stp [] H8 (upd H8 t2 (.tup [Tx l0, .ref p4])) := Stp.new nt2 _
      have SA := S59.trans S10
      rw [cut_upto, cut_from] at q8
      have rl : RpL K (upd H8 t2 (.tup [Tx l0, .ref p4])) (v2.take j ++ [v'] ++ v2.drop (j + 1)) (ds.take j ++ [d'] ++ ds.drop (j + 1)) :=
        (((rl4.stp SA Lsts.nil).take j).app (.cons (rd.stp SA Lsts.nil) .nil)).app ((rl4.stp SA Lsts.nil).drop (j + 1))
      have hlen2 : (v2.take j ++ [v'] ++ v2.drop (j + 1)).length ≤ 100000 := by
        rw [List.length_append, List.length_append, List.length_take, List.length_drop]
        simp
        omega
      refine k _ _ (.tup [.str l0, .tup (ds.take j ++ [d'] ++ ds.drop (j + 1))]) (.tup (SqT.of upd_same) (by simp) (.cons (.str l0 ?_) (.cons (.tup (sqt_stp S10 Lsts.nil q8) hlen2 rl) .nil))) (fun f => ?_) ?_ ?_ ?_
      · cases r0 with
        | str _ h3 => exact h3
      · rw [flt_two, can_many h4] at f
        exact nall (p := Flt) (x := d') (by simp) nf f
      · have h9 : Dt.depL (ds.take j ++ [d'] ++ ds.drop (j + 1)) ≤ Dt.depL ds + 40 := Dt.depL_le fun x mx => by
          rcases List.mem_append.mp mx with mx | mx
          · rcases List.mem_append.mp mx with mx | mx
            · have := Dt.dep_mem (List.mem_of_mem_take mx)
              omega
            · rw [List.mem_singleton.mp mx]
              omega
          · have := Dt.dep_mem (List.mem_of_mem_drop mx)
            omega
        have e1 : (Dt.tup [.str l0, .tup (ds.take j ++ [d'] ++ ds.drop (j + 1))]).dep = max 0 (max (Dt.depL (ds.take j ++ [d'] ++ ds.drop (j + 1)) + 1) 0) + 1 := rfl
        have e2 : (Dt.tup [.str l0, .tup ds]).dep = max 0 (max (Dt.depL ds + 1) 0) + 1 := rfl
        omega
      · exact ((S02.trans S3).trans S4).trans SA.nil
      · refine (B4.kp SA (fun m => nomatch m)).mono ?_
        have : 50 * (e.dep + 1) ≤ 50 * (Dt.tup [.str l0, .tup ds]).dep := Nat.mul_le_mul_left _ (by omega)
        rw [Nat.mul_add]
        omega
    refine ⟨_, rfl, _, rfl, _, rfl, b, n + 2, _, l, _, rfl, B2, by omega, r2, hf, ha, hl, fun v' H3 d' rd nf dd S3 B3 => ?_⟩
    have S03 := S02.trans S3
    have lb3 := lb2.stp S3
    have fin : ∀ v4 H4 d4 i, i ≤ 28 → Rp K H4 v4 d4 → ¬ Flt d4 → d4.dep ≤ (Dt.tup (.str l0 :: rest)).dep + 3 + i → Stp [b] H H4 → Bag H4 b (n + 5) → Q v4 H4 := fun v4 H4 d4 i hi r4 n4 dd4 S4 B4 => k v4 H4 d4 r4 n4 (by omega) S4 (B4.mono (by omega))
    refine ⟨_, rfl, b, 9, n + 3, rfl, B3, by omega, by decide, by decide, fun d9 H4 d90 d91 o4 B4 => ?_⟩
    have S4 : Stp [b] H3 H4 := o4.stp one
    refine ⟨rfl, _, rfl, ite2 (fun h5 => ?_) (fun h5 => ?_)⟩
    · refine ⟨_, rfl, b, 29, n + 4, rfl, B4, by omega, by decide, by decide, fun z H5 z0 z1 o5 B5 => ?_⟩
      have S5 : Stp [b] H4 H5 := o5.stp one
      refine ⟨z, rfl, by omega, by omega, for_range (lo := 0) (n := z.toNat) (fun i σ H6 => ∃ (v6 : V) (d6 : Dt) (x p p2 : Option V), σ = [some (.ref b), some (.ref a), some (Tx l), x, p, some v6, p2] ∧ Rp K H6 v6 d6 ∧ ¬ Flt d6 ∧ d6.dep ≤ (Dt.tup (.str l0 :: rest)).dep + 3 + i ∧ Stp [b] H H6 ∧ Bag H6 b (n + 5))
        ⟨v', d', none, none, none, rfl, (rd.stp S4 lb3).stp S5 (lb3.stp S4), nf, dd, (S03.trans S4).trans S5, B5⟩ ?_ ?_⟩
      · rintro i σ H6 hi ⟨v6, d6, x, p, p2, es, r6, n6, dd6, S6, B6⟩
        rw [es]
        refine ⟨_, rfl, (by show 2 ≤ sizeLine; decide), fun t nt => ?_⟩
        refine ⟨.ref t, .tup [.str ("not" : Str).cps.toList, d6], _, _, _, rfl, .tup (SqT.of upd_same) (by simp) (.cons (Rp.lit _) (.cons (r6.stp (Stp.new nt []) Lsts.nil) .nil)), nf_2 fun q => n6 (can_not.mp q), ?_, S6.new' nt, B6.upd (B6.ne nt)⟩
        simp [Dt.dep, Dt.depL] at dd6 ⊢
        omega
      · rintro σ H6 ⟨v6, d6, x, p, p2, es, r6, n6, dd6, S6, B6⟩
        rw [es]
        exact ⟨_, rfl, fin v6 H6 d6 _ (by omega) r6 n6 dd6 S6 B6⟩
    · exact ⟨_, rfl, fin v' H4 d' 0 (by decide) (rd.stp S4 lb3) nf (by omega) (S03.trans S4) (B4.mono (by omega))⟩
theorem cl__law_bent {f : Addr} {fd : FuncData} (D : Df K mg "_law_bent" s__law_bent ["bag", "sieve", "word"] f fd) (T : Nm mg) (c__law_draw : Cl P w K mg base 1 "_law_draw" s__law_draw ["bag", "upto"] spDraw)
    (c__law_odd_sieve : Cl P w K mg base 2 "_law_odd_sieve" s__law_odd_sieve ["bag", "sieve", "word"] (spOdd K)) : ∀ m : Nat, Cl P w K mg base (2 + m) "_law_bent" s__law_bent ["bag", "sieve", "word"] (spBent K m)
  | 0 => cl_never D (fun vs H Q E ⟨b, n, v, l, d, _, hm, _⟩ => Nat.not_lt_zero _ hm) _
  | m + 1 => bent_step D T c__law_draw c__law_odd_sieve (Nat.le_add_right 2 m) (cl__law_bent D T c__law_draw c__law_odd_sieve m)
abbrev s_law : Stmt := topS 19
abbrev N_law : List Str := ["script", "cell", "bag", "pool", "sieve", "deep", "k", "odd"]
theorem sc_law : FnScope ["script", "cell", "bag", "pool", "sieve", "deep", "k", "odd"] ["script"] (defScope s_law) := ⟨rfl, rfl, rfl, by decide +kernel, rfl, by decide +kernel, by decide +kernel⟩

/-! ### the law -/
theorem kb_is_filter_value {K : PySem.W.Frag} (f : Addr) (fd : FuncData) (F : Fun K "is_filter" "is_filter" s_is_filter f fd) : KBinds K fd ["value"] ["value"] (fun us ws => match us with | [] => ws | _ :: _ => []) (fun vs zs => match vs with | [] => zs | _ :: _ => []) :=
  kb_of (g := fun ws => ws) (gV := fun zs => zs) F (by simp) (fun _ _ _ _ _ _ ws hl => match ws, hl with | [_], _ => rfl) fun r => r
def spLaw (K : PySem.W.Frag) : Sp := fun vs H Q _ => ∃ (a : Addr) (ns : List Int), vs = [.ref a] ∧ SqL K H a (ns.map V.int) ∧ ns.length ≤ 63 ∧ ∀ H', Q (.bl true) H'
theorem cl_law {f : Addr} {fd : FuncData} (D : Df K mg "law" s_law ["script"] f fd) (T : Nm mg) (c__law_bag : Cl P w K mg base 1 "_law_bag" s__law_bag ["cell"] spBag) (c__law_draw : Cl P w K mg base 1 "_law_draw" s__law_draw ["bag", "upto"] spDraw)
    (c__law_some : Cl P w K mg base 3 "_law_some" s__law_some ["bag", "pool"] spSome) (c__law_sieve : Cl P w K mg base 10 "_law_sieve" s__law_sieve ["bag", "room", "pool", "levels"] (spSieve K 6))
    (c__law_bent : Cl P w K mg base 62 "_law_bent" s__law_bent ["bag", "sieve", "word"] (spBent K 60)) (c_is_filter : Cl P w K mg base 201 "is_filter" s_is_filter ["value"] (spIsF K 100)) :
    FnOk P w K mg base CX0 202 f fd ["script"] (spLaw K) := by
  refine D.fn.ok sc_law (fun vs H Q E h => ?_) (fun cdv A outer s H vs Q E hr h => ?_)
  · obtain ⟨a, ns, rfl, _⟩ := h
    rfl
  · obtain ⟨a, ns, rfl, hS, hlen, k⟩ := h
    refine ⟨_, (pss_cons (ps_for PassesOwn.never rfl (pi_list (pe_op op_cat (pe_slice sl_list (pv 0) po_none (po_some pe_int)) (pe_lst (pa_cons (pe_op op_add (pe_op op_pow pe_int pe_int) pe_int) pa_nil)))) (pg_name (i := 1) sc_law.nd rfl (by first | exact Or.inl rfl | exact Or.inr rfl)) (pss_cons (ps_par (i := 2) (j := 3) rfl sc_law.nd rfl rfl (by decide) rfl rfl (pa_cons (pe_cl c__law_bag hr (by omega) (pa_cons (pv 1) pa_nil)) (pa_cons (pe_lst pa_nil) pa_nil)) (by rfl))
      (pss_cons (ps_set (i := 4) sc_law.nd rfl (by first | exact Or.inl rfl | exact Or.inr rfl) (pe_cl c__law_sieve hr (by omega) (pa_cons (pv 2) (pa_cons (pe_lst (pa_cons pe_int (pa_cons pe_int pa_nil))) (pa_cons (pv 3) (pa_cons pe_int pa_nil))))))
      (pss_cons (ps_if (PW.pt (pw_or (pt_cmpR op_notBl (pe_cl c_is_filter hr (by omega) (pa_cons (pv 4) pa_nil)) pe_bl (by first | exact nomark _ | rfl)) (pw_or1 (pt_cmpR op_notBl (pe_clK c_is_filter hr (by omega) kb_is_filter_value (pk_cons (pv 4) pk_nil)) pe_bl (by first | exact nomark _ | rfl))))) (pss_one (ps_ret pe_bl)) pss_nil)
      (pss_cons (ps_set (i := 5) sc_law.nd rfl (by first | exact Or.inl rfl | exact Or.inr rfl) (pv 4))
      (pss_cons (ps_for PassesOwn.never rfl (pi_range1 (by rfl) T.n_range (pa_cons (pe_cl c__law_draw hr (by omega) (pa_cons (pv 2) (pa_cons pe_int pa_nil))) pa_nil)) (pg_name (i := 6) sc_law.nd rfl (by first | exact Or.inl rfl | exact Or.inr rfl)) (pss_one (ps_set (i := 5) sc_law.nd rfl (by first | exact Or.inl rfl | exact Or.inr rfl) (pe_tup (pa_cons pe_str (pa_cons (pv 5) pa_nil))))))
      (pss_cons (ps_if (pt_cmpR op_notBl (pe_cl c_is_filter hr (by omega) (pa_cons (pv 5) pa_nil)) pe_bl (by first | exact nomark _ | rfl)) (pss_one (ps_ret pe_bl)) pss_nil)
      (pss_one (ps_for PassesOwn.never rfl (pi_range1 (by rfl) T.n_range (pa_cons pe_int pa_nil)) (pg_name (i := 6) sc_law.nd rfl (by first | exact Or.inl rfl | exact Or.inr rfl)) (pss_cons (ps_set (i := 7) sc_law.nd rfl (by first | exact Or.inl rfl | exact Or.inr rfl) (pe_cl c__law_bent hr (by omega) (pa_cons (pv 2) (pa_cons (pv 4) (pa_cons (pe_cl c__law_some hr (by omega) (pa_cons (pv 2) (pa_cons (pv 3) pa_nil))) pa_nil)))))
      (pss_one (ps_if (PW.pt (pw_or (pt_cmpR op_notBl (pe_cl c_is_filter hr (by omega) (pa_cons (pv 7) pa_nil)) pe_bl (by first | exact nomark _ | rfl)) (pw_or1 (pt_cmpR op_notBl (pe_clK c_is_filter hr (by omega) kb_is_filter_value (pk_cons (pv 7) pk_nil)) pe_bl (by first | exact nomark _ | rfl))))) (pss_one (ps_ret pe_bl)) pss_nil))))))))))))
      (pss_one (ps_ret pe_bl))), ?_⟩
    refine ⟨_, rfl, 20, rfl, a, _, rfl, hS, fun p1 np1 => ?_⟩
    refine ⟨_, _, rfl, rfl, ⟨by decide, by decide, by decide⟩, _, _, rfl, rfl, (by show 1 ≤ sizeLine; decide), fun p2 np2 => ?_⟩
    obtain ⟨L1, eL⟩ : ∃ L1, L1 = upd (upd H p1 (.lst (cutV (ns.map V.int) none (some 20)))) p2 (.lst [V.int (10 ^ (18 : Int).toNat + 3)]) := ⟨_, rfl⟩
    have n12 : p1 ≠ p2 := ne_of_none upd_same np2
    have hp1 : L1 p1 = some (.lst (cutV (ns.map V.int) none (some 20))) := by
      rw [eL, upd_ne n12]
      exact upd_same
    have hp2 : L1 p2 = some (.lst [V.int (10 ^ (18 : Int).toNat + 3)]) := by
      rw [eL]
      exact upd_same
    rw [eL] at hp1 hp2
    have hcut : cutV (ns.map V.int) none (some 20) = (ns.take 20).map V.int := by
      rw [show cutV (ns.map V.int) none (some 20) = _ from cut_upto 20, List.map_take]
    refine ⟨p1, p2, _, _, rfl, rfl, hp1, hp2, ?_, fun p3 np3 => ?_⟩
    · rw [hcut, List.length_map, List.length_take]
      exact sz (by simp; omega)
    obtain ⟨cs, ecs⟩ : ∃ cs : List Int, cutV (ns.map V.int) none (some 20) ++ [V.int (10 ^ (18 : Int).toNat + 3)] = cs.map V.int := ⟨ns.take 20 ++ [10 ^ (18 : Int).toNat + 3], by rw [hcut, List.map_append]; rfl⟩
    rw [ecs]
    refine ⟨p3, rfl, ⟨_, SqL.of upd_same⟩, for_list (K := K) (a := p3) (xs := cs.map V.int) (fun i σ H1 => ∃ x1 x2 x3 x4 x5 x6 x7 : Option V, σ = [some (.ref a), x1, x2, x3, x4, x5, x6, x7] ∧ H1 p3 = some (.lst (cs.map V.int)))
      ⟨none, none, none, none, none, none, none, rfl, upd_same⟩ (fun i σ H1 _ ⟨_, _, _, _, _, _, _, _, h⟩ => SqL.of h) ?_ (fun σ H1 ⟨x1, x2, x3, x4, x5, x6, x7, e, _⟩ => by rw [e]; exact k _)⟩
    rintro i y σ H1 hi ⟨x1, x2, x3, x4, x5, x6, x7, rfl, h3⟩
    obtain ⟨c, rfl⟩ : ∃ c, y = V.int c := by
      rw [List.getElem?_map] at hi
      cases e : cs[i]? with
      | none =>
        rw [e] at hi
        cases hi
      | some u =>
        rw [e] at hi
        exact ⟨u, (Option.some.inj hi).symm⟩
    refine ⟨_, rfl, c, rfl, fun b H2 nb S2 B2 => ?_⟩
    refine ⟨Nat.zero_le _, fun p np => ⟨_, _, rfl, ?_⟩⟩
    have bp : b ≠ p := B2.ne np
    have h32 : H2 p3 = some (.lst (cs.map V.int)) := S2.kp _ _ (fun m => nomatch m) h3
    have n3b : p3 ≠ b := ne_of_none h3 nb
    have n3p : p3 ≠ p := ne_of_none h32 np
    refine ⟨_, rfl, (by show 2 ≤ sizeLine; decide), fun r nr => ?_⟩
    have B3 := B2.upd (o := .lst []) bp
    have pr : p ≠ r := ne_of_none upd_same nr
    have br : b ≠ r := B3.ne nr
    have n3r : p3 ≠ r := by
      refine ne_of_none (H := upd H2 p (.lst [])) (o := .lst (cs.map V.int)) ?_ nr
      rw [upd_ne n3p]
      exact h32
    have s0 : Sto (upd (upd H2 p (.lst [])) r (.lst [.int 12, .int 8])) b r p 0 12 8 [] :=
      ⟨B3.upd br, upd_same, ⟨by rw [upd_ne pr]; exact upd_same, fun l m => nomatch m⟩, br, bp, pr.symm, by decide, by decide⟩
    have h33 : (upd (upd H2 p (.lst [])) r (.lst [.int 12, .int 8])) p3 = some (.lst (cs.map V.int)) := by
      rw [upd_ne n3r, upd_ne n3p]
      exact h32
    refine ⟨_, rfl, b, r, p, 0, 12, 8, [], 5, rfl, by decide, s0, by decide, fun v H3 r0' r1' ls' md S3 s3 => ?_⟩
    obtain ⟨d, rd, fd', dd⟩ := md
    have h34 : H3 p3 = some (.lst (cs.map V.int)) := S3.kp _ _ (fun m => by
      simp at m
      rcases m with m | m | m
      · exact n3b m
      · exact n3r m
      · exact n3p m) h33
    refine ⟨_, rfl, v, d, rfl, rd, by omega, fun t1 H4 ht1 S4 => ?_⟩
    obtain rfl : t1 = true := ht1.mpr fd'
    refine ⟨true, true, rfl, rfl, _, rfl, ?_⟩
    have rd4 := rd.stp S4 Lsts.nil
    refine ⟨_, rfl, v, d, rfl, rd4, by omega, fun t2 H5 ht2 S5 => ?_⟩
    obtain rfl : t2 = true := ht2.mpr fd'
    refine ⟨true, true, rfl, rfl, _, rfl, ?_⟩
    have S45 := S4.trans S5
    have rd5 := rd4.stp S5 Lsts.nil
    have s5 : Sto H5 b r p (0 + cst 5) r0' r1' ls' := ⟨s3.bag.kp S45 (fun m => nomatch m), S45.kp _ _ (fun m => nomatch m) s3.room, ⟨S45.kp _ _ (fun m => nomatch m) s3.pool.1, s3.pool.2⟩, br, bp, pr.symm, s3.pos, s3.few⟩
    have h35 := S45.kp _ _ (fun m => nomatch m) h34
    have c5 : cst 5 < 2 ^ 29 + 2 ^ 26 := by decide
    refine ⟨_, rfl, ?_⟩
    refine ⟨_, rfl, b, 13, _, rfl, s5.bag, by omega, by decide, by decide, fun z H6 z0 z1 o6 B6 => ?_⟩
    have S6 : Stp [b] H5 H6 := o6.stp (List.mem_singleton.mpr rfl)
    have s6 := s5.draw S6 B6
    have n3B : p3 ∉ [b] := fun m => n3b (List.mem_singleton.mp m)
    have h36 := S6.kp _ _ n3B h35
    have rd6 := rd5.stp S6 s5.lb
    refine ⟨z, rfl, by omega, by omega, for_range (lo := 0) (n := z.toNat) (fun i σ H7 => ∃ (v7 : V) (d7 : Dt) (q6 q7 : Option V), σ = [some (.ref a), some (.int c), some (.ref b), some (.ref p), some v, some v7, q6, q7] ∧ Rp K H7 v7 d7 ∧ Flt d7 ∧ d7.dep ≤ 12 + i ∧ Stp [] H6 H7)
      ⟨v, d, _, _, rfl, rd6, fd', by omega, Stp.refl _ _⟩ ?_ ?_⟩
    · rintro i σ H7 hi ⟨v7, d7, q6, q7, rfl, r7, f7, e7, S7⟩
      refine ⟨_, rfl, (by show 2 ≤ sizeLine; decide), fun t nt => ?_⟩
      refine ⟨.ref t, .tup [.str ("not" : Str).cps.toList, d7], _, _, rfl, .tup (SqT.of upd_same) (by simp) (.cons (Rp.lit _) (.cons (r7.stp (Stp.new nt []) Lsts.nil) .nil)), .not f7, ?_, S7.new' nt⟩
      simp [Dt.dep, Dt.depL]
      omega
    rintro σ H7 ⟨v7, d7, q6, q7, rfl, r7, f7, e7, S7⟩
    refine ⟨_, rfl, v7, d7, rfl, r7, by omega, fun t1 H8 ht1 S8 => ?_⟩
    obtain rfl : t1 = true := ht1.mpr f7
    refine ⟨true, true, rfl, rfl, _, rfl, ?_⟩
    have S78 := S7.trans S8
    have s8 : Sto H8 b r p (0 + cst 5 + 1) r0' r1' ls' := ⟨s6.bag.kp S78 (fun m => nomatch m), S78.kp _ _ (fun m => nomatch m) s6.room, ⟨S78.kp _ _ (fun m => nomatch m) s6.pool.1, s6.pool.2⟩, br, bp, pr.symm, s6.pos, s6.few⟩
    have h38 := S78.kp _ _ (fun m => nomatch m) h36
    have rd8 := rd6.stp S78 Lsts.nil
    refine ⟨2, rfl, by decide, by decide, for_range (lo := 0) (n := 2) (fun i σ H9 => ∃ (q5 q6 q7 : Option V), σ = [some (.ref a), some (.int c), some (.ref b), some (.ref p), some v, q5, q6, q7] ∧ Rp K H9 v d ∧ Sto H9 b r p (0 + cst 5 + 1 + 3000 * i) r0' r1' ls' ∧ H9 p3 = some (.lst (cs.map V.int)))
      ⟨_, _, _, rfl, rd8, s8, h38⟩ ?_ (fun σ H9 ⟨q5, q6, q7, e, _, _, h39⟩ => ⟨_, _, _, _, _, _, _, e, h39⟩)⟩
    rintro i σ H9 hi ⟨q5, q6, q7, rfl, rd9, s9, h39⟩
    have few := s9.few
    have pos := s9.pos
    refine ⟨_, rfl, _, rfl, _, rfl, _, rfl, b, p, _, ls', rfl, s9.bag, by omega, s9.pool, by omega, bp, fun l HA al ll SA BA => ?_⟩
    have sA := s9.draw SA BA
    have rdA := rd9.stp SA s9.lb
    refine ⟨b, _, v, l, d, rfl, by omega, by omega, sA.bag, by omega, rdA, fd', al, ll, fun v' HB d' rb nf dB SB BB => ?_⟩
    have sB := sA.draw SB BB
    have rdB := rdA.stp SB sA.lb
    refine ⟨_, rfl, v', d', rfl, rb, by omega, fun t1 HC ht1 SC => ?_⟩
    obtain rfl : t1 = false := by
      cases t1 with
      | false => rfl
      | true => exact absurd (ht1.mp rfl) nf
    refine ⟨false, false, rfl, rfl, _, rfl, ?_⟩
    refine ⟨_, rfl, v', d', rfl, rb.stp SC Lsts.nil, by omega, fun t2 HD ht2 SD => ?_⟩
    obtain rfl : t2 = false := by
      cases t2 with
      | false => rfl
      | true => exact absurd (ht2.mp rfl) nf
    refine ⟨false, false, rfl, rfl, _, rfl, ?_⟩
    have SCD := SC.trans SD
    refine ⟨_, _, _, rfl, rdB.stp SCD Lsts.nil, ⟨(sB.bag.kp SCD (fun m => nomatch m)).mono (by omega), SCD.kp _ _ (fun m => nomatch m) sB.room, ⟨SCD.kp _ _ (fun m => nomatch m) sB.pool.1, sB.pool.2⟩, br, bp, pr.symm, sB.pos, sB.few⟩, ?_⟩
    exact SCD.kp _ _ (fun m => nomatch m) (SB.kp _ _ n3B (SA.kp _ _ n3B h39))
/-! ### what the top has written, the head -/
theorem all_mk {l : PySem.W.OpenLaw} {w : World} {K : PySem.W.Frag} {h : Heap} {mg : Str → Option Value} {fa : Addr} (X : K.In h) (G : h.Ns mainGlobals mg) (hfa : mg "law" = some (.ref fa))
    {f0 : Addr} {od0 an0 : Option Addr} {sl0 : Array (Option Value)} {oc0 kV0 dc0 pm0 cd0 ct0 : Value}
    (a0 : PySem.W.nsIn K mainGlobals "is_text" = some (some (.ref f0))) (l0 : K.lookup f0 = some ⟨oc0, od0, .func (PySem.W.fnOf "is_text" "is_text" (defArgs s_is_text) (defBody s_is_text) (defScope s_is_text) .none kV0 dc0 pm0 an0 cd0 ct0), sl0⟩) (c0 : PySem.W.codeIn K cd0 "is_text" = true) (k0 : PySem.W.keepIn K (.ref f0) = true)
    {f1 : Addr} {od1 an1 : Option Addr} {sl1 : Array (Option Value)} {oc1 kV1 dc1 pm1 cd1 ct1 : Value}
    (a1 : PySem.W.nsIn K mainGlobals "is_filter" = some (some (.ref f1))) (l1 : K.lookup f1 = some ⟨oc1, od1, .func (PySem.W.fnOf "is_filter" "is_filter" (defArgs s_is_filter) (defBody s_is_filter) (defScope s_is_filter) .none kV1 dc1 pm1 an1 cd1 ct1), sl1⟩) (c1 : PySem.W.codeIn K cd1 "is_filter" = true) (k1 : PySem.W.keepIn K (.ref f1) = true)
    {f2 : Addr} {od2 an2 : Option Addr} {sl2 : Array (Option Value)} {oc2 kV2 dc2 pm2 cd2 ct2 : Value}
    (a2 : PySem.W.nsIn K mainGlobals "can_follow" = some (some (.ref f2))) (l2 : K.lookup f2 = some ⟨oc2, od2, .func (PySem.W.fnOf "can_follow" "can_follow" (defArgs s_can_follow) (defBody s_can_follow) (defScope s_can_follow) .none kV2 dc2 pm2 an2 cd2 ct2), sl2⟩) (c2 : PySem.W.codeIn K cd2 "can_follow" = true) (k2 : PySem.W.keepIn K (.ref f2) = true)
    {f3 : Addr} {od3 an3 : Option Addr} {sl3 : Array (Option Value)} {oc3 kV3 dc3 pm3 cd3 ct3 : Value}
    (a3 : PySem.W.nsIn K mainGlobals "_law_bag" = some (some (.ref f3))) (l3 : K.lookup f3 = some ⟨oc3, od3, .func (PySem.W.fnOf "_law_bag" "_law_bag" (defArgs s__law_bag) (defBody s__law_bag) (defScope s__law_bag) .none kV3 dc3 pm3 an3 cd3 ct3), sl3⟩) (c3 : PySem.W.codeIn K cd3 "_law_bag" = true) (k3 : PySem.W.keepIn K (.ref f3) = true)
    {f4 : Addr} {od4 an4 : Option Addr} {sl4 : Array (Option Value)} {oc4 kV4 dc4 pm4 cd4 ct4 : Value}
    (a4 : PySem.W.nsIn K mainGlobals "_law_draw" = some (some (.ref f4))) (l4 : K.lookup f4 = some ⟨oc4, od4, .func (PySem.W.fnOf "_law_draw" "_law_draw" (defArgs s__law_draw) (defBody s__law_draw) (defScope s__law_draw) .none kV4 dc4 pm4 an4 cd4 ct4), sl4⟩) (c4 : PySem.W.codeIn K cd4 "_law_draw" = true) (k4 : PySem.W.keepIn K (.ref f4) = true)
    {f5 : Addr} {od5 an5 : Option Addr} {sl5 : Array (Option Value)} {oc5 kV5 dc5 pm5 cd5 ct5 : Value}
    (a5 : PySem.W.nsIn K mainGlobals "_law_text" = some (some (.ref f5))) (l5 : K.lookup f5 = some ⟨oc5, od5, .func (PySem.W.fnOf "_law_text" "_law_text" (defArgs s__law_text) (defBody s__law_text) (defScope s__law_text) .none kV5 dc5 pm5 an5 cd5 ct5), sl5⟩) (c5 : PySem.W.codeIn K cd5 "_law_text" = true) (k5 : PySem.W.keepIn K (.ref f5) = true)
    {f6 : Addr} {od6 an6 : Option Addr} {sl6 : Array (Option Value)} {oc6 kV6 dc6 pm6 cd6 ct6 : Value}
    (a6 : PySem.W.nsIn K mainGlobals "_law_near" = some (some (.ref f6))) (l6 : K.lookup f6 = some ⟨oc6, od6, .func (PySem.W.fnOf "_law_near" "_law_near" (defArgs s__law_near) (defBody s__law_near) (defScope s__law_near) .none kV6 dc6 pm6 an6 cd6 ct6), sl6⟩) (c6 : PySem.W.codeIn K cd6 "_law_near" = true) (k6 : PySem.W.keepIn K (.ref f6) = true)
    {f7 : Addr} {od7 an7 : Option Addr} {sl7 : Array (Option Value)} {oc7 kV7 dc7 pm7 cd7 ct7 : Value}
    (a7 : PySem.W.nsIn K mainGlobals "_law_some" = some (some (.ref f7))) (l7 : K.lookup f7 = some ⟨oc7, od7, .func (PySem.W.fnOf "_law_some" "_law_some" (defArgs s__law_some) (defBody s__law_some) (defScope s__law_some) .none kV7 dc7 pm7 an7 cd7 ct7), sl7⟩) (c7 : PySem.W.codeIn K cd7 "_law_some" = true) (k7 : PySem.W.keepIn K (.ref f7) = true)
    {f8 : Addr} {od8 an8 : Option Addr} {sl8 : Array (Option Value)} {oc8 kV8 dc8 pm8 cd8 ct8 : Value}
    (a8 : PySem.W.nsIn K mainGlobals "_law_leaf" = some (some (.ref f8))) (l8 : K.lookup f8 = some ⟨oc8, od8, .func (PySem.W.fnOf "_law_leaf" "_law_leaf" (defArgs s__law_leaf) (defBody s__law_leaf) (defScope s__law_leaf) .none kV8 dc8 pm8 an8 cd8 ct8), sl8⟩) (c8 : PySem.W.codeIn K cd8 "_law_leaf" = true) (k8 : PySem.W.keepIn K (.ref f8) = true)
    {f9 : Addr} {od9 an9 : Option Addr} {sl9 : Array (Option Value)} {oc9 kV9 dc9 pm9 cd9 ct9 : Value}
    (a9 : PySem.W.nsIn K mainGlobals "_law_sieve" = some (some (.ref f9))) (l9 : K.lookup f9 = some ⟨oc9, od9, .func (PySem.W.fnOf "_law_sieve" "_law_sieve" (defArgs s__law_sieve) (defBody s__law_sieve) (defScope s__law_sieve) .none kV9 dc9 pm9 an9 cd9 ct9), sl9⟩) (c9 : PySem.W.codeIn K cd9 "_law_sieve" = true) (k9 : PySem.W.keepIn K (.ref f9) = true)
    {f10 : Addr} {od10 an10 : Option Addr} {sl10 : Array (Option Value)} {oc10 kV10 dc10 pm10 cd10 ct10 : Value}
    (a10 : PySem.W.nsIn K mainGlobals "_law_odd_sieve" = some (some (.ref f10))) (l10 : K.lookup f10 = some ⟨oc10, od10, .func (PySem.W.fnOf "_law_odd_sieve" "_law_odd_sieve" (defArgs s__law_odd_sieve) (defBody s__law_odd_sieve) (defScope s__law_odd_sieve) .none kV10 dc10 pm10 an10 cd10 ct10), sl10⟩) (c10 : PySem.W.codeIn K cd10 "_law_odd_sieve" = true) (k10 : PySem.W.keepIn K (.ref f10) = true)
    {f11 : Addr} {od11 an11 : Option Addr} {sl11 : Array (Option Value)} {oc11 kV11 dc11 pm11 cd11 ct11 : Value}
    (a11 : PySem.W.nsIn K mainGlobals "_law_bent" = some (some (.ref f11))) (l11 : K.lookup f11 = some ⟨oc11, od11, .func (PySem.W.fnOf "_law_bent" "_law_bent" (defArgs s__law_bent) (defBody s__law_bent) (defScope s__law_bent) .none kV11 dc11 pm11 an11 cd11 ct11), sl11⟩) (c11 : PySem.W.codeIn K cd11 "_law_bent" = true) (k11 : PySem.W.keepIn K (.ref f11) = true)
    {f12 : Addr} {od12 an12 : Option Addr} {sl12 : Array (Option Value)} {oc12 kV12 dc12 pm12 cd12 ct12 : Value}
    (a12 : PySem.W.nsIn K mainGlobals "law" = some (some (.ref f12))) (l12 : K.lookup f12 = some ⟨oc12, od12, .func (PySem.W.fnOf "law" "law" (defArgs s_law) (defBody s_law) (defScope s_law) .none kV12 dc12 pm12 an12 cd12 ct12), sl12⟩) (c12 : PySem.W.codeIn K cd12 "law" = true) (k12 : PySem.W.keepIn K (.ref f12) = true)
    {C0 : Addr} (aC0 : PySem.W.nsIn K mainGlobals "InvalidFilter" = some (some (.ref C0))) (xC0 : PySem.W.excIn K C0 [.type "ValueError", .type "Exception", .type "BaseException", .type "object"] "ValueError.__new__" = true) (kC0 : PySem.W.keepIn K (.ref C0) = true)
    (z0 : PySem.W.nsIn K mainGlobals "int" = some none)
    (z1 : PySem.W.nsIn K mainGlobals "len" = some none)
    (z2 : PySem.W.nsIn K mainGlobals "max" = some none)
    (z3 : PySem.W.nsIn K mainGlobals "min" = some none)
    (z4 : PySem.W.nsIn K mainGlobals "range" = some none)
    (z5 : PySem.W.nsIn K mainGlobals "type" = some none)
    (z6 : PySem.W.nsIn K mainGlobals "tuple" = some none)
    (z7 : PySem.W.nsIn K mainGlobals "list" = some none)
    (z8 : PySem.W.nsIn K mainGlobals "all" = some none)
    (z9 : PySem.W.nsIn K mainGlobals "str" = some none)
    (z10 : PySem.W.nsIn K mainGlobals "bool" = some none)
    : ∃ fd : FuncData, (∀ (s : Shared) (v : Value), BindsTo s fd ⟨[v], []⟩ [("script", v)]) ∧ ∀ base : Heap, K.In base → base.Ns mainGlobals mg → FnOk l.prog w K mg base CX0 202 fa fd ["script"] (spLaw K) := by
  have e := hfa.symm.trans (PySem.W.mg_of X G a12)
  cases e
  have F_is_text := fun_mk (st := s_is_text) l0 c0 k0
  have D_is_text : Df K mg "is_text" s_is_text ["value"] f0 _ := ⟨F_is_text, PySem.W.mg_of X G a0, F_is_text.binds (ps := ["value"]) fun _ _ _ _ _ _ us hl => match us, hl with | [_], _ => rfl⟩
  have F_is_filter := fun_mk (st := s_is_filter) l1 c1 k1
  have D_is_filter : Df K mg "is_filter" s_is_filter ["value"] f1 _ := ⟨F_is_filter, PySem.W.mg_of X G a1, F_is_filter.binds (ps := ["value"]) fun _ _ _ _ _ _ us hl => match us, hl with | [_], _ => rfl⟩
  have F_can_follow := fun_mk (st := s_can_follow) l2 c2 k2
  have D_can_follow : Df K mg "can_follow" s_can_follow ["word", "part"] f2 _ := ⟨F_can_follow, PySem.W.mg_of X G a2, F_can_follow.binds (ps := ["word", "part"]) fun _ _ _ _ _ _ us hl => match us, hl with | [_, _], _ => rfl⟩
  have F__law_bag := fun_mk (st := s__law_bag) l3 c3 k3
  have D__law_bag : Df K mg "_law_bag" s__law_bag ["cell"] f3 _ := ⟨F__law_bag, PySem.W.mg_of X G a3, F__law_bag.binds (ps := ["cell"]) fun _ _ _ _ _ _ us hl => match us, hl with | [_], _ => rfl⟩
  have F__law_draw := fun_mk (st := s__law_draw) l4 c4 k4
  have D__law_draw : Df K mg "_law_draw" s__law_draw ["bag", "upto"] f4 _ := ⟨F__law_draw, PySem.W.mg_of X G a4, F__law_draw.binds (ps := ["bag", "upto"]) fun _ _ _ _ _ _ us hl => match us, hl with | [_, _], _ => rfl⟩
  have F__law_text := fun_mk (st := s__law_text) l5 c5 k5
  have D__law_text : Df K mg "_law_text" s__law_text ["bag"] f5 _ := ⟨F__law_text, PySem.W.mg_of X G a5, F__law_text.binds (ps := ["bag"]) fun _ _ _ _ _ _ us hl => match us, hl with | [_], _ => rfl⟩
  have F__law_near := fun_mk (st := s__law_near) l6 c6 k6
  have D__law_near : Df K mg "_law_near" s__law_near ["bag", "word"] f6 _ := ⟨F__law_near, PySem.W.mg_of X G a6, F__law_near.binds (ps := ["bag", "word"]) fun _ _ _ _ _ _ us hl => match us, hl with | [_, _], _ => rfl⟩
  have F__law_some := fun_mk (st := s__law_some) l7 c7 k7
  have D__law_some : Df K mg "_law_some" s__law_some ["bag", "pool"] f7 _ := ⟨F__law_some, PySem.W.mg_of X G a7, F__law_some.binds (ps := ["bag", "pool"]) fun _ _ _ _ _ _ us hl => match us, hl with | [_, _], _ => rfl⟩
  have F__law_leaf := fun_mk (st := s__law_leaf) l8 c8 k8
  have D__law_leaf : Df K mg "_law_leaf" s__law_leaf ["bag", "room", "pool"] f8 _ := ⟨F__law_leaf, PySem.W.mg_of X G a8, F__law_leaf.binds (ps := ["bag", "room", "pool"]) fun _ _ _ _ _ _ us hl => match us, hl with | [_, _, _], _ => rfl⟩
  have F__law_sieve := fun_mk (st := s__law_sieve) l9 c9 k9
  have D__law_sieve : Df K mg "_law_sieve" s__law_sieve ["bag", "room", "pool", "levels"] f9 _ := ⟨F__law_sieve, PySem.W.mg_of X G a9, F__law_sieve.binds (ps := ["bag", "room", "pool", "levels"]) fun _ _ _ _ _ _ us hl => match us, hl with | [_, _, _, _], _ => rfl⟩
  have F__law_odd_sieve := fun_mk (st := s__law_odd_sieve) l10 c10 k10
  have D__law_odd_sieve : Df K mg "_law_odd_sieve" s__law_odd_sieve ["bag", "sieve", "word"] f10 _ := ⟨F__law_odd_sieve, PySem.W.mg_of X G a10, F__law_odd_sieve.binds (ps := ["bag", "sieve", "word"]) fun _ _ _ _ _ _ us hl => match us, hl with | [_, _, _], _ => rfl⟩
  have F__law_bent := fun_mk (st := s__law_bent) l11 c11 k11
  have D__law_bent : Df K mg "_law_bent" s__law_bent ["bag", "sieve", "word"] f11 _ := ⟨F__law_bent, PySem.W.mg_of X G a11, F__law_bent.binds (ps := ["bag", "sieve", "word"]) fun _ _ _ _ _ _ us hl => match us, hl with | [_, _, _], _ => rfl⟩
  have F_law := fun_mk (st := s_law) l12 c12 k12
  have D_law : Df K mg "law" s_law ["script"] fa _ := ⟨F_law, PySem.W.mg_of X G a12, F_law.binds (ps := ["script"]) fun _ _ _ _ _ _ us hl => match us, hl with | [_], _ => rfl⟩
  have T : Nm mg := ⟨PySem.W.mg_none_of X G z0, PySem.W.mg_none_of X G z1, PySem.W.mg_none_of X G z2, PySem.W.mg_none_of X G z3, PySem.W.mg_none_of X G z4, PySem.W.mg_none_of X G z5, PySem.W.mg_none_of X G z6, PySem.W.mg_none_of X G z7, PySem.W.mg_none_of X G z8, PySem.W.mg_none_of X G z9, PySem.W.mg_none_of X G z10⟩
  have TX : Nx K mg C0 := ⟨xC0, PySem.W.mg_of X G aC0, kC0⟩
  refine ⟨PySem.W.fnOf "law" "law" (defArgs s_law) (defBody s_law) (defScope s_law) .none kV12 dc12 pm12 an12 cd12 ct12, fun s v => .of_eq rfl, fun base _ _ => ?_⟩
  have c_bag := cl__law_bag (P := l.prog) (w := w) (base := base) D__law_bag T
  have c_draw := cl__law_draw (P := l.prog) (w := w) (base := base) D__law_draw T
  have c_text := cl__law_text D__law_text T c_draw
  have c_near := cl__law_near D__law_near T c_draw
  have c_some := cl__law_some D__law_some T c_draw c_near c_text
  have c_leaf := cl__law_leaf D__law_leaf T c_draw c_some
  have c_sieve := cl__law_sieve D__law_sieve T c_draw c_leaf 6
  have c_odd := cl__law_odd_sieve D__law_odd_sieve T TX c_draw
  have c_bent := cl__law_bent D__law_bent T c_draw c_odd 60
  have c_isf := (both_filter (P := l.prog) (w := w) (base := base) D_is_text D_is_filter D_can_follow T 100).1
  exact cl_law D_law T c_bag c_draw c_some c_sieve c_bent c_isf
end
end Kq
open PySem PySem.W PyProof.Rows in
set_option maxRecDepth 100000 in
set_option maxHeartbeats 0 in
theorem PySem.Challenge.cw_pageskips_k10_filters_told_holds : PySem.Challenge.rw_pageskips_k10_filters_told.Holds := by
  w_on; o_law; k_head; (case hw => w_witness2)
  k_fill
  refine L2.walk_of (l := PySem.Challenge.rw_pageskips_k10_filters_told) (n := 63) (k := 202) (x := "script") (CX := fun _ => L2.CX0) (sp := fun w => Kq.spLaw _) rfl (by decide) rfl ⟨rfl, by decide, by decide⟩ (fun w h Y => PySem.W.kIn_of Y) ?F (fun _ _ a ns hl _ hS => ⟨a, ns, rfl, hS, hl, fun _ => rfl⟩) (fun _ _ _ _ _ h => h)
  case F =>
    intro w mg fa h KX G hmg
    refine' Kq.all_mk KX G hmg ?a0 ?l0 ?c0 ?k0 ?a1 ?l1 ?c1 ?k1 ?a2 ?l2 ?c2 ?k2 ?a3 ?l3 ?c3 ?k3 ?a4 ?l4 ?c4 ?k4 ?a5 ?l5 ?c5 ?k5 ?a6 ?l6 ?c6 ?k6 ?a7 ?l7 ?c7 ?k7 ?a8 ?l8 ?c8 ?k8 ?a9 ?l9 ?c9 ?k9 ?a10 ?l10 ?c10 ?k10 ?a11 ?l11 ?c11 ?k11 ?a12 ?l12 ?c12 ?k12 ?aC0 ?xC0 ?kC0 ?z0 ?z1 ?z2 ?z3 ?z4 ?z5 ?z6 ?z7 ?z8 ?z9 ?z10
    (case a0 => k_is)
    (case l0 => k_is)
    (case c0 => k_is)
    (case k0 => k_is)
    (case a1 => k_is)
    (case l1 => k_is)
    (case c1 => k_is)
    (case k1 => k_is)
    (case a2 => k_is)
    (case l2 => k_is)
    (case c2 => k_is)
    (case k2 => k_is)
    (case a3 => k_is)
    (case l3 => k_is)
    (case c3 => k_is)
    (case k3 => k_is)
    (case a4 => k_is)
    (case l4 => k_is)
    (case c4 => k_is)
    (case k4 => k_is)
    (case a5 => k_is)
    (case l5 => k_is)
    (case c5 => k_is)
    (case k5 => k_is)
    (case a6 => k_is)
    (case l6 => k_is)
    (case c6 => k_is)
    (case k6 => k_is)
    (case a7 => k_is)
    (case l7 => k_is)
    (case c7 => k_is)
    (case k7 => k_is)
    (case a8 => k_is)
    (case l8 => k_is)
    (case c8 => k_is)
    (case k8 => k_is)
    (case a9 => k_is)
    (case l9 => k_is)
    (case c9 => k_is)
    (case k9 => k_is)
    (case a10 => k_is)
    (case l10 => k_is)
    (case c10 => k_is)
    (case k10 => k_is)
    (case a11 => k_is)
    (case l11 => k_is)
    (case c11 => k_is)
    (case k11 => k_is)
    (case a12 => k_is)
    (case l12 => k_is)
    (case c12 => k_is)
    (case k12 => k_is)
    (case aC0 => k_is)
    (case xC0 => k_exc)
    (case kC0 => k_is)
    (case z0 => k_is)
    (case z1 => k_is)
    (case z2 => k_is)
    (case z3 => k_is)
    (case z4 => k_is)
    (case z5 => k_is)
    (case z6 => k_is)
    (case z7 => k_is)
    (case z8 => k_is)
    (case z9 => k_is)
    (case z10 => k_is)

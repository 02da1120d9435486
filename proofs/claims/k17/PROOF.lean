import PyProof.Rows.All
import Wide.All
import OpenK.AllK
import Wide.FinOn
import HandS.ForMost
import HandS.Wide
import HandS.TupAny
import HandS.ExcValue
import HandS.Style
import HandS.More
import HandS.Defaults
import HandS.EndBits
import HandS.Flow
import HandS.Zip
import HandS.Star
import HandS.StrMore
import HandS.Set
import HandS.SetTxt0
import HandS.IsInst
import HandS.ExcIs
import KE.KRevSl
import PySem.Challenge.RW_pageskips_k17_rules
set_option Elab.async false
set_option linter.all false
set_option maxRecDepth 100000
set_option maxHeartbeats 2000000
namespace Pg
open PySem PySem.Spec PyProof.Rows L2
/-! ### heaps: what a piece of the program keeps -/
/-- all that was tracked outside of S stands as it was; in S lists stay lists -/
structure Stp (S : List Addr) (H H' : Hp) : Prop where
  kp : ∀ a o, a ∉ S → H a = some o → H' a = some o
  ls : ∀ a xs, H a = some (.lst xs) → ∃ ys, H' a = some (.lst ys)
theorem Stp.refl (S : List Addr) (H : Hp) : Stp S H H := ⟨fun _ _ _ h => h, fun _ xs h => ⟨xs, h⟩⟩
theorem Stp.trans {S : List Addr} {H H1 H2 : Hp} (a : Stp S H H1) (b : Stp S H1 H2) : Stp S H H2 :=
  ⟨fun x o n h => b.kp x o n (a.kp x o n h), fun x xs h => by
    obtain ⟨ys, h1⟩ := a.ls x xs h
    exact b.ls x ys h1⟩
theorem Stp.sub {S S' : List Addr} {H H' : Hp} (a : Stp S H H') (h : ∀ x ∈ S, x ∈ S') : Stp S' H H' :=
  ⟨fun x o n q => a.kp x o (fun m => n (h x m)) q, a.ls⟩
theorem Stp.nil {S : List Addr} {H H' : Hp} (a : Stp [] H H') : Stp S H H' := a.sub fun _ h => nomatch h
theorem Stp.new {H : Hp} {p : Addr} {o : HO} (h : H p = none) (S : List Addr) : Stp S H (upd H p o) :=
  ⟨fun x u _ q => by rw [upd_ne (ne_of_none q h)]; exact q, fun x xs q => ⟨xs, by rw [upd_ne (ne_of_none q h)]; exact q⟩⟩
theorem Stp.put {S : List Addr} {H : Hp} {p : Addr} {ys : List V} (m : p ∈ S) : Stp S H (upd H p (.lst ys)) :=
  ⟨fun x u n q => by
    rw [upd_ne (fun e => n (by rw [e]; exact m))]
    exact q, fun x xs q => by
    by_cases e : x = p
    · subst e
      exact ⟨ys, upd_same⟩
    · exact ⟨xs, by rw [upd_ne e]; exact q⟩⟩
/-- a local object: it was not there -/
theorem Stp.loc {S : List Addr} {H H' : Hp} {p : Addr} (h : H p = none) (a : Stp (p :: S) H H') : Stp S H H' :=
  ⟨fun x o n q => a.kp x o (fun m => by
    rcases List.mem_cons.mp m with e | m
    · exact ne_of_none q h e
    · exact n m) q, a.ls⟩
theorem Stp.fresh {S : List Addr} {H H' : Hp} {p : Addr} (a : Stp S H H') (n : p ∉ S) (h : H' p = none) : H p = none := by
  cases e : H p with
  | none => rfl
  | some o =>
    rw [a.kp p o n e] at h
    cases h
/-- a list that was not there is changed -/
theorem Stp.mut {S : List Addr} {H H' : Hp} {p : Addr} {ys : List V} (a : Stp S H H') (h : H p = none) : Stp S H (upd H' p (.lst ys)) :=
  ⟨fun x o n q => by
    rw [upd_ne (ne_of_none q h)]
    exact a.kp x o n q, fun x xs q => by
    rw [upd_ne (ne_of_none q h)]
    exact a.ls x xs q⟩
theorem Stp.put' {S : List Addr} {H H' : Hp} {p : Addr} {ys : List V} (a : Stp S H H') (m : p ∈ S) : Stp S H (upd H' p (.lst ys)) := a.trans (Stp.put m)
theorem Stp.new' {S : List Addr} {H H' : Hp} {p : Addr} {o : HO} (a : Stp S H H') (h : H' p = none) : Stp S H (upd H' p o) := a.trans (Stp.new h S)
/-- only the list at p may differ -/
def Only (p : Addr) (H H' : Hp) : Prop := ∃ ys, H' = upd H p (.lst ys)
theorem Only.at {p q : Addr} {H H' : Hp} {o : HO} (h : Only p H H') (e : H q = some o) (n : q ≠ p) : H' q = some o := by
  obtain ⟨ys, rfl⟩ := h
  rw [upd_ne n]
  exact e
theorem Only.stp {p : Addr} {H H' : Hp} {S : List Addr} (h : Only p H H') (m : p ∈ S) : Stp S H H' := by
  obtain ⟨ys, rfl⟩ := h
  exact Stp.put m

/-! ### the draws -/
def BagV (x y z : Int) (n : Nat) : Prop := 0 ≤ x ∧ 0 ≤ y ∧ y < 2 ^ 40 ∧ 0 ≤ z ∧ z ≤ (n : Int)
/-- a bag stands at b, from which at most n draws have been made -/
def Bag (H : Hp) (b : Addr) (n : Nat) : Prop := ∃ x y z, H b = some (.lst [.int x, .int y, .int z]) ∧ BagV x y z n
theorem Bag.mono {H : Hp} {b : Addr} {n m : Nat} (h : Bag H b n) (e : n ≤ m) : Bag H b m := by
  obtain ⟨x, y, z, h1, h2, h3, h4, h5, h6⟩ := h
  exact ⟨x, y, z, h1, h2, h3, h4, h5, by omega⟩
theorem Bag.kp {H H' : Hp} {b : Addr} {n : Nat} {S : List Addr} (h : Bag H b n) (s : Stp S H H') (m : b ∉ S) : Bag H' b n := by
  obtain ⟨x, y, z, h1, h2⟩ := h
  exact ⟨x, y, z, s.kp _ _ m h1, h2⟩
theorem Bag.upd {H : Hp} {b p : Addr} {n : Nat} {o : HO} (h : Bag H b n) (e : b ≠ p) : Bag (L2.upd H p o) b n := by
  obtain ⟨x, y, z, h1, h2⟩ := h
  exact ⟨x, y, z, by rw [upd_ne e]; exact h1, h2⟩
theorem Bag.ne {H : Hp} {b p : Addr} {n : Nat} (h : Bag H b n) (q : H p = none) : b ≠ p := by
  obtain ⟨x, y, z, h1, h2⟩ := h
  exact ne_of_none h1 q
theorem cmul {i j : Int} (a b : Nat) (h1 : 0 ≤ i) (h2 : i < 2 ^ a) (h3 : 0 ≤ j) (h4 : j < 2 ^ b) (ha : 0 < a) (hb : 0 < b) (h : a + b ≤ 1000000) : CMulW i j := by
  refine wide_mul (a := a) (b := b) ?_ ?_ ha hb h
  · have e : ((i.natAbs : Nat) : Int) < ((2 ^ a : Nat) : Int) := by
      rw [Int.natAbs_of_nonneg h1, Int.natCast_pow]
      exact h2
    exact Int.ofNat_lt.mp e
  · have e : ((j.natAbs : Nat) : Int) < ((2 ^ b : Nat) : Int) := by
      rw [Int.natAbs_of_nonneg h3, Int.natCast_pow]
      exact h4
    exact Int.ofNat_lt.mp e
theorem cdiv {i j : Int} (b : Nat) (h1 : 0 < j) (h2 : j < 2 ^ b) (hb : 0 < b) (h9 : b ≤ 9000) : CDivW i j := by
  refine wide_div (b := b) h1 ?_ hb h9
  have e : ((j.natAbs : Nat) : Int) < ((2 ^ b : Nat) : Int) := by
    rw [Int.natAbs_of_nonneg (by omega), Int.natCast_pow]
    exact h2
  exact Int.ofNat_lt.mp e
theorem mul_lt {i j : Int} {a b : Nat} (h1 : 0 ≤ i) (h2 : i < 2 ^ a) (h3 : 0 ≤ j) (h4 : j < 2 ^ b) : 0 ≤ i * j ∧ i * j < 2 ^ (a + b) := by
  refine ⟨Int.mul_nonneg h1 h3, ?_⟩
  have e1 : i * j ≤ i * 2 ^ b := Int.mul_le_mul_of_nonneg_left (Int.le_of_lt h4) h1
  have hp : (0 : Int) < 2 ^ b := Int.pow_pos (by omega)
  have e2 : i * 2 ^ b < 2 ^ a * 2 ^ b := Int.mul_lt_mul_of_pos_right h2 hp
  rw [Int.pow_add]
  omega
/-- a letter for a number -/
theorem genQ {Q : V → Hp → Prop} {H : Hp} {i : Int} (h : ∀ t, t = i → Q (.int t) H) : Q (.int i) H := h i rfl
/-! ### rules of my own -/
section
variable {X : Cx}
/-- 'a' * n -/
theorem op_mul_str : OpR X (binaryOp .Mult) (fun x y H Q => ∃ i j, x = .str i ∧ y = .int j ∧ MulOk i j ∧ Q (.str (Txt.mul i j)) H) := by
  intro pins s σ H x y v u Q I rx ry h
  obtain ⟨i, j, rfl, rfl, hz, q⟩ := h
  obtain ⟨t, rfl⟩ := rx
  obtain ⟨t', rfl⟩ := ry
  exact SB.mul hz (fun t' k => ⟨.str (Txt.mul i j), H, I.tok _, ⟨_, rfl⟩, q⟩)
end
end Pg
namespace Pg
open PySem PySem.Spec PyProof.Rows L2
/-! ### a def of the text: where it stands, what it keeps -/
/-- a def of the text, found by its name -/
structure Df (K : PySem.W.Frag) (mg : Str → Option Value) (x : Str) (st : Stmt) (ps : List Str) (f : Addr) (fd : FuncData) : Prop where
  fn : Fun K x x st f fd
  at_ : mg x = some (.ref f)
  bd : Binds K fd ps []
/-- .. with its promise -/
structure Cl (P : Program) (w : World) (K : PySem.W.Frag) (mg : Str → Option Value) (base : Heap) (k : Nat) (x : Str) (st : Stmt) (ps : List Str) (sp : Sp) : Prop where
  ex : ∃ f fd, Df K mg x st ps f fd ∧ FnOk P w K mg base CX0 k f fd ps sp
theorem Cl.mono {P : Program} {w : World} {K : PySem.W.Frag} {mg : Str → Option Value} {base : Heap} {j k : Nat} {x : Str} {st : Stmt} {ps : List Str} {sp : Sp} (c : Cl P w K mg base j x st ps sp) (h : j ≤ k) : Cl P w K mg base k x st ps sp := by
  obtain ⟨f, fd, D, F⟩ := c.ex
  exact ⟨f, fd, D, F.mono h⟩
theorem Df.cl {P : Program} {w : World} {K : PySem.W.Frag} {mg : Str → Option Value} {base : Heap} {x : Str} {st : Stmt} {f : Addr} {fd : FuncData} {N ps : List Str} {k : Nat} {sp : Sp} (D : Df K mg x st ps f fd) (S : FnScope N ps (defScope st)) (len : ∀ vs H Q E, sp vs H Q E → vs.length = ps.length)
    (hbody : ∀ (cdv : Value) (A : Around) (outer : List Env) (s : Shared) (H : Hp) (vs : List V) (Q : VK) (E : XK), Room k (A.deeper (envOfC x (defScope st) s.heap.objs.size f cdv)) → sp vs H Q E →
      ∃ t, PSs (cxOf CX0 P w K mg base N x (defScope st) f cdv A outer s H E).nox (defBody st) t ∧ t { nx := fun _ H' => Q .non H', rt := Q } (start N vs) H) : Cl P w K mg base (k + 1) x st ps sp :=
  ⟨f, fd, D, D.fn.ok S len hbody⟩
def tCl (sp : Sp) (t : TA) : TE := fun σ H Q => t σ H fun vs H1 => sp vs H1 Q E0
section
variable {X : Cx} {j k : Nat} {st : Stmt} {ps : List Str} {sp : Sp} {x : Str} {p pos : Pos} {e : Expr} {es : List Expr} {t : TA}
theorem pe_cl (c : Cl X.prog X.w X.K X.mg X.base k x st ps sp) (hr : Room j X.A) (hk : k ≤ j) (ha : PA X (e :: es) t) (hg : Gl X x := by rfl) (hdb : (x == ("__debug__" : Str)) = false := by decide)
    (he : starEach (e :: es) X.env = (false, eval e X.env) :: starEach es X.env := by rfl) (hpl : (backTo pos (starEach es X.env)).any (·.1) = false := by rfl) :
    PE X (.Call (.Name x p) (e :: es) [] pos) (tCl sp t) := by
  obtain ⟨f, fd, D, F⟩ := c.ex
  refine ⟨fun pins s σ H Q I h => ?_⟩
  have q := (pe_call (E := E0) (p := p) (F.mono hk) hr hg D.at_ D.fn.kp D.bd .nil pass0 ha hdb he hpl).run pins s σ H Q I
  refine q ?_
  have h' : t σ H (fun vs H1 => sp vs H1 Q E0) := h
  show t σ H fun vs H1 => sp (vs ++ []) H1 Q E0
  simp only [List.append_nil]
  exact h'
theorem pe_cl0 (c : Cl X.prog X.w X.K X.mg X.base k x st ps sp) (hr : Room j X.A) (hk : k ≤ j) (hg : Gl X x := by rfl) (hdb : (x == ("__debug__" : Str)) = false := by decide) :
    PE X (.Call (.Name x p) [] [] pos) (tCl sp tNil) := by
  obtain ⟨f, fd, D, F⟩ := c.ex
  exact pe_call0 (E := E0) (F.mono hk) hr hg D.at_ D.fn.kp D.bd .nil pass0 hdb
/-- f(k = v, ..) -/
def tClK (sp : Sp) (gV : List V → List V → List V) (tk : TA) : TE := fun σ H Q => tk σ H fun zs H1 => sp (gV [] zs) H1 Q E0
theorem pe_clK {ks : List Str} {g : List Value → List Value → List Value} {gV : List V → List V → List V} {kws : List Keyword} {tk : TA} (c : Cl X.prog X.w X.K X.mg X.base k x st ps sp) (hr : Room j X.A) (hk : k ≤ j)
    (hb : ∀ f fd, Fun X.K x x st f fd → KBinds X.K fd ps ks g gV) (hkw : PK X kws tk)
    (hg : Gl X x := by rfl) (hall : (backToKw pos (keywordEach kws X.env)).all (·.1.isSome) = true := by rfl) (hks : (backToKw pos (keywordEach kws X.env)).filterMap (·.1) = ks := by rfl) (hdb : (x == ("__debug__" : Str)) = false := by decide)
    (hpl : ((backTo pos (starEach [] X.env)).any (·.1) || (backToKw pos (keywordEach kws X.env)).any (·.1.isNone)) = false := by rfl) :
    PE X (.Call (.Name x p) [] kws pos) (tClK sp gV tk) := by
  obtain ⟨f, fd, D, F⟩ := c.ex
  refine ⟨fun pins s σ H Q I h => ?_⟩
  refine wpAny_Call_Name_kw (ld_glob I hg D.at_ ?_ hdb)
  refine PySem.W.callWith_KW0 (h₀ := X.base) I.ok.mod.kin D.fn.kp hall ?_ hpl
  refine thn (hkw.run pos pins s σ H _ I h) fun ws s2 ⟨zs, H2, I2, rz, q2⟩ => ⟨I2.kIn, ?_⟩
  rw [hks]
  exact run_fnk (E := E0) (us := []) (vs := []) (F.mono hk) hr (hb f fd D.fn) pass0 I2 .nil rz q2
end
/-- keywords alone, in an order of their own -/
theorem kb_of {K : PySem.W.Frag} {x : Str} {st : Stmt} {f : Addr} {fd : FuncData} {ps ks : List Str} {g : List Value → List Value} {gV : List V → List V} (F : Fun K x x st f fd) (hne : ps ≠ [])
    (h : ∀ (kV doc pm : Value) (an : Option Addr) (cdv ct : Value) (ws : List Value), (g ws).length = ps.length → bindArgs (PySem.W.fnOf x x (defArgs st) (defBody st) (defScope st) .none kV doc pm an cdv ct) ⟨[], ks.zip ws⟩ = pure (ps.zip (g ws)))
    (r : ∀ {zs : List V} {ws : List Value}, Vals zs ws → Vals (gV zs) (g ws)) : KBinds K fd ps ks (fun us ws => match us with | [] => g ws | _ :: _ => []) (fun vs zs => match vs with | [] => gV zs | _ :: _ => []) := by
  obtain ⟨oc, od, kV, doc, pm, an, cdv, ct, osl, rfl, lk, hcd⟩ := F.ex
  refine ⟨fun s us ws _ hl => ?_, fun {vs us zs ws} r1 r2 => ?_⟩
  · cases us with
    | nil => exact .of_eq (h kV doc pm an cdv ct ws hl)
    | cons u us => exact absurd (List.length_eq_zero_iff.mp hl.symm) hne
  · cases r1 with
    | nil => exact r r2
    | cons _ _ => exact .nil
end Pg
namespace Pg
open PySem PySem.Spec PyProof.Rows L2
open Builtin Builtin.Str
/-! ### texts as lists of letters -/
/-- the text of these signs -/
abbrev tx (l : List Nat) : Str := ⟨l.toArray⟩
abbrev Tx (l : List Nat) : V := .str (tx l)
/-- letters a, b, c alone -/
def Abc (l : List Nat) : Prop := ∀ c ∈ l, c = 97 ∨ c = 98 ∨ c = 99
theorem tx_inj {a b : List Nat} (h : tx a = tx b) : a = b := by
  have q : (tx a).cps.toList = (tx b).cps.toList := by rw [h]
  simpa using q
theorem tx_of (s : Str) : ∃ l, s = tx l := ⟨s.cps.toList, by cases s; simp [tx]⟩
theorem tx_len (l : List Nat) : (tx l).length = l.length := by simp [Str.length]
theorem tx_app (a b : List Nat) : tx a ++ tx b = tx (a ++ b) := by
  show (⟨a.toArray ++ b.toArray⟩ : Str) = _
  simp [tx]
theorem tx_cut (l : List Nat) (lo hi : Option Int) : cutS (tx l) lo hi = tx ((l.drop (HT.sIx l.length 0 lo)).take (HT.sIx l.length l.length hi - HT.sIx l.length 0 lo)) := by
  unfold cutS
  rw [tx_len]
theorem tx_upto (l : List Nat) (k : Nat) : cutS (tx l) none (some (k : Int)) = tx (l.take k) := by
  rw [tx_cut, HT.sIx_none, HT.sIx_nat]
  rw [List.drop_zero, Nat.sub_zero]
  rcases Nat.le_total k l.length with h | h
  · rw [Nat.min_eq_left h]
  · rw [Nat.min_eq_right h, List.take_of_length_le (Nat.le_refl _), List.take_of_length_le h]
theorem tx_init (l : List Nat) : cutS (tx l) none (some (-1)) = tx l.dropLast := by
  rw [tx_cut, HT.sIx_none]
  have e : HT.sIx l.length l.length (some (-1)) = l.length - 1 := by
    show (if (-1 : Int) < 0 then ((-1 : Int) + (l.length : Int)).toNat else min (-1 : Int).toNat l.length) = _
    rw [if_pos (by decide)]
    omega
  rw [e, List.drop_zero, Nat.sub_zero, ← List.dropLast_eq_take]
theorem tx_last (l : List Nat) : cutS (tx l) (some (-1)) none = tx (l.drop (l.length - 1)) := by
  rw [tx_cut, HT.sIx_none]
  have e : HT.sIx l.length 0 (some (-1)) = l.length - 1 := by
    show (if (-1 : Int) < 0 then ((-1 : Int) + (l.length : Int)).toNat else min (-1 : Int).toNat l.length) = _
    rw [if_pos (by decide)]
    omega
  rw [e]
  congr 2
  rw [List.take_of_length_le]
  rw [List.length_drop]
  exact Nat.le_refl _
theorem foldl_app_rep {α : Type} (c : α) : ∀ (n : Nat) (acc : Array α), (List.replicate n #[c]).foldl (· ++ ·) acc = acc ++ (List.replicate n c).toArray
  | 0, acc => by simp
  | n + 1, acc => by
    rw [List.replicate_succ, List.foldl_cons, foldl_app_rep c n, List.replicate_succ]
    apply Array.ext'
    simp
theorem tx_mul (c : Nat) (n : Int) : Txt.mul (tx [c]) n = tx (List.replicate n.toNat c) := by
  unfold Txt.mul
  by_cases h : n < 1
  · rw [if_pos h, show n.toNat = 0 by omega]
    rfl
  · rw [if_neg h]
    by_cases h1 : n = 1
    · subst h1
      rfl
    · rw [if_neg (by simp [h1, Str.length])]
      show (⟨(List.replicate n.toNat #[c]).foldl (· ++ ·) #[]⟩ : Str) = _
      rw [foldl_app_rep]
      simp [tx]
theorem mulOk (c : Nat) {n : Int} (h0 : -1000 ≤ n) (h1 : n ≤ 100000) : MulOk (tx [c]) n := by
  refine ⟨by simp; omega, fun a b q => ?_, fun a b => ?_⟩
  · rw [tx_len] at q
    have e : (1 : Int) ≤ (2 ^ 63 - 1) / n := by
      have hp : 0 < n := by omega
      exact (Int.le_ediv_iff_mul_le hp).mpr (by omega)
    have q' : (([c].length : Nat) : Int) = 1 := rfl
    rw [q'] at q
    have e2 : (1 : Int) > (2 ^ 63 - 1) / n := q
    exact absurd e (by omega)
  · rw [tx_len]
    have e : ([c].length * n.toNat) ≤ sizeLine := Nat.le_trans (show [c].length * n.toNat ≤ 100000 by simp; omega) (by decide)
    unfold tooLong
    simpa using e
theorem foldl_app {α : Type} : ∀ (ps : List (List α)) (acc : Array α), (ps.map List.toArray).foldl (fun a p => a ++ p) acc = acc ++ ps.flatten.toArray
  | [], acc => by simp
  | p :: ps, acc => by
    rw [List.map_cons, List.foldl_cons, foldl_app ps, List.flatten_cons]
    apply Array.ext'
    simp
theorem join_abc (cs : List Nat) : Txt.join (tx []) (cs.map fun c => tx [c]) = tx cs := by
  cases cs with
  | nil => rfl
  | cons c cs =>
    show (⟨((cs.map fun c => tx [c])).foldl (fun acc p => acc ++ (tx []).cps ++ p.cps) (tx [c]).cps⟩ : Str) = _
    have e : ∀ (l : List Nat) (acc : Array Nat), (l.map fun c => tx [c]).foldl (fun acc p => acc ++ (tx []).cps ++ p.cps) acc = acc ++ l.toArray := by
      intro l
      induction l with
      | nil => intro acc; simp
      | cons x l ih =>
        intro acc
        rw [List.map_cons, List.foldl_cons, ih]
        apply Array.ext'
        simp
    rw [e]
    simp [tx]
theorem Abc.nil : Abc [] := fun _ h => nomatch h
theorem Abc.app {a b : List Nat} (h : Abc a) (g : Abc b) : Abc (a ++ b) := fun c m => (List.mem_append.mp m).elim (h c) (g c)
theorem Abc.take {a : List Nat} (h : Abc a) (n : Nat) : Abc (a.take n) := fun c m => h c (List.mem_of_mem_take m)
theorem Abc.drop {a : List Nat} (h : Abc a) (n : Nat) : Abc (a.drop n) := fun c m => h c (List.mem_of_mem_drop m)
theorem Abc.init {a : List Nat} (h : Abc a) : Abc a.dropLast := fun c m => h c (List.dropLast_subset _ m)
theorem Abc.rep (n : Nat) {c : Nat} (h : c = 97 ∨ c = 98 ∨ c = 99) : Abc (List.replicate n c) := fun x m => by
  rw [(List.mem_replicate.mp m).2]
  exact h
theorem Abc.one {c : Nat} (h : c = 97 ∨ c = 98 ∨ c = 99) : Abc [c] := fun x m => by
  rw [List.mem_singleton.mp m]
  exact h
theorem abc_lit : ("abc" : Str) = tx [97, 98, 99] := by decide +kernel
theorem nil_lit : ("" : Str) = tx [] := by decide +kernel
theorem goes_abc (c : Nat) : (tx [97, 98, 99]).cps.contains c = true ↔ (c = 97 ∨ c = 98 ∨ c = 99) := by
  simp [tx]
/-- strip('abc') leaves nothing just of letters alone -/
theorem strip_abc (l : List Nat) : (Txt.stripChars (tx l) (tx [97, 98, 99]) = tx []) ↔ Abc l := by
  unfold Txt.stripChars
  rw [stripBy_eq]
  obtain ⟨a1, a2, a3⟩ := lo_facts (tx [97, 98, 99]).cps.contains (tx l)
  obtain ⟨b1, b2, b3, b4⟩ := hi_facts (tx [97, 98, 99]).cps.contains (tx l) _ a1
  generalize stripLo (tx [97, 98, 99]).cps.contains true (tx l) = lo at *
  generalize stripHi (tx [97, 98, 99]).cps.contains true (tx l) lo = hi at *
  have gd : ∀ k, (tx l).cps.getD k 0 = l.getD k 0 := fun k => by rw [← getD_list]
  have hlen : (tx l).length = l.length := tx_len l
  rw [hlen] at a1 a3 b2 b3
  have size : (strSub (tx l) lo hi).length = hi - lo := by
    unfold strSub Str.length
    simp
    omega
  constructor
  · intro h
    have e : hi - lo = 0 := by rw [← size, h]; rfl
    have e2 : hi = lo := by omega
    subst e2
    have all : ∀ k, k < l.length → (tx [97, 98, 99]).cps.contains (l.getD k 0) = true := fun k hk => by
      rw [← gd]
      by_cases q : k < hi
      · exact a2 k q
      · exact b3 k (by omega) hk
    intro c m
    obtain ⟨k, hk, rfl⟩ := List.mem_iff_getElem.mp m
    have := all k hk
    rw [List.getD_eq_getElem?_getD, List.getElem?_eq_getElem hk] at this
    exact (goes_abc _).mp this
  · intro h
    have e : lo = l.length := by
      rcases a3 with e | e
      · exact e
      · by_cases q : lo < l.length
        · rw [gd, List.getD_eq_getElem?_getD, List.getElem?_eq_getElem q] at e
          have := (goes_abc _).mpr (h _ (List.getElem_mem q))
          rw [Option.getD_some] at e
          rw [e] at this
          cases this
        · omega
    have z : (strSub (tx l) lo hi).length = 0 := by omega
    have : (strSub (tx l) lo hi).cps = #[] := Array.eq_empty_of_size_eq_zero z
    cases hh : strSub (tx l) lo hi with
    | mk c =>
      rw [hh] at this
      show (⟨c⟩ : Str) = ⟨#[]⟩
      rw [show c = #[] from this]
/-! ### picking -/
theorem pick {α : Type} {xs : List α} {d : Int} (h0 : 0 ≤ d) (h1 : d < (xs.length : Int)) : ∃ v, v ∈ xs ∧ atI xs d = some v := by
  obtain ⟨k, rfl⟩ := Int.eq_ofNat_of_zero_le h0
  have hk : k < xs.length := by omega
  exact ⟨xs[k], List.getElem_mem hk, atI_nat (List.getElem?_eq_getElem hk)⟩
theorem pick_int {ns : List Int} {d : Int} (h0 : 0 ≤ d) (h1 : d < (ns.length : Int)) : ∃ v, v ∈ ns ∧ atI (ns.map V.int) d = some (.int v) := by
  obtain ⟨v, m, e⟩ := pick (xs := ns.map V.int) h0 (by rw [List.length_map]; exact h1)
  obtain ⟨n, hn, rfl⟩ := List.mem_map.mp m
  exact ⟨n, hn, e⟩
theorem at0 {α : Type} {a : α} {l : List α} : atI (a :: l) 0 = some a := atI_nat (j := 0) rfl
theorem at1 {α : Type} {a b : α} {l : List α} : atI (a :: b :: l) 1 = some b := atI_nat (j := 1) rfl
theorem sz {n : Nat} (h : n ≤ 100000) : n ≤ sizeLine := Nat.le_trans h (by decide)
theorem szt {l : List Nat} (h : l.length ≤ 100000) : (tx l).length ≤ sizeLine := by
  rw [tx_len]
  exact sz h
theorem inV_str (s : Str) : ∀ ws : List Str, inV (.str s) (ws.map V.str) = decide (s ∈ ws)
  | [] => rfl
  | x :: ws => by
    have ih := inV_str s ws
    unfold inV at ih ⊢
    rw [List.map_cons, List.any_cons, ih]
    show ((x == s) || decide (s ∈ ws)) = _
    by_cases e : x = s
    · subst e
      simp
    · have : (x == s) = false := beq_eq_false_iff_ne.mpr e
      rw [this]
      simp
      exact fun q => absurd q.symm e
end Pg
namespace Pg
open PySem PySem.Spec PyProof.Rows L2
/-! ### lists of texts, compared -/
theorem strOk_abc {l : List Nat} (h : Abc l) : PyData.canLay0 (.str (tx l)) = true := by
  unfold PyData.canLay0 PyData.strOk
  simp
  intro c m
  rcases h c m with e | e | e <;> subst e <;> decide
theorem canLay_strs : ∀ {ls : List (List Nat)}, (∀ l ∈ ls, Abc l) → PyData.canLayAll0 (ls.map fun l => .str (tx l)) = true
  | [], _ => rfl
  | l :: ls, h => by
    show (PyData.canLay0 (.str (tx l)) && PyData.canLayAll0 (ls.map fun l => .str (tx l))) = true
    rw [strOk_abc (h l List.mem_cons_self), canLay_strs fun m q => h m (List.mem_cons_of_mem _ q)]
    rfl
theorem depth_strs : ∀ (ls : List (List Nat)), PyData.depthAll (ls.map fun l => .str (tx l)) = 0
  | [] => rfl
  | l :: ls => by
    show max 0 (PyData.depthAll (ls.map fun l => .str (tx l))) = 0
    rw [depth_strs ls]
    rfl
theorem shaped_strs {ls : List (List Nat)} (h : ∀ l ∈ ls, Abc l) : SeqAt.shaped (.list (ls.map fun l => .str (tx l))) = true := by
  unfold SeqAt.shaped
  rw [show PyData.canLay0 (.list (ls.map fun l => .str (tx l))) = true from canLay_strs h]
  rw [show PyData.depth (.list (ls.map fun l => .str (tx l))) = 0 + 1 by show PyData.depthAll _ + 1 = _; rw [depth_strs]]
  rfl
theorem dp_strs {K : PySem.W.Frag} {H : Hp} : ∀ (ls : List (List Nat)), DpAll K H (ls.map Tx) (ls.map fun l => .str (tx l))
  | [] => .nil
  | l :: ls => .cons (.str _) (dp_strs ls)
theorem ne_nil_strs {K : PySem.W.Frag} {H : Hp} {p q : Addr} {ls : List (List Nat)} {Q : VK} (hp : SqL K H p (ls.map Tx)) (h : ∀ l ∈ ls, Abc l) (hq : H q = some (.lst [])) (k : Q (.bl (!ls.isEmpty)) H) : rNeD K (.ref p) (.ref q) H Q := by
  refine ⟨.list (ls.map fun l => .str (tx l)), .list [], .lst hp (dp_strs ls), .lst (SqL.of hq) .nil, shaped_strs h, rfl, ?_⟩
  have e : PyData.eqv (.list (ls.map fun l => .str (tx l))) (.list []) = ls.isEmpty := by
    cases ls with
    | nil => rfl
    | cons l ls => rfl
  rw [e]
  exact k
end Pg
namespace Pg
open PySem PySem.Spec PyProof.Rows L2
/-! ### any values: what they are, as far as the program looks -/
inductive Dt where
  | non | bl (b : Bool) | int (i : Int) | str (l : List Nat) | tup (ds : List Dt) | lst | obj
mutual
def Dt.dep : Dt → Nat
  | .tup ds => Dt.depL ds + 1
  | _ => 0
def Dt.depL : List Dt → Nat
  | [] => 0
  | d :: ds => max d.dep (Dt.depL ds)
end
theorem Dt.dep_mem : ∀ {ds : List Dt} {d : Dt}, d ∈ ds → d.dep ≤ Dt.depL ds
  | e :: ds, d, m => by
    rcases List.mem_cons.mp m with rfl | m
    · exact Nat.le_max_left _ _
    · exact Nat.le_trans (Dt.dep_mem m) (Nat.le_max_right _ _)
theorem Dt.depL_le : ∀ {ds : List Dt} {n : Nat}, (∀ d ∈ ds, d.dep ≤ n) → Dt.depL ds ≤ n
  | [], _, _ => Nat.zero_le _
  | d :: ds, n, h => Nat.max_le.mpr ⟨h d List.mem_cons_self, Dt.depL_le fun e m => h e (List.mem_cons_of_mem _ m)⟩
mutual
inductive Rp (K : PySem.W.Frag) (H : Hp) : V → Dt → Prop
  | non : Rp K H .non .non
  | bl (b : Bool) : Rp K H (.bl b) (.bl b)
  | int (i : Int) : Rp K H (.int i) (.int i)
  | str (l : List Nat) (h : l.length ≤ 100000) : Rp K H (Tx l) (.str l)
  | tup {a : Addr} {vs : List V} {ds : List Dt} : SqT K H a vs → vs.length ≤ 100000 → RpL K H vs ds → Rp K H (.ref a) (.tup ds)
  | lst {a : Addr} {vs : List V} : H a = some (.lst vs) → Rp K H (.ref a) .lst
  | obj {a C : Addr} : H a = some (ExO (.ref C) a) → Rp K H (.ref a) .obj
inductive RpL (K : PySem.W.Frag) (H : Hp) : List V → List Dt → Prop
  | nil : RpL K H [] []
  | cons {v : V} {vs : List V} {d : Dt} {ds : List Dt} : Rp K H v d → RpL K H vs ds → RpL K H (v :: vs) (d :: ds)
end
/-- S has nothing but lists -/
def Lsts (H : Hp) (S : List Addr) : Prop := ∀ p ∈ S, ∃ xs, H p = some (.lst xs)
theorem Lsts.nil {H : Hp} : Lsts H [] := fun _ m => nomatch m
theorem Lsts.one {H : Hp} {p : Addr} {xs : List V} (h : H p = some (.lst xs)) : Lsts H [p] := fun q m => by
  rw [List.mem_singleton.mp m]
  exact ⟨xs, h⟩
theorem Lsts.cons {H : Hp} {p : Addr} {S : List Addr} {xs : List V} (h : H p = some (.lst xs)) (t : Lsts H S) : Lsts H (p :: S) := fun q m => by
  rcases List.mem_cons.mp m with rfl | m
  · exact ⟨xs, h⟩
  · exact t q m
theorem Lsts.stp {H H' : Hp} {S S' : List Addr} (h : Lsts H S) (s : Stp S' H H') : Lsts H' S := fun p m => by
  obtain ⟨xs, e⟩ := h p m
  exact s.ls p xs e
theorem sqt_stp {K : PySem.W.Frag} {H H' : Hp} {S : List Addr} {a : Addr} {vs : List V} (s : Stp S H H') (l : Lsts H S) (h : SqT K H a vs) : SqT K H' a vs := by
  rcases h with (h | ⟨o, h⟩) | h
  · refine .inl (.inl (s.kp a _ (fun m => ?_) h))
    obtain ⟨xs, e⟩ := l a m
    rw [h] at e
    cases e
  · refine .inl (.inr ⟨o, s.kp a _ (fun m => ?_) h⟩)
    obtain ⟨xs, e⟩ := l a m
    rw [h] at e
    cases e
  · exact .inr h
mutual
theorem Rp.stp {K : PySem.W.Frag} {H H' : Hp} {S : List Addr} (s : Stp S H H') (l : Lsts H S) : ∀ {v : V} {d : Dt}, Rp K H v d → Rp K H' v d
  | _, .non, .non => .non
  | _, .bl _, .bl b => .bl b
  | _, .int _, .int i => .int i
  | _, .str _, .str x h => .str x h
  | _, .tup ds, .tup h n r => .tup (sqt_stp s l h) n (RpL.stp s l r)
  | _, .lst, .lst (a := a) (vs := vs) h => by
    obtain ⟨ys, e⟩ := s.ls a vs h
    exact .lst e
  | _, .obj, .obj (a := a) (C := C) h => by
    refine .obj (C := C) (s.kp a _ (fun m => ?_) h)
    obtain ⟨xs, e⟩ := l a m
    rw [h] at e
    cases e
theorem RpL.stp {K : PySem.W.Frag} {H H' : Hp} {S : List Addr} (s : Stp S H H') (l : Lsts H S) : ∀ {vs : List V} {ds : List Dt}, RpL K H vs ds → RpL K H' vs ds
  | _, [], .nil => .nil
  | _, _ :: _, .cons h r => .cons (Rp.stp s l h) (RpL.stp s l r)
end
theorem RpL.len {K : PySem.W.Frag} {H : Hp} : ∀ {vs : List V} {ds : List Dt}, RpL K H vs ds → vs.length = ds.length
  | _, [], .nil => rfl
  | _, _ :: _, .cons _ r => by rw [List.length_cons, List.length_cons, RpL.len r]
theorem RpL.get {K : PySem.W.Frag} {H : Hp} : ∀ {vs : List V} {ds : List Dt} {i : Nat} {v : V}, RpL K H vs ds → vs[i]? = some v → ∃ d, ds[i]? = some d ∧ Rp K H v d
  | _, [], _, _, .nil, e => by simp at e
  | _, d :: _, 0, _, .cons h _, e => by
    simp at e
    subst e
    exact ⟨d, rfl, h⟩
  | _, _ :: _, i + 1, v, .cons _ r, e => RpL.get (i := i) (v := v) r (by simpa using e)
theorem RpL.app {K : PySem.W.Frag} {H : Hp} : ∀ {vs ws : List V} {ds es : List Dt}, RpL K H vs ds → RpL K H ws es → RpL K H (vs ++ ws) (ds ++ es)
  | _, _, [], _, .nil, q => q
  | _, _, _ :: _, _, .cons h r, q => .cons h (RpL.app r q)
theorem RpL.one {K : PySem.W.Frag} {H : Hp} : ∀ {vs : List V} {ds : List Dt}, RpL K H vs ds → vs.length = 1 → ∃ v d, vs = [v] ∧ ds = [d] ∧ Rp K H v d
  | _, [], .nil, h => by simp at h
  | _, [d], .cons h .nil, _ => ⟨_, d, rfl, rfl, h⟩
  | _, _ :: _ :: _, .cons _ (.cons _ _), h => by simp at h
/-! ### type(x), is -/
/-- the name of a value's built-in class; none for an object of the package -/
def Dt.ty : Dt → Option String
  | .non => some "NoneType"
  | .bl _ => some "bool"
  | .int _ => some "int"
  | .str _ => some "str"
  | .tup _ => some "tuple"
  | .lst => some "list"
  | .obj => none
def rTy (K : PySem.W.Frag) : List V → Hp → VK → Prop := fun xs H Q => ∃ x d, xs = [x] ∧ Rp K H x d ∧ ∀ y, (∀ T, d.ty = some T → y = .ty T) → (d.ty = none → ∃ C, y = .ref C) → Q y H
section
variable {X : Cx}
theorem call_type : CallR X (.type "type") (rTy X.K) := by
  intro pins s σ H xs us Q I r h
  obtain ⟨x, d, rfl, rp, q⟩ := h
  have old : ∀ T, TyB X.K H x T → d.ty = some T → wpAny (model X.prog X.w) X.A (call (.type "type") us) (EP X pins σ Q) X.xe s := fun T t e => by
    refine call_type1 pins s σ H [x] us Q I r ⟨x, T, rfl, t, q _ (fun T' e' => ?_) (fun n => ?_)⟩
    · rw [e] at e'
      cases e'
      rfl
    · rw [e] at n
      cases n
  cases rp with
  | non => exact old _ .non rfl
  | bl b => exact old _ (.bl b) rfl
  | int i => exact old _ (.int i) rfl
  | str l hl => exact old _ (.str _) rfl
  | tup hs hn ha => exact old _ (.tup hs) rfl
  | lst hs => exact old _ (.lst (SqL.of hs)) rfl
  | obj ho =>
    rename_i a C
    obtain ⟨u, rfl, rx⟩ := vals1 r
    cases rx
    obtain ⟨⟨oe, vs, e1, ⟨e2, e3⟩, e4, _⟩, _⟩ := I.hok _ _ ho
    obtain ⟨hh, g, dd, t, os⟩ := s
    exact call_type_obj e1 (by rw [e2]; rfl) (by rw [e2]; exact ⟨.ref C, H, I, rfl, q _ (fun T e => nomatch e) (fun _ => ⟨C, rfl⟩)⟩)
def rTyIs (neg : Bool) : R2 := fun x y H Q => ∃ T, y = .ty T ∧ ((∃ T', x = .ty T' ∧ Q (.bl (neg ^^ decide (T' = T))) H) ∨ ∃ C, x = .ref C ∧ Q (.bl neg) H)
theorem op_isTy : OpR X (compareOp .Is) (rTyIs false) := by
  intro pins s σ H x y v u Q I rx ry h
  obtain ⟨T, rfl, ⟨T', rfl, q⟩ | ⟨C, rfl, q⟩⟩ := h
  · exact op_isTyB pins s σ H _ _ _ _ _ I rx ry ⟨T', T, rfl, rfl, by rwa [Bool.false_xor] at q⟩
  · cases (show v = Value.ref C from rx)
    cases (show u = Value.type T from ry)
    exact wpAny_is_other rfl (by intro e; cases e) ⟨.bl false, H, I, rfl, q⟩
theorem op_notTy : OpR X (compareOp .IsNot) (rTyIs true) := by
  intro pins s σ H x y v u Q I rx ry h
  obtain ⟨T, rfl, ⟨T', rfl, q⟩ | ⟨C, rfl, q⟩⟩ := h
  · exact op_notTyB pins s σ H _ _ _ _ _ I rx ry ⟨T', T, rfl, rfl, by rwa [Bool.true_xor] at q⟩
  · cases (show v = Value.ref C from rx)
    cases (show u = Value.type T from ry)
    exact wpAny_isNot_other rfl (by intro e; cases e) ⟨.bl true, H, I, rfl, q⟩
end
/-- type(x) is T, type(x) is not T -/
theorem ty_is {K : PySem.W.Frag} {H : Hp} {x : V} {d : Dt} {T : String} {neg : Bool} {Q : VK} (r : Rp K H x d) (k : Q (.bl (neg ^^ decide (d.ty = some T))) H) : rTy K [x] H fun y H1 => rTyIs neg y (.ty T) H1 Q := by
  refine ⟨x, d, rfl, r, fun y h1 h2 => ⟨T, rfl, ?_⟩⟩
  cases e : d.ty with
  | none =>
    obtain ⟨C, rfl⟩ := h2 e
    refine .inr ⟨C, rfl, ?_⟩
    rw [e] at k
    simpa using k
  | some T' =>
    rw [h1 T' e]
    refine .inl ⟨T', rfl, ?_⟩
    rw [e] at k
    simpa using k
/-! ### type(e) is T as one piece -/
def Mono (te : TE) : Prop := ∀ σ H (Q Q' : VK), (∀ v H', Q v H' → Q' v H') → te σ H Q → te σ H Q'
theorem Mono.var {i : Nat} : Mono (tVar i) := fun σ H Q Q' h ⟨v, e, q⟩ => ⟨v, e, h _ _ q⟩
theorem Mono.c {v : V} : Mono (tC v) := fun σ H Q Q' h q => h _ _ q
theorem Mono.op {r : R2} {ta tb : TE} (ha : Mono ta) (hb : Mono tb) (hr : ∀ x y H (Q Q' : VK), (∀ v H', Q v H' → Q' v H') → r x y H Q → r x y H Q') : Mono (tOp r ta tb) := fun σ H Q Q' h q =>
  ha σ H _ _ (fun x H1 q1 => hb σ H1 _ _ (fun y H2 q2 => hr x y H2 _ _ h q2) q1) q
theorem Mono.ixT {K : PySem.W.Frag} {ta tb : TE} (ha : Mono ta) (hb : Mono tb) : Mono (tOp (rIxT K) ta tb) := Mono.op ha hb fun _ _ _ _ _ h ⟨p, xs, i, v, e1, e2, e3, e4, q⟩ => ⟨p, xs, i, v, e1, e2, e3, e4, h _ _ q⟩
theorem Mono.ixL {K : PySem.W.Frag} {ta tb : TE} (ha : Mono ta) (hb : Mono tb) : Mono (tOp (rIxL K) ta tb) := Mono.op ha hb fun _ _ _ _ _ h ⟨p, xs, i, v, e1, e2, e3, e4, q⟩ => ⟨p, xs, i, v, e1, e2, e3, e4, h _ _ q⟩
def tTyIs (K : PySem.W.Frag) (neg : Bool) (T : String) (te : TE) : TE := fun σ H Q => te σ H fun x H1 => ∃ d, Rp K H1 x d ∧ Q (.bl (neg ^^ decide (d.ty = some T))) H1
def tTTyIs (K : PySem.W.Frag) (neg : Bool) (T : String) (te : TE) : TT := fun σ H Q => te σ H fun x H1 => ∃ d, Rp K H1 x d ∧ Q (neg ^^ decide (d.ty = some T)) H1
section
variable {X : Cx} {e : Expr} {te : TE} {T : String} {x : Str} {p pos q pos2 : Pos}
theorem pe_tyIs (hm : Mono te) (he : PE X e te) (hn : X.mg "type" = none) (hT : X.mg x = none) (hv : bootBuiltins x = some (Value.type T)) (hg : Gl X "type" := by rfl) (hgT : Gl X x := by rfl) (hnn : x ≠ "__name__" := by decide) (hd : (x == ("__debug__" : Str)) = false := by decide)
    (hs : starEach [e] X.env = (false, eval e X.env) :: starEach [] X.env := by rfl) (hpl : (backTo pos (starEach [] X.env)).any (·.1) = false := by rfl) :
    PE X (.Compare (.Call (.Name "type" p) [e] [] pos) [.Is] [.Name x q] pos2) (tTyIs X.K false T te) := by
  have h := pe_cmpR (X := X) (pos := pos2) op_isTy (pe_callTy (p := p) (pos := pos) call_type hg hn (by decide +kernel) (pa_cons he pa_nil (hs := hs)) (he := hs) (hpl := hpl)) (pe_bltn (v := .ty T) (pos := q) hgT hT hv rfl hnn hd) (nomark _)
  refine ⟨fun pins s σ H Q I hw => h.run pins s σ H Q I ?_⟩
  exact hm σ H _ _ (fun v H1 ⟨d, r, k⟩ => ty_is (neg := false) r k) hw
theorem pe_tyNot (hm : Mono te) (he : PE X e te) (hn : X.mg "type" = none) (hT : X.mg x = none) (hv : bootBuiltins x = some (Value.type T)) (hg : Gl X "type" := by rfl) (hgT : Gl X x := by rfl) (hnn : x ≠ "__name__" := by decide) (hd : (x == ("__debug__" : Str)) = false := by decide)
    (hs : starEach [e] X.env = (false, eval e X.env) :: starEach [] X.env := by rfl) (hpl : (backTo pos (starEach [] X.env)).any (·.1) = false := by rfl) :
    PE X (.Compare (.Call (.Name "type" p) [e] [] pos) [.IsNot] [.Name x q] pos2) (tTyIs X.K true T te) := by
  have h := pe_cmpR (X := X) (pos := pos2) op_notTy (pe_callTy (p := p) (pos := pos) call_type hg hn (by decide +kernel) (pa_cons he pa_nil (hs := hs)) (he := hs) (hpl := hpl)) (pe_bltn (v := .ty T) (pos := q) hgT hT hv rfl hnn hd) (nomark _)
  refine ⟨fun pins s σ H Q I hw => h.run pins s σ H Q I ?_⟩
  exact hm σ H _ _ (fun v H1 ⟨d, r, k⟩ => ty_is (neg := true) r k) hw
theorem pt_tyIs (hm : Mono te) (he : PE X e te) (hn : X.mg "type" = none) (hT : X.mg x = none) (hv : bootBuiltins x = some (Value.type T)) (hg : Gl X "type" := by rfl) (hgT : Gl X x := by rfl) (hnn : x ≠ "__name__" := by decide) (hd : (x == ("__debug__" : Str)) = false := by decide)
    (hs : starEach [e] X.env = (false, eval e X.env) :: starEach [] X.env := by rfl) (hpl : (backTo pos (starEach [] X.env)).any (·.1) = false := by rfl) :
    PT X (.Compare (.Call (.Name "type" p) [e] [] pos) [.Is] [.Name x q] pos2) (tTTyIs X.K false T te) := by
  have h := pt_cmpR (X := X) (pos := pos2) op_isTy (pe_callTy (p := p) (pos := pos) call_type hg hn (by decide +kernel) (pa_cons he pa_nil (hs := hs)) (he := hs) (hpl := hpl)) (pe_bltn (v := .ty T) (pos := q) hgT hT hv rfl hnn hd) (nomark _)
  refine ⟨fun pins s σ H Q I hw => h.run pins s σ H Q I ?_⟩
  exact hm σ H _ _ (fun v H1 ⟨d, r, k⟩ => ty_is (neg := false) (Q := fun x H' => ∃ k, x = .bl k ∧ Q k H') r ⟨_, rfl, k⟩) hw
theorem pt_tyNot (hm : Mono te) (he : PE X e te) (hn : X.mg "type" = none) (hT : X.mg x = none) (hv : bootBuiltins x = some (Value.type T)) (hg : Gl X "type" := by rfl) (hgT : Gl X x := by rfl) (hnn : x ≠ "__name__" := by decide) (hd : (x == ("__debug__" : Str)) = false := by decide)
    (hs : starEach [e] X.env = (false, eval e X.env) :: starEach [] X.env := by rfl) (hpl : (backTo pos (starEach [] X.env)).any (·.1) = false := by rfl) :
    PT X (.Compare (.Call (.Name "type" p) [e] [] pos) [.IsNot] [.Name x q] pos2) (tTTyIs X.K true T te) := by
  have h := pt_cmpR (X := X) (pos := pos2) op_notTy (pe_callTy (p := p) (pos := pos) call_type hg hn (by decide +kernel) (pa_cons he pa_nil (hs := hs)) (he := hs) (hpl := hpl)) (pe_bltn (v := .ty T) (pos := q) hgT hT hv rfl hnn hd) (nomark _)
  refine ⟨fun pins s σ H Q I hw => h.run pins s σ H Q I ?_⟩
  exact hm σ H _ _ (fun v H1 ⟨d, r, k⟩ => ty_is (neg := true) (Q := fun x H' => ∃ k, x = .bl k ∧ Q k H') r ⟨_, rfl, k⟩) hw
end
end Pg
namespace Pg
open PySem PySem.Spec PyProof.Rows L2
/-! ### readings are monotone: a piece may be cut off by what it leaves -/
def MonoT (t : TT) : Prop := ∀ σ H (Q Q' : Bool → Hp → Prop), (∀ b H', Q b H' → Q' b H') → t σ H Q → t σ H Q'
def MonoA (t : TA) : Prop := ∀ σ H (Q Q' : List V → Hp → Prop), (∀ vs H', Q vs H' → Q' vs H') → t σ H Q → t σ H Q'
def MonoS (sp : Sp) : Prop := ∀ vs H (Q Q' : VK) E, (∀ v H', Q v H' → Q' v H') → sp vs H Q E → sp vs H Q' E
def MonoR (r : R2) : Prop := ∀ x y H (Q Q' : VK), (∀ v H', Q v H' → Q' v H') → r x y H Q → r x y H Q'
def MonoC (r : List V → Hp → VK → Prop) : Prop := ∀ vs H (Q Q' : VK), (∀ v H', Q v H' → Q' v H') → r vs H Q → r vs H Q'
theorem Mono.cut {te : TE} (m : Mono te) {σ : L2.St} {H : Hp} {Q : VK} (P : V → Hp → Prop) (h : te σ H P) (k : ∀ v H', P v H' → Q v H') : te σ H Q := m σ H P Q k h
theorem MonoT.cut {t : TT} (m : MonoT t) {σ : L2.St} {H : Hp} {Q : Bool → Hp → Prop} (P : Bool → Hp → Prop) (h : t σ H P) (k : ∀ b H', P b H' → Q b H') : t σ H Q := m σ H P Q k h
theorem MonoR.i0 {g : Int → Int → V} : MonoR (rI0 g) := fun _ _ _ _ _ h ⟨i, j, e1, e2, q⟩ => ⟨i, j, e1, e2, h _ _ q⟩
theorem MonoR.i {C : Int → Int → Prop} {g : Int → Int → V} : MonoR (rI C g) := fun _ _ _ _ _ h ⟨i, j, e1, e2, c, q⟩ => ⟨i, j, e1, e2, c, h _ _ q⟩
theorem MonoR.eq : MonoR rEq := fun _ _ _ _ _ h ⟨s, q⟩ => ⟨s, h _ _ q⟩
theorem MonoR.ne : MonoR rNe := fun _ _ _ _ _ h ⟨s, q⟩ => ⟨s, h _ _ q⟩
theorem MonoR.ixL {K : PySem.W.Frag} : MonoR (rIxL K) := fun _ _ _ _ _ h ⟨p, xs, i, v, e1, e2, e3, e4, q⟩ => ⟨p, xs, i, v, e1, e2, e3, e4, h _ _ q⟩
theorem MonoR.ixT {K : PySem.W.Frag} : MonoR (rIxT K) := fun _ _ _ _ _ h ⟨p, xs, i, v, e1, e2, e3, e4, q⟩ => ⟨p, xs, i, v, e1, e2, e3, e4, h _ _ q⟩
theorem MonoR.ixS : MonoR rIxS := fun _ _ _ _ _ h ⟨z, i, c, e1, e2, e3, e4, q⟩ => ⟨z, i, c, e1, e2, e3, e4, h _ _ q⟩
theorem MonoR.inn {K : PySem.W.Frag} {neg : Bool} : MonoR (rIn K neg) := fun _ _ _ _ _ h ⟨p, xs, e1, e2, e3, e4, q⟩ => ⟨p, xs, e1, e2, e3, e4, h _ _ q⟩
theorem MonoR.neD {K : PySem.W.Frag} : MonoR (rNeD K) := fun _ _ _ _ _ h ⟨d, e, a, b, c, f, q⟩ => ⟨d, e, a, b, c, f, h _ _ q⟩
theorem MonoR.eqD {K : PySem.W.Frag} : MonoR (rEqD K) := fun _ _ _ _ _ h ⟨d, e, a, b, c, f, q⟩ => ⟨d, e, a, b, c, f, h _ _ q⟩
theorem MonoR.str {C : Str → Str → Prop} {g : Str → Str → V} : MonoR (fun x y H Q => ∃ i j, x = .str i ∧ y = .str j ∧ C i j ∧ Q (g i j) H) := fun _ _ _ _ _ h ⟨i, j, a, b, c, q⟩ => ⟨i, j, a, b, c, h _ _ q⟩
theorem MonoR.str0 {g : Str → Str → V} : MonoR (fun x y H Q => ∃ i j, x = .str i ∧ y = .str j ∧ Q (g i j) H) := fun _ _ _ _ _ h ⟨i, j, a, b, q⟩ => ⟨i, j, a, b, h _ _ q⟩
theorem Mono.op' {r : R2} {ta tb : TE} (hr : MonoR r) (ha : Mono ta) (hb : Mono tb) : Mono (tOp r ta tb) := Mono.op ha hb hr
theorem Mono.tif {t : TT} {ta tb : TE} (ht : MonoT t) (ha : Mono ta) (hb : Mono tb) : Mono (tIf t ta tb) := fun σ H Q Q' h q => ht σ H _ _ (fun b H1 q1 => by
  cases b with
  | true => exact ha σ H1 _ _ h q1
  | false => exact hb σ H1 _ _ h q1) q
theorem MonoT.test {te : TE} (h : Mono te) : MonoT (tTest te) := fun σ H Q Q' k q => h σ H _ _ (fun x H1 ⟨c, e, q1⟩ => ⟨c, e, k _ _ q1⟩) q
theorem MonoT.b {te : TE} (h : Mono te) : MonoT (tB te) := fun σ H Q Q' k q => h σ H _ _ (fun x H1 ⟨c, e, q1⟩ => ⟨c, e, k _ _ q1⟩) q
theorem MonoT.not {t : TT} (h : MonoT t) : MonoT (tNot t) := fun σ H Q Q' k q => h σ H _ _ (fun b H1 q1 => k _ _ q1) q
theorem MonoT.and {t u : TT} (h : MonoT t) (g : MonoT u) : MonoT (tAnd t u) := fun σ H Q Q' k q => h σ H _ _ (fun b H1 q1 => by
  cases b with
  | true => exact g σ H1 _ _ k q1
  | false => exact k _ _ q1) q
theorem MonoT.or {t u : TT} (h : MonoT t) (g : MonoT u) : MonoT (tOr t u) := fun σ H Q Q' k q => h σ H _ _ (fun b H1 q1 => by
  cases b with
  | true => exact k _ _ q1
  | false => exact g σ H1 _ _ k q1) q
theorem MonoA.nil : MonoA tNil := fun _ _ _ _ h q => h _ _ q
theorem MonoA.cons {te : TE} {ta : TA} (h : Mono te) (g : MonoA ta) : MonoA (tCons te ta) := fun σ H Q Q' k q => h σ H _ _ (fun x H1 q1 => g σ H1 _ _ (fun vs H2 q2 => k _ _ q2) q1) q
theorem Mono.cl {sp : Sp} {ta : TA} (hs : MonoS sp) (ha : MonoA ta) : Mono (tCl sp ta) := fun σ H Q Q' k q => ha σ H _ _ (fun vs H1 q1 => hs vs H1 _ _ E0 k q1) q
theorem Mono.cb {r : List V → Hp → VK → Prop} {ta : TA} (hs : MonoC r) (ha : MonoA ta) : Mono (tCB r ta) := fun σ H Q Q' k q => ha σ H _ _ (fun vs H1 q1 => hs vs H1 _ _ k q1) q
theorem Mono.tup {ta : TA} (ha : MonoA ta) : Mono (tTup ta) := fun σ H Q Q' k q => ha σ H _ _ (fun vs H1 ⟨l, q1⟩ => ⟨l, fun p hp => k _ _ (q1 p hp)⟩) q
theorem Mono.lst {ta : TA} (ha : MonoA ta) : Mono (tLst ta) := fun σ H Q Q' k q => ha σ H _ _ (fun vs H1 ⟨l, q1⟩ => ⟨l, fun p hp => k _ _ (q1 p hp)⟩) q
/-- one of two constants -/
theorem ite_tC {c : Prop} [Decidable c] {a b : V} {σ : L2.St} {H : Hp} {Q : VK} (h : ∀ v, v = a ∨ v = b → Q v H) : if c then tC a σ H Q else tC b σ H Q := by
  split
  · exact h a (.inl rfl)
  · exact h b (.inr rfl)
theorem MonoC.two {g : Int → Int → V} : MonoC (fun xs H Q => ∃ i j, xs = [.int i, .int j] ∧ Q (g i j) H) := fun _ _ _ _ h ⟨i, j, e, q⟩ => ⟨i, j, e, h _ _ q⟩
theorem MonoC.int1 : MonoC (fun xs H Q => (∃ i, xs = [.int i] ∧ Q (.int i) H) ∨ ∃ k : Bool, xs = [.bl k] ∧ Q (.int (if k then 1 else 0)) H) := fun _ _ _ _ h q => by
  rcases q with ⟨i, e, q⟩ | ⟨i, e, q⟩
  · exact .inl ⟨i, e, h _ _ q⟩
  · exact .inr ⟨i, e, h _ _ q⟩
theorem RpL.strs {K : PySem.W.Frag} {H : Hp} : ∀ {ws : List (List Nat)}, (∀ l ∈ ws, l.length ≤ 100000) → RpL K H (ws.map Tx) (ws.map Dt.str)
  | [], _ => .nil
  | l :: ws, h => .cons (.str l (h l List.mem_cons_self)) (RpL.strs fun m q => h m (List.mem_cons_of_mem _ q))
theorem dep_strs : ∀ (ws : List (List Nat)), Dt.depL (ws.map Dt.str) = 0
  | [] => rfl
  | l :: ws => by
    show max 0 (Dt.depL (ws.map Dt.str)) = 0
    rw [dep_strs ws]
    rfl
/-- a text of the program's own as a value -/
theorem Rp.lit {K : PySem.W.Frag} {H : Hp} (s : Str) (h : s.cps.toList.length ≤ 100000 := by decide +kernel) : Rp K H (.str s) (.str s.cps.toList) := by
  have := Rp.str (K := K) (H := H) s.cps.toList h
  have e : tx s.cps.toList = s := by cases s <;> simp [tx]
  rwa [Tx, e] at this
end Pg
namespace Pg
open PySem PySem.Spec PyProof.Rows L2
/-! ### expressions that build data: what they evaluate to -/
def EvD (K : PySem.W.Frag) (te : TE) (σ : L2.St) (H : Hp) (d : Dt) : Prop := ∀ H1, Stp [] H H1 → ∀ Q : VK, (∀ v H2, Stp [] H1 H2 → Rp K H2 v d → Q v H2) → te σ H1 Q
def EvDA (K : PySem.W.Frag) (ta : TA) (σ : L2.St) (H : Hp) (ds : List Dt) : Prop := ∀ H1, Stp [] H H1 → ∀ Q : List V → Hp → Prop, (∀ vs H2, Stp [] H1 H2 → RpL K H2 vs ds → Q vs H2) → ta σ H1 Q
section
variable {K : PySem.W.Frag} {te : TE} {ta : TA} {σ : L2.St} {H : Hp} {d : Dt} {ds : List Dt}
theorem EvD.bl {b : Bool} : EvD K (tC (.bl b)) σ H (.bl b) := fun H1 _ _ k => k _ H1 (Stp.refl _ _) (.bl b)
theorem EvD.int {i : Int} : EvD K (tC (.int i)) σ H (.int i) := fun H1 _ _ k => k _ H1 (Stp.refl _ _) (.int i)
theorem EvD.non : EvD K (tC .non) σ H .non := fun H1 _ _ k => k _ H1 (Stp.refl _ _) .non
theorem EvD.str {s : Str} (h : s.cps.toList.length ≤ 100000 := by decide +kernel) : EvD K (tC (.str s)) σ H (.str s.cps.toList) := fun H1 _ _ k => k _ H1 (Stp.refl _ _) (Rp.lit s h)
theorem EvD.var {i : Nat} {v : V} (r : Rp K H v d) (e : σ[i]? = some (some v) := by rfl) : EvD K (tVar i) σ H d := fun H1 s _ k => ⟨v, e, k v H1 (Stp.refl _ _) (r.stp s Lsts.nil)⟩
theorem EvDA.nil : EvDA K tNil σ H [] := fun H1 _ _ k => k [] H1 (Stp.refl _ _) .nil
theorem EvDA.cons (h : EvD K te σ H d) (g : EvDA K ta σ H ds) : EvDA K (tCons te ta) σ H (d :: ds) := fun H1 s Q k =>
  h H1 s _ fun v H2 s2 r => g H2 (s.trans s2) _ fun vs H3 s3 rs => k (v :: vs) H3 (s2.trans s3) (.cons (r.stp s3 Lsts.nil) rs)
theorem EvD.tup (h : EvDA K ta σ H ds) (hl : ds.length ≤ 1000) : EvD K (tTup ta) σ H (.tup ds) := fun H1 s Q k =>
  h H1 s _ fun vs H2 s2 rs => ⟨sz (by rw [rs.len]; omega), fun p np => k _ _ (s2.new' np) (.tup (SqT.of upd_same) (by rw [rs.len]; omega) (rs.stp (Stp.new np []) Lsts.nil))⟩
theorem EvD.lst (h : EvDA K ta σ H ds) (hl : ds.length ≤ 1000) : EvD K (tLst ta) σ H .lst := fun H1 s Q k =>
  h H1 s _ fun vs H2 s2 rs => ⟨sz (by rw [rs.len]; omega), fun p np => k _ _ (s2.new' np) (.lst upd_same)⟩
theorem EvD.exc {C : Addr} (h : EvD K te σ H d) : EvD K (fun σ H Q => te σ H fun _ H1 => ∀ a, H1 a = none → Q (.ref a) (upd H1 a (ExO (.ref C) a))) σ H .obj := fun H1 s Q k =>
  h H1 s _ fun v H2 s2 _ => fun a na => k _ _ (s2.new' na) (.obj upd_same)
theorem EvD.cat {tb : TE} {a b : List Nat} (h : EvD K te σ H (.str a)) (g : EvD K tb σ H (.str b)) (hl : a.length + b.length ≤ 100000) : EvD K (tOp (fun x y H Q => ∃ i j, x = .str i ∧ y = .str j ∧ i.length + j.length ≤ sizeLine ∧ Q (.str (i ++ j)) H) te tb) σ H (.str (a ++ b)) := fun H1 s Q k =>
  h H1 s _ fun v H2 s2 r => g H2 (s.trans s2) _ fun u H3 s3 q => by
    cases r with
    | str _ h1 =>
      cases q with
      | str _ h2 =>
        refine ⟨tx a, tx b, rfl, rfl, by rw [tx_len, tx_len]; exact sz hl, ?_⟩
        rw [tx_app]
        exact k _ _ (s2.trans s3) (.str _ (by rw [List.length_append]; exact hl))
theorem EvD.pow {i j : Int} (h : CPow i j) : EvD K (tOp (rI CPow fun i j => .int (i ^ j.toNat)) (tC (.int i)) (tC (.int j))) σ H (.int (i ^ j.toNat)) := fun H1 s Q k =>
  ⟨i, j, rfl, rfl, h, k _ _ (Stp.refl _ _) (.int _)⟩
theorem EvD.neg {i : Int} : EvD K (tUn (rU fun i => .int (-i)) (tC (.int i))) σ H (.int (-i)) := fun H1 s Q k => ⟨i, rfl, k _ _ (Stp.refl _ _) (.int _)⟩
/-- list(t) of a tuple -/
theorem EvD.list (h : EvD K te σ H (.tup ds)) : EvD K (tCB (fun xs H Q => ∃ p ys, xs = [.ref p] ∧ (SqL K H p ys ∨ SqT K H p ys) ∧ ∀ l, H l = none → Q (.ref l) (upd H l (.lst ys))) (tCons te tNil)) σ H .lst := fun H1 s Q k =>
  h H1 s _ fun v H2 s2 r => by
    cases r with
    | tup hs hn rl => exact ⟨_, _, rfl, .inr hs, fun l nl => k _ _ (s2.new' nl) (.lst upd_same)⟩
theorem EvDA.use (h : EvDA K ta σ H ds) {Q : List V → Hp → Prop} (k : ∀ vs H2, Stp [] H H2 → RpL K H2 vs ds → Q vs H2) : ta σ H Q := h H (Stp.refl _ _) Q k
theorem EvD.use (h : EvD K te σ H d) {Q : VK} (k : ∀ v H2, Stp [] H H2 → Rp K H2 v d → Q v H2) : te σ H Q := h H (Stp.refl _ _) Q k
/-- a new list of data -/
theorem EvDA.newl (h : EvDA K ta σ H ds) (hl : ds.length ≤ 1000) {Q : VK} (k : ∀ p vs H2, Stp [] H H2 → H p = none → H2 p = some (.lst vs) → RpL K H2 vs ds → Q (.ref p) H2) : tLst ta σ H Q :=
  h.use fun vs H2 s rs => ⟨sz (by rw [rs.len]; omega), fun p np => k p vs _ (s.new' np) (s.fresh (fun m => nomatch m) np) upd_same (rs.stp (Stp.new np []) Lsts.nil)⟩
end
/-! ### tuples put together, cut -/
theorem catA_use {K : PySem.W.Frag} {H : Hp} {a b : Addr} {xs ys : List V} {Q : VK} (ha : SqT K H a xs) (hb : SqT K H b ys) (hl : xs.length + ys.length ≤ 100000) (k : ∀ p H', Stp [] H H' → SqT K H' p (xs ++ ys) → Q (.ref p) H') : rCatA K (.ref a) (.ref b) H Q := by
  refine ⟨a, b, xs, ys, rfl, rfl, ha, hb, sz hl, fun e => ?_, fun _ e => ?_, fun _ _ p np => ?_⟩
  · subst e
    exact k b H (Stp.refl _ _) hb
  · subst e
    refine k a H (Stp.refl _ _) ?_
    rw [List.append_nil]
    exact ha
  · exact k p _ (Stp.new np _) (SqT.of upd_same)
theorem slA_use {K : PySem.W.Frag} {H : Hp} {a : Addr} {xs : List V} {lo hi : Option Int} {Q : VK} (ha : SqT K H a xs) (k : ∀ p H', Stp [] H H' → SqT K H' p (cutV xs lo hi) → Q (.ref p) H') : rSlA K (.ref a) lo hi H Q := by
  refine ⟨a, xs, rfl, ha, fun ⟨e1, e2⟩ => ?_, fun _ p np => ?_⟩
  · refine k a H (Stp.refl _ _) ?_
    have e : cutV xs lo hi = xs := by
      unfold cutV
      rw [e1, e2, List.drop_zero, Nat.sub_zero, List.take_length]
    rw [e]
    exact ha
  · exact k p _ (Stp.new np _) (SqT.of upd_same)
theorem cut_upto {xs : List V} (k : Nat) : cutV xs none (some (k : Int)) = xs.take k := by
  unfold cutV
  rw [HT.sIx_none, HT.sIx_nat, List.drop_zero, Nat.sub_zero]
  rcases Nat.le_total k xs.length with h | h
  · rw [Nat.min_eq_left h]
  · rw [Nat.min_eq_right h, List.take_of_length_le (Nat.le_refl _), List.take_of_length_le h]
theorem cut_from {xs : List V} (k : Nat) : cutV xs (some (k : Int)) none = xs.drop k := by
  unfold cutV
  rw [HT.sIx_none, HT.sIx_nat]
  rcases Nat.le_total k xs.length with h | h
  · rw [Nat.min_eq_left h, List.take_of_length_le (by rw [List.length_drop]; exact Nat.le_refl _)]
  · rw [Nat.min_eq_right h, List.drop_length, List.drop_of_length_le h, List.take_nil]
theorem RpL.take {K : PySem.W.Frag} {H : Hp} : ∀ {vs : List V} {ds : List Dt} (n : Nat), RpL K H vs ds → RpL K H (vs.take n) (ds.take n)
  | _, _, 0, _ => by rw [List.take_zero, List.take_zero]; exact .nil
  | _, [], _ + 1, .nil => .nil
  | _, _ :: _, n + 1, .cons h r => .cons h (RpL.take n r)
theorem RpL.drop {K : PySem.W.Frag} {H : Hp} : ∀ {vs : List V} {ds : List Dt} (n : Nat), RpL K H vs ds → RpL K H (vs.drop n) (ds.drop n)
  | _, _, 0, r => r
  | _, [], _ + 1, .nil => .nil
  | _, _ :: _, n + 1, .cons _ r => RpL.drop n r
/-! ### heads of statements -/
theorem asg_name {te : TE} {i : Nat} {u : TS} {D : Ends} {σ : L2.St} {H : Hp} (h : te σ H fun x H1 => u D (σ.set i (some x)) H1) : tSeq (tAsg te (gName i)) u D σ H := h
theorem op_var {r : R2} {i : Nat} {tb : TE} {σ : L2.St} {H : Hp} {Q : VK} {v : V} (e : σ[i]? = some (some v)) (h : tb σ H fun y H2 => r v y H2 Q) : tOp r (tVar i) tb σ H Q := ⟨v, e, h⟩
theorem nopart {σ : L2.St} {H : Hp} {Q : Option Int → Hp → Prop} (h : Q none H) : tNoPart σ H Q := h
end Pg
namespace Pv
open PySem PySem.Spec PyProof.Rows L2 Pg
/-! ### values with all that is in them -/
inductive D where
  | non | bl (b : Bool) | int (i : Int) | str (l : List Nat) | tup (ds : List D) | lst (ds : List D) | obj (C : Addr)
mutual
def D.old : D → Dt
  | .non => .non
  | .bl b => .bl b
  | .int i => .int i
  | .str l => .str l
  | .tup ds => .tup (D.olds ds)
  | .lst _ => .lst
  | .obj _ => .obj
def D.olds : List D → List Dt
  | [] => []
  | d :: ds => d.old :: D.olds ds
end
def D.ty (d : D) : Option String := d.old.ty
/-- isinstance(d, T) -/
def D.isi (T : String) : D → Bool
  | .bl _ => T == "bool" || T == "int"
  | .int _ => T == "int"
  | .str _ => T == "str"
  | .tup _ => T == "tuple"
  | .lst _ => T == "list"
  | _ => false
/-- what the class of an object says -/
structure OkC (K : PySem.W.Frag) (C : Addr) : Prop where
  exc : ExcC K C
  is_str : PySem.W.kitOne K (.ref C) (.type "str") = some false
  is_int : PySem.W.kitOne K (.ref C) (.type "int") = some false
  is_bool : PySem.W.kitOne K (.ref C) (.type "bool") = some false
  is_tuple : PySem.W.kitOne K (.ref C) (.type "tuple") = some false
  is_list : PySem.W.kitOne K (.ref C) (.type "list") = some false
mutual
/-- v is d; no list in it stands at an address of S -/
inductive Rv (K : PySem.W.Frag) (S : List Addr) (H : Hp) : V → D → Prop
  | non : Rv K S H .non .non
  | bl (b : Bool) : Rv K S H (.bl b) (.bl b)
  | int (i : Int) : Rv K S H (.int i) (.int i)
  | str (l : List Nat) (h : l.length ≤ 100000) : Rv K S H (Tx l) (.str l)
  | tup {a : Addr} {vs : List V} {ds : List D} : SqT K H a vs → vs.length ≤ 100000 → RvL K S H vs ds → Rv K S H (.ref a) (.tup ds)
  | lst {a : Addr} {vs : List V} {ds : List D} : H a = some (.lst vs) → a ∉ S → vs.length ≤ 100000 → RvL K S H vs ds → Rv K S H (.ref a) (.lst ds)
  | obj {a C : Addr} : H a = some (ExO (.ref C) a) → OkC K C → Rv K S H (.ref a) (.obj C)
inductive RvL (K : PySem.W.Frag) (S : List Addr) (H : Hp) : List V → List D → Prop
  | nil : RvL K S H [] []
  | cons {v : V} {vs : List V} {d : D} {ds : List D} : Rv K S H v d → RvL K S H vs ds → RvL K S H (v :: vs) (d :: ds)
end
section
variable {K : PySem.W.Frag} {S : List Addr} {H H' : Hp}
mutual
theorem Rv.old : ∀ {v : V} {d : D}, Rv K S H v d → Rp K H v d.old
  | _, .non, .non => .non
  | _, .bl _, .bl b => .bl b
  | _, .int _, .int i => .int i
  | _, .str _, .str x h => .str x h
  | _, .tup ds, .tup h n r => .tup h n (RvL.old r)
  | _, .lst _, .lst h _ _ _ => .lst h
  | _, .obj _, .obj h _ => .obj h
theorem RvL.old : ∀ {vs : List V} {ds : List D}, RvL K S H vs ds → RpL K H vs (D.olds ds)
  | _, [], .nil => .nil
  | _, _ :: _, .cons h r => .cons (Rv.old h) (RvL.old r)
end
mutual
theorem Rv.fr {S' : List Addr} (s : Stp S' H H') (l : Lsts H S') (sub : ∀ x ∈ S', x ∈ S) : ∀ {v : V} {d : D}, Rv K S H v d → Rv K S H' v d
  | _, .non, .non => .non
  | _, .bl _, .bl b => .bl b
  | _, .int _, .int i => .int i
  | _, .str _, .str x h => .str x h
  | _, .tup ds, .tup h n r => .tup (sqt_stp s l h) n (RvL.fr s l sub r)
  | _, .lst ds, .lst h o n r => .lst (s.kp _ _ (fun m => o (sub _ m)) h) o n (RvL.fr s l sub r)
  | _, .obj _, .obj (a := a) (C := C) h k => by
    refine .obj (C := C) (s.kp a _ (fun m => ?_) h) k
    obtain ⟨xs, e⟩ := l a m
    rw [h] at e
    cases e
theorem RvL.fr {S' : List Addr} (s : Stp S' H H') (l : Lsts H S') (sub : ∀ x ∈ S', x ∈ S) : ∀ {vs : List V} {ds : List D}, RvL K S H vs ds → RvL K S H' vs ds
  | _, [], .nil => .nil
  | _, _ :: _, .cons h r => .cons (Rv.fr s l sub h) (RvL.fr s l sub r)
end
theorem Rv.stp {v : V} {d : D} (r : Rv K S H v d) (s : Stp S H H') (l : Lsts H S) : Rv K S H' v d := Rv.fr s l (fun _ m => m) r
theorem RvL.stp {vs : List V} {ds : List D} (r : RvL K S H vs ds) (s : Stp S H H') (l : Lsts H S) : RvL K S H' vs ds := RvL.fr s l (fun _ m => m) r
theorem Rv.up {v : V} {d : D} (r : Rv K S H v d) (s : Stp [] H H') : Rv K S H' v d := Rv.fr s Lsts.nil (fun _ m => nomatch m) r
theorem RvL.up {vs : List V} {ds : List D} (r : RvL K S H vs ds) (s : Stp [] H H') : RvL K S H' vs ds := RvL.fr s Lsts.nil (fun _ m => nomatch m) r
mutual
theorem Rv.sub {S' : List Addr} (h : ∀ x ∈ S', x ∈ S) : ∀ {v : V} {d : D}, Rv K S H v d → Rv K S' H v d
  | _, .non, .non => .non
  | _, .bl _, .bl b => .bl b
  | _, .int _, .int i => .int i
  | _, .str _, .str x h => .str x h
  | _, .tup ds, .tup q n r => .tup q n (RvL.sub h r)
  | _, .lst ds, .lst q o n r => .lst q (fun m => o (h _ m)) n (RvL.sub h r)
  | _, .obj _, .obj q k => .obj q k
theorem RvL.sub {S' : List Addr} (h : ∀ x ∈ S', x ∈ S) : ∀ {vs : List V} {ds : List D}, RvL K S H vs ds → RvL K S' H vs ds
  | _, [], .nil => .nil
  | _, _ :: _, .cons q r => .cons (Rv.sub h q) (RvL.sub h r)
end
theorem RvL.len : ∀ {vs : List V} {ds : List D}, RvL K S H vs ds → vs.length = ds.length
  | _, [], .nil => rfl
  | _, _ :: _, .cons _ r => by rw [List.length_cons, List.length_cons, RvL.len r]
theorem RvL.get : ∀ {vs : List V} {ds : List D} {i : Nat} {v : V}, RvL K S H vs ds → vs[i]? = some v → ∃ d, ds[i]? = some d ∧ Rv K S H v d
  | _, [], _, _, .nil, e => by simp at e
  | _, d :: _, 0, _, .cons h _, e => by
    simp at e
    subst e
    exact ⟨d, rfl, h⟩
  | _, _ :: _, i + 1, v, .cons _ r, e => RvL.get (i := i) (v := v) r (by simpa using e)
theorem RvL.app : ∀ {vs ws : List V} {ds es : List D}, RvL K S H vs ds → RvL K S H ws es → RvL K S H (vs ++ ws) (ds ++ es)
  | _, _, [], _, .nil, q => q
  | _, _, _ :: _, _, .cons h r, q => .cons h (RvL.app r q)
theorem RvL.take : ∀ {vs : List V} {ds : List D} (n : Nat), RvL K S H vs ds → RvL K S H (vs.take n) (ds.take n)
  | _, _, 0, _ => by rw [List.take_zero, List.take_zero]; exact .nil
  | _, [], _ + 1, .nil => .nil
  | _, _ :: _, n + 1, .cons h r => .cons h (RvL.take n r)
theorem RvL.drop : ∀ {vs : List V} {ds : List D} (n : Nat), RvL K S H vs ds → RvL K S H (vs.drop n) (ds.drop n)
  | _, _, 0, r => r
  | _, [], _ + 1, .nil => .nil
  | _, _ :: _, n + 1, .cons _ r => RvL.drop n r
theorem RvL.rev : ∀ {vs : List V} {ds : List D}, RvL K S H vs ds → RvL K S H vs.reverse ds.reverse
  | _, [], .nil => .nil
  | _, _ :: _, .cons h r => by
    rw [List.reverse_cons, List.reverse_cons]
    exact RvL.app (RvL.rev r) (.cons h .nil)
theorem RvL.pick {vs : List V} {ds : List D} {i : Int} (r : RvL K S H vs ds) (h0 : 0 ≤ i) (h1 : i < (ds.length : Int)) : ∃ v d, d ∈ ds ∧ Rv K S H v d ∧ atI vs i = some v := by
  obtain ⟨k, rfl⟩ := Int.eq_ofNat_of_zero_le h0
  have hk : k < vs.length := by rw [r.len]; omega
  obtain ⟨d, hd, rd⟩ := r.get (List.getElem?_eq_getElem hk)
  exact ⟨vs[k], d, List.mem_of_getElem? hd, rd, atI_nat (List.getElem?_eq_getElem hk)⟩
/-- a text of the program's own -/
def wd (s : Str) : D := .str s.cps.toList
theorem tx_cps (s : Str) : tx s.cps.toList = s := by cases s <;> simp [tx]
theorem Rv.lit (s : Str) (h : s.cps.toList.length ≤ 100000 := by decide +kernel) : Rv K S H (.str s) (wd s) := by
  have := Rv.str (K := K) (S := S) (H := H) s.cps.toList h
  rwa [Tx, tx_cps] at this
theorem out_new {p : Addr} (l : Lsts H S) (h : H p = none) : p ∉ S := fun m => by
  obtain ⟨xs, e⟩ := l p m
  rw [h] at e
  cases e
/-- a new tuple, a new list -/
theorem Rv.newT {p : Addr} {vs : List V} {ds : List D} (np : H p = none) (r : RvL K S H vs ds) (h : ds.length ≤ 100000) : Rv K S (upd H p (.tup vs)) (.ref p) (.tup ds) := .tup (SqT.of upd_same) (by rw [r.len]; exact h) (r.up (Stp.new np []))
theorem Rv.newL {p : Addr} {vs : List V} {ds : List D} (l : Lsts H S) (np : H p = none) (r : RvL K S H vs ds) (h : ds.length ≤ 100000) : Rv K S (upd H p (.lst vs)) (.ref p) (.lst ds) := .lst upd_same (out_new l np) (by rw [r.len]; exact h) (r.up (Stp.new np []))
theorem Lsts.up {H H' : Hp} (l : Lsts H S) (s : Stp [] H H') : Lsts H' S := l.stp s
end
/-! ### type(x) is T -/
theorem D.ty_old (d : D) : d.old.ty = d.ty := rfl
theorem ty_non : D.non.ty = some "NoneType" := rfl
theorem ty_bl {b : Bool} : (D.bl b).ty = some "bool" := rfl
theorem ty_int {i : Int} : (D.int i).ty = some "int" := rfl
theorem ty_str {l : List Nat} : (D.str l).ty = some "str" := rfl
theorem ty_tup {ds : List D} : (D.tup ds).ty = some "tuple" := by unfold D.ty D.old; rfl
theorem ty_lst {ds : List D} : (D.lst ds).ty = some "list" := by unfold D.ty D.old; rfl
theorem ty_obj {C : Addr} : (D.obj C).ty = none := rfl
theorem D.lst_of {d : D} (h : d.ty = some "list") : ∃ ds, d = .lst ds := by
  cases d with
  | lst ds => exact ⟨ds, rfl⟩
  | tup ds => rw [ty_tup] at h; exact absurd h (by decide)
  | obj C => rw [ty_obj] at h; cases h
  | non => exact absurd h (by rw [ty_non]; decide)
  | bl b => exact absurd h (by rw [ty_bl]; decide)
  | int i => exact absurd h (by rw [ty_int]; decide)
  | str l => exact absurd h (by rw [ty_str]; decide)
theorem D.tup_of {d : D} (h : d.ty = some "tuple") : ∃ ds, d = .tup ds := by
  cases d with
  | tup ds => exact ⟨ds, rfl⟩
  | lst ds => rw [ty_lst] at h; exact absurd h (by decide)
  | obj C => rw [ty_obj] at h; cases h
  | non => exact absurd h (by rw [ty_non]; decide)
  | bl b => exact absurd h (by rw [ty_bl]; decide)
  | int i => exact absurd h (by rw [ty_int]; decide)
  | str l => exact absurd h (by rw [ty_str]; decide)
theorem D.str_of {d : D} (h : d.ty = some "str") : ∃ l, d = .str l := by
  cases d with
  | str ds => exact ⟨ds, rfl⟩
  | lst ds => rw [ty_lst] at h; exact absurd h (by decide)
  | tup ds => rw [ty_tup] at h; exact absurd h (by decide)
  | obj C => rw [ty_obj] at h; cases h
  | non => exact absurd h (by rw [ty_non]; decide)
  | bl b => exact absurd h (by rw [ty_bl]; decide)
  | int i => exact absurd h (by rw [ty_int]; decide)
theorem D.int_of {d : D} (h : d.ty = some "int") : ∃ i, d = .int i := by
  cases d with
  | int i => exact ⟨i, rfl⟩
  | lst ds => rw [ty_lst] at h; exact absurd h (by decide)
  | tup ds => rw [ty_tup] at h; exact absurd h (by decide)
  | obj C => rw [ty_obj] at h; cases h
  | non => exact absurd h (by rw [ty_non]; decide)
  | bl b => exact absurd h (by rw [ty_bl]; decide)
  | str l => exact absurd h (by rw [ty_str]; decide)
/-! ### isinstance -/
def rIsD (K : PySem.W.Frag) (T : String) : List V → Hp → VK → Prop := fun xs H Q => ∃ (S : List Addr) (x : V) (d : D), xs = [x, .ty T] ∧ Rv K S H x d ∧ Q (.bl (d.isi T)) H
section
variable {X : Cx} {T : String}
theorem tyx_of {K : PySem.W.Frag} {S : List Addr} {H : Hp} {x : V} {d : D} (r : Rv K S H x d) (t : String) (h : d.ty = some t) : TyX K H x (.type t) := by
  cases r with
  | non => rw [ty_non] at h; cases h; exact .base .non
  | bl b => rw [ty_bl] at h; cases h; exact .base (.bl b)
  | int i => rw [ty_int] at h; cases h; exact .base (.int i)
  | str l hl => rw [ty_str] at h; cases h; exact .base (.str _)
  | lst hs _ _ _ => rw [ty_lst] at h; cases h; exact .base (.lst hs)
  | obj ho _ => rw [ty_obj] at h; cases h
  | tup hs _ _ =>
    rw [ty_tup] at h
    cases h
    rcases hs with (hs | ⟨o, hs⟩) | ⟨o, its, n, e, c, _⟩
    · exact .base (.tup hs)
    · exact .fTuple hs
    · exact .kTuple e c
theorem kit_str : ∀ t : String, t ∈ ["NoneType", "bool", "int", "str", "tuple", "list"] → kitB t "str" = some (t == "str") := by decide +kernel
theorem kit_int : ∀ t : String, t ∈ ["NoneType", "bool", "int", "str", "tuple", "list"] → kitB t "int" = some (t == "bool" || t == "int") := by decide +kernel
theorem kit_bool : ∀ t : String, t ∈ ["NoneType", "bool", "int", "str", "tuple", "list"] → kitB t "bool" = some (t == "bool") := by decide +kernel
theorem kit_tuple : ∀ t : String, t ∈ ["NoneType", "bool", "int", "str", "tuple", "list"] → kitB t "tuple" = some (t == "tuple") := by decide +kernel
theorem kit_list : ∀ t : String, t ∈ ["NoneType", "bool", "int", "str", "tuple", "list"] → kitB t "list" = some (t == "list") := by decide +kernel
theorem kit_d {d : D} {t : String} (h : d.ty = some t) (hT : T ∈ ["str", "int", "bool", "tuple", "list"]) : kitB t T = some (d.isi T) := by
  simp only [List.mem_cons, List.not_mem_nil, or_false] at hT
  have go : ∀ u, d.ty = some u → u = t := fun u e => by rw [h] at e; exact (Option.some.inj e).symm
  rcases hT with rfl | rfl | rfl | rfl | rfl <;> cases d
  all_goals first
    | (have q := go _ ty_non; subst q; first | exact kit_str _ (by decide) | exact kit_int _ (by decide) | exact kit_bool _ (by decide) | exact kit_tuple _ (by decide) | exact kit_list _ (by decide))
    | (have q := go _ ty_bl; subst q; first | exact kit_str _ (by decide) | exact kit_int _ (by decide) | exact kit_bool _ (by decide) | exact kit_tuple _ (by decide) | exact kit_list _ (by decide))
    | (have q := go _ ty_int; subst q; first | exact kit_str _ (by decide) | exact kit_int _ (by decide) | exact kit_bool _ (by decide) | exact kit_tuple _ (by decide) | exact kit_list _ (by decide))
    | (have q := go _ ty_str; subst q; first | exact kit_str _ (by decide) | exact kit_int _ (by decide) | exact kit_bool _ (by decide) | exact kit_tuple _ (by decide) | exact kit_list _ (by decide))
    | (have q := go _ ty_tup; subst q; first | exact kit_str _ (by decide) | exact kit_int _ (by decide) | exact kit_bool _ (by decide) | exact kit_tuple _ (by decide) | exact kit_list _ (by decide))
    | (have q := go _ ty_lst; subst q; first | exact kit_str _ (by decide) | exact kit_int _ (by decide) | exact kit_bool _ (by decide) | exact kit_tuple _ (by decide) | exact kit_list _ (by decide))
    | (rw [ty_obj] at h; cases h)
theorem D.has_ty (d : D) : (∃ t, d.ty = some t) ∨ ∃ C, d = .obj C := by
  cases d with
  | obj C => exact .inr ⟨C, rfl⟩
  | non => exact .inl ⟨_, ty_non⟩
  | bl b => exact .inl ⟨_, ty_bl⟩
  | int i => exact .inl ⟨_, ty_int⟩
  | str l => exact .inl ⟨_, ty_str⟩
  | tup ds => exact .inl ⟨_, ty_tup⟩
  | lst ds => exact .inl ⟨_, ty_lst⟩
theorem call_isiD (hT : T ∈ ["str", "int", "bool", "tuple", "list"]) : CallR X (.builtin "isinstance") (rIsD X.K T) := by
  intro pins s σ H xs us Q I r h
  obtain ⟨S, x, d, rfl, rv, q⟩ := h
  rcases d.has_ty with ⟨t, ht⟩ | ⟨C, rfl⟩
  · exact call_isi pins s σ H _ us Q I r ⟨x, .ty T, _, _, d.isi T, rfl, .ty T, tyx_of rv t ht, kit_ty (kit_d ht hT), q⟩
  · cases rv with
    | obj ho ok =>
      rename_i a
      obtain ⟨u1, u2, rfl, r1, r2⟩ := vals2 r
      cases r1
      cases (show u2 = Value.type T from r2)
      obtain ⟨⟨oe, vs, e1, ⟨e2, e3⟩, e4, _⟩, _⟩ := I.hok _ _ ho
      have J : PySem.W.InstAt s.heap a oe C none := by
        obtain ⟨oc, od, oda, osl⟩ := oe
        dsimp only at e2 e3 e4
        subst e2 e3 e4
        exact ⟨e1, rfl, rfl, trivial⟩
      have kit : PySem.W.kitOne X.K (.ref C) (.type T) = some ((D.obj C).isi T) := by
        simp only [List.mem_cons, List.not_mem_nil, or_false] at hT
        rcases hT with rfl | rfl | rfl | rfl | rfl
        · exact ok.is_str
        · exact ok.is_int
        · exact ok.is_bool
        · exact ok.is_tuple
        · exact ok.is_list
      exact PySem.W.kia_one (PySem.W.handS_kitx_exc ok.exc.hg ok.exc.hk ok.exc.hs ok.exc.hd ok.exc.ha ok.exc.hn ok.exc.ht ok.exc.hm) I.kIn J kit (fun z => nomatch z) fun tk => ⟨.bl ((D.obj C).isi T), H, I.kept (t' := tk) fun _ _ z => z, rfl, q⟩
end
theorem call_isiDK {X : Cx} {T : String} {K : PySem.W.Frag} (hK : X.K = K) (hT : T ∈ ["str", "int", "bool", "tuple", "list"]) : CallR X (.builtin "isinstance") (rIsD K T) := by
  subst hK
  exact call_isiD hT
/-! ### t[::-1] -/
section
variable {prog : Program} {w : World} {A : Around} {E : Value → Shared → Prop} {s : Shared}
open HT
theorem sliceApplied_rev {sl : Addr} {vl vu vs : Value} {n : Nat} {Q : Int × Int × Nat → Shared → Prop} (hs : s.heap.IsSliceOf sl vl vu vs) (pl : IsPart vl none) (pu : IsPart vu none) (ps : IsPart vs (some (-1)))
    (h : Q ((n : Int) - 1, -1, n) s) : wpAny (model prog w) A (Builtin.Slice.sliceApplied (.ref sl) (pure (n : Int))) Q E s := by
  obtain ⟨os, hos, hcs, hds⟩ := id hs
  unfold Builtin.Slice.sliceApplied Builtin.Slice.sliceFields
  refine wpAny_bind (wpAny_bind (wpAny_field hos hds (x := vl) rfl (wpAny_bind (wpAny_field hos hds (x := vu) rfl (wpAny_bind (wpAny_field hos hds (x := vs) rfl (wpAny_pure ?_)))))))
  refine wpAny_bind (slicePart_ ps ?_)
  show wpAny _ _ (if ((-1 : Int) == 0) = true then _ else _) _ _ s
  rw [if_neg (by decide)]
  refine wpAny_bind (slicePart_ pl (wpAny_bind (slicePart_ pu (wpAny_bind (wpAny_pure ?_)))))
  show wpAny _ _ (pure ((n : Int) - 1, (-1 : Int), Builtin.Slice.slicePlaces ((n : Int) - 1) (-1) (-1))) _ _ s
  have e : Builtin.Slice.slicePlaces ((n : Int) - 1) (-1) (-1) = n := by
    unfold Builtin.Slice.slicePlaces
    rw [if_neg (by decide)]
    by_cases c : (n : Int) - 1 > -1
    · rw [if_pos c, show (- -1 : Int) = 1 by decide, Int.ediv_one]
      omega
    · rw [if_neg c]
      omega
  rw [e]
  exact wpAny_pure h
theorem pick_rev (xs : Array Value) : ((List.range xs.size).filterMap fun (k : Nat) => xs[((xs.size : Int) - 1 + (k : Int) * (-1)).toNat]?).toArray = xs.toList.reverse.toArray := by
  have e : (fun (k : Nat) => xs[((xs.size : Int) - 1 + (k : Int) * (-1)).toNat]?) = (fun k => xs[xs.size - 1 - k]?) := by
    funext k
    have : ((xs.size : Int) - 1 + (k : Int) * (-1)).toNat = xs.size - 1 - k := by omega
    rw [this]
  rw [e]
  have e2 : (fun k => xs[xs.size - 1 - k]?) = (fun k => xs[k]?) ∘ fun k => xs.size - 1 - k := rfl
  rw [e2, ← List.filterMap_map, PySem.W.krv_range, List.filterMap_reverse, PySem.W.krv_all]
theorem getItem_tuple_rev {t sl : Addr} {items : Array Value} {vl vu vs : Value} {Q : Value → Shared → Prop} (ht : IsTup s.heap t items) (hs : s.heap.IsSliceOf sl vl vu vs) (pl : IsPart vl none) (pu : IsPart vu none) (ps : IsPart vs (some (-1)))
    (h : Q (.ref s.heap.objs.size) { s with heap := s.heap.push { cls := .type "tuple", data := .seq items.toList.reverse.toArray } })
    (hsz : items.size ≤ sizeLine) : wpAny (model prog w) A (getItem (.ref t) (.ref sl)) Q E s := by
  have htake : sizeOk (.seq items.toList.reverse.toArray) := by
    show items.toList.reverse.toArray.size ≤ sizeLine
    rw [List.size_toArray, List.length_reverse, Array.length_toList]
    exact hsz
  obtain ⟨os, hos, hcs, hds⟩ := id hs
  have hTs : s.TypeIs (.ref sl) "slice" := ⟨os, hos, hcs⟩
  unfold getItem
  try with_reducible refine wpAny_holding ?_
  first | refine wpAny_bind (wpAny_pure ?_) | skip
  refine wpAny_bind (wpAny_sequenceKey ht.typeIs (by decide) ?_)
  refine wpAny_bind (wpAny_callSpecial?_slot (name := Str.ofString "__getitem__") ht.typeIs PyProof.Rows.slot_tuple_getitem
    (wpAny_call_entry PyProof.Rows.slot_tuple_getitem ht.typeIs entry_tuple_getitem ?_ (args_tuple_getitem _ _)))
  show wpAny _ _ (Builtin.Tuple.tupleItemsOf (.ref t) >>= _) _ _ s
  refine wpAny_bind (tupleItemsOf_ ht ?_)
  refine wpAny_bind (wpAny_typeOf hTs ?_)
  rw [if_pos (by decide)]
  refine wpAny_bind (sliceApplied_rev hs pl pu ps ?_)
  have hno : ¬ ((((items.size : Int) - 1) == 0 && (-1 : Int) == 1 && items.size == items.size) = true) := by
    intro q
    rw [Bool.and_eq_true, Bool.and_eq_true] at q
    exact absurd q.1.2 (by decide)
  show wpAny _ _ (if (((items.size : Int) - 1) == 0 && (-1 : Int) == 1 && items.size == items.size) = true then _ else _) _ _ s
  rw [if_neg hno, pick_rev]
  first
    | exact wpAny_bind (m := Builtin.Tuple.tupleExact _) (wpAny_newObj_type (wpAny_pure ⟨_, rfl, wpAny_pure h⟩) htake)
    | exact wpAny_bind (m := Builtin.Tuple.tupleExact _) (wpAny_newObj_type (wpAny_bind (wpAny_pure (wpAny_pure ⟨_, rfl, wpAny_pure h⟩))) htake)
    | exact wpAny_bind (wpAny_bind (m := Builtin.Tuple.tupleExact _) (wpAny_newObj_type (wpAny_pure (wpAny_pure ⟨_, rfl, wpAny_pure h⟩)) htake))
    | exact wpAny_bind (wpAny_bind (m := Builtin.Tuple.tupleExact _) (wpAny_newObj_type (wpAny_pure ⟨_, rfl, wpAny_pure h⟩) htake))
end
section
variable {X : Cx}
def tRevT (K : PySem.W.Frag) (te : TE) : TE := fun σ H Q => te σ H fun x H1 => ∃ a xs, x = .ref a ∧ SqT K H1 a xs ∧ ∀ p, H1 p = none → Q (.ref p) (upd H1 p (.tup xs.reverse))
theorem pe_revT {e : Expr} {te : TE} {k : Nat} {p1 p2 p3 pos : Pos} (he : PE X e te) : PE X (.Subscript e (.Slice none none (some (.UnaryOp .USub (.Constant (.int 1) k p1) p2)) p3) pos) (tRevT X.K te) := by
  refine ⟨fun pins s σ H Q I h => ?_⟩
  refine Subscript_ (thn (he.run pins s σ H _ I h) fun v s1 ⟨x, H1, I1, r1, q1⟩ => ?_)
  obtain ⟨a, xs, ex, hx, q⟩ := q1
  subst ex
  cases r1
  have hst : PO X (some (.UnaryOp .USub (.Constant (.int 1) k p1) p2)) (tPart (tUn (rU fun i => .int (-i)) (tC (.int 1)))) := po_some (pe_un un_neg pe_int)
  refine wpAny_Slice (thn (po_none.run pins s1 σ H1 (fun o H2 => o = none ∧ H2 = H1) I1 ⟨rfl, rfl⟩) fun vl s2 ⟨l, H2, I2, pl, el, e2⟩ => ?_)
  subst el e2
  refine thn (po_none.run pins s2 σ H2 (fun o H3 => o = none ∧ H3 = H2) I2 ⟨rfl, rfl⟩) fun vu s3 ⟨u, H3, I3, pu, eu, e3⟩ => ?_
  subst eu e3
  refine thn (hst.run pins s3 σ H3 (fun o H4 => o = some (-1) ∧ H4 = H3) I3 ⟨1, rfl, -1, rfl, rfl, rfl⟩) fun vs s4 ⟨o, H4, I4, ps, eo, e4⟩ => ?_
  subst eo e4
  have I5 : Inv X pins σ H4 { s4 with heap := s4.heap.push { cls := .type "slice", data := .fields #[vl, vu, vs] } } := I4.kept (t' := s4.toks) fun b ob q => Heap.get?_push_of_some _ q
  obtain ⟨its, r, ht, hz⟩ := I5.tuple hx
  have hlen := r.length
  show wpAny (model X.prog X.w) X.A (subscriptTail e (.Slice none none (some (.UnaryOp .USub (.Constant (.int 1) k p1) p2)) p3) (.ref a) (.ref s4.heap.objs.size)) (EP X pins σ Q) X.xe { s4 with heap := s4.heap.push { cls := .type "slice", data := .fields #[vl, vu, vs] } }
  refine tail_any (ops := [.ref a, .ref s4.heap.objs.size]) ht.typeIs (PyProof.Rows.slot_tuple_getitem.lookup) ?_ (by with_unfolding_all rfl)
  refine getItem_tuple_rev ht (Heap.IsSliceOf.new _ vl vu vs) pl pu ps ?_ (by rw [List.size_toArray]; omega)
  refine ⟨.ref _, _, I5.laid (t' := s4.toks) (o := .tup xs.reverse) (fun b ob q => Heap.get?_push_of_some _ q) (Nat.le_refl _) ?_, rfl, q _ (I5.hok.fresh (Nat.le_refl _))⟩
  exact ⟨by rw [List.length_reverse]; exact hz, _, r.reverse, IsTup.new _ _⟩
end
/-! ### expressions that build values -/
def EvD (K : PySem.W.Frag) (S : List Addr) (te : TE) (σ : L2.St) (H : Hp) (d : D) : Prop := ∀ H1, Stp [] H H1 → ∀ Q : VK, (∀ v H2, Stp [] H1 H2 → Rv K S H2 v d → Q v H2) → te σ H1 Q
def EvDA (K : PySem.W.Frag) (S : List Addr) (ta : TA) (σ : L2.St) (H : Hp) (ds : List D) : Prop := ∀ H1, Stp [] H H1 → ∀ Q : List V → Hp → Prop, (∀ vs H2, Stp [] H1 H2 → RvL K S H2 vs ds → Q vs H2) → ta σ H1 Q
section
variable {K : PySem.W.Frag} {S : List Addr} {te : TE} {ta : TA} {σ : L2.St} {H : Hp} {d : D} {ds : List D}
theorem EvD.bl {b : Bool} : EvD K S (tC (.bl b)) σ H (.bl b) := fun H1 _ _ k => k _ H1 (Stp.refl _ _) (.bl b)
theorem EvD.int {i : Int} : EvD K S (tC (.int i)) σ H (.int i) := fun H1 _ _ k => k _ H1 (Stp.refl _ _) (.int i)
theorem EvD.non : EvD K S (tC .non) σ H .non := fun H1 _ _ k => k _ H1 (Stp.refl _ _) .non
theorem EvD.str {s : Str} (h : s.cps.toList.length ≤ 100000 := by decide +kernel) : EvD K S (tC (.str s)) σ H (wd s) := fun H1 _ _ k => k _ H1 (Stp.refl _ _) (Rv.lit s h)
theorem EvD.var {i : Nat} {v : V} (r : Rv K S H v d) (e : σ[i]? = some (some v) := by rfl) : EvD K S (tVar i) σ H d := fun H1 s _ k => ⟨v, e, k v H1 (Stp.refl _ _) (r.up s)⟩
theorem EvDA.nil : EvDA K S tNil σ H [] := fun H1 _ _ k => k [] H1 (Stp.refl _ _) .nil
theorem EvDA.cons (h : EvD K S te σ H d) (g : EvDA K S ta σ H ds) : EvDA K S (tCons te ta) σ H (d :: ds) := fun H1 s Q k =>
  h H1 s _ fun v H2 s2 r => g H2 (s.trans s2) _ fun vs H3 s3 rs => k (v :: vs) H3 (s2.trans s3) (.cons (r.up s3) rs)
theorem EvD.tup (h : EvDA K S ta σ H ds) (hl : ds.length ≤ 1000) : EvD K S (tTup ta) σ H (.tup ds) := fun H1 s Q k =>
  h H1 s _ fun vs H2 s2 rs => ⟨sz (by rw [rs.len]; omega), fun p np => k _ _ (s2.new' np) (Rv.newT np rs (by omega))⟩
theorem EvD.lst (L : Lsts H S) (h : EvDA K S ta σ H ds) (hl : ds.length ≤ 1000) : EvD K S (tLst ta) σ H (.lst ds) := fun H1 s Q k =>
  h H1 s _ fun vs H2 s2 rs => ⟨sz (by rw [rs.len]; omega), fun p np => k _ _ (s2.new' np) (Rv.newL (Pv.Lsts.up L (s.trans s2)) np rs (by omega))⟩
theorem EvD.exc {C : Addr} (ok : OkC K C) (h : EvD K S te σ H d) : EvD K S (fun σ H Q => te σ H fun _ H1 => ∀ a, H1 a = none → Q (.ref a) (upd H1 a (ExO (.ref C) a))) σ H (.obj C) := fun H1 s Q k =>
  h H1 s _ fun v H2 s2 _ => fun a na => k _ _ (s2.new' na) (.obj upd_same ok)
theorem EvD.pow {i j : Int} (h : CPow i j) : EvD K S (tOp (rI CPow fun i j => .int (i ^ j.toNat)) (tC (.int i)) (tC (.int j))) σ H (.int (i ^ j.toNat)) := fun H1 s Q k =>
  ⟨i, j, rfl, rfl, h, k _ _ (Stp.refl _ _) (.int _)⟩
theorem EvD.neg {i : Int} : EvD K S (tUn (rU fun i => .int (-i)) (tC (.int i))) σ H (.int (-i)) := fun H1 s Q k => ⟨i, rfl, k _ _ (Stp.refl _ _) (.int _)⟩
theorem EvDA.use (h : EvDA K S ta σ H ds) {Q : List V → Hp → Prop} (k : ∀ vs H2, Stp [] H H2 → RvL K S H2 vs ds → Q vs H2) : ta σ H Q := h H (Stp.refl _ _) Q k
theorem EvD.use (h : EvD K S te σ H d) {Q : VK} (k : ∀ v H2, Stp [] H H2 → Rv K S H2 v d → Q v H2) : te σ H Q := h H (Stp.refl _ _) Q k
theorem EvDA.newl (h : EvDA K S ta σ H ds) (hl : ds.length ≤ 1000) {Q : VK} (k : ∀ p vs H2, Stp [] H H2 → H p = none → H2 p = some (.lst vs) → RvL K S H2 vs ds → Q (.ref p) H2) : tLst ta σ H Q :=
  h.use fun vs H2 s rs => ⟨sz (by rw [rs.len]; omega), fun p np => k p vs _ (s.new' np) (s.fresh (fun m => nomatch m) np) upd_same (rs.up (Stp.new np []))⟩
end
/-! ### lists of truths, compared -/
theorem dp_bools {K : PySem.W.Frag} {H : Hp} : ∀ (bs : List Bool), DpAll K H (bs.map V.bl) (bs.map PyData.bool)
  | [] => .nil
  | b :: bs => .cons (.bl b) (dp_bools bs)
theorem lay_bools : ∀ (bs : List Bool), PyData.canLayAll0 (bs.map PyData.bool) = true
  | [] => rfl
  | b :: bs => by
    show (PyData.canLay0 (.bool b) && PyData.canLayAll0 (bs.map PyData.bool)) = true
    rw [lay_bools bs]
    rfl
theorem dep_bools : ∀ (bs : List Bool), PyData.depthAll (bs.map PyData.bool) = 0
  | [] => rfl
  | b :: bs => by
    show max 0 (PyData.depthAll (bs.map PyData.bool)) = 0
    rw [dep_bools bs]
    rfl
theorem shaped_bools (bs : List Bool) : SeqAt.shaped (.list (bs.map PyData.bool)) = true := by
  unfold SeqAt.shaped
  rw [show PyData.canLay0 (.list (bs.map PyData.bool)) = true from lay_bools bs]
  rw [show PyData.depth (.list (bs.map PyData.bool)) = 0 + 1 by show PyData.depthAll _ + 1 = _; rw [dep_bools]]
  rfl
/-- the same list of truths twice: != says no -/
theorem ne_bools {K : PySem.W.Frag} {H : Hp} {p q : Addr} {bs : List Bool} {Q : VK} (hp : SqL K H p (bs.map V.bl)) (hq : SqL K H q (bs.map V.bl)) (k : Q (.bl false) H) : rNeD K (.ref p) (.ref q) H Q := by
  refine ⟨.list (bs.map PyData.bool), .list (bs.map PyData.bool), .lst hp (dp_bools bs), .lst hq (dp_bools bs), shaped_bools bs, shaped_bools bs, ?_⟩
  rw [SeqAt.eqv_refl _ (show PyData.canLay0 (.list (bs.map PyData.bool)) = true from lay_bools bs)]
  exact k
end Pv
namespace Pv
open PySem PySem.Spec PyProof.Rows L2 Pg
/-- the ways of an expression, joined by what they leave -/
theorem te_join {te : TE} {σ : L2.St} {H : Hp} {Q : VK} (I : V → Hp → Prop) (h : (∀ v H', I v H' → Q v H') → te σ H Q) (k : ∀ v H', I v H' → Q v H') : te σ H Q := h k
/-- xs + ys, new lists of values -/
theorem cat_use {K : PySem.W.Frag} {S : List Addr} {H : Hp} {a b : Addr} {xs ys : List V} {ds es : List D} {Q : VK} (ha : H a = some (.lst xs)) (hb : H b = some (.lst ys)) (ra : RvL K S H xs ds) (rb : RvL K S H ys es) (hl : ds.length + es.length ≤ 100000)
    (k : ∀ p, H p = none → ∀ H' zs, Stp [] H H' → H' p = some (.lst zs) → RvL K S H' zs (ds ++ es) → Q (.ref p) H') : rCat (.ref a) (.ref b) H Q :=
  ⟨a, b, xs, ys, rfl, rfl, ha, hb, by rw [ra.len, rb.len]; exact sz hl, fun p np => k p np _ _ (Stp.new np _) upd_same ((ra.app rb).up (Stp.new np _))⟩
/-- xs + ys, also of a list that is locked -/
def rCatS (K : PySem.W.Frag) : R2 := fun x y H Q => ∃ l b xs zs, x = .ref l ∧ y = .ref b ∧ SqL K H l xs ∧ SqL K H b zs ∧ xs.length + zs.length ≤ sizeLine ∧ ∀ p, H p = none → Q (.ref p) (upd H p (.lst (xs ++ zs)))
theorem op_catS {X : Cx} : OpR X (binaryOp .Add) (rCatS X.K) := by
  intro pins s σ H x y v u Q I rx ry h
  obtain ⟨l, b, xs, zs, rfl, rfl, hH, hB, hz, q⟩ := h
  cases rx
  cases ry
  obtain ⟨its, r, pl, _⟩ := I.list hH
  obtain ⟨its2, r2, pl2, _⟩ := I.list hB
  have hl := r.length
  have hl2 := r2.length
  have ea : its.toArray ++ its2.toArray = (its ++ its2).toArray := by simp
  obtain ⟨⟨cls, dd, data, sl⟩, ho, hc, n, hd⟩ := pl.isList
  obtain ⟨⟨cls2, dd2, data2, sl2⟩, ho2, hc2, n2, hd2⟩ := pl2.isList
  simp only at hc hd hc2 hd2
  subst hc hd hc2 hd2
  refine concat_meets ⟨_, ho, rfl⟩ ⟨_, ho2, rfl⟩ noFill_list_add seq_list_add PySem.F.slot_list_add PySem.F.entry_list_add (PySem.F.args_list_add_2 _ _) (list_addW l b its.toArray its2.toArray n n2 dd dd2 sl sl2 (by rw [List.size_toArray, List.size_toArray]; omega)) ⟨ho, ho2, ?_⟩
  rw [ea]
  exact ⟨.ref _, _, I.lnew (t' := s.toks) (r.append r2) (by rw [List.length_append]; omega), rfl, q _ I.fresh⟩
theorem out_of {b p : Addr} {H : Hp} {o : HO} (h : H b = some o) (np : H p = none) : p ∉ [b] := fun m => by
  rw [List.mem_singleton.mp m, h] at np
  cases np
end Pv
namespace Pv
open PySem PySem.Spec PyProof.Rows L2 Pg
section
variable {K : PySem.W.Frag} {S : List Addr} {te : TE} {ta : TA} {σ : L2.St} {H : Hp} {d : D} {ds es : List D}
theorem catT {a b : Addr} {xs ys : List V} {Q : VK} (ha : SqT K H a xs) (hb : SqT K H b ys) (ra : RvL K S H xs ds) (rb : RvL K S H ys es) (hl : ds.length + es.length ≤ 100000)
    (k : ∀ p zs H', Stp [] H H' → SqT K H' p zs → RvL K S H' zs (ds ++ es) → Q (.ref p) H') : rCatA K (.ref a) (.ref b) H Q :=
  catA_use ha hb (by rw [ra.len, rb.len]; exact hl) fun p H' s h => k p _ H' s h ((ra.app rb).up s)
theorem upT {a : Addr} {xs : List V} {n : Nat} {Q : VK} (ha : SqT K H a xs) (ra : RvL K S H xs ds) (k : ∀ p zs H', Stp [] H H' → SqT K H' p zs → RvL K S H' zs (ds.take n) → Q (.ref p) H') : rSlA K (.ref a) none (some (n : Int)) H Q :=
  slA_use ha fun p H' s h => k p _ H' s (by rwa [cut_upto] at h) ((ra.take n).up s)
theorem fromT {a : Addr} {xs : List V} {n : Nat} {Q : VK} (ha : SqT K H a xs) (ra : RvL K S H xs ds) (k : ∀ p zs H', Stp [] H H' → SqT K H' p zs → RvL K S H' zs (ds.drop n) → Q (.ref p) H') : rSlA K (.ref a) (some (n : Int)) none H Q :=
  slA_use ha fun p H' s h => k p _ H' s (by rwa [cut_from] at h) ((ra.drop n).up s)
theorem fromT1 {a : Addr} {xs : List V} {n : Nat} {Q : VK} (ha : SqT K H a xs) (ra : RvL K S H xs ds) (k : ∀ p zs H', Stp [] H H' → SqT K H' p zs → RvL K S H' zs (ds.drop (n + 1)) → Q (.ref p) H') : rSlA K (.ref a) (some ((n : Int) + 1)) none H Q :=
  Pv.fromT (n := n + 1) ha ra k
/-! more expressions -/
theorem Rv.tupE {a : V} (r : Rv K S H a (.tup ds)) : ∃ p vs, a = .ref p ∧ SqT K H p vs ∧ vs.length ≤ 100000 ∧ RvL K S H vs ds := by
  cases r with
  | tup h n r => exact ⟨_, _, rfl, h, n, r⟩
theorem EvD.list (L : Lsts H S) (h : EvD K S te σ H (.tup ds)) : EvD K S (tCB (fun xs H Q => ∃ p ys, xs = [.ref p] ∧ (SqL K H p ys ∨ SqT K H p ys) ∧ ∀ l, H l = none → Q (.ref l) (upd H l (.lst ys))) (tCons te tNil)) σ H (.lst ds) := fun H1 s Q k =>
  h H1 s _ fun v H2 s2 r => by
    obtain ⟨p, vs, rfl, hs, n, rl⟩ := r.tupE
    exact ⟨_, _, rfl, .inr hs, fun l nl => k _ _ (s2.new' nl) (Rv.newL (Pg.Lsts.stp L (s.trans s2)) nl rl (by rw [← rl.len]; exact n))⟩
theorem EvD.upT {n : Nat} (h : EvD K S te σ H (.tup ds)) : EvD K S (tSl (rSlA K) te tNoPart (tPart (tC (.int (n : Int))))) σ H (.tup (ds.take n)) := fun H1 s Q k =>
  h H1 s _ fun v H2 s2 r => by
    obtain ⟨p, vs, rfl, hs, n, rl⟩ := r.tupE
    exact ⟨_, rfl, Pv.upT hs rl fun p zs H' s3 h2 r2 => k _ _ (s2.trans s3) (.tup h2 (by rw [r2.len, List.length_take, ← rl.len]; omega) r2)⟩
theorem EvD.fromT {n : Nat} (h : EvD K S te σ H (.tup ds)) : EvD K S (tSl (rSlA K) te (tPart (tC (.int (n : Int)))) tNoPart) σ H (.tup (ds.drop n)) := fun H1 s Q k =>
  h H1 s _ fun v H2 s2 r => by
    obtain ⟨p, vs, rfl, hs, n, rl⟩ := r.tupE
    exact ⟨_, rfl, Pv.fromT hs rl fun p zs H' s3 h2 r2 => k _ _ (s2.trans s3) (.tup h2 (by rw [r2.len, List.length_drop, ← rl.len]; omega) r2)⟩
theorem EvD.catT {tb : TE} (h : EvD K S te σ H (.tup ds)) (g : EvD K S tb σ H (.tup es)) (hl : ds.length + es.length ≤ 100000) : EvD K S (tOp (rCatA K) te tb) σ H (.tup (ds ++ es)) := fun H1 s Q k =>
  h H1 s _ fun v H2 s2 r => g H2 (s.trans s2) _ fun u H3 s3 q => by
    obtain ⟨p, vs, rfl, hs, n, rl⟩ := (r.up s3).tupE
    obtain ⟨p2, vs2, rfl, hs2, n2, rl2⟩ := q.tupE
    exact Pv.catT hs hs2 rl rl2 hl fun p zs H' s4 h2 r2 => k _ _ ((s2.trans s3).trans s4) (.tup h2 (by rw [r2.len, List.length_append]; exact hl) r2)
theorem EvD.ixT {i : Nat} (h : EvD K S te σ H (.tup ds)) (e : ds[i]? = some d) : EvD K S (tOp (rIxT K) te (tC (.int (i : Int)))) σ H d := fun H1 s Q k =>
  h H1 s _ fun v H2 s2 r => by
    obtain ⟨p, vs, rfl, hs, n, rl⟩ := r.tupE
    have hi : i < vs.length := by
      rw [rl.len]
      exact (List.getElem?_eq_some_iff.mp e).1
    obtain ⟨d', e', r'⟩ := rl.get (List.getElem?_eq_getElem hi)
    rw [e] at e'
    cases e'
    exact ⟨p, vs, _, _, rfl, rfl, hs, atI_nat (List.getElem?_eq_getElem hi), k _ _ s2 r'⟩
theorem EvD.revT (h : EvD K S te σ H (.tup ds)) : EvD K S (tRevT K te) σ H (.tup ds.reverse) := fun H1 s Q k =>
  h H1 s _ fun v H2 s2 r => by
    obtain ⟨p, vs, rfl, hs, n, rl⟩ := r.tupE
    exact ⟨p, vs, rfl, hs, fun p np => k _ _ (s2.new' np) (Rv.newT np rl.rev (by rw [List.length_reverse, ← rl.len]; exact n))⟩
theorem op_newl {r : R2} {tb : TE} {Q : VK} (h : EvDA K S ta σ H ds) (hl : ds.length ≤ 1000) (k : ∀ p vs H2, Stp [] H H2 → H p = none → H2 p = some (.lst vs) → RvL K S H2 vs ds → tb σ H2 fun y H3 => r (.ref p) y H3 Q) : tOp r (tLst ta) tb σ H Q := h.newl hl k
theorem EvDA.one (h : EvD K S te σ H d) : EvDA K S (tCons te tNil) σ H [d] := .cons h .nil
end
end Pv
namespace Kq
open PySem PySem.Spec PyProof.Rows L2 Pg Pv
def topS (i : Nat) : Stmt := PySem.Challenge.pw_pageskips_k17_rules.main.body.getD i (.Pass ⟨0, 0, 0, 0⟩)
structure Nm (mg : Str → Option Value) : Prop where
  n_int : mg "int" = none
  n_len : mg "len" = none
  n_max : mg "max" = none
  n_range : mg "range" = none
  n_type : mg "type" = none
  n_tuple : mg "tuple" = none
  n_list : mg "list" = none
  n_str : mg "str" = none
  n_bool : mg "bool" = none
  n_isinstance : mg "isinstance" = none
/-- the class SkipError -/
structure Nx (K : PySem.W.Frag) (mg : Str → Option Value) (C : Addr) : Prop where
  x_SkipError : PySem.W.excIn K C [.type "ValueError", .type "Exception", .type "BaseException", .type "object"] "ValueError.__new__" = true
  g_SkipError : mg "SkipError" = some (.ref C)
  k_SkipError : PySem.W.keepIn K (.ref C) = true
  ok : OkC K C
section
variable {P : Program} {w : World} {K : PySem.W.Frag} {mg : Str → Option Value} {base : Heap}
abbrev s__law_bag : Stmt := topS 10
abbrev N__law_bag : List Str := ["cell"]
theorem sc__law_bag : FnScope ["cell"] ["cell"] (defScope s__law_bag) := ⟨rfl, rfl, rfl, by decide +kernel, rfl, by decide +kernel, by decide +kernel⟩

abbrev s__law_pick : Stmt := topS 11
abbrev N__law_pick : List Str := ["urn", "many", "digit", "turn", "stir"]
theorem sc__law_pick : FnScope ["urn", "many", "digit", "turn", "stir"] ["urn", "many"] (defScope s__law_pick) := ⟨rfl, rfl, rfl, by decide +kernel, rfl, by decide +kernel, by decide +kernel⟩

/-! ### the urn, the draws -/
def UrnV (x y z : Int) (n : Nat) : Prop := 0 ≤ x ∧ 0 ≤ y ∧ y < 2 ^ 61 ∧ 0 ≤ z ∧ z ≤ (n : Int)
def Urn (H : Hp) (b : Addr) (n : Nat) : Prop := ∃ x y z, H b = some (.lst [.int x, .int y, .int z]) ∧ UrnV x y z n
theorem Urn.mono {H : Hp} {b : Addr} {n m : Nat} (h : Urn H b n) (e : n ≤ m) : Urn H b m := by
  obtain ⟨x, y, z, h1, h2, h3, h4, h5, h6⟩ := h
  exact ⟨x, y, z, h1, h2, h3, h4, h5, by omega⟩
theorem Urn.kp {H H' : Hp} {b : Addr} {n : Nat} {S : List Addr} (h : Urn H b n) (s : Stp S H H') (m : b ∉ S) : Urn H' b n := by
  obtain ⟨x, y, z, h1, h2⟩ := h
  exact ⟨x, y, z, s.kp _ _ m h1, h2⟩
theorem Urn.up {H H' : Hp} {b : Addr} {n : Nat} (h : Urn H b n) (s : Stp [] H H') : Urn H' b n := h.kp s fun m => nomatch m
theorem Urn.upd {H : Hp} {b p : Addr} {n : Nat} {o : HO} (h : Urn H b n) (e : b ≠ p) : Urn (L2.upd H p o) b n := by
  obtain ⟨x, y, z, h1, h2⟩ := h
  exact ⟨x, y, z, by rw [upd_ne e]; exact h1, h2⟩
theorem Urn.ne {H : Hp} {b p : Addr} {n : Nat} (h : Urn H b n) (q : H p = none) : b ≠ p := by
  obtain ⟨x, y, z, h1, h2⟩ := h
  exact ne_of_none h1 q
theorem Urn.ls {H : Hp} {b : Addr} {n : Nat} (h : Urn H b n) : Lsts H [b] := by
  obtain ⟨x, y, z, h1, h2⟩ := h
  exact .one h1
def spBag : Sp := fun vs H Q _ => ∃ c : Int, vs = [.int c] ∧ ∀ b H', H b = none → Stp [] H H' → Urn H' b 0 → Q (.ref b) H'
theorem cl__law_bag {f : Addr} {fd : FuncData} (D : Df K mg "_law_bag" s__law_bag ["cell"] f fd) (T : Nm mg) : Cl P w K mg base 1 "_law_bag" s__law_bag ["cell"] spBag := by
  refine D.cl sc__law_bag (fun vs H Q E h => ?_) (fun cdv A outer s H vs Q E hr h => ?_)
  · obtain ⟨c, rfl, _⟩ := h
    rfl
  · obtain ⟨c, rfl, k⟩ := h
    refine ⟨_, (pss_one (ps_ret (pe_lst (pa_cons (pe_callB (call_max2 rfl) (by rfl) T.n_max (by decide +kernel) (pa_cons pe_int (pa_cons (pe_op op_sub (pv 0) (pe_op op_pow pe_int pe_int)) pa_nil))) (pa_cons (pe_op op_mod (pe_callTy call_int1 (by rfl) T.n_int (by decide +kernel) (pa_cons (pv 0) pa_nil)) pe_int) (pa_cons pe_int pa_nil)))))), ?_⟩
    refine ⟨_, rfl, _, _, rfl, rfl, ⟨by decide, by decide, by decide⟩, _, _, rfl, rfl, _, _, rfl, ?_⟩
    refine ⟨_, rfl, .inl ⟨c, rfl, _, _, rfl, rfl, (by show (0 : Int) < 2305843009213693951; decide), (by show 3 ≤ sizeLine; decide), fun b nb => ?_⟩⟩
    refine k b _ nb (Stp.new nb _) ⟨_, _, _, upd_same, ?_⟩
    have m1 : 0 ≤ c % 2305843009213693951 := Int.emod_nonneg _ (by decide)
    have m2 : c % 2305843009213693951 < 2305843009213693951 := Int.emod_lt_of_pos _ (by decide)
    refine ⟨?_, m1, by omega, by omega, by omega⟩
    split <;> omega
def spPick : Sp := fun vs H Q _ => ∃ (b : Addr) (up : Int) (n : Nat), vs = [.ref b, .int up] ∧ Urn H b n ∧ n < 2 ^ 30 ∧ 0 < up ∧ up < 2 ^ 30 ∧
  ∀ d H', 0 ≤ d → d < up → Stp [b] H H' → Urn H' b (n + 1) → Q (.int d) H'
theorem cl__law_pick {f : Addr} {fd : FuncData} (D : Df K mg "_law_pick" s__law_pick ["urn", "many"] f fd) (T : Nm mg) : Cl P w K mg base 1 "_law_pick" s__law_pick ["urn", "many"] spPick := by
  refine D.cl sc__law_pick (fun vs H Q E h => ?_) (fun cdv A outer s H vs Q E hr h => ?_)
  · obtain ⟨b, up, n, rfl, _⟩ := h
    rfl
  · obtain ⟨b, up, n, rfl, ⟨x, y, z, hb, x0, y0, y1, z0, z1⟩, hn, u0, u1, k⟩ := h
    refine ⟨_, (pss_cons (ps_if (pt_cmpR op_gt (pe_ix ix_list (pv 0) pe_int (fun _ _ => rfl)) pe_int (by first | exact nomark _ | rfl)) (pss_cons (ps_set (i := 2) sc__law_pick.nd rfl (by first | exact Or.inl rfl | exact Or.inr rfl) (pe_op op_mod (pe_callTy call_int1 (by rfl) T.n_int (by decide +kernel) (pa_cons (pe_ix ix_list (pv 0) pe_int (fun _ _ => rfl)) pa_nil)) (pv 1)))
      (pss_cons (ps_asg (pe_op op_fdivW (pe_ix ix_list (pv 0) pe_int (fun _ _ => rfl)) (pv 1)) (pg_sub (pv 0) pe_int set_list))
      (pss_one (ps_ret (pv 2))))) pss_nil)
      (pss_cons (ps_asg (pe_op op_add (pe_ix ix_list (pv 0) pe_int (fun _ _ => rfl)) pe_int) (pg_sub (pv 0) pe_int set_list))
      (pss_cons (ps_set (i := 3) sc__law_pick.nd rfl (by first | exact Or.inl rfl | exact Or.inr rfl) (pe_ix ix_list (pv 0) pe_int (fun _ _ => rfl)))
      (pss_cons (ps_set (i := 4) sc__law_pick.nd rfl (by first | exact Or.inl rfl | exact Or.inr rfl) (pe_op op_mulW (pe_op op_add (pe_ix ix_list (pv 0) pe_int (fun _ _ => rfl)) pe_int) (pe_op op_add (pe_op op_add (pe_op op_mulW (pe_op op_mulW pe_int (pv 3)) (pv 3)) (pe_op op_mulW pe_int (pv 3))) pe_int)))
      (pss_cons (ps_set (i := 4) sc__law_pick.nd rfl (by first | exact Or.inl rfl | exact Or.inr rfl) (pe_op op_mod (pe_callTy call_int1 (by rfl) T.n_int (by decide +kernel) (pa_cons (pv 4) pa_nil)) pe_int))
      (pss_cons (ps_set (i := 4) sc__law_pick.nd rfl (by first | exact Or.inl rfl | exact Or.inr rfl) (pe_op op_mod (pe_callTy call_int1 (by rfl) T.n_int (by decide +kernel) (pa_cons (pe_op op_add (pe_op op_mulW (pv 4) (pv 4)) (pe_op op_mulW pe_int (pv 4))) pa_nil)) pe_int))
      (pss_one (ps_ret (pe_op op_mod (pe_op op_fdivW (pe_op op_mod (pe_callTy call_int1 (by rfl) T.n_int (by decide +kernel) (pa_cons (pe_op op_add (pe_op op_mulW (pv 4) (pv 4)) (pe_op op_mulW pe_int (pv 3))) pa_nil)) pe_int) pe_int) (pv 1)))))))))), ?_⟩
    have one : b ∈ [b] := List.mem_singleton.mpr rfl
    refine ⟨_, rfl, b, _, 0, .int x, rfl, rfl, SqL.of hb, rfl, _, _, rfl, rfl, _, rfl, ite2 (fun hx => ?_) (fun hx => ?_)⟩
    · refine ⟨_, rfl, b, _, 0, .int x, rfl, rfl, SqL.of hb, rfl, .inl ⟨x, rfl, _, rfl, _, _, rfl, rfl, u0, ?_⟩⟩
      refine ⟨_, rfl, b, _, 0, .int x, rfl, rfl, SqL.of hb, rfl, _, rfl, _, _, rfl, rfl, cdiv 30 u0 u1 (by decide) (by decide), ?_⟩
      refine ⟨_, rfl, b, _, 0, 0, rfl, rfl, hb, rfl, ?_⟩
      refine ⟨_, rfl, k _ _ (Int.emod_nonneg _ (by omega)) (Int.emod_lt_of_pos _ u0) (Stp.put one) ⟨_, _, _, upd_same, ?_⟩⟩
      exact ⟨Int.ediv_nonneg x0 (by omega), y0, y1, z0, by omega⟩
    · refine ⟨_, rfl, b, _, 2, .int z, rfl, rfl, SqL.of hb, rfl, _, _, rfl, rfl, ?_⟩
      obtain ⟨t, et⟩ : ∃ t, t = z + 1 := ⟨_, rfl⟩
      dsimp only
      rw [← et]
      have t0 : 0 ≤ t := by omega
      have t1 : t < 2 ^ 31 := by omega
      refine ⟨_, rfl, b, _, 2, 2, rfl, rfl, hb, rfl, ?_⟩
      refine ⟨_, rfl, b, _, 2, .int t, rfl, rfl, SqL.of upd_same, rfl, ?_⟩
      have a1 := mul_lt (i := 40503) (a := 16) (b := 31) (by decide) (by decide) t0 t1
      have a2 := mul_lt (i := 40503 * t) (j := t) (a := 47) (b := 31) a1.1 a1.2 t0 t1
      have a3 := mul_lt (i := 271) (a := 9) (b := 31) (by decide) (by decide) t0 t1
      have a4 := mul_lt (i := y + 11) (j := 40503 * t * t + 271 * t + 5) (a := 62) (b := 80) (by omega) (by omega) (by omega) (by omega)
      refine ⟨_, rfl, b, _, 1, .int y, rfl, rfl, SqL.of upd_same, rfl, _, _, rfl, rfl,
        _, rfl, _, _, rfl, rfl, cmul 16 31 (by decide) (by decide) t0 t1 (by decide) (by decide) (by decide),
        _, rfl, _, _, rfl, rfl, cmul 47 31 a1.1 a1.2 t0 t1 (by decide) (by decide) (by decide),
        _, rfl, _, _, rfl, rfl, cmul 9 31 (by decide) (by decide) t0 t1 (by decide) (by decide) (by decide), _, _, rfl, rfl, _, _, rfl, rfl,
        _, _, rfl, rfl, cmul 62 80 (by omega) (by omega) (by omega) (by omega) (by decide) (by decide) (by decide), ?_⟩
      refine ⟨_, rfl, .inl ⟨_, rfl, _, _, rfl, rfl, (by show (0 : Int) < 2305843009213693951; decide), ?_⟩⟩
      obtain ⟨m, em⟩ : ∃ m, m = (y + 11) * (40503 * t * t + 271 * t + 5) % 2305843009213693951 := ⟨_, rfl⟩
      dsimp only
      rw [← em]
      have m0 : 0 ≤ m := by rw [em]; exact Int.emod_nonneg _ (by decide)
      have m1 : m < 2 ^ 61 := by
        rw [em]
        exact Int.lt_of_lt_of_le (Int.emod_lt_of_pos _ (by decide)) (by decide)
      refine ⟨_, rfl, _, rfl, _, _, rfl, rfl, cmul 61 61 m0 m1 m0 m1 (by decide) (by decide) (by decide),
        _, rfl, _, _, rfl, rfl, cmul 16 61 (by decide) (by decide) m0 m1 (by decide) (by decide) (by decide), _, _, rfl, rfl,
        .inl ⟨_, rfl, _, _, rfl, rfl, (by show (0 : Int) < 1000000000000000003; decide), ?_⟩⟩
      obtain ⟨v, ev⟩ : ∃ v, v = (m * m + 48271 * m) % 1000000000000000003 := ⟨_, rfl⟩
      dsimp only
      rw [← ev]
      have v0 : 0 ≤ v := by rw [ev]; exact Int.emod_nonneg _ (by decide)
      have v1 : v < 2 ^ 60 := by
        rw [ev]
        exact Int.lt_of_lt_of_le (Int.emod_lt_of_pos _ (by decide)) (by decide)
      refine ⟨_, rfl, _, rfl, _, _, rfl, rfl, cmul 60 60 v0 v1 v0 v1 (by decide) (by decide) (by decide),
        _, rfl, _, _, rfl, rfl, cmul 17 31 (by decide) (by decide) t0 t1 (by decide) (by decide) (by decide), _, _, rfl, rfl,
        .inl ⟨_, rfl, _, _, rfl, rfl, (by show (0 : Int) < 2147483629; decide), _, _, rfl, rfl, cdiv 6 (by decide) (by decide) (by decide) (by decide), _, rfl, _, _, rfl, rfl, u0, ?_⟩⟩
      exact k _ _ (Int.emod_nonneg _ (by omega)) (Int.emod_lt_of_pos _ u0) (Stp.put one) ⟨_, _, _, upd_same, x0, y0, y1, by omega, by omega⟩
abbrev s_is_rule : Stmt := topS 3
abbrev N_is_rule : List Str := ["value", "lacks", "low", "high"]
theorem sc_is_rule : FnScope ["value", "lacks", "low", "high"] ["value"] (defScope s_is_rule) := ⟨rfl, rfl, rfl, by decide +kernel, rfl, by decide +kernel, by decide +kernel⟩

abbrev s_is_lacks_part : Stmt := topS 4
abbrev N_is_lacks_part : List Str := ["part"]
theorem sc_is_lacks_part : FnScope ["part"] ["part"] (defScope s_is_lacks_part) := ⟨rfl, rfl, rfl, by decide +kernel, rfl, by decide +kernel, by decide +kernel⟩

abbrev s_is_low_part : Stmt := topS 5
abbrev N_is_low_part : List Str := ["part"]
theorem sc_is_low_part : FnScope ["part"] ["part"] (defScope s_is_low_part) := ⟨rfl, rfl, rfl, by decide +kernel, rfl, by decide +kernel, by decide +kernel⟩

abbrev s_is_high_part : Stmt := topS 6
abbrev N_is_high_part : List Str := ["part"]
theorem sc_is_high_part : FnScope ["part"] ["part"] (defScope s_is_high_part) := ⟨rfl, rfl, rfl, by decide +kernel, rfl, by decide +kernel, by decide +kernel⟩

abbrev s_is_lost : Stmt := topS 7
abbrev N_is_lost : List Str := ["part"]
theorem sc_is_lost : FnScope ["part"] ["part"] (defScope s_is_lost) := ⟨rfl, rfl, rfl, by decide +kernel, rfl, by decide +kernel, by decide +kernel⟩

abbrev s_is_letter_number : Stmt := topS 8
abbrev N_is_letter_number : List Str := ["part"]
theorem sc_is_letter_number : FnScope ["part"] ["part"] (defScope s_is_letter_number) := ⟨rfl, rfl, rfl, by decide +kernel, rfl, by decide +kernel, by decide +kernel⟩

/-! ### what is a rule -/
def isIn (ss : List Str) : D → Bool
  | .str l => decide (tx l ∈ ss)
  | _ => false
def isLost : D → Bool
  | .str l => decide (tx l = ("lost" : Str))
  | _ => false
def isNum : D → Bool
  | .int i => decide (0 ≤ i) && decide (i ≤ 6)
  | _ => false
def isLow (d : D) : Bool := isLost d || isNum d
def isHigh : D → Bool
  | .tup [a, b] => isIn ["cut", "beyond"] a && isNum b
  | d => isLost d
def isRule : D → Bool
  | .tup [a, b, c] => isIn ["many", "some", "hidden"] a && isLow b && isHigh c
  | _ => false
/-- a def that tells a truth of any value -/
def spTell (K : PySem.W.Frag) (t : D → Bool) : Sp := fun vs H Q _ => ∃ (S : List Addr) (v : V) (d : D), vs = [v] ∧ Rv K S H v d ∧ ∀ H' b, Stp [] H H' → b = t d → Q (.bl b) H'
theorem spTell.len {K : PySem.W.Frag} {t : D → Bool} {vs : List V} {H : Hp} {Q : VK} {E : XK} (h : spTell K t vs H Q E) : vs.length = 1 := by
  obtain ⟨S, v, d, rfl, _⟩ := h
  rfl
theorem bl_str {l : List Nat} {s : Str} : decide (Tx l = V.str s) = decide (tx l = s) := by
  by_cases h : tx l = s
  · rw [decide_eq_true (congrArg V.str h), decide_eq_true h]
  · rw [decide_eq_false h, decide_eq_false (fun q => h (V.str.inj q))]
/-- x in (..), texts: the tuple is made on the way -/
theorem in_strs {K : PySem.W.Frag} {H : Hp} {l : List Nat} {ss : List Str} {p : Addr} {Q : VK} (hp : SqL K H p (ss.map V.str) ∨ SqT K H p (ss.map V.str)) (k : Q (.bl (decide (tx l ∈ ss))) H) : rIn K false (Tx l) (.ref p) H Q := by
  refine ⟨p, ss.map V.str, rfl, hp, rfl, ?_, ?_⟩
  · rw [List.all_map]
    exact List.all_eq_true.mpr fun _ _ => rfl
  · show Q (.bl (inV (.str (tx l)) (ss.map V.str))) H
    rw [inV_str]
    exact k
theorem cl_is_lost {f : Addr} {fd : FuncData} (D : Df K mg "is_lost" s_is_lost ["part"] f fd) (T : Nm mg) : Cl P w K mg base 1 "is_lost" s_is_lost ["part"] (spTell K isLost) := by
  refine D.cl sc_is_lost (fun vs H Q E h => h.len) (fun cdv A outer s H vs Q E hr h => ?_)
  obtain ⟨S, v, d, rfl, r, k⟩ := h
  refine ⟨_, (pss_one (ps_ret (pe_and (pe_tyIs (T := "str") Mono.var (pv 0) T.n_type T.n_str (by decide +kernel)) (pe_one (pe_cmpR op_eq (pv 0) pe_str (by first | exact nomark _ | rfl)))))), ?_⟩
  refine ⟨_, rfl, d.old, r.old, _, rfl, ?_⟩
  cases r with
  | str l hl => exact ⟨_, rfl, rfl, by
      show Q (.bl (decide (Tx l = V.str "lost"))) H
      exact k H _ (Stp.refl _ _) bl_str⟩
  | _ => exact k H _ (Stp.refl _ _) rfl
theorem cl_is_letter_number {f : Addr} {fd : FuncData} (D : Df K mg "is_letter_number" s_is_letter_number ["part"] f fd) (T : Nm mg) : Cl P w K mg base 1 "is_letter_number" s_is_letter_number ["part"] (spTell K isNum) := by
  refine D.cl sc_is_letter_number (fun vs H Q E h => h.len) (fun cdv A outer s H vs Q E hr h => ?_)
  obtain ⟨S, v, d, rfl, r, k⟩ := h
  refine ⟨_, (pss_one (ps_ret (pe_and (pe_tyIs (T := "int") Mono.var (pv 0) T.n_type T.n_int (by decide +kernel)) (pe_one (pe_chain op_le op_le pe_int (pv 0) pe_int))))), ?_⟩
  refine ⟨_, rfl, d.old, r.old, _, rfl, ?_⟩
  cases r with
  | int i =>
    refine ⟨_, rfl, _, _, rfl, rfl, _, rfl, ite2 (fun h => ?_) (fun h => ?_)⟩
    · exact ⟨_, _, rfl, rfl, k H _ (Stp.refl _ _) (by show _ = (decide (0 ≤ i) && decide (i ≤ 6)); rw [h]; rfl)⟩
    · exact k H _ (Stp.refl _ _) (by show _ = (decide (0 ≤ i) && decide (i ≤ 6)); rw [Bool.eq_false_iff.mpr h]; rfl)
  | _ => exact k H _ (Stp.refl _ _) rfl
theorem cl_is_lacks_part {f : Addr} {fd : FuncData} (D : Df K mg "is_lacks_part" s_is_lacks_part ["part"] f fd) (T : Nm mg) : Cl P w K mg base 1 "is_lacks_part" s_is_lacks_part ["part"] (spTell K (isIn ["many", "some", "hidden"])) := by
  refine D.cl sc_is_lacks_part (fun vs H Q E h => h.len) (fun cdv A outer s H vs Q E hr h => ?_)
  obtain ⟨S, v, d, rfl, r, k⟩ := h
  refine ⟨_, (pss_one (ps_ret (pe_and (pe_tyIs (T := "str") Mono.var (pv 0) T.n_type T.n_str (by decide +kernel)) (pe_one (pe_cmpR op_in_seq (pv 0) (pe_tup (pa_cons pe_str (pa_cons pe_str (pa_cons pe_str pa_nil)))) (by first | exact nomark _ | rfl)))))), ?_⟩
  refine ⟨_, rfl, d.old, r.old, _, rfl, ?_⟩
  cases r with
  | str l hl => exact ⟨_, rfl, (by show 3 ≤ sizeLine; decide), fun p np => in_strs (ss := ["many", "some", "hidden"]) (.inr (SqT.of upd_same)) (k _ _ (Stp.new np _) rfl)⟩
  | _ => exact k H _ (Stp.refl _ _) rfl
theorem cl_is_low_part {f : Addr} {fd : FuncData} (D : Df K mg "is_low_part" s_is_low_part ["part"] f fd) (T : Nm mg) (c_is_lost : Cl P w K mg base 1 "is_lost" s_is_lost ["part"] (spTell K isLost)) (c_is_letter_number : Cl P w K mg base 1 "is_letter_number" s_is_letter_number ["part"] (spTell K isNum)) :
    Cl P w K mg base 2 "is_low_part" s_is_low_part ["part"] (spTell K isLow) := by
  refine D.cl sc_is_low_part (fun vs H Q E h => h.len) (fun cdv A outer s H vs Q E hr h => ?_)
  obtain ⟨S, v, d, rfl, r, k⟩ := h
  refine ⟨_, (pss_one (ps_ret (pe_or (pe_cl c_is_lost hr (by omega) (pa_cons (pv 0) pa_nil)) (pe_one (pe_cl c_is_letter_number hr (by omega) (pa_cons (pv 0) pa_nil)))))), ?_⟩
  refine ⟨_, rfl, S, v, d, rfl, r, fun H1 b S1 eb => ⟨_, rfl, ite2 (fun h => ?_) (fun h => ?_)⟩⟩
  · exact k H1 _ S1 (by unfold isLow; rw [← eb, h]; rfl)
  · exact ⟨_, rfl, S, v, d, rfl, r.up S1, fun H2 b2 S2 eb2 => k H2 _ (S1.trans S2) (by unfold isLow; rw [← eb, ← eb2, Bool.eq_false_iff.mpr h]; rfl)⟩
theorem isHigh_no {d : D} (h : ∀ a b, d ≠ .tup [a, b]) : isHigh d = isLost d := by
  cases d with
  | tup ds => match ds, h with
    | [], _ => rfl
    | [_], _ => rfl
    | [a, b], h => exact absurd rfl (h a b)
    | _ :: _ :: _ :: _, _ => rfl
  | _ => rfl
theorem two {α : Type} {l : List α} (h : l.length = 2) : ∃ a b, l = [a, b] := by
  match l, h with
  | [a, b], _ => exact ⟨a, b, rfl⟩
theorem three {α : Type} {l : List α} (h : l.length = 3) : ∃ a b c, l = [a, b, c] := by
  match l, h with
  | [a, b, c], _ => exact ⟨a, b, c, rfl⟩
theorem RvL.two {K : PySem.W.Frag} {S : List Addr} {H : Hp} {vs : List V} {a b : D} (r : RvL K S H vs [a, b]) : ∃ u v, vs = [u, v] ∧ Rv K S H u a ∧ Rv K S H v b := by
  cases r with
  | cons h1 r => cases r with
    | cons h2 r => cases r; exact ⟨_, _, rfl, h1, h2⟩
theorem RvL.three {K : PySem.W.Frag} {S : List Addr} {H : Hp} {vs : List V} {a b c : D} (r : RvL K S H vs [a, b, c]) : ∃ u v w, vs = [u, v, w] ∧ Rv K S H u a ∧ Rv K S H v b ∧ Rv K S H w c := by
  cases r with
  | cons h1 r => cases r with
    | cons h2 r => cases r with
      | cons h3 r => cases r; exact ⟨_, _, _, rfl, h1, h2, h3⟩
theorem at2 {α : Type} {a b c : α} {l : List α} : atI (a :: b :: c :: l) 2 = some c := atI_nat (j := 2) rfl
theorem cl_is_high_part {f : Addr} {fd : FuncData} (D : Df K mg "is_high_part" s_is_high_part ["part"] f fd) (T : Nm mg) (c_is_lost : Cl P w K mg base 1 "is_lost" s_is_lost ["part"] (spTell K isLost)) (c_is_letter_number : Cl P w K mg base 1 "is_letter_number" s_is_letter_number ["part"] (spTell K isNum)) :
    Cl P w K mg base 2 "is_high_part" s_is_high_part ["part"] (spTell K isHigh) := by
  refine D.cl sc_is_high_part (fun vs H Q E h => h.len) (fun cdv A outer s H vs Q E hr h => ?_)
  obtain ⟨S, v, d, rfl, r, k⟩ := h
  refine ⟨_, (pss_cons (ps_if (PW.pt (pw_or (pt_tyNot (T := "tuple") Mono.var (pv 0) T.n_type T.n_tuple (by decide +kernel)) (pw_or1 (pt_cmpR op_ne (pe_callB call_len_seq (by rfl) T.n_len (by decide +kernel) (pa_cons (pv 0) pa_nil)) pe_int (by first | exact nomark _ | rfl))))) (pss_one (ps_ret (pe_cl c_is_lost hr (by omega) (pa_cons (pv 0) pa_nil)))) pss_nil)
      (pss_one (ps_ret (pe_and (pe_tyIs (T := "str") (Mono.ixT Mono.var Mono.c) (pe_ix ix_tup (pv 0) pe_int (fun _ _ => rfl)) T.n_type T.n_str (by decide +kernel)) (pe_and (pe_cmpR op_in_seq (pe_ix ix_tup (pv 0) pe_int (fun _ _ => rfl)) (pe_tup (pa_cons pe_str (pa_cons pe_str pa_nil))) (by first | exact nomark _ | rfl)) (pe_one (pe_cl c_is_letter_number hr (by omega) (pa_cons (pe_ix ix_tup (pv 0) pe_int (fun _ _ => rfl)) pa_nil)))))))), ?_⟩
  have no : (∀ a b, d ≠ .tup [a, b]) → ∀ H1, H1 = H → ∃ x, (L2.start N_is_high_part [v])[0]? = some (some x) ∧ spTell K isLost [x] H1 Q E0 := fun n H1 e => by
    subst e
    exact ⟨v, rfl, S, v, d, rfl, r, fun H2 b S2 eb => k H2 b S2 (by rw [isHigh_no n]; exact eb)⟩
  refine ⟨_, rfl, d.old, r.old, ite2 (fun h => ?_) (fun h => ?_)⟩
  · refine no (fun a b e => ?_) H rfl
    rw [e] at h
    exact absurd h (by simp [Pv.D.old, Dt.ty])
  · obtain ⟨ds, rfl⟩ : ∃ ds, d = .tup ds   := Pv.D.tup_of (by
      have h2 := Bool.eq_false_iff.mpr h
      simpa [Pv.D.ty] using h2)
    cases r with
    | tup hs hl rl =>
      rename_i a vs
      refine ⟨_, rfl, a, _, rfl, .inr hs, rfl, _, rfl, ite2 (fun h3 => ?_) (fun h3 => ?_)⟩
      · refine no (fun x y e => ?_) H rfl
        cases e
        rw [rl.len] at h3
        exact absurd h3 (by simp)
      · obtain ⟨x, y, rfl⟩ := two (l := ds) (by
          rw [rl.len] at h3
          have h2 := Bool.eq_false_iff.mpr h3
          simp at h2
          omega)
        obtain ⟨u, v, rfl, r1, r2⟩ := RvL.two rl
        refine ⟨_, rfl, a, _, 0, u, rfl, rfl, hs, at0, x.old, r1.old, _, rfl, ?_⟩
        cases r1 with
        | str l hl =>
          refine ⟨_, rfl, a, _, 0, Tx l, rfl, rfl, hs, at0, (by show 2 ≤ sizeLine; decide), fun p np => in_strs (ss := ["cut", "beyond"]) (.inr (SqT.of upd_same)) ⟨_, rfl, ite2 (fun h => ?_) (fun h => ?_)⟩⟩
          · have S1 : Stp [] H (upd H p (.tup [.str "cut", .str "beyond"])) := Stp.new np _
            refine ⟨_, rfl, a, _, 1, v, rfl, rfl, sqt_stp S1 Lsts.nil hs, at1, S, v, y, rfl, r2.up S1, fun H2 b S2 eb => k H2 b (S1.trans S2) ?_⟩
            show b = (decide (tx l ∈ _) && isNum y)
            rw [h, eb]
            rfl
          · refine k _ _ (Stp.new np _) ?_
            show false = (decide (tx l ∈ _) && isNum y)
            rw [Bool.eq_false_iff.mpr h]
            rfl
        | _ => exact k H _ (Stp.refl _ _) rfl
abbrev s__law_letters : Stmt := topS 14
abbrev N__law_letters : List Str := ["thing"]
theorem sc__law_letters : FnScope ["thing"] ["thing"] (defScope s__law_letters) := ⟨rfl, rfl, rfl, by decide +kernel, rfl, by decide +kernel, by decide +kernel⟩

abbrev s__law_is_rule : Stmt := topS 15
abbrev N__law_is_rule : List Str := ["thing", "word", "low", "high"]
theorem sc__law_is_rule : FnScope ["thing", "word", "low", "high"] ["thing"] (defScope s__law_is_rule) := ⟨rfl, rfl, rfl, by decide +kernel, rfl, by decide +kernel, by decide +kernel⟩

theorem nt {b : Bool} (h : (!b) = true) : b = false := by simpa using h
theorem nf {b : Bool} (h : ¬ (!b) = true) : b = true := by simpa using h
theorem notin_strs {K : PySem.W.Frag} {H : Hp} {l : List Nat} {ss : List Str} {p : Addr} {Q : VK} (hp : SqL K H p (ss.map V.str) ∨ SqT K H p (ss.map V.str)) (k : Q (.bl (!decide (tx l ∈ ss))) H) : rIn K true (Tx l) (.ref p) H Q := by
  refine ⟨p, ss.map V.str, rfl, hp, rfl, ?_, ?_⟩
  · rw [List.all_map]
    exact List.all_eq_true.mpr fun _ _ => rfl
  · show Q (.bl (!inV (.str (tx l)) (ss.map V.str))) H
    rw [inV_str]
    exact k
theorem isRule_no {d : D} (h : ∀ a b c, d ≠ .tup [a, b, c]) : isRule d = false := by
  cases d with
  | tup ds => match ds, h with
    | [], _ => rfl
    | [_], _ => rfl
    | [_, _], _ => rfl
    | [a, b, c], h => exact absurd rfl (h a b c)
    | _ :: _ :: _ :: _ :: _, _ => rfl
  | _ => rfl
theorem cl_is_rule {f : Addr} {fd : FuncData} (D : Df K mg "is_rule" s_is_rule ["value"] f fd) (T : Nm mg) (c_is_lacks_part : Cl P w K mg base 1 "is_lacks_part" s_is_lacks_part ["part"] (spTell K (isIn ["many", "some", "hidden"])))
    (c_is_low_part : Cl P w K mg base 2 "is_low_part" s_is_low_part ["part"] (spTell K isLow)) (c_is_high_part : Cl P w K mg base 2 "is_high_part" s_is_high_part ["part"] (spTell K isHigh)) : Cl P w K mg base 3 "is_rule" s_is_rule ["value"] (spTell K isRule) := by
  refine D.cl sc_is_rule (fun vs H Q E h => h.len) (fun cdv A outer s H vs Q E hr h => ?_)
  obtain ⟨S, v, d, rfl, r, k⟩ := h
  refine ⟨_, (pss_cons (ps_if (PW.pt (pw_or (pt_tyNot (T := "tuple") Mono.var (pv 0) T.n_type T.n_tuple (by decide +kernel)) (pw_or1 (pt_cmpR op_ne (pe_callB call_len_seq (by rfl) T.n_len (by decide +kernel) (pa_cons (pv 0) pa_nil)) pe_int (by first | exact nomark _ | rfl))))) (pss_one (ps_ret pe_bl)) pss_nil)
      (pss_cons (ps_asg (pv 0) (pg_tup rfl (pgs_cons (pg_name (i := 1) sc_is_rule.nd rfl (by first | exact Or.inl rfl | exact Or.inr rfl)) (pgs_cons (pg_name (i := 2) sc_is_rule.nd rfl (by first | exact Or.inl rfl | exact Or.inr rfl)) (pgs_cons (pg_name (i := 3) sc_is_rule.nd rfl (by first | exact Or.inl rfl | exact Or.inr rfl)) pgs_nil (by rfl)) (by rfl)) (by rfl)) (by rfl) (by rfl)))
      (pss_one (ps_ret (pe_and (pe_cl c_is_lacks_part hr (by omega) (pa_cons (pv 1) pa_nil)) (pe_and (pe_cl c_is_low_part hr (by omega) (pa_cons (pv 2) pa_nil)) (pe_one (pe_cl c_is_high_part hr (by omega) (pa_cons (pv 3) pa_nil))))))))), ?_⟩
  refine ⟨_, rfl, d.old, r.old, ite2 (fun h => ?_) (fun h => ?_)⟩
  · exact k H _ (Stp.refl _ _) (isRule_no fun a b c e => by rw [e] at h; exact absurd h (by simp [Pv.D.old, Dt.ty])).symm
  · obtain ⟨ds, rfl⟩ : ∃ ds, d = .tup ds := Pv.D.tup_of (by
      have h2 := Bool.eq_false_iff.mpr h
      simpa [Pv.D.ty] using h2)
    cases r with
    | tup hs hl rl =>
      rename_i a vs
      refine ⟨_, rfl, a, _, rfl, .inr hs, rfl, _, rfl, ite2 (fun h3 => ?_) (fun h3 => ?_)⟩
      · exact k H _ (Stp.refl _ _) (isRule_no fun x y z e => by
          cases e
          rw [rl.len] at h3
          exact absurd h3 (by simp)).symm
      · obtain ⟨x, y, z, rfl⟩ := three (l := ds) (by
          rw [rl.len] at h3
          have h2 := Bool.eq_false_iff.mpr h3
          simp at h2
          omega)
        obtain ⟨u1, u2, u3, rfl, r1, r2, r3⟩ := RvL.three rl
        refine ⟨_, rfl, a, _, rfl, hs, rfl, _, _, rfl, _, _, rfl, _, _, rfl, rfl, ?_⟩
        refine ⟨_, rfl, S, u1, x, rfl, r1, fun H1 b1 S1 e1 => ⟨_, rfl, ite2 (fun h4 => ?_) (fun h4 => ?_)⟩⟩
        · refine ⟨_, rfl, S, u2, y, rfl, r2.up S1, fun H2 b2 S2 e2 => ⟨_, rfl, ite2 (fun h5 => ?_) (fun h5 => ?_)⟩⟩
          · refine ⟨_, rfl, S, u3, z, rfl, (r3.up S1).up S2, fun H3 b3 S3 e3 => k H3 _ ((S1.trans S2).trans S3) ?_⟩
            show b3 = (isIn _ x && isLow y && isHigh z)
            rw [← e1, ← e2, ← e3, h4, h5]
            rfl
          · refine k H2 _ (S1.trans S2) ?_
            show false = (isIn _ x && isLow y && isHigh z)
            rw [← e1, ← e2, h4, Bool.eq_false_iff.mpr h5]
            rfl
        · refine k H1 _ S1 ?_
          show false = (isIn _ x && isLow y && isHigh z)
          rw [← e1, Bool.eq_false_iff.mpr h4]
          rfl
theorem cl__law_letters {f : Addr} {fd : FuncData} (D : Df K mg "_law_letters" s__law_letters ["thing"] f fd) (T : Nm mg) : Cl P w K mg base 1 "_law_letters" s__law_letters ["thing"] (spTell K isLow) := by
  refine D.cl sc__law_letters (fun vs H Q E h => h.len) (fun cdv A outer s H vs Q E hr h => ?_)
  obtain ⟨S, v, d, rfl, r, k⟩ := h
  refine ⟨_, (pss_cons (ps_if (pt_val (pe_callB (Pv.call_isiD (T := "str") (by decide)) (by rfl) T.n_isinstance (by decide +kernel) (pa_cons (pv 0) (pa_cons (pe_bltn (v := .ty "str") (u := Value.type "str") (by rfl) T.n_str (by decide +kernel) rfl) pa_nil)))) (pss_one (ps_ret (pe_cmpR op_eq (pv 0) pe_str (by first | exact nomark _ | rfl)))) pss_nil)
      (pss_one (ps_ret (pe_and (pe_callB (Pv.call_isiD (T := "int") (by decide)) (by rfl) T.n_isinstance (by decide +kernel) (pa_cons (pv 0) (pa_cons (pe_bltn (v := .ty "int") (u := Value.type "int") (by rfl) T.n_int (by decide +kernel) rfl) pa_nil))) (pe_and (pe_not (pe_callB (Pv.call_isiD (T := "bool") (by decide)) (by rfl) T.n_isinstance (by decide +kernel) (pa_cons (pv 0) (pa_cons (pe_bltn (v := .ty "bool") (u := Value.type "bool") (by rfl) T.n_bool (by decide +kernel) rfl) pa_nil)))) (pe_and (pe_cmpR op_le pe_int (pv 0) (by first | exact nomark _ | rfl)) (pe_one (pe_cmpR op_le (pv 0) pe_int (by first | exact nomark _ | rfl))))))))), ?_⟩
  refine ⟨_, rfl, S, v, d, rfl, r, _, rfl, ?_⟩
  cases r with
  | str l hl => exact ⟨_, rfl, rfl, by
      show Q (.bl (decide (Tx l = V.str "lost"))) H
      exact k H _ (Stp.refl _ _) (by show _ = (decide (tx l = _) || false); rw [Bool.or_false]; exact bl_str)⟩
  | int i =>
    refine ⟨_, rfl, S, _, .int i, rfl, .int i, _, rfl, ?_⟩
    refine ⟨_, rfl, S, _, .int i, rfl, .int i, _, rfl, _, rfl, ?_⟩
    refine ⟨_, rfl, _, _, rfl, rfl, _, rfl, ite2 (fun h => ?_) (fun h => ?_)⟩
    · exact ⟨_, rfl, _, _, rfl, rfl, k H _ (Stp.refl _ _) (by show _ = (false || (decide (0 ≤ i) && decide (i ≤ 6))); rw [h]; rfl)⟩
    · exact k H _ (Stp.refl _ _) (by show _ = (false || (decide (0 ≤ i) && decide (i ≤ 6))); rw [Bool.eq_false_iff.mpr h]; rfl)
  | bl b => exact ⟨_, rfl, S, _, .bl b, rfl, .bl b, _, rfl, _, rfl, S, _, .bl b, rfl, .bl b, _, rfl, _, rfl, k H _ (Stp.refl _ _) rfl⟩
  | non => exact ⟨_, rfl, S, _, .non, rfl, .non, _, rfl, k H _ (Stp.refl _ _) rfl⟩
  | tup h1 h2 h3 => exact ⟨_, rfl, S, _, _, rfl, .tup h1 h2 h3, _, rfl, k H _ (Stp.refl _ _) rfl⟩
  | lst h1 h2 h3 h4 => exact ⟨_, rfl, S, _, _, rfl, .lst h1 h2 h3 h4, _, rfl, k H _ (Stp.refl _ _) rfl⟩
  | obj h1 h2 => exact ⟨_, rfl, S, _, _, rfl, .obj h1 h2, _, rfl, k H _ (Stp.refl _ _) rfl⟩
theorem cl__law_is_rule {f : Addr} {fd : FuncData} (D : Df K mg "_law_is_rule" s__law_is_rule ["thing"] f fd) (T : Nm mg) (c__law_letters : Cl P w K mg base 1 "_law_letters" s__law_letters ["thing"] (spTell K isLow)) : Cl P w K mg base 2 "_law_is_rule" s__law_is_rule ["thing"] (spTell K isRule) := by
  refine D.cl sc__law_is_rule (fun vs H Q E h => h.len) (fun cdv A outer s H vs Q E hr h => ?_)
  obtain ⟨S, v, d, rfl, r, k⟩ := h
  refine ⟨_, (pss_cons (ps_if (PW.pt (pw_or (pt_not (pt_val (pe_callB (Pv.call_isiD (T := "tuple") (by decide)) (by rfl) T.n_isinstance (by decide +kernel) (pa_cons (pv 0) (pa_cons (pe_bltn (v := .ty "tuple") (u := Value.type "tuple") (by rfl) T.n_tuple (by decide +kernel) rfl) pa_nil))))) (pw_or1 (pt_cmpR op_ne (pe_callB call_len_seq (by rfl) T.n_len (by decide +kernel) (pa_cons (pv 0) pa_nil)) pe_int (by first | exact nomark _ | rfl))))) (pss_one (ps_ret pe_bl)) pss_nil)
      (pss_cons (ps_asg (pv 0) (pg_tup rfl (pgs_cons (pg_name (i := 1) sc__law_is_rule.nd rfl (by first | exact Or.inl rfl | exact Or.inr rfl)) (pgs_cons (pg_name (i := 2) sc__law_is_rule.nd rfl (by first | exact Or.inl rfl | exact Or.inr rfl)) (pgs_cons (pg_name (i := 3) sc__law_is_rule.nd rfl (by first | exact Or.inl rfl | exact Or.inr rfl)) pgs_nil (by rfl)) (by rfl)) (by rfl)) (by rfl) (by rfl)))
      (pss_cons (ps_if (PW.pt (pw_or (pt_not (pt_val (pe_callB (Pv.call_isiD (T := "str") (by decide)) (by rfl) T.n_isinstance (by decide +kernel) (pa_cons (pv 1) (pa_cons (pe_bltn (v := .ty "str") (u := Value.type "str") (by rfl) T.n_str (by decide +kernel) rfl) pa_nil))))) (pw_or (pt_cmpR op_notIn_seq (pv 1) (pe_lst (pa_cons pe_str (pa_cons pe_str (pa_cons pe_str pa_nil)))) (by first | exact nomark _ | rfl)) (pw_or1 (pt_not (pt_val (pe_cl c__law_letters hr (by omega) (pa_cons (pv 2) pa_nil)))))))) (pss_one (ps_ret pe_bl)) pss_nil)
      (pss_cons (ps_if (pt_not (pt_val (pe_callB (Pv.call_isiD (T := "tuple") (by decide)) (by rfl) T.n_isinstance (by decide +kernel) (pa_cons (pv 3) (pa_cons (pe_bltn (v := .ty "tuple") (u := Value.type "tuple") (by rfl) T.n_tuple (by decide +kernel) rfl) pa_nil))))) (pss_one (ps_ret (pe_and (pe_callB (Pv.call_isiD (T := "str") (by decide)) (by rfl) T.n_isinstance (by decide +kernel) (pa_cons (pv 3) (pa_cons (pe_bltn (v := .ty "str") (u := Value.type "str") (by rfl) T.n_str (by decide +kernel) rfl) pa_nil))) (pe_one (pe_cmpR op_eq (pv 3) pe_str (by first | exact nomark _ | rfl)))))) pss_nil)
      (pss_cons (ps_if (PW.pt (pw_or (pt_cmpR op_ne (pe_callB call_len_seq (by rfl) T.n_len (by decide +kernel) (pa_cons (pv 3) pa_nil)) pe_int (by first | exact nomark _ | rfl)) (pw_or (pt_not (pt_val (pe_callB (Pv.call_isiD (T := "str") (by decide)) (by rfl) T.n_isinstance (by decide +kernel) (pa_cons (pe_ix ix_tup (pv 3) pe_int (fun _ _ => rfl)) (pa_cons (pe_bltn (v := .ty "str") (u := Value.type "str") (by rfl) T.n_str (by decide +kernel) rfl) pa_nil))))) (pw_or1 (pt_cmpR op_notIn_seq (pe_ix ix_tup (pv 3) pe_int (fun _ _ => rfl)) (pe_lst (pa_cons pe_str (pa_cons pe_str pa_nil))) (by first | exact nomark _ | rfl)))))) (pss_one (ps_ret pe_bl)) pss_nil)
      (pss_one (ps_ret (pe_and (pe_not (pe_callB (Pv.call_isiD (T := "str") (by decide)) (by rfl) T.n_isinstance (by decide +kernel) (pa_cons (pe_ix ix_tup (pv 3) pe_int (fun _ _ => rfl)) (pa_cons (pe_bltn (v := .ty "str") (u := Value.type "str") (by rfl) T.n_str (by decide +kernel) rfl) pa_nil)))) (pe_one (pe_cl c__law_letters hr (by omega) (pa_cons (pe_ix ix_tup (pv 3) pe_int (fun _ _ => rfl)) pa_nil))))))))))), ?_⟩
  have no : (∀ a b c, d ≠ .tup [a, b, c]) → Q (.bl false) H := fun n => k H _ (Stp.refl _ _) (isRule_no n).symm
  refine ⟨_, rfl, S, v, d, rfl, r, _, rfl, ?_⟩
  cases r with
  | tup hs hl rl =>
    rename_i a vs ds
    refine ⟨_, rfl, a, _, rfl, .inr hs, rfl, _, rfl, ite2 (fun h3 => ?_) (fun h3 => ?_)⟩
    · exact no fun x y z e => by
        cases e
        rw [rl.len] at h3
        exact absurd h3 (by simp)
    · obtain ⟨x, y, z, rfl⟩ := three (l := ds) (by
        rw [rl.len] at h3
        have h2 := Bool.eq_false_iff.mpr h3
        simp at h2
        omega)
      obtain ⟨u1, u2, u3, rfl, r1, r2, r3⟩ := RvL.three rl
      have fal : ∀ H1 : Hp, Stp [] H H1 → (isIn ["many", "some", "hidden"] x && isLow y && isHigh z) = false → Q (.bl false) H1 := fun H1 S1 e => k H1 _ S1 e.symm
      refine ⟨_, rfl, a, _, rfl, hs, rfl, _, _, rfl, _, _, rfl, _, _, rfl, rfl, ?_⟩
      refine ⟨_, rfl, S, u1, x, rfl, r1, _, rfl, ?_⟩
      cases r1 with
      | str l hl =>
        refine ⟨_, rfl, (by show 3 ≤ sizeLine; decide), fun p np => notin_strs (ss := ["many", "some", "hidden"]) (.inl (SqL.of upd_same)) ⟨_, rfl, ite2 (fun h4 => ?_) (fun h4 => ?_)⟩⟩
        · refine fal _ (Stp.new np _) ?_
          show (decide (tx l ∈ _) && isLow y && isHigh z) = false
          rw [nt h4]
          rfl
        · have h4 := nf h4
          have S1 : Stp [] H (upd H p (.lst [.str "many", .str "some", .str "hidden"])) := Stp.new np _
          refine ⟨_, rfl, S, u2, y, rfl, r2.up S1, fun H2 b2 S2 e2 => ⟨_, rfl, ite2 (fun h5 => ?_) (fun h5 => ?_)⟩⟩
          · refine fal _ (S1.trans S2) ?_
            show (decide (tx l ∈ _) && isLow y && isHigh z) = false
            rw [h4, ← e2, nt h5]
            rfl
          · have h5 := nf h5
            have S2 := S1.trans S2
            have r3 := r3.up S2
            have tru : ∀ (H1 : Hp) (b : Bool), Stp [] H2 H1 → b = isHigh z → Q (.bl b) H1 := fun H1 b S3 e => k H1 _ (S2.trans S3) (by
              show b = (decide (tx l ∈ _) && isLow y && isHigh z)
              rw [h4, ← e2, h5, e]
              rfl)
            refine ⟨_, rfl, S, u3, z, rfl, r3, _, rfl, ?_⟩
            cases r3 with
            | tup hz hzl rz =>
              rename_i az vz dz
              refine ⟨_, rfl, az, _, rfl, .inr hz, rfl, _, rfl, ite2 (fun h6 => ?_) (fun h6 => ?_)⟩
              · refine tru _ _ (Stp.refl _ _) (Eq.symm (Eq.trans (isHigh_no fun m n e => ?_) rfl))
                cases e
                rw [rz.len] at h6
                exact absurd h6 (by simp)
              · obtain ⟨m, n, rfl⟩ := two (l := dz) (by
                  rw [rz.len] at h6
                  have h2 := Bool.eq_false_iff.mpr h6
                  simp at h2
                  omega)
                obtain ⟨v1, v2, rfl, q1, q2⟩ := RvL.two rz
                refine ⟨_, rfl, az, _, 0, v1, rfl, rfl, hz, at0, S, v1, m, rfl, q1, _, rfl, ?_⟩
                cases q1 with
                | str l2 hl2 =>
                  refine ⟨_, rfl, az, _, 0, _, rfl, rfl, hz, at0, (by show 2 ≤ sizeLine; decide), fun p2 np2 => notin_strs (ss := ["cut", "beyond"]) (.inl (SqL.of upd_same)) ⟨_, rfl, ite2 (fun h7 => ?_) (fun h7 => ?_)⟩⟩
                  · refine tru _ _ (Stp.new np2 _) ?_
                    show false = (decide (tx l2 ∈ _) && isNum n)
                    rw [nt h7]
                    rfl
                  · have h7 := nf h7
                    have S3 : Stp [] H2 (upd H2 p2 (.lst [.str "cut", .str "beyond"])) := Stp.new np2 _
                    have q2 := q2.up S3
                    have hz3 := sqt_stp S3 Lsts.nil hz
                    have fin : ∀ (H1 : Hp) (b : Bool), Stp [] (upd H2 p2 (.lst [.str "cut", .str "beyond"])) H1 → b = isNum n → Q (.bl b) H1 := fun H1 b S4 e => tru H1 b (S3.trans S4) (by
                      show b = (decide (tx l2 ∈ _) && isNum n)
                      rw [h7, e]
                      rfl)
                    refine ⟨_, rfl, az, _, 1, v2, rfl, rfl, hz3, at1, S, v2, n, rfl, q2, _, rfl, _, rfl, ?_⟩
                    cases q2 with
                    | str l3 hl3 => exact fin _ _ (Stp.refl _ _) rfl
                    | int i => exact ⟨_, rfl, az, _, 1, _, rfl, rfl, hz3, at1, S, _, _, rfl, .int i, fun H5 b5 S5 e5 => fin H5 b5 S5 e5⟩
                    | bl i => exact ⟨_, rfl, az, _, 1, _, rfl, rfl, hz3, at1, S, _, _, rfl, .bl i, fun H5 b5 S5 e5 => fin H5 b5 S5 e5⟩
                    | non => exact ⟨_, rfl, az, _, 1, _, rfl, rfl, hz3, at1, S, _, _, rfl, .non, fun H5 b5 S5 e5 => fin H5 b5 S5 e5⟩
                    | tup a1 a2 a3 => exact ⟨_, rfl, az, _, 1, _, rfl, rfl, hz3, at1, S, _, _, rfl, .tup a1 a2 a3, fun H5 b5 S5 e5 => fin H5 b5 S5 e5⟩
                    | lst a1 a2 a3 a4 => exact ⟨_, rfl, az, _, 1, _, rfl, rfl, hz3, at1, S, _, _, rfl, .lst a1 a2 a3 a4, fun H5 b5 S5 e5 => fin H5 b5 S5 e5⟩
                    | obj a1 a2 => exact ⟨_, rfl, az, _, 1, _, rfl, rfl, hz3, at1, S, _, _, rfl, .obj a1 a2, fun H5 b5 S5 e5 => fin H5 b5 S5 e5⟩
                | _ => exact tru _ _ (Stp.refl _ _) rfl
            | str l3 hl3 =>
              refine ⟨_, rfl, S, _, _, rfl, .str l3 hl3, _, rfl, ⟨_, rfl, rfl, ?_⟩⟩
              exact tru _ _ (Stp.refl _ _) bl_str
            | int i => exact ⟨_, rfl, S, _, _, rfl, .int i, _, rfl, tru _ _ (Stp.refl _ _) rfl⟩
            | bl i => exact ⟨_, rfl, S, _, _, rfl, .bl i, _, rfl, tru _ _ (Stp.refl _ _) rfl⟩
            | non => exact ⟨_, rfl, S, _, _, rfl, .non, _, rfl, tru _ _ (Stp.refl _ _) rfl⟩
            | lst a1 a2 a3 a4 => exact ⟨_, rfl, S, _, _, rfl, .lst a1 a2 a3 a4, _, rfl, tru _ _ (Stp.refl _ _) rfl⟩
            | obj a1 a2 => exact ⟨_, rfl, S, _, _, rfl, .obj a1 a2, _, rfl, tru _ _ (Stp.refl _ _) rfl⟩
      | _ => exact fal _ (Stp.refl _ _) rfl
  | _ => exact no fun _ _ _ e => nomatch e
abbrev s__law_odd : Stmt := topS 13
abbrev N__law_odd : List Str := ["urn", "odd"]
theorem sc__law_odd : FnScope ["urn", "odd"] ["urn"] (defScope s__law_odd) := ⟨rfl, rfl, rfl, by decide +kernel, rfl, by decide +kernel, by decide +kernel⟩

def odds0 (C : Addr) : List D := [.non, .bl true, .bl false, .int 0, .int 1, .int 2, .int 6, .int 7, .int (-1), .int (10 ^ (30 : Int).toNat), wd "", wd "a", wd "lost", wd "many", wd "cut", wd "A", wd "d", wd "ab "]
theorem odds0_len {C : Addr} : (odds0 C).length = 18 := rfl
def odds1 (C : Addr) : List D := [.tup [], .lst [], .tup [wd "cut", .int 2], .lst [wd "cut", .int 2], .tup [wd "lost"], .tup [.non], .lst [.non], .tup [wd "", .non], .tup [wd "some", .int 1, wd "lost"]]
theorem odds1_len {C : Addr} : (odds1 C).length = 9 := rfl
def odds2 (C : Addr) : List D := [.lst [wd "a", wd "b"], wd "beyond", wd "None", .tup [wd "is", wd "a"], .tup [.int 1, .int 0, wd "a", wd "a"], .obj C, .lst [.lst []], wd "a\n"]
theorem odds2_len {C : Addr} : (odds2 C).length = 8 := rfl
def odds3 (C : Addr) : List D := [.tup [wd "a", wd "b"], wd "hidden"]
theorem odds3_len {C : Addr} : (odds3 C).length = 2 := rfl
def odds (C : Addr) : List D := odds0 C ++ odds1 C ++ odds2 C ++ odds3 C
theorem odds_len {C : Addr} : (odds C).length = 37 := rfl
def spOdd (K : PySem.W.Frag) (C : Addr) : Sp := fun vs H Q _ => ∃ (b : Addr) (n : Nat), vs = [.ref b] ∧ Urn H b n ∧ n + 10 < 2 ^ 30 ∧ ∀ v d H', d ∈ odds C → Stp [b] H H' → Urn H' b (n + 1) → Rv K [b] H' v d → Q v H'
theorem cl__law_odd {f C : Addr} {fd : FuncData} (D : Df K mg "_law_odd" s__law_odd ["urn"] f fd) (T : Nm mg) (TX : Nx K mg C) (c__law_pick : Cl P w K mg base 1 "_law_pick" s__law_pick ["urn", "many"] spPick) : Cl P w K mg base 2 "_law_odd" s__law_odd ["urn"] (spOdd K C) := by
  refine D.cl sc__law_odd (fun vs H Q E h => ?_) (fun cdv A outer s H vs Q E hr h => ?_)
  · obtain ⟨b, n, rfl, _⟩ := h
    rfl
  · obtain ⟨b, n, rfl, U, hn, k⟩ := h
    refine ⟨_, (pss_cons (ps_set (i := 1) sc__law_odd.nd rfl (by first | exact Or.inl rfl | exact Or.inr rfl) (pe_lst (pa_cons pe_non (pa_cons pe_bl (pa_cons pe_bl (pa_cons pe_int (pa_cons pe_int (pa_cons pe_int (pa_cons pe_int (pa_cons pe_int (pa_cons (pe_un un_neg pe_int) (pa_cons (pe_op op_pow pe_int pe_int) (pa_cons pe_str (pa_cons pe_str (pa_cons pe_str (pa_cons pe_str (pa_cons pe_str (pa_cons pe_str (pa_cons pe_str (pa_cons pe_str pa_nil))))))))))))))))))))
      (pss_cons (ps_set (i := 1) sc__law_odd.nd rfl (by first | exact Or.inl rfl | exact Or.inr rfl) (pe_op op_cat (pv 1) (pe_lst (pa_cons (pe_tup pa_nil) (pa_cons (pe_lst pa_nil) (pa_cons (pe_tup (pa_cons pe_str (pa_cons pe_int pa_nil))) (pa_cons (pe_lst (pa_cons pe_str (pa_cons pe_int pa_nil))) (pa_cons (pe_tup (pa_cons pe_str pa_nil)) (pa_cons (pe_tup (pa_cons pe_non pa_nil)) (pa_cons (pe_lst (pa_cons pe_non pa_nil)) (pa_cons (pe_tup (pa_cons pe_str (pa_cons pe_non pa_nil))) (pa_cons (pe_tup (pa_cons pe_str (pa_cons pe_int (pa_cons pe_str pa_nil)))) pa_nil))))))))))))
      (pss_cons (ps_set (i := 1) sc__law_odd.nd rfl (by first | exact Or.inl rfl | exact Or.inr rfl) (pe_op op_cat (pv 1) (pe_lst (pa_cons (pe_lst (pa_cons pe_str (pa_cons pe_str pa_nil))) (pa_cons pe_str (pa_cons pe_str (pa_cons (pe_tup (pa_cons pe_str (pa_cons pe_str pa_nil))) (pa_cons (pe_tup (pa_cons pe_int (pa_cons pe_int (pa_cons pe_str (pa_cons pe_str pa_nil))))) (pa_cons (pe_exc1 PySem.F.excBase_ValueError TX.x_SkipError TX.g_SkipError TX.k_SkipError rfl pe_str) (pa_cons (pe_lst (pa_cons (pe_lst pa_nil) pa_nil)) (pa_cons pe_str pa_nil)))))))))))
      (pss_cons (ps_set (i := 1) sc__law_odd.nd rfl (by first | exact Or.inl rfl | exact Or.inr rfl) (pe_op op_cat (pv 1) (pe_lst (pa_cons (pe_tup (pa_cons pe_str (pa_cons pe_str pa_nil))) (pa_cons pe_str pa_nil)))))
      (pss_one (ps_ret (pe_ix ix_list (pv 1) (pe_cl c__law_pick hr (by omega) (pa_cons (pv 0) (pa_cons (pe_callB call_len_seq (by rfl) T.n_len (by decide +kernel) (pa_cons (pv 1) pa_nil)) pa_nil))) (fun _ _ => rfl)))))))), ?_⟩
    have ls0 := U.ls
    refine asg_name ?_
    refine' Pv.EvDA.newl (K := K) (S := [b]) (ds := odds0 C) ?e0 ?l0 ?k0
    case e0 => unfold odds0; (repeat' first | exact Pv.EvDA.nil | apply Pv.EvDA.cons | exact Pv.EvD.bl | exact Pv.EvD.int | exact Pv.EvD.non | exact Pv.EvD.str | apply Pv.EvD.tup | apply Pv.EvD.lst ls0 | apply Pv.EvD.exc TX.ok | exact Pv.EvD.pow ⟨by decide, by decide, by decide⟩ | apply Pv.EvD.neg | (simp; done))
    case l0 => rw [odds0_len]; decide
    case k0 =>
    intro L0 vs0 H0 E0 n0 h0 r0
    have ls1 := Pg.Lsts.stp ls0 E0
    refine asg_name ?_
    refine op_var rfl ?_
    refine' Pv.EvDA.newl (K := K) (S := [b]) (ds := odds1 C) ?e1 ?l1 ?k1
    case e1 => unfold odds1; (repeat' first | exact Pv.EvDA.nil | apply Pv.EvDA.cons | exact Pv.EvD.bl | exact Pv.EvD.int | exact Pv.EvD.non | exact Pv.EvD.str | apply Pv.EvD.tup | apply Pv.EvD.lst ls1 | apply Pv.EvD.exc TX.ok | exact Pv.EvD.pow ⟨by decide, by decide, by decide⟩ | apply Pv.EvD.neg | (simp; done))
    case l1 => rw [odds1_len]; decide
    case k1 =>
    intro M1 ws1 G1 T1 m1 g1 q1
    refine cat_use (T1.kp _ _ (fun m => nomatch m) h0) g1 (r0.up T1) q1 (by simp [odds0_len, odds1_len]) fun L1 n1 H1 vs1 F1 h1 r1 => ?_
    have E1 := (E0.trans T1).trans F1
    have ls2 := Pg.Lsts.stp ls0 E1
    refine asg_name ?_
    refine op_var rfl ?_
    refine' Pv.EvDA.newl (K := K) (S := [b]) (ds := odds2 C) ?e2 ?l2 ?k2
    case e2 => unfold odds2; (repeat' first | exact Pv.EvDA.nil | apply Pv.EvDA.cons | exact Pv.EvD.bl | exact Pv.EvD.int | exact Pv.EvD.non | exact Pv.EvD.str | apply Pv.EvD.tup | apply Pv.EvD.lst ls2 | apply Pv.EvD.exc TX.ok | exact Pv.EvD.pow ⟨by decide, by decide, by decide⟩ | apply Pv.EvD.neg | (simp; done))
    case l2 => rw [odds2_len]; decide
    case k2 =>
    intro M2 ws2 G2 T2 m2 g2 q2
    refine cat_use (T2.kp _ _ (fun m => nomatch m) h1) g2 (r1.up T2) q2 (by simp [odds0_len, odds1_len, odds2_len]) fun L2 n2 H2 vs2 F2 h2 r2 => ?_
    have E2 := (E1.trans T2).trans F2
    have ls3 := Pg.Lsts.stp ls0 E2
    refine asg_name ?_
    refine op_var rfl ?_
    refine' Pv.EvDA.newl (K := K) (S := [b]) (ds := odds3 C) ?e3 ?l3 ?k3
    case e3 => unfold odds3; (repeat' first | exact Pv.EvDA.nil | apply Pv.EvDA.cons | exact Pv.EvD.bl | exact Pv.EvD.int | exact Pv.EvD.non | exact Pv.EvD.str | apply Pv.EvD.tup | apply Pv.EvD.lst ls3 | apply Pv.EvD.exc TX.ok | exact Pv.EvD.pow ⟨by decide, by decide, by decide⟩ | apply Pv.EvD.neg | (simp; done))
    case l3 => rw [odds3_len]; decide
    case k3 =>
    intro M3 ws3 G3 T3 m3 g3 q3
    refine cat_use (T3.kp _ _ (fun m => nomatch m) h2) g3 (r2.up T3) q3 (by simp [odds0_len, odds1_len, odds2_len, odds3_len]) fun L3 n3 H3 vs3 F3 h3 r3 => ?_
    have E3 := (E2.trans T3).trans F3
    have U1 := U.up E3
    refine ⟨_, rfl, _, rfl, _, rfl, L3, _, rfl, .inl (SqL.of h3), b, _, n, rfl, U1, by omega, ?_, ?_, fun d H1 d0 d1 S1 U2 => ?_⟩
    · rw [r3.len, show (odds0 C ++ odds1 C ++ odds2 C ++ odds3 C).length = 37 from rfl]; exact (by decide : (0 : Int) < ((37 : Nat) : Int))
    · rw [r3.len, show (odds0 C ++ odds1 C ++ odds2 C ++ odds3 C).length = 37 from rfl]; exact (by decide : ((37 : Nat) : Int) < 2 ^ 30)
    · rw [r3.len] at d1
      have nLb : L3 ∉ [b] := fun m => by
        obtain ⟨x, y, z, hb, _⟩ := U1
        rw [List.mem_singleton.mp m, hb] at h3
        injection h3 with h
        injection h with h
        have := r3.len
        rw [← h, show (odds0 C ++ odds1 C ++ odds2 C ++ odds3 C).length = 37 from rfl] at this
        exact absurd this (by decide : ¬ 3 = 37)
      obtain ⟨v, e, me, re, ev⟩ := (r3.stp S1 U1.ls).pick d0 d1
      exact ⟨L3, _, d, v, rfl, rfl, SqL.of (S1.kp _ _ nLb h3), ev, k v e H1 me (E3.nil.trans S1) U2 re⟩

abbrev s__law_rule : Stmt := topS 12
abbrev N__law_rule : List Str := ["urn", "word", "way", "low"]
theorem sc__law_rule : FnScope ["urn", "word", "way", "low"] ["urn"] (defScope s__law_rule) := ⟨rfl, rfl, rfl, by decide +kernel, rfl, by decide +kernel, by decide +kernel⟩

abbrev s__law_high_part : Stmt := topS 16
abbrev N__law_high_part : List Str := ["urn", "word", "number", "way"]
theorem sc__law_high_part : FnScope ["urn", "word", "number", "way"] ["urn"] (defScope s__law_high_part) := ⟨rfl, rfl, rfl, by decide +kernel, rfl, by decide +kernel, by decide +kernel⟩

abbrev s__law_bent : Stmt := topS 17
abbrev N__law_bent : List Str := ["urn", "line", "way", "at", "odd"]
theorem sc__law_bent : FnScope ["urn", "line", "way", "at", "odd"] ["urn", "line"] (defScope s__law_bent) := ⟨rfl, rfl, rfl, by decide +kernel, rfl, by decide +kernel, by decide +kernel⟩

/-! ### drawn rules -/
def lk : Nat → Str
  | 0 => "many"
  | 1 => "some"
  | _ => "hidden"
def wy : Nat → Str
  | 0 => "cut"
  | _ => "beyond"
/-- a rule: which word of lacks, letters of the low bound, the way and the letters of the high one -/
structure Ru where
  lacks : Nat
  low : Option Nat
  high : Option (Nat × Nat)
def loD : Option Nat → D
  | none => wd "lost"
  | some n => .int (n : Int)
def hiD : Option (Nat × Nat) → D
  | none => wd "lost"
  | some (k, n) => .tup [wd (wy k), .int (n : Int)]
def ruD (r : Ru) : D := .tup [wd (lk r.lacks), loD r.low, hiD r.high]
structure RuOk (r : Ru) : Prop where
  lacks : r.lacks < 3
  low : ∀ n, r.low = some n → n ≤ 6
  high : ∀ k n, r.high = some (k, n) → k < 2 ∧ n ≤ 6
theorem pick_at {α : Type} {x0 : α} {l : List α} {d : Int} (h0 : 0 ≤ d) (h1 : d < (l.length : Int)) : ∃ k x, k < l.length ∧ d = (k : Int) ∧ l[k]? = some x ∧ atI l d = some x := by
  obtain ⟨k, rfl⟩ := Int.eq_ofNat_of_zero_le h0
  have hk : k < l.length := by omega
  exact ⟨k, l[k], hk, rfl, List.getElem?_eq_getElem hk, atI_nat (List.getElem?_eq_getElem hk)⟩
theorem words3 {d : Int} (h0 : 0 ≤ d) (h1 : d < 3) : ∃ k, k < 3 ∧ atI [V.str "many", V.str "some", V.str "hidden"] d = some (.str (lk k)) := by
  rcases (by omega : d = 0 ∨ d = 1 ∨ d = 2) with rfl | rfl | rfl
  · exact ⟨0, by decide, at0⟩
  · exact ⟨1, by decide, at1⟩
  · exact ⟨2, by decide, at2⟩
theorem words2 {d : Int} (h0 : 0 ≤ d) (h1 : d < 2) : ∃ k, k < 2 ∧ atI [V.str "cut", V.str "beyond"] d = some (.str (wy k)) := by
  rcases (by omega : d = 0 ∨ d = 1) with rfl | rfl
  · exact ⟨0, by decide, at0⟩
  · exact ⟨1, by decide, at1⟩
theorem lk_len (k : Nat) : (lk k).cps.toList.length ≤ 100000 := by
  unfold lk
  split <;> decide +kernel
theorem wy_len (k : Nat) : (wy k).cps.toList.length ≤ 100000 := by
  unfold wy
  split <;> decide +kernel
def spRule (K : PySem.W.Frag) : Sp := fun vs H Q _ => ∃ (b : Addr) (n : Nat), vs = [.ref b] ∧ Urn H b n ∧ n + 20 < 2 ^ 30 ∧ ∀ v r H', Stp [b] H H' → Urn H' b (n + 10) → RuOk r → Rv K [b] H' v (ruD r) → Q v H'
theorem cl__law_rule {f : Addr} {fd : FuncData} (D : Df K mg "_law_rule" s__law_rule ["urn"] f fd) (T : Nm mg) (c__law_pick : Cl P w K mg base 1 "_law_pick" s__law_pick ["urn", "many"] spPick) : Cl P w K mg base 2 "_law_rule" s__law_rule ["urn"] (spRule K) := by
  refine D.cl sc__law_rule (fun vs H Q E h => ?_) (fun cdv A outer s H vs Q E hr h => ?_)
  · obtain ⟨b, n, rfl, _⟩ := h
    rfl
  · obtain ⟨b, n, rfl, U, hn, k⟩ := h
    refine ⟨_, (pss_cons (ps_set (i := 1) sc__law_rule.nd rfl (by first | exact Or.inl rfl | exact Or.inr rfl) (pe_ix ix_list (pe_lst (pa_cons pe_str (pa_cons pe_str (pa_cons pe_str pa_nil)))) (pe_cl c__law_pick hr (by omega) (pa_cons (pv 0) (pa_cons pe_int pa_nil))) (fun _ _ => rfl)))
      (pss_cons (ps_set (i := 2) sc__law_rule.nd rfl (by first | exact Or.inl rfl | exact Or.inr rfl) (pe_cl c__law_pick hr (by omega) (pa_cons (pv 0) (pa_cons pe_int pa_nil))))
      (pss_cons (ps_set (i := 3) sc__law_rule.nd rfl (by first | exact Or.inl rfl | exact Or.inr rfl) (pe_ifExp (pt_cmpR op_eq (pv 2) pe_int (by first | exact nomark _ | rfl)) pe_str (pe_cl c__law_pick hr (by omega) (pa_cons (pv 0) (pa_cons (pe_ix ix_list (pe_lst (pa_cons pe_int (pa_cons pe_int (pa_cons pe_int pa_nil)))) (pe_op op_sub (pv 2) pe_int) (fun _ _ => rfl)) pa_nil)))))
      (pss_cons (ps_set (i := 2) sc__law_rule.nd rfl (by first | exact Or.inl rfl | exact Or.inr rfl) (pe_cl c__law_pick hr (by omega) (pa_cons (pv 0) (pa_cons pe_int pa_nil))))
      (pss_cons (ps_if (pt_cmpR op_eq (pv 2) pe_int (by first | exact nomark _ | rfl)) (pss_one (ps_ret (pe_tup (pa_cons (pv 1) (pa_cons (pv 3) (pa_cons pe_str pa_nil)))))) pss_nil)
      (pss_one (ps_ret (pe_tup (pa_cons (pv 1) (pa_cons (pv 3) (pa_cons (pe_tup (pa_cons (pe_ix ix_list (pe_lst (pa_cons pe_str (pa_cons pe_str pa_nil))) (pe_op op_fdivW (pv 2) pe_int) (fun _ _ => rfl)) (pa_cons (pe_cl c__law_pick hr (by omega) (pa_cons (pv 0) (pa_cons (pe_ix ix_list (pe_lst (pa_cons pe_int (pa_cons pe_int pa_nil))) (pe_op op_mod (pe_callTy call_int1 (by rfl) T.n_int (by decide +kernel) (pa_cons (pv 2) pa_nil)) pe_int) (fun _ _ => rfl)) pa_nil))) pa_nil))) pa_nil))))))))))), ?_⟩
    have one : b ∈ [b] := List.mem_singleton.mpr rfl
    refine ⟨(by show 3 ≤ sizeLine; decide), fun l nl => ?_⟩
    have U0 := U.upd (o := .lst [.str "many", .str "some", .str "hidden"]) (U.ne nl)
    have nlb : l ∉ [b] := fun m => U.ne nl (List.mem_singleton.mp m).symm
    refine ⟨_, rfl, b, 3, n, rfl, U0, by omega, by decide, by decide, fun d H1 d0 d1 S1 U1 => ?_⟩
    obtain ⟨kw, hkw, ekw⟩ := words3 d0 d1
    refine ⟨l, _, d, _, rfl, rfl, SqL.of (S1.kp _ _ nlb upd_same), ekw, ?_⟩
    have F1 : Stp [b] H H1 := (Stp.new nl _).trans S1
    refine ⟨_, rfl, b, 4, n + 1, rfl, U1, by omega, by decide, by decide, fun way H2 w0 w1 S2 U2 => ?_⟩
    have F2 := F1.trans S2
    dsimp only [gName]
    refine asg_name ?_
    refine te_join (fun v H' => ∃ lo : Option Nat, (∀ m, lo = some m → m ≤ 6) ∧ Rv K [b] H' v (loD lo) ∧ Stp [b] H H' ∧ Urn H' b (n + 3)) (fun fin => ?_) ?_
    · refine ⟨_, rfl, rfl, _, rfl, ite2 (fun h => ?_) (fun h => ?_)⟩
      · exact fin _ _ ⟨none, fun m e => (nomatch e), Rv.lit "lost", F2, U2.mono (by omega)⟩
      · have h : ¬ way = 0 := fun e => h (by rw [e]; rfl)
        refine ⟨_, rfl, (by show 3 ≤ sizeLine; decide), fun l2 nl2 => ?_⟩
        have U3 := U2.upd (o := .lst [.int 7, .int 7, .int 3]) (U2.ne nl2)
        refine ⟨_, rfl, _, _, rfl, rfl, ?_⟩
        obtain ⟨u, mu, eu⟩ := pick_int (ns := [7, 7, 3]) (d := way - 1) (by omega) (by simp; omega)
        have hu : 0 < u ∧ u ≤ 7 := by
          simp at mu
          omega
        refine ⟨l2, _, way - 1, .int u, rfl, rfl, SqL.of upd_same, eu, b, u, n + 2, rfl, U3, by omega, hu.1, by omega, fun z H3 z0 z1 S3 U4 => ?_⟩
        obtain ⟨m, rfl⟩ := Int.eq_ofNat_of_zero_le z0
        exact fin _ _ ⟨some m, fun m' e => by cases e; omega, .int _, (F2.trans (Stp.new nl2 _)).trans S3, U4⟩
    rintro vlo H3 ⟨lo, hlo, rlo, F3, U3⟩
    refine ⟨_, rfl, b, 5, n + 3, rfl, U3, by omega, by decide, by decide, fun way2 H4 w20 w21 S4 U4 => ?_⟩
    have F4 := F3.trans S4
    have rlo4 := rlo.stp S4 U3.ls
    have rw4 : Rv K [b] H4 (.str (lk kw)) (wd (lk kw)) := Rv.lit _ (lk_len kw)
    refine ⟨_, rfl, rfl, _, rfl, ite2 (fun h => ?_) (fun h => ?_)⟩
    · refine (Pv.EvD.tup (Pv.EvDA.cons (Pv.EvD.var rw4) (Pv.EvDA.cons (Pv.EvD.var rlo4) (Pv.EvDA.cons Pv.EvD.str Pv.EvDA.nil))) (by simp)).use fun v H5 S5 r5 => ?_
      exact k v ⟨kw, lo, none⟩ H5 (F4.trans S5.nil) ((U4.up S5).mono (by omega)) ⟨hkw, hlo, fun _ _ e => (nomatch e)⟩ r5
    · have h : ¬ way2 = 0 := fun e => h (by rw [e]; rfl)
      refine ⟨_, rfl, _, rfl, (by show 2 ≤ sizeLine; decide), fun l3 nl3 => ?_⟩
      have nlb3 : l3 ∉ [b] := fun m => U4.ne nl3 (List.mem_singleton.mp m).symm
      have U5 := U4.upd (o := .lst [.str "cut", .str "beyond"]) (U4.ne nl3)
      refine ⟨_, rfl, _, _, rfl, rfl, ⟨by decide, by decide⟩, ?_⟩
      obtain ⟨k2, hk2, ek2⟩ := words2 (d := way2 / 3) (by omega) (by omega)
      refine ⟨l3, _, way2 / 3, _, rfl, rfl, SqL.of upd_same, ek2, ?_⟩
      refine ⟨_, rfl, (by show 2 ≤ sizeLine; decide), fun l4 nl4 => ?_⟩
      have U6 := U5.upd (o := .lst [.int 7, .int 3]) (U5.ne nl4)
      refine ⟨_, rfl, .inl ⟨way2, rfl, _, _, rfl, rfl, (by show (0 : Int) < 2; decide), ?_⟩⟩
      obtain ⟨u, mu, eu⟩ := pick_int (ns := [7, 3]) (d := way2 % 2) (by omega) (by simp; omega)
      have hu : 0 < u ∧ u ≤ 7 := by
        simp at mu
        omega
      refine ⟨l4, _, way2 % 2, .int u, rfl, rfl, SqL.of upd_same, eu, b, u, n + 4, rfl, U6, by omega, hu.1, by omega, fun z H5 z0 z1 S5 U7 => ?_⟩
      obtain ⟨m, rfl⟩ := Int.eq_ofNat_of_zero_le z0
      have F5 : Stp [b] H4 H5 := ((Stp.new nl3 _).trans (Stp.new nl4 _)).trans S5
      refine ⟨(by show 2 ≤ sizeLine; decide), fun t nt => ?_⟩
      refine ⟨(by show 3 ≤ sizeLine; decide), fun t2 nt2 => ?_⟩
      have S6 : Stp [] H5 (upd H5 t (.tup [.str (wy k2), .int (m : Int)])) := Stp.new nt _
      have rh : Rv K [b] (upd H5 t (.tup [.str (wy k2), .int (m : Int)])) (.ref t) (hiD (some (k2, m))) := Rv.newT nt (.cons (Rv.lit _ (wy_len k2)) (.cons (.int _) .nil)) (by simp)
      have rl6 := (rlo4.stp F5 U4.ls).up S6
      exact k _ ⟨kw, lo, some (k2, m)⟩ _ (((F4.trans F5).trans S6.nil).new' nt2) (((U7.up S6).up (Stp.new nt2 _)).mono (by omega)) ⟨hkw, hlo, fun _ _ e => by cases e; exact ⟨hk2, by omega⟩⟩
        (Rv.newT nt2 (.cons (Rv.lit _ (lk_len kw)) (.cons rl6 (.cons rh .nil))) (by simp))
/-! ### bent values -/
/-- a def that draws any value -/
def spAny (K : PySem.W.Frag) (m : Nat) : Sp := fun vs H Q _ => ∃ (b : Addr) (n : Nat), vs = [.ref b] ∧ Urn H b n ∧ n + 100 < 2 ^ 30 ∧ ∀ v d H', Stp [b] H H' → Urn H' b (n + m) → Rv K [b] H' v d → Q v H'
theorem cl__law_high_part {f C : Addr} {fd : FuncData} (D : Df K mg "_law_high_part" s__law_high_part ["urn"] f fd) (T : Nm mg) (c__law_pick : Cl P w K mg base 1 "_law_pick" s__law_pick ["urn", "many"] spPick) (c__law_odd : Cl P w K mg base 2 "_law_odd" s__law_odd ["urn"] (spOdd K C)) :
    Cl P w K mg base 3 "_law_high_part" s__law_high_part ["urn"] (spAny K 10) := by
  refine D.cl sc__law_high_part (fun vs H Q E h => ?_) (fun cdv A outer s H vs Q E hr h => ?_)
  · obtain ⟨b, n, rfl, _⟩ := h
    rfl
  · obtain ⟨b, n, rfl, U, hn, k⟩ := h
    refine ⟨_, (pss_cons (ps_set (i := 1) sc__law_high_part.nd rfl (by first | exact Or.inl rfl | exact Or.inr rfl) (pe_ix ix_list (pe_lst (pa_cons pe_str (pa_cons pe_str (pa_cons pe_str (pa_cons pe_str (pa_cons pe_str pa_nil)))))) (pe_cl c__law_pick hr (by omega) (pa_cons (pv 0) (pa_cons pe_int pa_nil))) (fun _ _ => rfl)))
      (pss_cons (ps_set (i := 2) sc__law_high_part.nd rfl (by first | exact Or.inl rfl | exact Or.inr rfl) (pe_op op_sub (pe_cl c__law_pick hr (by omega) (pa_cons (pv 0) (pa_cons pe_int pa_nil))) pe_int))
      (pss_cons (ps_set (i := 3) sc__law_high_part.nd rfl (by first | exact Or.inl rfl | exact Or.inr rfl) (pe_cl c__law_pick hr (by omega) (pa_cons (pv 0) (pa_cons pe_int pa_nil))))
      (pss_cons (ps_if (pt_cmpR op_lt (pv 3) pe_int (by first | exact nomark _ | rfl)) (pss_one (ps_ret (pe_tup (pa_cons (pv 1) (pa_cons (pv 2) pa_nil))))) pss_nil)
      (pss_cons (ps_if (pt_cmpR op_eq (pv 3) pe_int (by first | exact nomark _ | rfl)) (pss_one (ps_ret (pe_tup (pa_cons (pe_ix ix_list (pe_lst (pa_cons pe_str (pa_cons pe_str pa_nil))) (pe_cl c__law_pick hr (by omega) (pa_cons (pv 0) (pa_cons pe_int pa_nil))) (fun _ _ => rfl)) (pa_cons (pe_cl c__law_odd hr (by omega) (pa_cons (pv 0) pa_nil)) pa_nil))))) pss_nil)
      (pss_cons (ps_if (pt_cmpR op_eq (pv 3) pe_int (by first | exact nomark _ | rfl)) (pss_one (ps_ret (pe_tup (pa_cons (pe_cl c__law_odd hr (by omega) (pa_cons (pv 0) pa_nil)) (pa_cons (pv 2) pa_nil))))) pss_nil)
      (pss_one (ps_ret (pe_ix ix_list (pe_lst (pa_cons (pe_lst (pa_cons (pv 1) (pa_cons (pv 2) pa_nil))) (pa_cons (pe_tup (pa_cons (pv 1) (pa_cons (pv 2) (pa_cons pe_int pa_nil)))) (pa_cons (pe_tup (pa_cons (pv 1) pa_nil)) pa_nil)))) (pe_op op_sub (pv 3) pe_int) (fun _ _ => rfl)))))))))), ?_⟩
    refine ⟨(by show 5 ≤ sizeLine; decide), fun l nl => ?_⟩
    have U0 := U.upd (o := .lst [.str "cut", .str "beyond", .str "Cut", .str "lost", .str "many"]) (U.ne nl)
    have nlb : l ∉ [b] := fun m => U.ne nl (List.mem_singleton.mp m).symm
    refine ⟨_, rfl, b, 5, n, rfl, U0, by omega, by decide, by decide, fun d H1 d0 d1 S1 U1 => ?_⟩
    have rws : RvL K [b] H1 [.str "cut", .str "beyond", .str "Cut", .str "lost", .str "many"] [wd "cut", wd "beyond", wd "Cut", wd "lost", wd "many"] := .cons (Rv.lit _) (.cons (Rv.lit _) (.cons (Rv.lit _) (.cons (Rv.lit _) (.cons (Rv.lit _) .nil))))
    obtain ⟨vw, dw, _, rw1, ew⟩ := rws.pick d0 d1
    refine ⟨l, _, d, _, rfl, rfl, SqL.of (S1.kp _ _ nlb upd_same), ew, ?_⟩
    have F1 : Stp [b] H H1 := (Stp.new nl _).trans S1
    refine ⟨_, rfl, b, 11, n + 1, rfl, U1, by omega, by decide, by decide, fun nu H2 u0 u1 S2 U2 => ?_⟩
    refine ⟨_, _, rfl, rfl, ?_⟩
    refine ⟨_, rfl, b, 8, n + 2, rfl, U2, by omega, by decide, by decide, fun way H3 w0 w1 S3 U3 => ?_⟩
    have F3 := (F1.trans S2).trans S3
    have rw3 := (rw1.stp S2 U1.ls).stp S3 U2.ls
    have ls3 := U3.ls
    obtain ⟨num, enum⟩ : ∃ i : Int, i = nu - 2 := ⟨_, rfl⟩
    dsimp only [gName]
    rw [← enum]
    have fin : ∀ v d H4, Stp [] H3 H4 → Rv K [b] H4 v d → Q v H4 := fun v d H4 S4 r4 => k v d H4 (F3.trans S4.nil) ((U3.up S4).mono (by omega)) r4
    refine ⟨_, rfl, _, _, rfl, rfl, _, rfl, ite2 (fun h => ?_) (fun h => ?_)⟩
    · refine (Pv.EvD.tup (Pv.EvDA.cons (Pv.EvD.var rw3) (Pv.EvDA.cons (Pv.EvD.var (.int num)) Pv.EvDA.nil)) (by simp)).use fun v H5 S5 r5 => fin v _ H5 S5 r5
    have h : ¬ way < 3 := fun q => h (decide_eq_true q)
    refine ⟨_, rfl, rfl, _, rfl, ite2 (fun h2 => ?_) (fun h2 => ?_)⟩
    · refine ⟨(by show 2 ≤ sizeLine; decide), fun l2 nl2 => ?_⟩
      have nlb2 : l2 ∉ [b] := fun m => U3.ne nl2 (List.mem_singleton.mp m).symm
      have U4 := U3.upd (o := .lst [.str "cut", .str "beyond"]) (U3.ne nl2)
      refine ⟨_, rfl, b, 2, n + 3, rfl, U4, by omega, by decide, by decide, fun d H4 d0 d1 S4 U5 => ?_⟩
      obtain ⟨k2, hk2, ek2⟩ := words2 d0 d1
      refine ⟨l2, _, d, _, rfl, rfl, SqL.of (S4.kp _ _ nlb2 upd_same), ek2, ?_⟩
      refine ⟨_, rfl, b, n + 4, rfl, U5, by omega, fun v e H5 _ S5 U6 re => ?_⟩
      refine ⟨(by show 2 ≤ sizeLine; decide), fun t nt => ?_⟩
      exact k _ _ _ ((((F3.trans (Stp.new nl2 _)).trans S4).trans S5).new' nt) ((U6.up (Stp.new nt _)).mono (by omega)) (Rv.newT nt (.cons (Rv.lit _ (wy_len k2)) (.cons re .nil)) (by simp))
    have h2 : ¬ way = 3 := fun e => h2 (by rw [e]; rfl)
    refine ⟨_, rfl, rfl, _, rfl, ite2 (fun h3 => ?_) (fun h3 => ?_)⟩
    · refine ⟨_, rfl, b, n + 3, rfl, U3, by omega, fun v e H5 _ S5 U6 re => ?_⟩
      refine ⟨_, rfl, (by show 2 ≤ sizeLine; decide), fun t nt => ?_⟩
      exact k _ _ _ ((F3.trans S5).new' nt) ((U6.up (Stp.new nt _)).mono (by omega)) (Rv.newT nt (.cons re (.cons (.int num) .nil)) (by simp))
    have h3 : ¬ way = 4 := fun e => h3 (by rw [e]; rfl)
    refine Pv.op_newl (K := K) (S := [b]) (Pv.EvDA.cons (Pv.EvD.lst ls3 (Pv.EvDA.cons (Pv.EvD.var rw3) (Pv.EvDA.cons (Pv.EvD.var (.int num)) Pv.EvDA.nil)) (by simp)) (Pv.EvDA.cons (Pv.EvD.tup (Pv.EvDA.cons (Pv.EvD.var rw3) (Pv.EvDA.cons (Pv.EvD.var (.int num)) (Pv.EvDA.cons Pv.EvD.int Pv.EvDA.nil))) (by simp))
      (Pv.EvDA.cons (Pv.EvD.tup (Pv.EvDA.cons (Pv.EvD.var rw3) Pv.EvDA.nil) (by simp)) Pv.EvDA.nil))) (by simp) fun p vs H4 S4 np hp rp => ?_
    refine ⟨_, rfl, _, _, rfl, rfl, ?_⟩
    obtain ⟨v, e, _, re, ev⟩ := rp.pick (i := way - 5) (by omega) (by simp; omega)
    exact ⟨p, _, way - 5, v, rfl, rfl, SqL.of hp, ev, fin v e H4 S4 re⟩
def spBent (K : PySem.W.Frag) : Sp := fun vs H Q _ => ∃ (b : Addr) (n : Nat) (v : V) (x y z : Pv.D), vs = [.ref b, v] ∧ Urn H b n ∧ n + 200 < 2 ^ 30 ∧ Rv K [b] H v (.tup [x, y, z]) ∧ ∀ v d H', Stp [b] H H' → Urn H' b (n + 20) → Rv K [b] H' v d → Q v H'
theorem cl__law_bent {f C : Addr} {fd : FuncData} (D : Df K mg "_law_bent" s__law_bent ["urn", "line"] f fd) (T : Nm mg) (c__law_pick : Cl P w K mg base 1 "_law_pick" s__law_pick ["urn", "many"] spPick) (c__law_odd : Cl P w K mg base 2 "_law_odd" s__law_odd ["urn"] (spOdd K C))
    (c__law_high_part : Cl P w K mg base 3 "_law_high_part" s__law_high_part ["urn"] (spAny K 10)) : Cl P w K mg base 4 "_law_bent" s__law_bent ["urn", "line"] (spBent K) := by
  refine D.cl sc__law_bent (fun vs H Q E h => ?_) (fun cdv A outer s H vs Q E hr h => ?_)
  · obtain ⟨b, n, v, x, y, z, rfl, _⟩ := h
    rfl
  · obtain ⟨b, n, v, x, y, z, rfl, U, hn, r, k⟩ := h
    refine ⟨_, (pss_cons (ps_set (i := 2) sc__law_bent.nd rfl (by first | exact Or.inl rfl | exact Or.inr rfl) (pe_cl c__law_pick hr (by omega) (pa_cons (pv 0) (pa_cons pe_int pa_nil))))
      (pss_cons (ps_set (i := 3) sc__law_bent.nd rfl (by first | exact Or.inl rfl | exact Or.inr rfl) (pe_cl c__law_pick hr (by omega) (pa_cons (pv 0) (pa_cons pe_int pa_nil))))
      (pss_cons (ps_if (pt_cmpR op_lt (pv 2) pe_int (by first | exact nomark _ | rfl)) (pss_one (ps_ret (pe_op op_catA (pe_op op_catA (pe_slice sl_tupA (pv 1) po_none (po_some (pv 3))) (pe_tup (pa_cons (pe_cl c__law_odd hr (by omega) (pa_cons (pv 0) pa_nil)) pa_nil))) (pe_slice sl_tupA (pv 1) (po_some (pe_op op_add (pv 3) pe_int)) po_none)))) pss_nil)
      (pss_cons (ps_if (pt_cmpR op_eq (pv 2) pe_int (by first | exact nomark _ | rfl)) (pss_one (ps_ret (pe_op op_catA (pe_slice sl_tupA (pv 1) po_none (po_some pe_int)) (pe_tup (pa_cons (pe_cl c__law_high_part hr (by omega) (pa_cons (pv 0) pa_nil)) pa_nil))))) pss_nil)
      (pss_cons (ps_if (pt_cmpR op_eq (pv 2) pe_int (by first | exact nomark _ | rfl)) (pss_one (ps_ret (pe_tup (pa_cons (pe_ix ix_tup (pv 1) pe_int (fun _ _ => rfl)) (pa_cons (pe_op op_sub (pe_cl c__law_pick hr (by omega) (pa_cons (pv 0) (pa_cons pe_int pa_nil))) pe_int) (pa_cons (pe_ix ix_tup (pv 1) pe_int (fun _ _ => rfl)) pa_nil)))))) pss_nil)
      (pss_cons (ps_if (pt_cmpR op_eq (pv 2) pe_int (by first | exact nomark _ | rfl)) (pss_one (ps_ret (pe_op op_catA (pe_op op_catA (pe_slice sl_tupA (pv 1) po_none (po_some (pv 3))) (pe_tup (pa_cons (pe_ix ix_list (pe_lst (pa_cons pe_str (pa_cons pe_str (pa_cons pe_str (pa_cons pe_str (pa_cons pe_str (pa_cons pe_str pa_nil))))))) (pe_cl c__law_pick hr (by omega) (pa_cons (pv 0) (pa_cons pe_int pa_nil))) (fun _ _ => rfl)) pa_nil))) (pe_slice sl_tupA (pv 1) (po_some (pe_op op_add (pv 3) pe_int)) po_none)))) pss_nil)
      (pss_cons (ps_if (pt_cmpR op_eq (pv 2) pe_int (by first | exact nomark _ | rfl)) (pss_cons (ps_set (i := 4) sc__law_bent.nd rfl (by first | exact Or.inl rfl | exact Or.inr rfl) (pe_lst (pa_cons (pe_callTy call_list_of (by rfl) T.n_list (by decide +kernel) (pa_cons (pv 1) pa_nil)) (pa_cons (pe_slice sl_tupA (pv 1) po_none (po_some pe_int)) (pa_cons (pe_op op_catA (pv 1) (pe_tup (pa_cons (pe_ix ix_tup (pv 1) pe_int (fun _ _ => rfl)) pa_nil))) (pa_cons (pe_tup (pa_cons (pv 1) pa_nil)) (pa_cons (Pv.pe_revT (pv 1)) (pa_cons (pe_tup (pa_cons (pe_ix ix_tup (pv 1) pe_int (fun _ _ => rfl)) (pa_cons (pe_slice sl_tupA (pv 1) (po_some pe_int) po_none) pa_nil))) pa_nil))))))))
      (pss_one (ps_ret (pe_ix ix_list (pv 4) (pe_cl c__law_pick hr (by omega) (pa_cons (pv 0) (pa_cons pe_int pa_nil))) (fun _ _ => rfl))))) pss_nil)
      (pss_one (ps_ret (pe_ifExp (pt_cmpR op_eq (pv 2) pe_int (by first | exact nomark _ | rfl)) (pe_cl c__law_odd hr (by omega) (pa_cons (pv 0) pa_nil)) (pv 1))))))))))), ?_⟩
    refine ⟨_, rfl, b, 9, n, rfl, U, by omega, by decide, by decide, fun way H1 w0 w1 S1 U1 => ?_⟩
    refine ⟨_, rfl, b, 3, n + 1, rfl, U1, by omega, by decide, by decide, fun at_ H2 a0 a1 S2 U2 => ?_⟩
    have F2 := S1.trans S2
    have r2 := (r.stp S1 U.ls).stp S2 U1.ls
    obtain ⟨i, rfl⟩ := Int.eq_ofNat_of_zero_le a0
    obtain ⟨a, vs, rfl, hs, _, rl⟩ := r2.tupE
    dsimp only [gName]
    have fin : ∀ v d H4, Stp [] H2 H4 → Rv K [b] H4 v d → Q v H4 := fun v d H4 S4 r4 => k v d H4 (F2.trans S4.nil) ((U2.up S4).mono (by omega)) r4
    have ls2 := U2.ls
    refine ⟨_, rfl, _, _, rfl, rfl, _, rfl, ite2 (fun h => ?_) (fun h => ?_)⟩
    · refine ⟨_, rfl, _, rfl, _, rfl, Pv.upT hs rl fun p1 z1 H3 S3 h3 q1 => ?_⟩
      refine ⟨_, rfl, b, n + 2, rfl, U2.up S3, by omega, fun u e H4 _ S4 U4 re => ?_⟩
      have F4 := (F2.trans S3.nil).trans S4
      have ls4 := (U2.up S3).ls
      refine ⟨(by show 1 ≤ sizeLine; decide), fun t nt => ?_⟩
      have S5 : Stp [] H4 (upd H4 t (.tup [u])) := Stp.new nt _
      refine Pv.catT (es := [e]) (sqt_stp S5 Lsts.nil (sqt_stp S4 ls4 h3)) (SqT.of upd_same) ((q1.stp S4 ls4).up S5) (.cons (re.up S5) .nil) (by rw [List.length_take]; simp; omega) fun p6 z6 H6 S6 h6 q6 => ?_
      refine ⟨_, rfl, _, rfl, _, _, rfl, rfl, _, rfl, ?_⟩
      have hs6 := sqt_stp S6 Lsts.nil (sqt_stp S5 Lsts.nil (sqt_stp S4 ls4 (sqt_stp S3 Lsts.nil hs)))
      have rl6 := (((rl.up S3).stp S4 ls4).up S5).up S6
      dsimp only
      refine nopart ?_
      refine Pv.fromT1 (n := i) hs6 rl6 fun p7 z7 H7 S7 h7 q7 => ?_
      refine Pv.catT (sqt_stp S7 Lsts.nil h6) h7 (q6.up S7) q7 (by simp; omega) fun p8 z8 H8 S8 h8 q8 => ?_
      exact k _ _ H8 ((((F4.trans S5.nil).trans S6.nil).trans S7.nil).trans S8.nil) (((((U4.up S5).up S6).up S7).up S8).mono (by omega)) (.tup h8 (by rw [q8.len]; simp; omega) q8)
    have h : ¬ way < 2 := fun q => h (decide_eq_true q)
    refine ⟨_, rfl, rfl, _, rfl, ite2 (fun h2 => ?_) (fun h2 => ?_)⟩
    · refine ⟨_, rfl, _, rfl, Pv.upT (n := 2) hs rl fun p1 z1 H3 S3 h3 q1 => ?_⟩
      refine ⟨_, rfl, b, n + 2, rfl, U2.up S3, by omega, fun u e H4 S4 U4 re => ?_⟩
      have F4 := (F2.trans S3.nil).trans S4
      have ls4 := (U2.up S3).ls
      refine ⟨(by show 1 ≤ sizeLine; decide), fun t nt => ?_⟩
      have S5 : Stp [] H4 (upd H4 t (.tup [u])) := Stp.new nt _
      refine Pv.catT (es := [e]) (sqt_stp S5 Lsts.nil (sqt_stp S4 ls4 h3)) (SqT.of upd_same) ((q1.stp S4 ls4).up S5) (.cons (re.up S5) .nil) (by simp) fun p6 z6 H6 S6 h6 q6 => ?_
      exact k _ _ H6 ((F4.trans S5.nil).trans S6.nil) (((U4.up S5).up S6).mono (by omega)) (.tup h6 (by rw [q6.len]; simp) q6)
    have h2 : ¬ way = 2 := fun e => h2 (by rw [e]; rfl)
    obtain ⟨v1, v2, v3, rfl, t1, t2, t3⟩ := RvL.three rl
    refine ⟨_, rfl, rfl, _, rfl, ite2 (fun h3 => ?_) (fun h3 => ?_)⟩
    · refine ⟨_, rfl, a, _, 0, v1, rfl, rfl, hs, at0, ?_⟩
      refine ⟨_, rfl, b, 11, n + 2, rfl, U2, by omega, by decide, by decide, fun nu H3 u0 u1 S3 U3 => ?_⟩
      refine ⟨_, _, rfl, rfl, ?_⟩
      refine ⟨_, rfl, a, _, 2, v3, rfl, rfl, sqt_stp S3 ls2 hs, at2, (by show 3 ≤ sizeLine; decide), fun t nt => ?_⟩
      exact k _ _ _ ((F2.trans S3).new' nt) ((U3.up (Stp.new nt _)).mono (by omega)) (Rv.newT nt (.cons (t1.stp S3 ls2) (.cons (.int _) (.cons (t3.stp S3 ls2) .nil))) (by simp))
    have h3 : ¬ way = 3 := fun e => h3 (by rw [e]; rfl)
    refine ⟨_, rfl, rfl, _, rfl, ite2 (fun h4 => ?_) (fun h4 => ?_)⟩
    · refine ⟨_, rfl, _, rfl, _, rfl, Pv.upT hs rl fun p1 z1 H3 S3 h3 q1 => ?_⟩
      refine ⟨(by show 6 ≤ sizeLine; decide), fun l nl => ?_⟩
      have S3b : Stp [] H3 (upd H3 l (.lst [.str "Many", .str "SOME", .str "hidden ", .str "", .str "Lost", .str "CUT"])) := Stp.new nl _
      have U3 := (U2.up S3).up S3b
      have nlb : l ∉ [b] := fun m => (U2.up S3).ne nl (List.mem_singleton.mp m).symm
      refine ⟨_, rfl, b, 6, n + 2, rfl, U3, by omega, by decide, by decide, fun d H4 d0 d1 S4 U4 => ?_⟩
      have rws : RvL K [b] H4 [.str "Many", .str "SOME", .str "hidden ", .str "", .str "Lost", .str "CUT"] [wd "Many", wd "SOME", wd "hidden ", wd "", wd "Lost", wd "CUT"] := .cons (Rv.lit _) (.cons (Rv.lit _) (.cons (Rv.lit _) (.cons (Rv.lit _) (.cons (Rv.lit _) (.cons (Rv.lit _) .nil)))))
      obtain ⟨u, e, _, re, ev⟩ := rws.pick d0 d1
      refine ⟨l, _, d, u, rfl, rfl, SqL.of (S4.kp _ _ nlb upd_same), ev, ?_⟩
      have F4 := ((F2.trans S3.nil).trans S3b.nil).trans S4
      have ls4 := U3.ls
      refine ⟨(by show 1 ≤ sizeLine; decide), fun t nt => ?_⟩
      have S5 : Stp [] H4 (upd H4 t (.tup [u])) := Stp.new nt _
      refine Pv.catT (es := [e]) (sqt_stp S5 Lsts.nil (sqt_stp S4 ls4 (sqt_stp S3b Lsts.nil h3))) (SqT.of upd_same) (((q1.up S3b).stp S4 ls4).up S5) (.cons (re.up S5) .nil) (by rw [List.length_take]; simp; omega) fun p6 z6 H6 S6 h6 q6 => ?_
      refine ⟨_, rfl, _, rfl, _, _, rfl, rfl, _, rfl, ?_⟩
      have hs6 := sqt_stp S6 Lsts.nil (sqt_stp S5 Lsts.nil (sqt_stp S4 ls4 (sqt_stp S3b Lsts.nil (sqt_stp S3 Lsts.nil hs))))
      have rl6 := ((((rl.up S3).up S3b).stp S4 ls4).up S5).up S6
      dsimp only
      refine nopart ?_
      refine Pv.fromT1 (n := i) hs6 rl6 fun p7 z7 H7 S7 h7 q7 => ?_
      refine Pv.catT (sqt_stp S7 Lsts.nil h6) h7 (q6.up S7) q7 (by simp; omega) fun p8 z8 H8 S8 h8 q8 => ?_
      exact k _ _ H8 ((((F4.trans S5.nil).trans S6.nil).trans S7.nil).trans S8.nil) (((((U4.up S5).up S6).up S7).up S8).mono (by omega)) (.tup h8 (by rw [q8.len]; simp; omega) q8)
    have h4 : ¬ way = 4 := fun e => h4 (by rw [e]; rfl)
    refine ⟨_, rfl, rfl, _, rfl, ite2 (fun h5 => ?_) (fun h5 => ?_)⟩
    · have ln : Pv.EvD K [b] (tVar 1) _ H2 (.tup [x, y, z]) := Pv.EvD.var (σ := (((L2.start N__law_bent [.ref b, .ref a]).set 2 (some (.int way))).set 3 (some (.int (i : Int))))) r2
      refine asg_name ?_
      refine (Pv.EvDA.cons (Pv.EvD.list ls2 ln) (Pv.EvDA.cons (Pv.EvD.upT (n := 2) ln) (Pv.EvDA.cons (Pv.EvD.catT ln (Pv.EvD.tup (Pv.EvDA.cons (Pv.EvD.ixT (i := 2) ln rfl) Pv.EvDA.nil) (by simp)) (by simp))
        (Pv.EvDA.cons (Pv.EvD.tup (Pv.EvDA.cons ln Pv.EvDA.nil) (by simp)) (Pv.EvDA.cons (Pv.EvD.revT ln) (Pv.EvDA.cons (Pv.EvD.tup (Pv.EvDA.cons (Pv.EvD.ixT (i := 0) ln rfl) (Pv.EvDA.cons (Pv.EvD.fromT (n := 1) ln) Pv.EvDA.nil)) (by simp)) Pv.EvDA.nil)))))).newl (by simp) fun p vs H4 S4 np hp rp => ?_
      have U4 := U2.up S4
      refine ⟨_, rfl, _, rfl, b, 6, n + 2, rfl, U4, by omega, by decide, by decide, fun d H5 d0 d1 S5 U5 => ?_⟩
      have npb : p ∉ [b] := fun m => (U2.ne np) (List.mem_singleton.mp m).symm
      obtain ⟨u, e, _, re, ev⟩ := (rp.stp S5 U4.ls).pick d0 d1
      exact ⟨p, _, d, u, rfl, rfl, SqL.of (S5.kp _ _ npb hp), ev, k u e H5 ((F2.trans S4.nil).trans S5) (U5.mono (by omega)) re⟩
    have h5 : ¬ way = 5 := fun e => h5 (by rw [e]; rfl)
    refine ⟨_, rfl, rfl, _, rfl, ite2 (fun h6 => ?_) (fun h6 => ?_)⟩
    · exact ⟨_, rfl, b, n + 2, rfl, U2, by omega, fun u e H4 _ S4 U4 re => k u e H4 (F2.trans S4) (U4.mono (by omega)) re⟩
    · exact ⟨_, rfl, fin _ _ H2 (Stp.refl _ _) r2⟩
abbrev s_law : Stmt := topS 18
abbrev N_law : List Str := ["script", "cell", "urn", "k", "due", "found", "one"]
theorem sc_law : FnScope ["script", "cell", "urn", "k", "due", "found", "one"] ["script"] (defScope s_law) := ⟨rfl, rfl, rfl, by decide +kernel, rfl, by decide +kernel, by decide +kernel⟩

/-! ### the law -/
theorem kb_is_rule_value {K : PySem.W.Frag} (f : Addr) (fd : FuncData) (F : Fun K "is_rule" "is_rule" s_is_rule f fd) : KBinds K fd ["value"] ["value"] (fun us ws => match us with | [] => ws | _ :: _ => []) (fun vs zs => match vs with | [] => zs | _ :: _ => []) :=
  kb_of (g := fun ws => ws) (gV := fun zs => zs) F (by simp) (fun kV doc pm an cdv ct ws hl => by
    rcases ws with _ | ⟨a, _ | ⟨b, t⟩⟩
    · cases hl
    · rfl
    · cases hl) fun r => r
def spLaw (K : PySem.W.Frag) : Sp := fun vs H Q _ => ∃ (a : Addr) (ns : List Int), vs = [.ref a] ∧ SqL K H a (ns.map V.int) ∧ ns.length ≤ 63 ∧ ∀ H', Q (.bl true) H'
theorem cl_law {f : Addr} {fd : FuncData} (D : Df K mg "law" s_law ["script"] f fd) (T : Nm mg) (c__law_bag : Cl P w K mg base 1 "_law_bag" s__law_bag ["cell"] spBag) (c__law_pick : Cl P w K mg base 1 "_law_pick" s__law_pick ["urn", "many"] spPick)
    (c__law_rule : Cl P w K mg base 2 "_law_rule" s__law_rule ["urn"] (spRule K)) (c__law_bent : Cl P w K mg base 4 "_law_bent" s__law_bent ["urn", "line"] (spBent K)) (c_is_rule : Cl P w K mg base 3 "is_rule" s_is_rule ["value"] (spTell K isRule))
    (c__law_is_rule : Cl P w K mg base 2 "_law_is_rule" s__law_is_rule ["thing"] (spTell K isRule)) : FnOk P w K mg base CX0 5 f fd ["script"] (spLaw K) := by
  refine D.fn.ok sc_law (fun vs H Q E h => ?_) (fun cdv A outer s H vs Q E hr h => ?_)
  · obtain ⟨a, ns, rfl, _⟩ := h
    rfl
  · obtain ⟨a, ns, rfl, hS, hlen, k⟩ := h
    refine ⟨_, (pss_cons (ps_for PassesOwn.never rfl (pi_list (pe_op Pv.op_catS (pe_lst (pa_cons (pe_op op_add (pe_op op_pow pe_int pe_int) pe_int) pa_nil)) (pv 0))) (pg_name (i := 1) sc_law.nd rfl (by first | exact Or.inl rfl | exact Or.inr rfl)) (pss_cons (ps_set (i := 2) sc_law.nd rfl (by first | exact Or.inl rfl | exact Or.inr rfl) (pe_cl c__law_bag hr (by omega) (pa_cons (pv 1) pa_nil)))
      (pss_one (ps_for PassesOwn.never rfl (pi_range1 (by rfl) T.n_range (pa_cons (pe_op op_add pe_int (pe_cl c__law_pick hr (by omega) (pa_cons (pv 2) (pa_cons pe_int pa_nil)))) pa_nil)) (pg_name (i := 3) sc_law.nd rfl (by first | exact Or.inl rfl | exact Or.inr rfl)) (pss_cons (ps_set (i := 4) sc_law.nd rfl (by first | exact Or.inl rfl | exact Or.inr rfl) (pe_cl c__law_bent hr (by omega) (pa_cons (pv 2) (pa_cons (pe_cl c__law_rule hr (by omega) (pa_cons (pv 2) pa_nil)) pa_nil))))
      (pss_cons (ps_set (i := 5) sc_law.nd rfl (by first | exact Or.inl rfl | exact Or.inr rfl) (pe_lst (pa_cons (pe_cl c_is_rule hr (by omega) (pa_cons (pv 4) pa_nil)) (pa_cons (pe_clK c_is_rule hr (by omega) kb_is_rule_value (pk_cons (pv 4) pk_nil)) (pa_cons (pe_cl c_is_rule hr (by omega) (pa_cons (pv 4) pa_nil)) pa_nil)))))
      (pss_one (ps_if (PW.pt (pw_or (pt_cmpR (op_neD hr.units) (pv 5) (pe_op op_rep (pe_lst (pa_cons (pe_cl c__law_is_rule hr (by omega) (pa_cons (pv 4) pa_nil)) pa_nil)) pe_int) (by first | exact nomark _ | rfl)) (pw_or1 (pt_cmpR (op_neD hr.units) (pe_lc (own := [("one", 6)]) rfl sc_law.nd (pi_list (pv 5)) (blkOk_by (own := [("one", 6)]) (N := N_law) (sc := defScope s_law) (by decide +kernel)) (fun _ _ _ _ _ => (pg_name (i := 6) sc_law.nd rfl (by first | exact Or.inl rfl | exact Or.inr rfl))) (fun _ _ _ _ _ => (pts_one (pt_not (pt_val (pe_callB (Pv.call_isiDK rfl (T := "bool") (by decide)) (by rfl) T.n_isinstance (by decide +kernel) (pa_cons (pv 6) (pa_cons (pe_bltn (v := .ty "bool") (u := Value.type "bool") (by rfl) T.n_bool (by decide +kernel) rfl) pa_nil))))))) (fun _ _ _ _ _ => (pv 6))) (pe_lst pa_nil) (by first | exact nomark _ | rfl))))) (pss_one (ps_ret pe_bl)) pss_nil))))))))
      (pss_one (ps_ret pe_bl))), ?_⟩
    refine ⟨_, _, rfl, rfl, ⟨by decide, by decide, by decide⟩, _, _, rfl, rfl, (by show 1 ≤ sizeLine; decide), fun p2 np2 => ?_⟩
    obtain ⟨L1, eL⟩ : ∃ L1, L1 = upd H p2 (.lst [V.int (10 ^ (60 : Int).toNat + 7)]) := ⟨_, rfl⟩
    have S1 : Stp [] H L1 := by rw [eL]; exact Stp.new np2 _
    have hp2 : L1 p2 = some (.lst [V.int (10 ^ (60 : Int).toNat + 7)]) := by
      rw [eL]
      exact upd_same
    have hS1 : SqL K L1 a (ns.map V.int) := by
      rcases hS with (hS | ⟨o, hS⟩) | hS
      · exact .inl (.inl (S1.kp _ _ (fun m => nomatch m) hS))
      · exact .inl (.inr ⟨o, S1.kp _ _ (fun m => nomatch m) hS⟩)
      · exact .inr hS
    rw [← eL]
    refine ⟨_, rfl, p2, a, _, _, rfl, rfl, SqL.of hp2, hS1, ?_, fun p3 np3 => ?_⟩
    · rw [List.length_map]
      exact sz (by simp; omega)
    obtain ⟨cs, ecs⟩ : ∃ cs : List Int, [V.int (10 ^ (60 : Int).toNat + 7)] ++ ns.map V.int = cs.map V.int := ⟨(10 ^ (60 : Int).toNat + 7) :: ns, rfl⟩
    rw [ecs]
    refine ⟨p3, rfl, ⟨_, SqL.of upd_same⟩, for_list (K := K) (a := p3) (xs := cs.map V.int) (fun i σ H1 => ∃ x1 x2 x3 x4 x5 x6 : Option V, σ = [some (.ref a), x1, x2, x3, x4, x5, x6] ∧ H1 p3 = some (.lst (cs.map V.int)))
      ⟨none, none, none, none, none, none, rfl, upd_same⟩ (fun i σ H1 _ ⟨_, _, _, _, _, _, _, h⟩ => SqL.of h) ?_ (fun σ H1 ⟨x1, x2, x3, x4, x5, x6, e, _⟩ => by rw [e]; exact k _)⟩
    rintro i y σ H1 hi ⟨x1, x2, x3, x4, x5, x6, rfl, h3⟩
    obtain ⟨c0, rfl⟩ : ∃ c, y = V.int c := by
      rw [List.getElem?_map] at hi
      cases e : cs[i]? with
      | none =>
        rw [e] at hi
        cases hi
      | some u =>
        rw [e] at hi
        exact ⟨u, (Option.some.inj hi).symm⟩
    refine ⟨_, rfl, c0, rfl, fun b H2 nb S2 U2 => ?_⟩
    have h32 : H2 p3 = some (.lst (cs.map V.int)) := S2.kp _ _ (fun m => nomatch m) h3
    have n3b : p3 ∉ [b] := fun m => ne_of_none h3 nb (List.mem_singleton.mp m)
    refine ⟨_, rfl, b, 3, 0, rfl, U2, by omega, by decide, by decide, fun d H3 d0 d1 S3 U3 => ?_⟩
    refine ⟨_, _, rfl, rfl, _, rfl, by omega, by omega, ?_⟩
    obtain ⟨m, em⟩ : ∃ m : Nat, m = (1 + d).toNat := ⟨_, rfl⟩
    have hm : m ≤ 3 := by omega
    have h33 := S3.kp _ _ n3b h32
    rw [← em]
    refine for_range (lo := 0) (n := m) (fun j σ H4 => ∃ x3 x4 x5 x6 : Option V, σ = [some (.ref a), some (.int c0), some (.ref b), x3, x4, x5, x6] ∧ Urn H4 b (1 + 40 * j) ∧ H4 p3 = some (.lst (cs.map V.int)))
      ⟨x3, x4, x5, x6, rfl, U3, h33⟩ ?_ (fun σ H4 ⟨x3, x4, x5, x6, e, _, h34⟩ => ⟨_, _, _, _, _, _, e, h34⟩)
    rintro j σ H4 hj ⟨x3, x4, x5, x6, rfl, U4, h34⟩
    refine ⟨_, rfl, _, rfl, b, _, rfl, U4, by omega, fun v r H5 S5 U5 rok rr => ?_⟩
    refine ⟨b, _, v, _, _, _, rfl, U5, by omega, rr, fun v2 d2 H6 S6 U6 r6 => ?_⟩
    refine ⟨_, rfl, [b], v2, d2, rfl, r6, fun H7 b7 S7 e7 => ?_⟩
    refine ⟨_, rfl, [b], v2, d2, rfl, r6.up S7, fun H8 b8 S8 e8 => ?_⟩
    refine ⟨_, rfl, [b], v2, d2, rfl, (r6.up S7).up S8, fun H9 b9 S9 e9 => ?_⟩
    subst e7 e8 e9
    have S69 := (S7.trans S8).trans S9
    obtain ⟨t, et⟩ : ∃ t, t = isRule d2 := ⟨_, rfl⟩
    rw [← et]
    refine ⟨(by show 3 ≤ sizeLine; decide), fun p5 np5 => ?_⟩
    obtain ⟨HA, eA⟩ : ∃ HA, HA = upd H9 p5 (.lst [.bl t, .bl t, .bl t]) := ⟨_, rfl⟩
    have hp5 : HA p5 = some (.lst [.bl t, .bl t, .bl t]) := by rw [eA]; exact upd_same
    have SA : Stp [] H9 HA := by rw [eA]; exact Stp.new np5 _
    rw [← eA]
    have S6A := S69.trans SA
    refine ⟨_, rfl, _, rfl, [b], v2, d2, rfl, r6.up S6A, fun HB bB SB eB => ?_⟩
    subst eB
    rw [← et]
    refine ⟨(by show 1 ≤ sizeLine; decide), fun p6 np6 => ?_⟩
    refine ⟨p6, 3, _, rfl, rfl, upd_same, by decide, by decide, (by show 1 * 3 ≤ sizeLine; decide), fun p7 np7 => ?_⟩
    have SC : Stp [] HA (upd (upd HB p6 (.lst [.bl t])) p7 (.lst (List.replicate (3 : Int).toNat [V.bl t]).flatten)) := (SB.trans (Stp.new np6 _)).trans (Stp.new np7 _)
    obtain ⟨HC, eC⟩ : ∃ HC, HC = upd (upd HB p6 (.lst [.bl t])) p7 (.lst (List.replicate (3 : Int).toNat [V.bl t]).flatten) := ⟨_, rfl⟩
    have hp7 : HC p7 = some (.lst ([t, t, t].map V.bl)) := by rw [eC]; exact upd_same
    rw [← eC] at SC ⊢
    have hp5C : HC p5 = some (.lst ([t, t, t].map V.bl)) := SC.kp _ _ (fun m => nomatch m) hp5
    refine ne_bools (SqL.of hp5C) (SqL.of hp7) ?_
    refine ⟨_, rfl, ite2 (fun h => absurd h (by decide)) (fun _ => ?_)⟩
    refine ⟨_, rfl, p5, rfl, ⟨_, SqL.of hp5C⟩, fun L nL => ?_⟩
    refine lc_list (a := p5) (xs := [t, t, t].map V.bl) (fun i HD => HD L = some (.lst []) ∧ Stp [] HC HD) ⟨upd_same, Stp.new nL _⟩ (fun i HD _ ⟨_, SD⟩ => SqL.of (SD.kp _ _ (fun m => nomatch m) hp5C)) ?_ ?_
    · rintro i x HD hi ⟨hL, SD⟩
      obtain ⟨t', rfl⟩ : ∃ t', x = V.bl t' := by
        rw [List.getElem?_map] at hi
        cases e : ([t, t, t] : List Bool)[i]? with
        | none =>
          rw [e] at hi
          cases hi
        | some u =>
          rw [e] at hi
          exact ⟨u, (Option.some.inj hi).symm⟩
      refine ⟨rfl, _, rfl, [], _, .bl t', rfl, .bl t', _, rfl, ?_⟩
      exact ⟨hL, SD⟩
    · rintro HD ⟨hL, SD⟩
      refine ⟨Nat.zero_le _, fun q nq => ?_⟩
      have qL : L ≠ q := ne_of_none hL nq
      refine ne_bools (bs := []) (SqL.of (Eq.trans (upd_ne qL) hL)) (SqL.of upd_same) ?_
      refine ⟨_, rfl, ite2 (fun h => absurd h (by decide)) (fun _ => ?_)⟩
      have SZ := S6A.trans (SC.trans (SD.trans (Stp.new nq (o := .lst []) [])))
      refine ⟨_, _, _, _, rfl, ((U6.up SZ).mono (by omega)), ?_⟩
      exact SZ.kp _ _ (fun m => nomatch m) (S6.kp _ _ n3b (S5.kp _ _ n3b h34))
/-! ### what the top has written, the head -/
theorem all_mk {l : PySem.W.OpenLaw} {w : World} {K : PySem.W.Frag} {h : Heap} {mg : Str → Option Value} {fa : Addr} (X : K.In h) (G : h.Ns mainGlobals mg) (hfa : mg "law" = some (.ref fa))
    {f0 : Addr} {od0 an0 : Option Addr} {sl0 : Array (Option Value)} {oc0 kV0 dc0 pm0 cd0 ct0 : Value}
    (a0 : PySem.W.nsIn K mainGlobals "is_rule" = some (some (.ref f0))) (l0 : K.lookup f0 = some ⟨oc0, od0, .func (PySem.W.fnOf "is_rule" "is_rule" (defArgs s_is_rule) (defBody s_is_rule) (defScope s_is_rule) .none kV0 dc0 pm0 an0 cd0 ct0), sl0⟩) (c0 : PySem.W.codeIn K cd0 "is_rule" = true) (k0 : PySem.W.keepIn K (.ref f0) = true)
    {f1 : Addr} {od1 an1 : Option Addr} {sl1 : Array (Option Value)} {oc1 kV1 dc1 pm1 cd1 ct1 : Value}
    (a1 : PySem.W.nsIn K mainGlobals "is_lacks_part" = some (some (.ref f1))) (l1 : K.lookup f1 = some ⟨oc1, od1, .func (PySem.W.fnOf "is_lacks_part" "is_lacks_part" (defArgs s_is_lacks_part) (defBody s_is_lacks_part) (defScope s_is_lacks_part) .none kV1 dc1 pm1 an1 cd1 ct1), sl1⟩) (c1 : PySem.W.codeIn K cd1 "is_lacks_part" = true) (k1 : PySem.W.keepIn K (.ref f1) = true)
    {f2 : Addr} {od2 an2 : Option Addr} {sl2 : Array (Option Value)} {oc2 kV2 dc2 pm2 cd2 ct2 : Value}
    (a2 : PySem.W.nsIn K mainGlobals "is_low_part" = some (some (.ref f2))) (l2 : K.lookup f2 = some ⟨oc2, od2, .func (PySem.W.fnOf "is_low_part" "is_low_part" (defArgs s_is_low_part) (defBody s_is_low_part) (defScope s_is_low_part) .none kV2 dc2 pm2 an2 cd2 ct2), sl2⟩) (c2 : PySem.W.codeIn K cd2 "is_low_part" = true) (k2 : PySem.W.keepIn K (.ref f2) = true)
    {f3 : Addr} {od3 an3 : Option Addr} {sl3 : Array (Option Value)} {oc3 kV3 dc3 pm3 cd3 ct3 : Value}
    (a3 : PySem.W.nsIn K mainGlobals "is_high_part" = some (some (.ref f3))) (l3 : K.lookup f3 = some ⟨oc3, od3, .func (PySem.W.fnOf "is_high_part" "is_high_part" (defArgs s_is_high_part) (defBody s_is_high_part) (defScope s_is_high_part) .none kV3 dc3 pm3 an3 cd3 ct3), sl3⟩) (c3 : PySem.W.codeIn K cd3 "is_high_part" = true) (k3 : PySem.W.keepIn K (.ref f3) = true)
    {f4 : Addr} {od4 an4 : Option Addr} {sl4 : Array (Option Value)} {oc4 kV4 dc4 pm4 cd4 ct4 : Value}
    (a4 : PySem.W.nsIn K mainGlobals "is_lost" = some (some (.ref f4))) (l4 : K.lookup f4 = some ⟨oc4, od4, .func (PySem.W.fnOf "is_lost" "is_lost" (defArgs s_is_lost) (defBody s_is_lost) (defScope s_is_lost) .none kV4 dc4 pm4 an4 cd4 ct4), sl4⟩) (c4 : PySem.W.codeIn K cd4 "is_lost" = true) (k4 : PySem.W.keepIn K (.ref f4) = true)
    {f5 : Addr} {od5 an5 : Option Addr} {sl5 : Array (Option Value)} {oc5 kV5 dc5 pm5 cd5 ct5 : Value}
    (a5 : PySem.W.nsIn K mainGlobals "is_letter_number" = some (some (.ref f5))) (l5 : K.lookup f5 = some ⟨oc5, od5, .func (PySem.W.fnOf "is_letter_number" "is_letter_number" (defArgs s_is_letter_number) (defBody s_is_letter_number) (defScope s_is_letter_number) .none kV5 dc5 pm5 an5 cd5 ct5), sl5⟩) (c5 : PySem.W.codeIn K cd5 "is_letter_number" = true) (k5 : PySem.W.keepIn K (.ref f5) = true)
    {f6 : Addr} {od6 an6 : Option Addr} {sl6 : Array (Option Value)} {oc6 kV6 dc6 pm6 cd6 ct6 : Value}
    (a6 : PySem.W.nsIn K mainGlobals "_law_bag" = some (some (.ref f6))) (l6 : K.lookup f6 = some ⟨oc6, od6, .func (PySem.W.fnOf "_law_bag" "_law_bag" (defArgs s__law_bag) (defBody s__law_bag) (defScope s__law_bag) .none kV6 dc6 pm6 an6 cd6 ct6), sl6⟩) (c6 : PySem.W.codeIn K cd6 "_law_bag" = true) (k6 : PySem.W.keepIn K (.ref f6) = true)
    {f7 : Addr} {od7 an7 : Option Addr} {sl7 : Array (Option Value)} {oc7 kV7 dc7 pm7 cd7 ct7 : Value}
    (a7 : PySem.W.nsIn K mainGlobals "_law_pick" = some (some (.ref f7))) (l7 : K.lookup f7 = some ⟨oc7, od7, .func (PySem.W.fnOf "_law_pick" "_law_pick" (defArgs s__law_pick) (defBody s__law_pick) (defScope s__law_pick) .none kV7 dc7 pm7 an7 cd7 ct7), sl7⟩) (c7 : PySem.W.codeIn K cd7 "_law_pick" = true) (k7 : PySem.W.keepIn K (.ref f7) = true)
    {f8 : Addr} {od8 an8 : Option Addr} {sl8 : Array (Option Value)} {oc8 kV8 dc8 pm8 cd8 ct8 : Value}
    (a8 : PySem.W.nsIn K mainGlobals "_law_rule" = some (some (.ref f8))) (l8 : K.lookup f8 = some ⟨oc8, od8, .func (PySem.W.fnOf "_law_rule" "_law_rule" (defArgs s__law_rule) (defBody s__law_rule) (defScope s__law_rule) .none kV8 dc8 pm8 an8 cd8 ct8), sl8⟩) (c8 : PySem.W.codeIn K cd8 "_law_rule" = true) (k8 : PySem.W.keepIn K (.ref f8) = true)
    {f9 : Addr} {od9 an9 : Option Addr} {sl9 : Array (Option Value)} {oc9 kV9 dc9 pm9 cd9 ct9 : Value}
    (a9 : PySem.W.nsIn K mainGlobals "_law_odd" = some (some (.ref f9))) (l9 : K.lookup f9 = some ⟨oc9, od9, .func (PySem.W.fnOf "_law_odd" "_law_odd" (defArgs s__law_odd) (defBody s__law_odd) (defScope s__law_odd) .none kV9 dc9 pm9 an9 cd9 ct9), sl9⟩) (c9 : PySem.W.codeIn K cd9 "_law_odd" = true) (k9 : PySem.W.keepIn K (.ref f9) = true)
    {f10 : Addr} {od10 an10 : Option Addr} {sl10 : Array (Option Value)} {oc10 kV10 dc10 pm10 cd10 ct10 : Value}
    (a10 : PySem.W.nsIn K mainGlobals "_law_letters" = some (some (.ref f10))) (l10 : K.lookup f10 = some ⟨oc10, od10, .func (PySem.W.fnOf "_law_letters" "_law_letters" (defArgs s__law_letters) (defBody s__law_letters) (defScope s__law_letters) .none kV10 dc10 pm10 an10 cd10 ct10), sl10⟩) (c10 : PySem.W.codeIn K cd10 "_law_letters" = true) (k10 : PySem.W.keepIn K (.ref f10) = true)
    {f11 : Addr} {od11 an11 : Option Addr} {sl11 : Array (Option Value)} {oc11 kV11 dc11 pm11 cd11 ct11 : Value}
    (a11 : PySem.W.nsIn K mainGlobals "_law_is_rule" = some (some (.ref f11))) (l11 : K.lookup f11 = some ⟨oc11, od11, .func (PySem.W.fnOf "_law_is_rule" "_law_is_rule" (defArgs s__law_is_rule) (defBody s__law_is_rule) (defScope s__law_is_rule) .none kV11 dc11 pm11 an11 cd11 ct11), sl11⟩) (c11 : PySem.W.codeIn K cd11 "_law_is_rule" = true) (k11 : PySem.W.keepIn K (.ref f11) = true)
    {f12 : Addr} {od12 an12 : Option Addr} {sl12 : Array (Option Value)} {oc12 kV12 dc12 pm12 cd12 ct12 : Value}
    (a12 : PySem.W.nsIn K mainGlobals "_law_high_part" = some (some (.ref f12))) (l12 : K.lookup f12 = some ⟨oc12, od12, .func (PySem.W.fnOf "_law_high_part" "_law_high_part" (defArgs s__law_high_part) (defBody s__law_high_part) (defScope s__law_high_part) .none kV12 dc12 pm12 an12 cd12 ct12), sl12⟩) (c12 : PySem.W.codeIn K cd12 "_law_high_part" = true) (k12 : PySem.W.keepIn K (.ref f12) = true)
    {f13 : Addr} {od13 an13 : Option Addr} {sl13 : Array (Option Value)} {oc13 kV13 dc13 pm13 cd13 ct13 : Value}
    (a13 : PySem.W.nsIn K mainGlobals "_law_bent" = some (some (.ref f13))) (l13 : K.lookup f13 = some ⟨oc13, od13, .func (PySem.W.fnOf "_law_bent" "_law_bent" (defArgs s__law_bent) (defBody s__law_bent) (defScope s__law_bent) .none kV13 dc13 pm13 an13 cd13 ct13), sl13⟩) (c13 : PySem.W.codeIn K cd13 "_law_bent" = true) (k13 : PySem.W.keepIn K (.ref f13) = true)
    {f14 : Addr} {od14 an14 : Option Addr} {sl14 : Array (Option Value)} {oc14 kV14 dc14 pm14 cd14 ct14 : Value}
    (a14 : PySem.W.nsIn K mainGlobals "law" = some (some (.ref f14))) (l14 : K.lookup f14 = some ⟨oc14, od14, .func (PySem.W.fnOf "law" "law" (defArgs s_law) (defBody s_law) (defScope s_law) .none kV14 dc14 pm14 an14 cd14 ct14), sl14⟩) (c14 : PySem.W.codeIn K cd14 "law" = true) (k14 : PySem.W.keepIn K (.ref f14) = true)
    {C0 : Addr} (aC0 : PySem.W.nsIn K mainGlobals "SkipError" = some (some (.ref C0))) (xC0 : PySem.W.excIn K C0 [.type "ValueError", .type "Exception", .type "BaseException", .type "object"] "ValueError.__new__" = true) (kC0 : PySem.W.keepIn K (.ref C0) = true)
    (hg0 : PySem.W.findIn K (.ref C0) "__getattribute__" = some (some (.builtin "BaseException.__getattribute__")))
    (hk0 : PySem.W.findIn K (.ref C0) "__getattr__" = some none)
    (hs0 : PySem.W.subIn K (.ref C0) (.type "BaseException") = some true)
    (hd0 : PySem.W.hasDictIn K C0 = true)
    (ha0 : PySem.W.findIn K (.ref C0) "__class__" = some (some (.builtin "object.__class__")))
    (hm0 : PySem.W.mroIn K C0 (.type "object") = some true)
    (istr0 : PySem.W.kitOne K (.ref C0) (.type "str") = some false)
    (iint0 : PySem.W.kitOne K (.ref C0) (.type "int") = some false)
    (ibool0 : PySem.W.kitOne K (.ref C0) (.type "bool") = some false)
    (ituple0 : PySem.W.kitOne K (.ref C0) (.type "tuple") = some false)
    (ilist0 : PySem.W.kitOne K (.ref C0) (.type "list") = some false)
    (on : PySem.W.specialIn K (.builtin "object.__class__") "__get__" = some (some (.builtin "getset_descriptor.__get__")))
    (ot : PySem.W.takesIn K (.builtin "object.__class__") = some true)
    (z0 : PySem.W.nsIn K mainGlobals "int" = some none)
    (z1 : PySem.W.nsIn K mainGlobals "len" = some none)
    (z2 : PySem.W.nsIn K mainGlobals "max" = some none)
    (z3 : PySem.W.nsIn K mainGlobals "range" = some none)
    (z4 : PySem.W.nsIn K mainGlobals "type" = some none)
    (z5 : PySem.W.nsIn K mainGlobals "tuple" = some none)
    (z6 : PySem.W.nsIn K mainGlobals "list" = some none)
    (z7 : PySem.W.nsIn K mainGlobals "str" = some none)
    (z8 : PySem.W.nsIn K mainGlobals "bool" = some none)
    (z9 : PySem.W.nsIn K mainGlobals "isinstance" = some none)
    : ∃ fd : FuncData, (∀ (s : Shared) (v : Value), BindsTo s fd ⟨[v], []⟩ [("script", v)]) ∧ ∀ base : Heap, K.In base → base.Ns mainGlobals mg → FnOk l.prog w K mg base CX0 5 fa fd ["script"] (spLaw K) := by
  have e := hfa.symm.trans (PySem.W.mg_of X G a14)
  cases e
  have F_is_rule := fun_mk (st := s_is_rule) l0 c0 k0
  have D_is_rule : Df K mg "is_rule" s_is_rule ["value"] f0 _ := ⟨F_is_rule, PySem.W.mg_of X G a0, F_is_rule.binds (ps := ["value"]) fun _ _ _ _ _ _ us hl => match us, hl with | [_], _ => rfl⟩
  have F_is_lacks_part := fun_mk (st := s_is_lacks_part) l1 c1 k1
  have D_is_lacks_part : Df K mg "is_lacks_part" s_is_lacks_part ["part"] f1 _ := ⟨F_is_lacks_part, PySem.W.mg_of X G a1, F_is_lacks_part.binds (ps := ["part"]) fun _ _ _ _ _ _ us hl => match us, hl with | [_], _ => rfl⟩
  have F_is_low_part := fun_mk (st := s_is_low_part) l2 c2 k2
  have D_is_low_part : Df K mg "is_low_part" s_is_low_part ["part"] f2 _ := ⟨F_is_low_part, PySem.W.mg_of X G a2, F_is_low_part.binds (ps := ["part"]) fun _ _ _ _ _ _ us hl => match us, hl with | [_], _ => rfl⟩
  have F_is_high_part := fun_mk (st := s_is_high_part) l3 c3 k3
  have D_is_high_part : Df K mg "is_high_part" s_is_high_part ["part"] f3 _ := ⟨F_is_high_part, PySem.W.mg_of X G a3, F_is_high_part.binds (ps := ["part"]) fun _ _ _ _ _ _ us hl => match us, hl with | [_], _ => rfl⟩
  have F_is_lost := fun_mk (st := s_is_lost) l4 c4 k4
  have D_is_lost : Df K mg "is_lost" s_is_lost ["part"] f4 _ := ⟨F_is_lost, PySem.W.mg_of X G a4, F_is_lost.binds (ps := ["part"]) fun _ _ _ _ _ _ us hl => match us, hl with | [_], _ => rfl⟩
  have F_is_letter_number := fun_mk (st := s_is_letter_number) l5 c5 k5
  have D_is_letter_number : Df K mg "is_letter_number" s_is_letter_number ["part"] f5 _ := ⟨F_is_letter_number, PySem.W.mg_of X G a5, F_is_letter_number.binds (ps := ["part"]) fun _ _ _ _ _ _ us hl => match us, hl with | [_], _ => rfl⟩
  have F__law_bag := fun_mk (st := s__law_bag) l6 c6 k6
  have D__law_bag : Df K mg "_law_bag" s__law_bag ["cell"] f6 _ := ⟨F__law_bag, PySem.W.mg_of X G a6, F__law_bag.binds (ps := ["cell"]) fun _ _ _ _ _ _ us hl => match us, hl with | [_], _ => rfl⟩
  have F__law_pick := fun_mk (st := s__law_pick) l7 c7 k7
  have D__law_pick : Df K mg "_law_pick" s__law_pick ["urn", "many"] f7 _ := ⟨F__law_pick, PySem.W.mg_of X G a7, F__law_pick.binds (ps := ["urn", "many"]) fun _ _ _ _ _ _ us hl => match us, hl with | [_, _], _ => rfl⟩
  have F__law_rule := fun_mk (st := s__law_rule) l8 c8 k8
  have D__law_rule : Df K mg "_law_rule" s__law_rule ["urn"] f8 _ := ⟨F__law_rule, PySem.W.mg_of X G a8, F__law_rule.binds (ps := ["urn"]) fun _ _ _ _ _ _ us hl => match us, hl with | [_], _ => rfl⟩
  have F__law_odd := fun_mk (st := s__law_odd) l9 c9 k9
  have D__law_odd : Df K mg "_law_odd" s__law_odd ["urn"] f9 _ := ⟨F__law_odd, PySem.W.mg_of X G a9, F__law_odd.binds (ps := ["urn"]) fun _ _ _ _ _ _ us hl => match us, hl with | [_], _ => rfl⟩
  have F__law_letters := fun_mk (st := s__law_letters) l10 c10 k10
  have D__law_letters : Df K mg "_law_letters" s__law_letters ["thing"] f10 _ := ⟨F__law_letters, PySem.W.mg_of X G a10, F__law_letters.binds (ps := ["thing"]) fun _ _ _ _ _ _ us hl => match us, hl with | [_], _ => rfl⟩
  have F__law_is_rule := fun_mk (st := s__law_is_rule) l11 c11 k11
  have D__law_is_rule : Df K mg "_law_is_rule" s__law_is_rule ["thing"] f11 _ := ⟨F__law_is_rule, PySem.W.mg_of X G a11, F__law_is_rule.binds (ps := ["thing"]) fun _ _ _ _ _ _ us hl => match us, hl with | [_], _ => rfl⟩
  have F__law_high_part := fun_mk (st := s__law_high_part) l12 c12 k12
  have D__law_high_part : Df K mg "_law_high_part" s__law_high_part ["urn"] f12 _ := ⟨F__law_high_part, PySem.W.mg_of X G a12, F__law_high_part.binds (ps := ["urn"]) fun _ _ _ _ _ _ us hl => match us, hl with | [_], _ => rfl⟩
  have F__law_bent := fun_mk (st := s__law_bent) l13 c13 k13
  have D__law_bent : Df K mg "_law_bent" s__law_bent ["urn", "line"] f13 _ := ⟨F__law_bent, PySem.W.mg_of X G a13, F__law_bent.binds (ps := ["urn", "line"]) fun _ _ _ _ _ _ us hl => match us, hl with | [_, _], _ => rfl⟩
  have F_law := fun_mk (st := s_law) l14 c14 k14
  have D_law : Df K mg "law" s_law ["script"] fa _ := ⟨F_law, PySem.W.mg_of X G a14, F_law.binds (ps := ["script"]) fun _ _ _ _ _ _ us hl => match us, hl with | [_], _ => rfl⟩
  have T : Nm mg := ⟨PySem.W.mg_none_of X G z0, PySem.W.mg_none_of X G z1, PySem.W.mg_none_of X G z2, PySem.W.mg_none_of X G z3, PySem.W.mg_none_of X G z4, PySem.W.mg_none_of X G z5, PySem.W.mg_none_of X G z6, PySem.W.mg_none_of X G z7, PySem.W.mg_none_of X G z8, PySem.W.mg_none_of X G z9⟩
  have TX : Nx K mg C0 := ⟨xC0, PySem.W.mg_of X G aC0, kC0, ⟨⟨hg0, hk0, hs0, hd0, ha0, on, ot, hm0⟩, istr0, iint0, ibool0, ituple0, ilist0⟩⟩
  refine ⟨PySem.W.fnOf "law" "law" (defArgs s_law) (defBody s_law) (defScope s_law) .none kV14 dc14 pm14 an14 cd14 ct14, fun s v => .of_eq rfl, fun base _ _ => ?_⟩
  have c_bag := cl__law_bag (P := l.prog) (w := w) (base := base) D__law_bag T
  have c_pick := cl__law_pick (P := l.prog) (w := w) (base := base) D__law_pick T
  have c_lost := cl_is_lost (P := l.prog) (w := w) (base := base) D_is_lost T
  have c_num := cl_is_letter_number (P := l.prog) (w := w) (base := base) D_is_letter_number T
  have c_lac := cl_is_lacks_part (P := l.prog) (w := w) (base := base) D_is_lacks_part T
  have c_low := cl_is_low_part D_is_low_part T c_lost c_num
  have c_high := cl_is_high_part D_is_high_part T c_lost c_num
  have c_rule := cl_is_rule D_is_rule T c_lac c_low c_high
  have c_let := cl__law_letters (P := l.prog) (w := w) (base := base) D__law_letters T
  have c_lir := cl__law_is_rule D__law_is_rule T c_let
  have c_lru := cl__law_rule D__law_rule T c_pick
  have c_odd := cl__law_odd D__law_odd T TX c_pick
  have c_hp := cl__law_high_part D__law_high_part T c_pick c_odd
  have c_bent := cl__law_bent D__law_bent T c_pick c_odd c_hp
  exact cl_law D_law T c_bag c_pick c_lru c_bent c_rule c_lir
end
end Kq
open PySem PySem.W PyProof.Rows in
set_option maxRecDepth 100000 in
set_option maxHeartbeats 0 in
theorem PySem.Challenge.cw_pageskips_k17_rules_holds : PySem.Challenge.rw_pageskips_k17_rules.Holds := by
  w_on; o_law; k_head; (case hw => w_witness2)
  k_fill
  refine L2.walk_of (l := PySem.Challenge.rw_pageskips_k17_rules) (n := 63) (k := 5) (x := "script") (CX := fun _ => L2.CX0) (sp := fun w => Kq.spLaw _) rfl (by decide) rfl ⟨rfl, by decide, by decide⟩ (fun w h Y => PySem.W.kIn_of Y) ?F (fun _ _ a ns hl _ hS => ⟨a, ns, rfl, hS, hl, fun _ => rfl⟩) (fun _ _ _ _ _ h => h)
  case F =>
    intro w mg fa h KX G hmg
    refine' Kq.all_mk KX G hmg ?a0 ?l0 ?c0 ?k0 ?a1 ?l1 ?c1 ?k1 ?a2 ?l2 ?c2 ?k2 ?a3 ?l3 ?c3 ?k3 ?a4 ?l4 ?c4 ?k4 ?a5 ?l5 ?c5 ?k5 ?a6 ?l6 ?c6 ?k6 ?a7 ?l7 ?c7 ?k7 ?a8 ?l8 ?c8 ?k8 ?a9 ?l9 ?c9 ?k9 ?a10 ?l10 ?c10 ?k10 ?a11 ?l11 ?c11 ?k11 ?a12 ?l12 ?c12 ?k12 ?a13 ?l13 ?c13 ?k13 ?a14 ?l14 ?c14 ?k14 ?aC0 ?xC0 ?kC0 ?hg0 ?hk0 ?hs0 ?hd0 ?ha0 ?hm0 ?istr0 ?iint0 ?ibool0 ?ituple0 ?ilist0 ?on ?ot ?z0 ?z1 ?z2 ?z3 ?z4 ?z5 ?z6 ?z7 ?z8 ?z9
    (case a0 => k_is)
    (case l0 => k_is)
    (case c0 => k_is)
    (case k0 => k_is)
    (case a1 => k_is)
    (case l1 => k_is)
    (case c1 => k_is)
    (case k1 => k_is)
    (case a2 => k_is)
    (case l2 => k_is)
    (case c2 => k_is)
    (case k2 => k_is)
    (case a3 => k_is)
    (case l3 => k_is)
    (case c3 => k_is)
    (case k3 => k_is)
    (case a4 => k_is)
    (case l4 => k_is)
    (case c4 => k_is)
    (case k4 => k_is)
    (case a5 => k_is)
    (case l5 => k_is)
    (case c5 => k_is)
    (case k5 => k_is)
    (case a6 => k_is)
    (case l6 => k_is)
    (case c6 => k_is)
    (case k6 => k_is)
    (case a7 => k_is)
    (case l7 => k_is)
    (case c7 => k_is)
    (case k7 => k_is)
    (case a8 => k_is)
    (case l8 => k_is)
    (case c8 => k_is)
    (case k8 => k_is)
    (case a9 => k_is)
    (case l9 => k_is)
    (case c9 => k_is)
    (case k9 => k_is)
    (case a10 => k_is)
    (case l10 => k_is)
    (case c10 => k_is)
    (case k10 => k_is)
    (case a11 => k_is)
    (case l11 => k_is)
    (case c11 => k_is)
    (case k11 => k_is)
    (case a12 => k_is)
    (case l12 => k_is)
    (case c12 => k_is)
    (case k12 => k_is)
    (case a13 => k_is)
    (case l13 => k_is)
    (case c13 => k_is)
    (case k13 => k_is)
    (case a14 => k_is)
    (case l14 => k_is)
    (case c14 => k_is)
    (case k14 => k_is)
    (case aC0 => k_is)
    (case xC0 => k_exc)
    (case kC0 => k_is)
    (case hg0 => k_is)
    (case hk0 => k_is)
    (case hs0 => k_is)
    (case hd0 => k_is)
    (case ha0 => k_is)
    (case hm0 => k_is)
    (case istr0 => first | k_is | kit_is)
    (case iint0 => first | k_is | kit_is)
    (case ibool0 => first | k_is | kit_is)
    (case ituple0 => first | k_is | kit_is)
    (case ilist0 => first | k_is | kit_is)
    (case on => k_is)
    (case ot => k_is)
    (case z0 => k_is)
    (case z1 => k_is)
    (case z2 => k_is)
    (case z3 => k_is)
    (case z4 => k_is)
    (case z5 => k_is)
    (case z6 => k_is)
    (case z7 => k_is)
    (case z8 => k_is)
    (case z9 => k_is)

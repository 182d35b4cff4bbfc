import PyProof.Rows.All
import Wide.All
import OpenK.AllK
import Wide.FinOn
import HandS.ForMost
import HandS.Evl
import HandS.Flow
import HandS.IsInst
import HandS.Zip
import HandS.TupLe
import HandS.TupAny
import HandS.Wide
import HandS.WideBits
import HandS.SortRule
import HandS.Conv
import KE.DataFind
import HandS.Walk
import HandS.AnyAll
import HandS.GenOver
import HandS.EndTab
import KE.GoesMore
import KE.GoesEnum
import HandS.Exc
import HandS.ExcOwn
import HandS.ExcIs
import HandS.ExcValue
import HandS.WordsExc
import HandS.TryOnly
import HandS.HotCalls
import HandS.Deep
import HandS.TupMul
import HandS.Style
import KE.KRevSl
import KE.KTupSum
import HandS.TupSets
import HandS.Small
import HandS.DictTup
import KE.KDictSum
import KE.KDictCopyH
import PyProof.EqAt
import Wide.Loose
import PySem.Challenge.RW_doffyard_k01_yards_of_any_kind
set_option Elab.async false
set_option linter.all false
set_option maxRecDepth 100000
set_option maxHeartbeats 4000000
/-! Values as data: what an expression comes to, told by the datum that the value bears. -/
namespace DL
open PySem PySem.Spec PyProof.Rows L2 Evl

mutual
theorem dp_mono {K : PySem.W.Frag} {H H' : Hp} (e : Ex H H') : ∀ {d : PyData} {v : V}, Dp K H v d → Dp K H' v d
  | .none, _, h => by cases h; exact .non
  | .bool b, _, h => by cases h; exact .bl b
  | .int i, _, h => by cases h; exact .int i
  | .str x, _, h => by cases h; exact .str x
  | .list ds, _, h => by
    cases h with
    | lst hs ha => exact .lst (ex_l e hs) (da_mono e ha)
  | .tuple ds, _, h => by
    cases h with
    | tup hs ha => exact .tup (ex_t e hs) (da_mono e ha)
  | .dict _, _, h => by cases h
theorem da_mono {K : PySem.W.Frag} {H H' : Hp} (e : Ex H H') : ∀ {ds : List PyData} {vs : List V}, DpAll K H vs ds → DpAll K H' vs ds
  | [], _, h => by cases h; exact .nil
  | d :: ds, _, h => by
    cases h with
    | cons h1 h2 => exact .cons (dp_mono e h1) (da_mono e h2)
end
section
variable {K : PySem.W.Frag} {H H' : Hp}
theorem dp_int {v : V} {i : Int} (h : Dp K H v (.int i)) : v = .int i := by cases h; rfl
theorem dp_bool {v : V} {b : Bool} (h : Dp K H v (.bool b)) : v = .bl b := by cases h; rfl
theorem dp_str {v : V} {x : Str} (h : Dp K H v (.str x)) : v = .str x := by cases h; rfl
theorem dp_none {v : V} (h : Dp K H v .none) : v = .non := by cases h; rfl
theorem dp_tup {v : V} {ds : List PyData} (h : Dp K H v (.tuple ds)) : ∃ a xs, v = .ref a ∧ SqT K H a xs ∧ DpAll K H xs ds := by
  cases h with
  | tup hs ha => exact ⟨_, _, rfl, hs, ha⟩
theorem dp_lst {v : V} {ds : List PyData} (h : Dp K H v (.list ds)) : ∃ a xs, v = .ref a ∧ SqL K H a xs ∧ DpAll K H xs ds := by
  cases h with
  | lst hs ha => exact ⟨_, _, rfl, hs, ha⟩
theorem da_len : ∀ {ds : List PyData} {vs : List V}, DpAll K H vs ds → vs.length = ds.length
  | [], _, h => by cases h; rfl
  | d :: ds, _, h => by
    cases h with
    | cons h1 h2 => rw [List.length_cons, List.length_cons, da_len h2]
theorem da_get : ∀ {ds : List PyData} {vs : List V} {i : Nat} {v : V}, DpAll K H vs ds → vs[i]? = some v → ∃ d, ds[i]? = some d ∧ Dp K H v d
  | [], _, i, v, h, e => by cases h; simp at e
  | d :: ds, _, i, v, h, e => by
    cases h with
    | cons h1 h2 =>
      cases i with
      | zero => simp at e; subst e; exact ⟨d, rfl, h1⟩
      | succ i => simp at e; simpa using da_get h2 e
theorem da_at : ∀ {ds : List PyData} {vs : List V} {i : Nat} {d : PyData}, DpAll K H vs ds → ds[i]? = some d → ∃ v, vs[i]? = some v ∧ Dp K H v d
  | [], _, i, v, h, e => by simp at e
  | d :: ds, _, i, v, h, e => by
    cases h with
    | cons h1 h2 =>
      cases i with
      | zero => simp at e; subst e; exact ⟨_, rfl, h1⟩
      | succ i => simp at e; simpa using da_at h2 e
theorem da_snoc : ∀ {ds : List PyData} {vs : List V} {v : V} {d : PyData}, DpAll K H vs ds → Dp K H v d → DpAll K H (vs ++ [v]) (ds ++ [d])
  | [], _, v, d, h, q => by cases h; exact .cons q .nil
  | _ :: ds, _, v, d, h, q => by
    cases h with
    | cons h1 h2 => exact .cons h1 (da_snoc h2 q)
theorem da_ints : ∀ (ns : List Int), DpAll K H (ns.map V.int) (ns.map PyData.int)
  | [] => .nil
  | n :: ns => .cons (.int n) (da_ints ns)
theorem da_ints_inv : ∀ {ns : List Int} {vs : List V}, DpAll K H vs (ns.map PyData.int) → vs = ns.map V.int
  | [], _, h => by cases h; rfl
  | n :: ns, _, h => by
    cases h with
    | cons h1 h2 => rw [dp_int h1, da_ints_inv h2]; rfl
theorem da_bools_inv : ∀ {ns : List Bool} {vs : List V}, DpAll K H vs (ns.map PyData.bool) → vs = ns.map V.bl
  | [], _, h => by cases h; rfl
  | n :: ns, _, h => by
    cases h with
    | cons h1 h2 => rw [dp_bool h1, da_bools_inv h2]; rfl
end

/-! ### what evaluates to which datum -/
def EvD (K : PySem.W.Frag) (te : TE) (σ : L2.St) (H : Hp) (d : PyData) : Prop := ∀ H1, Ex H H1 → ∀ Q : VK, (∀ v H2, Ex H1 H2 → Dp K H2 v d → Q v H2) → te σ H1 Q
def EvDA (K : PySem.W.Frag) (ta : TA) (σ : L2.St) (H : Hp) (ds : List PyData) : Prop := ∀ H1, Ex H H1 → ∀ Q : List V → Hp → Prop, (∀ vs H2, Ex H1 H2 → DpAll K H2 vs ds → Q vs H2) → ta σ H1 Q
/-- a two-place operation, a call, by data -/
def RD (K : PySem.W.Frag) (r : R2) (x y : PyData) (z : PyData) : Prop := ∀ v u H, Dp K H v x → Dp K H u y → ∀ Q : VK, (∀ w H2, Ex H H2 → Dp K H2 w z → Q w H2) → r v u H Q
def RDC (K : PySem.W.Frag) (r : List V → Hp → VK → Prop) (xs : List PyData) (z : PyData) : Prop := ∀ vs H, DpAll K H vs xs → ∀ Q : VK, (∀ w H2, Ex H H2 → Dp K H2 w z → Q w H2) → r vs H Q
section
variable {K : PySem.W.Frag} {σ : L2.St} {H H' : Hp} {ta tb te tx : TE} {t u : TT} {x y z d : PyData} {v : V} {r : R2}
theorem EvD.mono (e : Ex H H') (h : EvD K te σ H d) : EvD K te σ H' d := fun H1 a Q q => h H1 (e.trans a) Q q
theorem ed_of (h : Ev te σ H v) (hd : Dp K H v d) : EvD K te σ H d := fun H1 e Q q => h H1 e Q fun H2 e2 => q v H2 e2 (dp_mono (e.trans e2) hd)
theorem ev_int {i : Int} (h : EvD K te σ H (.int i)) : Ev te σ H (.int i) := fun H1 e Q q => h H1 e Q fun w H2 e2 hw => by rw [dp_int hw]; exact q H2 e2
theorem ev_bool {b : Bool} (h : EvD K te σ H (.bool b)) : Ev te σ H (.bl b) := fun H1 e Q q => h H1 e Q fun w H2 e2 hw => by rw [dp_bool hw]; exact q H2 e2
theorem ed_int {i : Int} (h : Ev te σ H (.int i)) : EvD K te σ H (.int i) := ed_of h (.int i)
theorem ed_bool {b : Bool} (h : Ev te σ H (.bl b)) : EvD K te σ H (.bool b) := ed_of h (.bl b)
theorem ed_var {i : Nat} (h : σ[i]? = some (some v)) (hd : Dp K H v d) : EvD K (tVar i) σ H d := ed_of (ev_var h) hd
theorem ed_ci {i : Int} : EvD K (tC (.int i)) σ H (.int i) := ed_of ev_c (.int i)
theorem ed_cb {b : Bool} : EvD K (tC (.bl b)) σ H (.bool b) := ed_of ev_c (.bl b)
theorem ed_cn : EvD K (tC .non) σ H .none := ed_of ev_c .non
theorem ed_cs {s : Str} : EvD K (tC (.str s)) σ H (.str s) := ed_of ev_c (.str s)
theorem ed_op (ha : EvD K ta σ H x) (hb : EvD K tb σ H y) (hr : RD K r x y z) : EvD K (tOp r ta tb) σ H z := fun H1 e Q q =>
  ha H1 e _ fun v H2 e2 hv => hb H2 (e.trans e2) _ fun w H3 e3 hw => hr v w H3 (dp_mono e3 hv) hw Q fun z' H4 e4 hz => q z' H4 ((e2.trans e3).trans e4) hz
theorem rd_I0 {g : Int → Int → Int} {i j : Int} : RD K (rI0 fun i j => .int (g i j)) (.int i) (.int j) (.int (g i j)) := fun v u H hv hu Q q => ⟨i, j, dp_int hv, dp_int hu, q _ H (Ex.refl H) (.int _)⟩
theorem rd_I {C : Int → Int → Prop} {g : Int → Int → Int} {i j : Int} (hc : C i j) : RD K (rI C fun i j => .int (g i j)) (.int i) (.int j) (.int (g i j)) := fun v u H hv hu Q q => ⟨i, j, dp_int hv, dp_int hu, hc, q _ H (Ex.refl H) (.int _)⟩
theorem rd_B0 {g : Int → Int → Bool} {i j : Int} : RD K (rI0 fun i j => .bl (g i j)) (.int i) (.int j) (.bool (g i j)) := fun v u H hv hu Q q => ⟨i, j, dp_int hv, dp_int hu, q _ H (Ex.refl H) (.bl _)⟩
theorem rd_eqI {i j : Int} : RD K rEq (.int i) (.int j) (.bool (decide (i = j))) := fun v u H hv hu Q q => by
  rw [dp_int hv, dp_int hu]
  refine ⟨rfl, ?_⟩
  have e : decide (V.int i = V.int j) = decide (i = j) := by
    by_cases h : i = j
    · subst h; simp
    · rw [decide_eq_false h, decide_eq_false (fun q => h (V.int.inj q))]
  rw [e]
  exact q _ H (Ex.refl H) (.bl _)
theorem rd_neI {i j : Int} : RD K rNe (.int i) (.int j) (.bool (!decide (i = j))) := fun v u H hv hu Q q => by
  rw [dp_int hv, dp_int hu]
  refine ⟨rfl, ?_⟩
  have e : decide (V.int i = V.int j) = decide (i = j) := by
    by_cases h : i = j
    · subst h; simp
    · rw [decide_eq_false h, decide_eq_false (fun q => h (V.int.inj q))]
  rw [e]
  exact q _ H (Ex.refl H) (.bl _)
theorem rd_eqD (hx : SeqAt.shaped x = true) (hy : SeqAt.shaped y = true) : RD K (rEqD K) x y (.bool (PyData.eqv x y)) := fun v u H hv hu Q q => ⟨x, y, hv, hu, hx, hy, q _ H (Ex.refl H) (.bl _)⟩
theorem rd_neD (hx : SeqAt.shaped x = true) (hy : SeqAt.shaped y = true) : RD K (rNeD K) x y (.bool (!PyData.eqv x y)) := fun v u H hv hu Q q => ⟨x, y, hv, hu, hx, hy, q _ H (Ex.refl H) (.bl _)⟩
theorem rd_ixT {ds : List PyData} {i : Int} {k : Nat} (hk : ixN ds.length i = some k) (h : ds[k]? = some d) : RD K (rIxT K) (.tuple ds) (.int i) d := fun v u H hv hu Q q => by
  obtain ⟨a, xs, rfl, hs, ha⟩ := dp_tup hv
  obtain ⟨w, hw, hd⟩ := da_at ha h
  refine ⟨a, xs, i, w, rfl, dp_int hu, hs, ?_, q w H (Ex.refl H) hd⟩
  unfold atI
  rw [da_len ha, hk]
  exact hw
theorem rd_ixL {ds : List PyData} {i : Int} {k : Nat} (hk : ixN ds.length i = some k) (h : ds[k]? = some d) : RD K (rIxL K) (.list ds) (.int i) d := fun v u H hv hu Q q => by
  obtain ⟨a, xs, rfl, hs, ha⟩ := dp_lst hv
  obtain ⟨w, hw, hd⟩ := da_at ha h
  refine ⟨a, xs, i, w, rfl, dp_int hu, hs, ?_, q w H (Ex.refl H) hd⟩
  unfold atI
  rw [da_len ha, hk]
  exact hw
theorem eda_nil : EvDA K tNil σ H [] := fun H1 _ _ q => q [] H1 (Ex.refl H1) .nil
theorem eda_cons {tr : TA} {ds : List PyData} (h : EvD K ta σ H x) (hr : EvDA K tr σ H ds) : EvDA K (tCons ta tr) σ H (x :: ds) := fun H1 e _ q =>
  h H1 e _ fun v H2 e2 hv => hr H2 (e.trans e2) _ fun vs H3 e3 hvs => q (v :: vs) H3 (e2.trans e3) (.cons (dp_mono e3 hv) hvs)
theorem ed_tup {ta : TA} {ds : List PyData} (h : EvDA K ta σ H ds) (hl : ds.length ≤ 100000) : EvD K (tTup ta) σ H (.tuple ds) := fun H1 e _ q =>
  h H1 e _ fun vs H2 e2 hv => ⟨by rw [da_len hv]; exact sz_of hl, fun p hp => q (.ref p) _ (e2.trans (Ex.new hp)) (.tup (st_of upd_same) (da_mono (Ex.new hp) hv))⟩
theorem ed_lst {ta : TA} {ds : List PyData} (h : EvDA K ta σ H ds) (hl : ds.length ≤ 100000) : EvD K (tLst ta) σ H (.list ds) := fun H1 e _ q =>
  h H1 e _ fun vs H2 e2 hv => ⟨by rw [da_len hv]; exact sz_of hl, fun p hp => q (.ref p) _ (e2.trans (Ex.new hp)) (.lst (sq_of upd_same) (da_mono (Ex.new hp) hv))⟩
theorem ed_cbt {r : List V → Hp → VK → Prop} {ta : TA} {ds : List PyData} (h : EvDA K ta σ H ds) (hr : RDC K r ds z) : EvD K (tCB r ta) σ H z := fun H1 e Q q =>
  h H1 e _ fun vs H2 e2 hv => hr vs H2 hv Q fun w H3 e3 hw => q w H3 (e2.trans e3) hw
theorem ed_and {a b : Bool} (h1 : EvD K ta σ H (.bool a)) (h2 : a = true → EvD K tb σ H (.bool b)) : EvD K (tAndV ta tb) σ H (.bool (a && b)) := ed_bool (ev_andV (ev_bool h1) fun e => ev_bool (h2 e))
theorem ed_or {a b : Bool} (h1 : EvD K ta σ H (.bool a)) (h2 : a = false → EvD K tb σ H (.bool b)) : EvD K (tOrV ta tb) σ H (.bool (a || b)) := ed_bool (ev_orV (ev_bool h1) fun e => ev_bool (h2 e))
theorem ed_not {a : Bool} (h1 : EvD K ta σ H (.bool a)) : EvD K (tNotV ta) σ H (.bool (!a)) := ed_bool (ev_notV (ev_bool h1))
theorem et_D {b : Bool} (h : EvD K te σ H (.bool b)) : EvT (tTest te) σ H b := et_test (ev_bool h)
theorem et_DB {b : Bool} (h : EvD K te σ H (.bool b)) : EvT (tB te) σ H b := et_B (ev_bool h)
theorem ed_is {d' : PyData} (h : EvD K te σ H d) (e : d = d') : EvD K te σ H d' := by rw [← e]; exact h
/-- a < b < c -/
theorem ed_chain {r r' : R2} {tc : TE} {w : PyData} {a b : Bool} (ha : EvD K ta σ H x) (hb : EvD K tb σ H y) (hc : a = true → EvD K tc σ H w) (h1 : RD K r x y (.bool a)) (h2 : RD K r' y w (.bool b)) : EvD K (tChain r r' ta tb tc) σ H (.bool (a && b)) := fun H1 e Q q =>
  ha H1 e _ fun v H2 e2 hv => hb H2 (e.trans e2) _ fun u H3 e3 hu => h1 v u H3 (dp_mono e3 hv) hu _ fun z H4 e4 hz => ⟨a, dp_bool hz, by
    cases a with
    | true =>
      show tc σ H4 _
      exact hc rfl H4 (((e.trans e2).trans e3).trans e4) _ fun w' H5 e5 hw => h2 u w' H5 (dp_mono (e4.trans e5) hu) hw Q fun z' H6 e6 hz' => q z' H6 ((((e2.trans e3).trans e4).trans e5).trans e6) hz'
    | false =>
      show Q (.bl false) H4
      exact q _ H4 ((e2.trans e3).trans e4) (.bl false)⟩
end

/-! ### promises -/
/-- a def that makes of data ds a datum d, as R says, and leaves all that stood -/
def spR (K : PySem.W.Frag) (R : List PyData → PyData → Prop) : Sp := fun vs H Q _ => ∃ ds d, DpAll K H vs ds ∧ R ds d ∧ ∀ v H', Ex H H' → Dp K H' v d → Q v H'
section
variable {K : PySem.W.Frag} {σ : L2.St} {H H' : Hp} {ta tb te tx : TE} {d : PyData}
theorem ed_call {R : List PyData → PyData → Prop} {E : XK} {ta : TA} {ds : List PyData} (h : EvDA K ta σ H ds) (hr : R ds d) : EvD K (tCall (spR K R) [] E ta) σ H d := fun H1 e Q q =>
  h H1 e _ fun vs H2 e2 hv => ⟨ds, d, by rw [List.append_nil]; exact hv, hr, fun w H3 e3 hw => q w H3 (e2.trans e3) hw⟩
/-! ### statements -/
variable {D : Ends} {tu tw tz : TS} {g : TG} {t : TT}
theorem sd_ret {v : V} (h : EvD K te σ H d) (k : ∀ v H1, Ex H H1 → Dp K H1 v d → D.rt v H1) : tRet te D σ H := h H (Ex.refl H) _ fun v H1 e hv => k v H1 e hv
theorem qd_asg {i : Nat} (h : EvD K te σ H d) (k : ∀ v H1, Ex H H1 → Dp K H1 v d → tz D (σ.set i (some v)) H1) : tSeq (tAsg te (gName i)) tz D σ H := h H (Ex.refl H) _ fun v H1 e hv => k v H1 e hv
end
end DL

set_option Elab.async false
set_option linter.all false
set_option maxRecDepth 100000
set_option maxHeartbeats 4000000
/-! Data without lists stay under stores to lists; comprehensions and built-in calls by data. -/
namespace DL
open PySem PySem.Spec PyProof.Rows L2 Evl

/-! ### tuples stay -/
def ExT (H H' : Hp) : Prop := ∀ a xs, Rd H a (.tup xs) → Rd H' a (.tup xs)
theorem ExT.refl (H : Hp) : ExT H H := fun _ _ h => h
theorem ExT.trans {H H1 H2 : Hp} (a : ExT H H1) (b : ExT H1 H2) : ExT H H2 := fun x o h => b x o (a x o h)
theorem ext_of {H H' : Hp} (e : Ex H H') : ExT H H' := fun a xs h => ex_rd e h
theorem ext_upd {H : Hp} {a : Addr} {xs ys : List V} (h : H a = some (.lst xs)) : ExT H (upd H a (.lst ys)) := fun b zs r => by
  have hb : b ≠ a := fun z => by
    subst z
    rcases r with r | ⟨o, r⟩
    · rw [h] at r; cases r
    · rw [h] at r; cases r
  rcases r with r | ⟨o, r⟩
  · exact .inl (by rw [upd_ne hb]; exact r)
  · exact .inr ⟨o, by rw [upd_ne hb]; exact r⟩
theorem ext_sq {K : PySem.W.Frag} {H H' : Hp} {a : Addr} {xs : List V} (e : ExT H H') (h : SqT K H a xs) : SqT K H' a xs := by
  rcases h with h | h
  · exact .inl (e a xs h)
  · exact .inr h
mutual
/-- no list and no dict in it -/
def noL : PyData → Bool
  | .none => true
  | .bool _ => true
  | .int _ => true
  | .str _ => true
  | .list _ => false
  | .tuple ds => noLs ds
  | .dict _ => false
def noLs : List PyData → Bool
  | [] => true
  | d :: ds => noL d && noLs ds
end
mutual
theorem dp_monoT {K : PySem.W.Frag} {H H' : Hp} (e : ExT H H') : ∀ {d : PyData} {v : V}, noL d = true → Dp K H v d → Dp K H' v d
  | .none, _, _, h => by cases h; exact .non
  | .bool b, _, _, h => by cases h; exact .bl b
  | .int i, _, _, h => by cases h; exact .int i
  | .str x, _, _, h => by cases h; exact .str x
  | .list ds, _, n, h => nomatch n
  | .tuple ds, _, n, h => by
    cases h with
    | tup hs ha => exact .tup (ext_sq e hs) (da_monoT e n ha)
  | .dict _, _, _, h => by cases h
theorem da_monoT {K : PySem.W.Frag} {H H' : Hp} (e : ExT H H') : ∀ {ds : List PyData} {vs : List V}, noLs ds = true → DpAll K H vs ds → DpAll K H' vs ds
  | [], _, _, h => by cases h; exact .nil
  | d :: ds, _, n, h => by
    have n' : noL d = true ∧ noLs ds = true := by simpa [noLs] using n
    cases h with
    | cons h1 h2 => exact .cons (dp_monoT e n'.1 h1) (da_monoT e n'.2 h2)
end
theorem noLs_snoc : ∀ {ds : List PyData} {d : PyData}, noLs ds = true → noL d = true → noLs (ds ++ [d]) = true
  | [], d, _, h => by simp [noLs, h]
  | x :: xs, d, n, h => by
    have n' : noL x = true ∧ noLs xs = true := by simpa [noLs] using n
    show noLs (x :: (xs ++ [d])) = true
    simp [noLs, n'.1, noLs_snoc n'.2 h]
theorem noLs_map {α : Type} {f : α → PyData} : ∀ (l : List α), (∀ x ∈ l, noL (f x) = true) → noLs (l.map f) = true
  | [], _ => rfl
  | x :: xs, h => by
    show (noL (f x) && noLs (xs.map f)) = true
    rw [h x (by simp), noLs_map xs fun y hy => h y (by simp [hy])]; rfl
theorem noL_at : ∀ {ds : List PyData} {i : Nat} {d : PyData}, noLs ds = true → ds[i]? = some d → noL d = true
  | [], i, d, _, e => by simp at e
  | x :: xs, 0, d, n, e => by
    have n' : noL x = true ∧ noLs xs = true := by simpa [noLs] using n
    simp at e; subst e; exact n'.1
  | x :: xs, i + 1, d, n, e => by
    have n' : noL x = true ∧ noLs xs = true := by simpa [noLs] using n
    exact noL_at n'.2 (by simpa using e)

/-! ### what is walked -/
def WkD (K : PySem.W.Frag) (J : It) (H : Hp) (ds : List PyData) : Prop := ∃ (G : Hp → Prop) (Y : Nat → Hp → V → Hp → Prop), Walk J ds.length G Y ∧ (∀ H1, Ex H H1 → G H1) ∧
  ∀ i H1 x H2, Ex H H1 → Y i H1 x H2 → Ex H1 H2 ∧ ∃ d, ds[i]? = some d ∧ Dp K H2 x d
def EvW (K : PySem.W.Frag) (wi : TI) (σ : L2.St) (H : Hp) (ds : List PyData) : Prop := ∀ H1, Ex H H1 → ∀ R : It → Hp → Prop, (∀ J H2, Ex H1 H2 → WkD K J H2 ds → R J H2) → wi σ H1 R
section
variable {K : PySem.W.Frag} {σ : L2.St} {H : Hp} {ta tb te tl : TE} {ds es : List PyData}
theorem ew_tup (h : EvD K tl σ H (.tuple ds)) : EvW K (iTup K tl) σ H ds := fun H1 e R q => h H1 e _ fun v H2 e2 hv => by
  obtain ⟨a, xs, rfl, hs, ha⟩ := dp_tup hv
  refine ⟨a, rfl, ⟨xs, hs⟩, q _ H2 e2 ⟨fun H3 => SqT K H3 a xs, YAt xs, by rw [← da_len ha]; exact walk_tup (xs := xs), fun H3 e3 => ex_t e3 hs, fun i H3 x H4 e3 y => ?_⟩⟩
  obtain ⟨rfl, hx⟩ := y
  exact ⟨Ex.refl _, da_get (da_mono e3 ha) hx⟩
theorem ew_lst (h : EvD K tl σ H (.list ds)) : EvW K (iList K tl) σ H ds := fun H1 e R q => h H1 e _ fun v H2 e2 hv => by
  obtain ⟨a, xs, rfl, hs, ha⟩ := dp_lst hv
  refine ⟨a, rfl, ⟨xs, hs⟩, q _ H2 e2 ⟨fun H3 => SqL K H3 a xs, YAt xs, by rw [← da_len ha]; exact walk_list (xs := xs), fun H3 e3 => ex_l e3 hs, fun i H3 x H4 e3 y => ?_⟩⟩
  obtain ⟨rfl, hx⟩ := y
  exact ⟨Ex.refl _, da_get (da_mono e3 ha) hx⟩
theorem ew_rng1 {ta : TA} {n : Int} (h : EvDA K ta σ H [.int n]) (hn : -(2 ^ 62) ≤ n ∧ n < 2 ^ 62) : EvW K (iRng1 ta) σ H ((List.range n.toNat).map fun (i : Nat) => PyData.int (i : Int)) := fun H1 e R q => h H1 e _ fun vs H2 e2 hv => by
  have ev : vs = [.int n] := da_ints_inv (ns := [n]) hv
  refine ⟨n, ev, hn.1, hn.2, q _ H2 e2 ⟨fun _ => True, fun i H x H' => H' = H ∧ x = .int ((0 : Int) + (i : Nat)) ∧ i < n.toNat, by
    rw [List.length_map, List.length_range]
    exact ⟨fun _ _ hi _ => hi, fun _ _ => Nat.le_refl _, fun _ _ _ _ hi _ y => ⟨y.1, y.2, hi⟩⟩, fun H3 _ => trivial, fun i H3 x H4 e3 y => ?_⟩⟩
  obtain ⟨rfl, rfl, hi⟩ := y
  refine ⟨Ex.refl _, .int ((i : Nat) : Int), ?_, ?_⟩
  · rw [List.getElem?_map, List.getElem?_range hi]; rfl
  · rw [Int.zero_add]; exact .int _
theorem ew_zipT {ds es : List PyData} (ha : EvD K ta σ H (.tuple ds)) (hb : EvD K tb σ H (.tuple es)) : EvW K (RZ.iZipA K (tCons ta (tCons tb tNil))) σ H ((ds.zip es).map fun p => PyData.tuple [p.1, p.2]) := fun H1 e R q =>
  ha H1 e _ fun v H2 e2 hv => hb H2 (e.trans e2) _ fun u H3 e3 hu => by
    obtain ⟨a, xs, rfl, hs, hx⟩ := dp_tup (dp_mono e3 hv)
    obtain ⟨b, ys, rfl, ht, hy⟩ := dp_tup hu
    refine ⟨a, b, xs, ys, rfl, .inr ⟨hs, ht, q _ H3 (e2.trans e3) ?_⟩⟩
    have hn : ((ds.zip es).map fun p => PyData.tuple [p.1, p.2]).length = min xs.length ys.length := by rw [List.length_map, List.length_zip, da_len hx, da_len hy]
    refine ⟨fun H4 => SqT K H4 a xs ∧ SqT K H4 b ys, YPair (fun i => xs[i]?) (fun i => ys[i]?), ?_, fun H4 e4 => ⟨ex_t e4 hs, ex_t e4 ht⟩, fun i H4 x H5 e4 y => ?_⟩
    · rw [hn]
      refine ⟨fun i _ hi q => ?_, fun _ q => ⟨xs, ys, q.1, q.2, by omega⟩, fun i H v H' _ q y => ?_⟩
      · have h1 : i < xs.length := by omega
        have h2 : i < ys.length := by omega
        exact ⟨xs, ys, xs[i], ys[i], q.1, q.2, by simp [h1], by simp [h2]⟩
      · obtain ⟨T, x, z, h1, h2, h3, h4, h5⟩ := y
        exact ⟨T, x, z, h1, h2, h3, h4 xs q.1, h5 ys q.2⟩
    · obtain ⟨T, x1, y1, rfl, hT, rfl, h1, h2⟩ := y
      obtain ⟨d1, g1, p1⟩ := da_get (da_mono e4 hx) h1
      obtain ⟨d2, g2, p2⟩ := da_get (da_mono e4 hy) h2
      refine ⟨Ex.new hT, .tuple [d1, d2], ?_, .tup (st_of upd_same) (.cons (dp_mono (Ex.new hT) p1) (.cons (dp_mono (Ex.new hT) p2) .nil))⟩
      have gz : (ds.zip es)[i]? = some (d1, d2) := List.getElem?_zip_eq_some.mpr ⟨g1, g2⟩
      rw [List.getElem?_map, gz]
      rfl
end
/-! ### targets -/
def TgD (g : TG) (x : V) (σ : L2.St) (H : Hp) (σ2 : L2.St) : Prop := ∀ H1, Ex H H1 → ∀ Q : L2.St → Hp → Prop, Q σ2 H1 → g x σ H1 Q
theorem tg_name {i : Nat} {x : V} {σ : L2.St} {H : Hp} : TgD (gName i) x σ H (σ.set i (some x)) := fun H1 _ Q q => q
theorem tg_pair {K : PySem.W.Frag} {i j : Nat} {a : Addr} {x y : V} {σ : L2.St} {H : Hp} (h : SqT K H a [x, y]) : TgD (gTup K 2 (gCons (gName i) (gCons (gName j) gNil))) (.ref a) σ H ((σ.set i (some x)).set j (some y)) :=
  fun H1 e Q q => ⟨a, [x, y], rfl, ex_t e h, rfl, x, [y], rfl, y, [], rfl, rfl, q⟩
/-! ### comprehensions -/
section
variable {K : PySem.W.Frag} {σ : L2.St} {H : Hp} {te : TE} {tt : TT} {wi : TI} {g : TG}
theorem ed_lc {vs : List Nat} {ds : List PyData} (f : PyData → Bool) (h : PyData → PyData) (hw : EvW K wi σ H ds) (hz : ds.length ≤ 40000)
    (hs : ∀ (i : Nat) (d : PyData) (x : V) (H1 : Hp), Ex H H1 → ds[i]? = some d → Dp K H1 x d → ∃ σ2, TgD g x (wipe σ vs) H1 σ2 ∧ wipe σ2 vs = wipe σ vs ∧ EvT tt σ2 H1 (f d) ∧ (f d = true → noL (h d) = true ∧ EvD K te σ2 H1 (h d))) :
    EvD K (tLc wi g tt te vs) σ H (.list ((ds.filter f).map h)) := fun H0 e0 Q q => hw H0 e0 _ fun J H1 e1 wk Dl hD => by
  obtain ⟨G, Y, wlk, hG, hY⟩ := wk
  refine lc_it (σ := σ) wlk (fun i H' => Ex H1 H' ∧ noLs (((ds.take i).filter f).map h) = true ∧ ∃ xs, H' Dl = some (.lst xs) ∧ xs.length ≤ i ∧ DpAll K H' xs (((ds.take i).filter f).map h))
    ⟨Ex.new hD, rfl, [], upd_same, Nat.le_refl _, .nil⟩ (fun i H' _ p => hG H' p.1) (fun i x H2 H3 hi p y => ?_) (fun H' p => ?_)
  · obtain ⟨ex, hn, xs, hx, hl, ha⟩ := p
    obtain ⟨ey, d, hd, hdp⟩ := hY i H2 x H3 ex y
    obtain ⟨σ2, tg, hwp, ht, he⟩ := hs i d x H3 ((e0.trans e1).trans (ex.trans ey)) hd hdp
    refine tg H3 (Ex.refl H3) _ ⟨hwp, ht H3 (Ex.refl H3) _ fun H4 e4 => ?_⟩
    have tk : ds.take (i + 1) = ds.take i ++ [d] := by rw [List.take_add_one, hd]; rfl
    cases hf : f d with
    | true =>
      show te σ2 H4 _
      obtain ⟨hno, hev⟩ := he hf
      refine hev H4 e4 _ fun v H5 e5 hv => ?_
      have xD : H5 Dl = some (.lst xs) := e5 _ _ (e4 _ _ (ey _ _ hx))
      refine ⟨xs, xD, sz_lt (by omega), Ex.mut ((ex.trans ey).trans (e4.trans e5)) hD, ?_, xs ++ [v], upd_same, by rw [List.length_append]; show xs.length + 1 ≤ i + 1; omega, ?_⟩
      · rw [tk, List.filter_append, List.map_append, show [d].filter f = [d] by simp [hf]]
        exact noLs_snoc hn hno
      · rw [tk, List.filter_append, List.map_append, show [d].filter f = [d] by simp [hf]]
        exact da_monoT (ext_upd xD) (noLs_snoc hn hno) (da_snoc (da_mono (ey.trans (e4.trans e5)) ha) hv)
    | false =>
      show Ex H1 H4 ∧ _
      rw [tk, List.filter_append, List.map_append, show [d].filter f = [] by simp [hf]]
      refine ⟨(ex.trans ey).trans e4, by simpa using hn, xs, e4 _ _ (ey _ _ hx), by omega, ?_⟩
      simpa using da_mono (ey.trans e4) ha
  · obtain ⟨ex, hn, xs, hx, hl, ha⟩ := p
    rw [List.take_of_length_le (Nat.le_refl _)] at ha
    exact q (.ref Dl) H' (e1.trans ex) (.lst (sq_of hx) ha)
/-- without a test -/
theorem ed_lc0 {vs : List Nat} {ds : List PyData} (h : PyData → PyData) (hw : EvW K wi σ H ds) (hz : ds.length ≤ 40000)
    (hs : ∀ (i : Nat) (d : PyData) (x : V) (H1 : Hp), Ex H H1 → ds[i]? = some d → Dp K H1 x d → ∃ σ2, TgD g x (wipe σ vs) H1 σ2 ∧ wipe σ2 vs = wipe σ vs ∧ noL (h d) = true ∧ EvD K te σ2 H1 (h d)) :
    EvD K (tLc wi g tYes te vs) σ H (.list (ds.map h)) := by
  have z := ed_lc (te := te) (g := g) (tt := tYes) (vs := vs) (fun _ => true) h hw hz fun i d x H1 e hd hx => by
    obtain ⟨σ2, a, b, c, d⟩ := hs i d x H1 e hd hx
    exact ⟨σ2, a, b, fun H2 _ Q q => q H2 (Ex.refl H2), fun _ => ⟨c, d⟩⟩
  rwa [List.filter_eq_self.mpr (fun _ _ => rfl)] at z
end
/-! ### built-in calls by data -/
section
variable {K : PySem.W.Frag} {ds : List PyData}
theorem rdc_all {bs : List Bool} : RDC K (rAll K) [.list (bs.map .bool)] (.bool (bs.all id)) := fun vs H hv Q q => by
  cases hv with
  | cons h1 h2 =>
    cases h2
    obtain ⟨a, xs, rfl, hs, ha⟩ := dp_lst h1
    rw [da_bools_inv ha] at hs
    exact ⟨a, bs, rfl, hs, q _ H (Ex.refl H) (.bl _)⟩
theorem rdc_lenT : RDC K (fun xs H Q => ∃ p ys, xs = [.ref p] ∧ (SqL K H p ys ∨ SqT K H p ys) ∧ Q (.int ys.length) H) [.tuple ds] (.int ds.length) := fun vs H hv Q q => by
  cases hv with
  | cons h1 h2 =>
    cases h2
    obtain ⟨a, xs, rfl, hs, ha⟩ := dp_tup h1
    exact ⟨a, xs, rfl, .inr hs, by rw [da_len ha]; exact q _ H (Ex.refl H) (.int _)⟩
theorem rdc_lenL : RDC K (fun xs H Q => ∃ p ys, xs = [.ref p] ∧ (SqL K H p ys ∨ SqT K H p ys) ∧ Q (.int ys.length) H) [.list ds] (.int ds.length) := fun vs H hv Q q => by
  cases hv with
  | cons h1 h2 =>
    cases h2
    obtain ⟨a, xs, rfl, hs, ha⟩ := dp_lst h1
    exact ⟨a, xs, rfl, .inl hs, by rw [da_len ha]; exact q _ H (Ex.refl H) (.int _)⟩
theorem rdc_tupL : RDC K (fun xs H Q => ∃ p ys, xs = [.ref p] ∧ ((SqL K H p ys ∧ ∀ l, H l = none → Q (.ref l) (upd H l (.tup ys))) ∨ (SqT K H p ys ∧ Q (.ref p) H))) [.list ds] (.tuple ds) := fun vs H hv Q q => by
  cases hv with
  | cons h1 h2 =>
    cases h2
    obtain ⟨a, xs, rfl, hs, ha⟩ := dp_lst h1
    exact ⟨a, xs, rfl, .inl ⟨hs, fun l hl => q _ _ (Ex.new hl) (.tup (st_of upd_same) (da_mono (Ex.new hl) ha))⟩⟩
theorem rdc_min2 {i j : Int} : RDC K (fun xs H Q => ∃ i j, xs = [.int i, .int j] ∧ Q (.int (if j < i then j else i)) H) [.int i, .int j] (.int (min i j)) := fun vs H hv Q q => by
  refine ⟨i, j, da_ints_inv (ns := [i, j]) hv, ?_⟩
  have e : (if j < i then j else i) = min i j := by rw [Int.min_def]; split <;> split <;> omega
  rw [e]
  exact q _ H (Ex.refl H) (.int _)
theorem rdc_max2 {i j : Int} : RDC K (fun xs H Q => ∃ i j, xs = [.int i, .int j] ∧ Q (.int (if j > i then j else i)) H) [.int i, .int j] (.int (max i j)) := fun vs H hv Q q => by
  refine ⟨i, j, da_ints_inv (ns := [i, j]) hv, ?_⟩
  have e : (if j > i then j else i) = max i j := by rw [Int.max_def]; split <;> split <;> omega
  rw [e]
  exact q _ H (Ex.refl H) (.int _)
end
end DL

set_option Elab.async false
set_option linter.all false
set_option maxRecDepth 100000
set_option maxHeartbeats 4000000
/-! A tuple whose very object is known (no dict of its own): its methods. -/
namespace DL
open PySem PySem.Spec PyProof.Rows L2 Evl

/-- a tuple that is known to the object -/
def FrzT (H : Hp) (x : V) : Prop := ∃ (a : Addr) (o : Obj) (xs : List V), x = .ref a ∧ H a = some (.frz o (.tup xs)) ∧ o.dict = none
theorem FrzT.ex {H H' : Hp} {x : V} (e : Ex H H') (h : FrzT H x) : FrzT H' x := by
  obtain ⟨a, o, xs, h1, h2, h3⟩ := h
  exact ⟨a, o, xs, h1, e _ _ h2, h3⟩
section
variable {X : Cx} {o e : Expr} {es : List Expr} {to : TE} {t : TA} {name : Str} {apos cpos : Pos} {id : String} {r : V → List V → Hp → VK → Prop}
theorem frz_is {pins : List (Addr × Obj)} {σ : L2.St} {H : Hp} {s : Shared} {x : V} {v : Value} (I : Inv X pins σ H s) (rx : RelV x v) (h : FrzT H x) : s.TypeIs v "tuple" ∧ ∀ a, v = .ref a → ∃ ob, s.heap.get? a = some ob ∧ ob.dict = none := by
  obtain ⟨a, o, xs, rfl, ha, hd⟩ := h
  cases rx
  obtain ⟨g, _, its, _, ob, h1, h2, _⟩ := (show ObjOk X.prog X.w H s.heap a (.frz o (.tup xs)) from I.hok a _ ha)
  refine ⟨⟨ob, h1, h2⟩, fun b e => ?_⟩
  cases e
  exact ⟨o, g, hd⟩
def tBMT (r : V → List V → Hp → VK → Prop) (to : TE) (t : TA) : TE := fun σ H Q => to σ H fun x H1 => FrzT H1 x ∧ t σ H1 fun xs H2 => r x xs H2 Q
theorem pe_bmT (pa : PlainAttrs "tuple") (slot : Slot "tuple" name id) (hty : typeOf (.builtin id) = pure (.type "method_descriptor")) (hm : MtR X id r) (ho : PE X o to) (ha : PA X (e :: es) t)
    (hbase : attributeBase o name X.env (eval o X.env) = eval o X.env := by rfl)
    (hfew : ((backTo cpos (starEach (e :: es) X.env)).all (fun x => !x.1) && (backToKw cpos (keywordEach [] X.env)).all (fun x => x.1.isSome)
      && decide ((e :: es).length + ([] : List Keyword).length + (if ([] : List Keyword).isEmpty then 0 else 1) < 30)) = true := by rfl)
    (hline : (apos.endLine == cpos.line) = true := by rfl) (hs : starEach (e :: es) X.env = (false, eval e X.env) :: starEach es X.env := by rfl) (hplain : (backTo cpos (starEach es X.env)).any (·.1) = false := by rfl) :
    PE X (.Call (.Attribute o name apos) (e :: es) [] cpos) (tBMT r to t) := by
  refine ⟨fun pins s σ H Q I h => ?_⟩
  refine wpAny_Call_method_late hbase hfew hline rfl (thn (ho.run pins s σ H _ I h) fun v s1 ⟨x, H1, I1, r1, ty, q1⟩ => ?_)
  obtain ⟨h1, h2⟩ := frz_is I1 r1 ty
  refine ⟨"tuple", id, pa, slot, hty, h1, h2, ?_⟩
  have hA := ha.run cpos pins s1 σ H1 _ I1 q1
  rw [hs] at hA ⊢
  refine Calls.callWith_builtin (by show (false || (backTo cpos (starEach es X.env)).any (·.1)) = false; rw [hplain] <;> rfl) (Calls.evalArgs_plain ?_)
  exact thn hA fun us s2 ⟨vs, H2, I2, r2, q2⟩ => hm pins s2 σ H2 x vs v us Q I2 r1 r2 q2
/-- t.count(x), ints -/
def rCountT (K : PySem.W.Frag) : V → List V → Hp → VK → Prop := fun x xs H Q => ∃ (a : Addr) (ns : List Int) (m : Int), x = .ref a ∧ xs = [.int m] ∧ SqT K H a (ns.map V.int) ∧ Q (.int ((ns.count m : Nat) : Int)) H
theorem plain_ints : ∀ ns : List Int, PyData.plainAll (ns.map PyData.int) = true
  | [] => rfl
  | n :: ns => by
    show (PyData.plain (.int n) && PyData.plainAll (ns.map PyData.int)) = true
    rw [plain_ints ns]
    rfl
theorem count_ints (ns : List Int) (m : Int) : (ns.map PyData.int).countP (fun y => PyData.eqv y (.int m)) = ns.count m := by
  rw [List.countP_map, List.count]
  refine List.countP_congr fun x _ => ?_
  simp [PyData.eqv]
theorem mt_countT (hu : X.A.units + 64 < cLine) : MtR X "tuple.count" (rCountT X.K) := by
  intro pins s σ H x xs v us Q I rx rxs h
  obtain ⟨a, ns, m, rfl, rfl, hs, q⟩ := h
  cases rx
  obtain ⟨u, rfl, ru⟩ := Vals.one rxs
  obtain ⟨its, rv, hT, _⟩ := I.tuple hs
  obtain ⟨as, h1⟩ := Dp.readsAll I (ns.map PyData.int) _ _ (da_ints ns) rv
  obtain ⟨bs, h2⟩ := Dp.reads I (.int m) _ _ (.int m) ru
  refine PySem.SeqAt.count_tuple_data (vs := its.toArray) (xs := ns.map PyData.int) (d := .int m) hT (by simpa using h1) h2 (plain_ints ns) rfl ?_ ?_
  · have : min (PyData.depthAll (ns.map PyData.int)) (PyData.depth (.int m)) ≤ PyData.depth (.int m) := Nat.min_le_right _ _
    have z : PyData.depth (.int m) ≤ 1 := by first | exact Nat.zero_le _ | exact Nat.le_refl _ | decide
    omega
  · rw [count_ints]
    exact ⟨.int _, H, I.tok _, ⟨_, rfl⟩, q⟩
/-- tuple(xs) of a list, the object known -/
theorem call_tuple_ofF : CallR X (.type "tuple") (fun xs H Q => ∃ p ys, xs = [.ref p] ∧ SqL X.K H p ys ∧ ∀ l o, H l = none → o.dict = none → Q (.ref l) (upd H l (.frz o (.tup ys)))) := by
  intro pins s σ H xs us Q I r h
  obtain ⟨p, ys, rfl, hq, q⟩ := h
  obtain ⟨u, rfl, rx⟩ := vals1 r
  cases rx
  obtain ⟨its, r', pl, hz⟩ := I.list hq
  have hlen := r'.length
  refine call_tuple_list pl.isList (fun h' kp => ?_) (by simp only [List.size_toArray] <;> omega)
  have I1 : Inv X pins σ H { s with heap := h' } := I.kept (t' := s.toks) kp
  have I2 : Inv X pins σ (upd H h'.objs.size (.frz { cls := .type "tuple", data := .seq its.toArray } (.tup ys))) { s with heap := h'.push { cls := .type "tuple", data := .seq its.toArray } } :=
    I1.laid (t' := s.toks) (fun b o e => Heap.get?_push_of_some _ e) (Nat.le_refl _) (show ObjOk X.prog X.w _ _ _ (.frz _ (.tup ys)) from ⟨Heap.get?_push_size _ rfl, hz, its, r', IsTup.new _ _⟩)
  exact ⟨.ref h'.objs.size, _, I2, rfl, q _ _ (I1.hok.fresh (Nat.le_refl _)) rfl⟩
end
end DL

set_option Elab.async false
set_option linter.all false
set_option maxRecDepth 100000
set_option maxHeartbeats 4000000
/-! Generator expressions whose elements may do anything: all(..), any(..) of them. -/
namespace GX
open PySem PySem.Spec PyProof.Rows L2 Evl DL

/-- a table of code objects, whatever stands in it -/
def TabPhi (P : Addr) : Heap → Prop := fun h => ∃ ps : Array Value, h.get? P = some { cls := .none, data := .fields ps } ∧ TriplesOk ps.toList
def TabE (P : Addr) : HO := .ext (TabPhi P)
theorem upd_self {H : Hp} {a : Addr} {o : HO} (h : H a = some o) : upd H a o = H := by
  funext b
  unfold upd
  split
  · rename_i e
    rw [e, h]
  · rfl
section
variable {X : Cx} {pins : List (Addr × Obj)} {σ : L2.St} {H : Hp} {s : Shared}
theorem tab_ok {P : Addr} {Pr : Program} {w : World} {h : Heap} {ps : Array Value} (e : h.get? P = some { cls := .none, data := .fields ps }) (ht : TriplesOk ps.toList) : ObjOk Pr w H h P (TabE P) :=
  ⟨⟨ps, e, ht⟩, ⟨_, e⟩, fun h1 h2 ⟨qs, e1, t1⟩ k => ⟨qs, k _ e1, t1⟩⟩
/-- the table is written, all else stays -/
theorem tab_write {P : Addr} {h' : Heap} {t' : Nat} {ps : Array Value} (I : Inv X pins σ H s) (hP : H P = some (TabE P)) (k : ∀ b o, b ≠ P → s.heap.get? b = some o → h'.get? b = some o) (hm : h'.get? P = some { cls := .none, data := .fields ps }) (ht : TriplesOk ps.toList) :
    Inv X pins σ H { s with heap := h', toks := t' } := by
  have J := I.write (x := P) (e := P) (o := TabE P) (t' := t') (by rw [hP]; trivial) (.inl rfl) k ⟨_, hm⟩ (tab_ok hm ht)
  rw [upd_self hP] at J
  exact J
/-- the gens, the draws and the tokens may be others -/
theorem inv_gens {g' : Array GenState} {d' : Drawn} {t' : Nat} (I : Inv X pins σ H s) (hg : AllBare g') : Inv X pins σ H { s with gens := g', drawn := d', toks := t' } :=
  ⟨I.ok, I.os, hg, I.base, I.loc, I.cell, I.free, I.freeC, I.pin, I.hok, I.len⟩
end
/-- the context of a generator expression's frame -/
abbrev gblk (X : Cx) (A : Around) (s : Shared) (H : Hp) (ge : Env) (fp : List Addr) : Cx :=
  { X with A := A, s_0 := s, H_0 := H, env := ge, outer := X.stack, stack := ge :: X.stack, ex := fp, fn := fun _ => false, pn := [], xe := fun _ _ => False }
/-- its names: its own in their slots, or captured -/
structure GenOk (N : List Str) (sc scope : Scope) (own : List (Str × Nat)) : Prop where
  blk : BlkOk N sc scope own
  co : scope.isCoroutine = false
  cell : ∀ y ∈ scope.names, y.2 ≠ .cell
  dot : scope.names.lookup (".0" : Str) = some NameKind.local
section
variable {X : Cx} {pins : List (Addr × Obj)} {σ : L2.St} {H : Hp} {s : Shared}
theorem gen_start {A : Around} {scope : Scope} {own : List (Str × Nat)} {fp : List Addr} {code it : Value} {a : Addr} {gob : Obj} {s5 : Shared} (I : Inv X pins σ H s) (G : GenOk X.N X.env.scope scope own) (hN : X.N.Nodup) (hfp : ∀ b ∈ fp, FpOk X pins H b ∧ b < s.heap.objs.size)
    (hA : A.handled = none) (hF : A.frames = some (genEnv scope (cloFrom X.env.cells scope.names []) s.heap.objs.size code builtinsNs X.env :: X.stack))
    (hn : s5.heap.Ns s.heap.objs.size (fun y => if y = ".0" then some it else none)) (kp : ∀ b o, s.heap.get? b = some o → s5.heap.get? b = some o) (hos : s5.os = s.os) (hb : AllBare s5.gens)
    (ha : s5.heap.get? a = some gob) (hac : ∀ v, gob.data ≠ .cell v) (hal : s.heap.objs.size < a) :
    Inv (gblk X A s H (genEnv scope (cloFrom X.env.cells scope.names []) s.heap.objs.size code builtinsNs X.env) fp) [(a, gob)] (wipe σ (own.map (·.2))) H s5 := by
  have ok := G.blk
  have hfree : ∀ y ∈ scope.names, y.2 = .free → ∃ c, X.env.cells.lookup y.1 = some c := fun y hy e => by
    rcases ok.free y hy e with k | k
    · exact I.ok.has _ (.inl k)
    · exact I.ok.has _ (.inr k)
  have cm : ∀ {y : Str} {c : Addr}, (cloFrom X.env.cells scope.names []).lookup y = some c → X.env.cells.lookup y = some c ∧ c < s.heap.objs.size := fun {y c} e => by
    rcases cloFrom_mem (PySem.mem_of_lookup e) with hm | ⟨h1, hc0⟩
    · cases hm
    · obtain ⟨c', hc'⟩ := hfree _ h1 rfl
      have e1 : X.env.cells.lookup y = some c := by
        rw [hc'] at hc0
        subst hc0
        exact hc'
      obtain ⟨w, z⟩ := I.cell _ _ e1
      exact ⟨e1, z.lt⟩
  have look : ∀ {y : Str}, scope.names.lookup y = some .free → ∃ c, (cloFrom X.env.cells scope.names []).lookup y = some c ∧ X.env.cells.lookup y = some c := fun {y} hl => by
    obtain ⟨c', e'⟩ := mem_lookup (cloFrom_has (cells := X.env.cells) (acc := []) (PySem.mem_of_lookup hl))
    exact ⟨c', e', (cm e').1⟩
  have okG : (gblk X A s H (genEnv scope (cloFrom X.env.cells scope.names []) s.heap.objs.size code builtinsNs X.env) fp).Ok := by
    refine ⟨I.ok.mod, ok.kind, I.ok.glob, rfl, Nat.le_refl _, fun y z c e1 e2 => I.ok.inj y z c (cm e1).1 (cm e2).1, fun y hy => ?_, fun y c z e => (by cases z), fun _ => hA, hF, .inr ⟨rfl, rfl⟩, fun b hb => ⟨?_, fun y c e z => ?_⟩, I.bs, Nat.le_trans I.ok.bsz I.sz, fun b o e hb => ?_, fun b hb z => ?_, I.stack, I.stkFree⟩
    · rcases hy with hy | hy
      · exact absurd rfl (G.cell _ (PySem.mem_of_lookup hy))
      · obtain ⟨c, h1, _⟩ := look hy
        exact ⟨c, h1⟩
    · exact Nat.ne_of_lt (hfp b hb).2
    · exact (hfp b hb).1.2.2.2.2.1 y c (cm e).1 z
    · rcases (hfp b hb).1.2.2.2.1 with z | z
      · exact I.ok.noex b o e z
      · exact absurd (Nat.lt_of_lt_of_le (Heap.lt_size e) (Nat.le_trans I.ok.bsz z)) (Nat.lt_irrefl _)
    · rcases List.mem_cons.mp (I.stkSub b z) with z | z
      · exact (hfp b hb).1.2.1 z
      · exact (hfp b hb).1.2.2.1 z
  refine ⟨okG, hos, hb, Un.kept kp, ⟨_, hn, fun i y av e1 e2 e3 => ?_⟩, fun y c e => ?_, I.hok.fresh (Nat.le_refl _), fun y c e => I.freeC y c (cm e).1, fun p hp => ?_, I.hok.kept kp, by rw [wipe_length]; exact I.len⟩
  · obtain ⟨e2, hne⟩ := wipe_some e2
    have hfr : scope.names.lookup y = some .free := by
      have no : ∀ k, scope.names.lookup y = some k → ¬ (k = .local ∨ k = .cell) := fun k e hh => by
        rcases ok.own _ (PySem.mem_of_lookup e) hh with e' | e'
        · obtain ⟨p, hp, hpy⟩ := List.mem_map.mp e'
          have e3 := ok.ix p hp
          have : p.1 = y := hpy
          rw [this] at e3
          exact hne (List.mem_map.mpr ⟨p, hp, nodup_ix hN e3 e1⟩)
        · exact e' (List.mem_of_getElem? e1)
      have e3 : Vis scope y := e3
      rcases e3 with e3 | e3 | e3
      · exact absurd (.inl rfl) (no _ e3)
      · exact absurd (.inr rfl) (no _ e3)
      · exact e3
    obtain ⟨m, _, hl⟩ := I.loc
    have hvis : Vis X.env.scope y := (ok.free _ (PySem.mem_of_lookup hfr) rfl).elim (fun k => .inr (.inl k)) (fun k => .inr (.inr k))
    obtain ⟨u, r, q⟩ := hl i y av e1 e2 hvis
    refine ⟨u, r, .inr ⟨.inr hfr, ?_⟩⟩
    obtain ⟨c, h1, h2⟩ := look hfr
    rcases q with ⟨k, _⟩ | ⟨_, c', e', z⟩
    · have k : X.env.scope.names.lookup y = some .local := k
      rcases ok.free _ (PySem.mem_of_lookup hfr) rfl with k' | k' <;> rw [show X.env.scope.names.lookup y = _ from k'] at k <;> cases k
    · rw [h2] at e'
      cases e'
      exact ⟨c, h1, z.keeps kp⟩
  · obtain ⟨w, z⟩ := I.cell y c (cm e).1
    exact ⟨w, z.keeps kp⟩
  · have hp : p ∈ ([] : List (Addr × Obj)) ++ [(a, gob)] := hp
    rw [List.nil_append, List.mem_singleton] at hp
    subst hp
    refine ⟨ha, I.hok.fresh (Nat.le_of_lt hal), Nat.ne_of_gt hal, fun z => ?_, hac⟩
    have h1 := I.stack.mem z
    obtain ⟨_, o, ho, _⟩ := h1
    exact absurd (Nat.lt_trans hal (Heap.lt_size ho)) (Nat.lt_irrefl _)
end
end GX

set_option Elab.async false
set_option linter.all false
set_option maxRecDepth 100000
set_option maxHeartbeats 4000000
namespace GX
open PySem PySem.Spec PyProof.Rows L2 Evl DL

abbrev gExp (elt tg iter : Expr) (scope : Scope) (pos : Pos) : Expr := .GeneratorExp elt [⟨tg, iter, [], 0⟩] scope pos
abbrev gLoop (elt tg iter : Expr) (scope : Scope) (pos : Pos) (it : Addr) (ge : Env) : Code := .compLoop (gExp elt tg iter scope pos) 0 (.ref it) .none ge
/-- a turn may begin -/
def GS (Xg : Cx) (gp : List (Addr × Obj)) (τ : L2.St) (fp : List Addr) (tn : Nat → Heap → Prop) (W : Nat → Hp → Prop) (i : Nat) (s : Shared) : Prop :=
  ∃ H', Inv Xg gp τ H' s ∧ tn i s.heap ∧ (∀ b ∈ fp, H' b = none) ∧ W i H'
/-- between two turns nothing but generators' states changes -/
def Re (s s'' : Shared) : Prop := s''.heap = s.heap ∧ s''.os = s.os ∧ AllBare s''.gens
def gR (Xg : Cx) (gp : List (Addr × Obj)) (τ : L2.St) (c : Bool) (Qt : Bool → Hp → Prop) : GenEnd := fun _ _ r s₁ => r = .ok .next ∧ ∃ H', Inv Xg gp τ H' s₁ ∧ Qt c H'
def gY (Xg : Cx) (gp : List (Addr × Obj)) (τ : L2.St) (fp : List Addr) (tn : Nat → Heap → Prop) (W : Nat → Hp → Prop) (c : Bool) (Qt : Bool → Hp → Prop) (N : Nat) : Protocol := fun n _ v s kap =>
  ∃ b, v = .bool b ∧ if b = c then (∃ i, n = N - i ∧ i ≤ N ∧ GS Xg gp τ fp tn W i s) ∧ ∀ s'', Re s s'' → kap (.send .none) s'' else ∃ H', Inv Xg gp τ H' s ∧ Qt b H'
theorem GS.re {Xg : Cx} {gp : List (Addr × Obj)} {τ : L2.St} {fp : List Addr} {tn : Nat → Heap → Prop} {W : Nat → Hp → Prop} {i : Nat} {s s'' : Shared} (h : GS Xg gp τ fp tn W i s) (r : Re s s'') : GS Xg gp τ fp tn W i s'' := by
  obtain ⟨H', I, st, n, w⟩ := h
  obtain ⟨e1, e2, e3⟩ := r
  obtain ⟨hp, gs, dr, tk, os⟩ := s''
  have e1 : hp = s.heap := e1
  have e2 : os = s.os := e2
  subst e1
  subst e2
  exact ⟨H', inv_gens I e3, st, n, w⟩
theorem gen_seg {X : Cx} {A : Around} {elt tg iter : Expr} {scope : Scope} {pos : Pos} {ge : Env} {s3 : Shared} {H3 : Hp} {fp : List Addr} {it : Addr} {tn : Nat → Heap → Prop} {J : It} {g : TG} {te : TE} {vs : List Nat} {σ : L2.St} {gp : List (Addr × Obj)} {N : Nat} {W : Nat → Hp → Prop} {c : Bool} {Qt : Bool → Hp → Prop}
    (hc : X.calm = true) (hco : ge.scope.isCoroutine = false) (T : Turn X.prog X.w X.K tg J fp it tn) (hgp : ∀ p ∈ gp, ∀ b ∈ fp, p.1 ≠ b)
    (pg : PG (gblk X (A.over (gLoop elt tg iter scope pos it ge) []) s3 H3 ge fp) tg g) (pe : PE (gblk X (A.over (gLoop elt tg iter scope pos it ge) []) s3 H3 ge fp) elt te)
    (turn : ∀ i H, W i H → (J.stop i H ∧ Qt c H) ∨ (J.go i H ∧ i < N ∧ ∀ x H', J.yld i H x H' → g x (wipe σ vs) H' fun σ2 H2 => wipe σ2 vs = wipe σ vs ∧ te σ2 H2 fun y H4 => ∃ b, y = .bl b ∧ if b = c then W (i + 1) H4 else Qt b H4)) :
    ∀ (k i : Nat) (s₀ s : Shared), N - i = k → i ≤ N → GS (gblk X (A.over (gLoop elt tg iter scope pos it ge) []) s3 H3 ge fp) gp (wipe σ vs) fp tn W i s →
      Seg (model X.prog X.w) A (gR (gblk X (A.over (gLoop elt tg iter scope pos it ge) []) s3 H3 ge fp) gp (wipe σ vs) c Qt) (gY (gblk X (A.over (gLoop elt tg iter scope pos it ge) []) s3 H3 ge fp) gp (wipe σ vs) fp tn W c Qt N) k s₀
        (gLoop elt tg iter scope pos it ge) ((model X.prog X.w).den (gLoop elt tg iter scope pos it ge)) [] s := by
  generalize hXg : gblk X (A.over (gLoop elt tg iter scope pos it ge) []) s3 H3 ge fp = Xg at pg pe
  have hXA : Xg.A = A.over (gLoop elt tg iter scope pos it ge) [] := by rw [← hXg]
  have hXp : Xg.prog = X.prog := by rw [← hXg]
  have hXw : Xg.w = X.w := by rw [← hXg]
  have hXK : Xg.K = X.K := by rw [← hXg]
  have hXc : Xg.calm = true := by rw [← hXg]; exact hc
  have hXe : Xg.env = ge := by rw [← hXg]
  have hXx : Xg.ex = fp := by rw [← hXg]
  have hXn : Xg.pn = [] := by rw [← hXg]
  have hXf : Xg.xe = fun _ _ => False := by rw [← hXg]
  have stat : ∀ {σ' : L2.St} {H' : Hp} {s' : Shared}, Inv Xg gp σ' H' s' → (∀ b ∈ fp, H' b = none) → ∀ b ∈ fp, FpOk Xg gp H' b := fun {σ' H' s'} I' hn b hb => by
    have hbx : b ∈ Xg.ex := by rw [hXx]; exact hb
    refine ⟨hn b hb, (I'.ok.exf b hbx).1, I'.ok.exfs b hbx, .inl hbx, fun x c e => (I'.ok.exf b hbx).2 x c e, fun p hp => ?_⟩
    rw [hXn, List.nil_append] at hp
    exact hgp p hp b hb
  have hy : ∀ v, yieldOut ge v = yieldValue v := fun v => by simp only [yieldOut, hco, Bool.false_eq_true, if_false]
  intro k
  induction k with
  | zero =>
    intro i s₀ s hk hi hG
    obtain ⟨H5, I5, st5, n5, w5⟩ := hG
    show Seg _ A _ _ _ s₀ _ ((compTurn (gExp elt tg iter scope pos) 0 (.ref it) .none ge).onRaise (leaving ge)) [] s
    rw [compTurn_gen, Sem.onRaise_eq_wrap]
    refine seg_bind_wrap (wpAny_standAt ?_)
    rcases turn i H5 w5 with ⟨stop, qq⟩ | ⟨_, hlt, _⟩
    · have td := T.done Xg hXp hXw hXK hXc i gp s _ H5 (fun _ _ => False) I5 (stat I5 n5) st5 stop
      rw [hXA] at td
      refine seg_bind_wrap (thnF td fun r s6 ⟨hr, I6⟩ => ?_)
      subst hr
      exact seg_end (.ok .next) ⟨rfl, H5, I6, qq⟩
    · omega
  | succ k ih =>
    intro i s₀ s hk hi hG
    obtain ⟨H5, I5, st5, n5, w5⟩ := hG
    show Seg _ A _ _ _ s₀ _ ((compTurn (gExp elt tg iter scope pos) 0 (.ref it) .none ge).onRaise (leaving ge)) [] s
    rw [compTurn_gen, Sem.onRaise_eq_wrap]
    refine seg_bind_wrap (wpAny_standAt ?_)
    rcases turn i H5 w5 with ⟨stop, qq⟩ | ⟨go, hlt, step⟩
    · have td := T.done Xg hXp hXw hXK hXc i gp s _ H5 (fun _ _ => False) I5 (stat I5 n5) st5 stop
      rw [hXA] at td
      refine seg_bind_wrap (thnF td fun r s6 ⟨hr, I6⟩ => ?_)
      subst hr
      exact seg_end (.ok .next) ⟨rfl, H5, I6, qq⟩
    · have ti := T.item Xg hXp hXw hXK hXc i gp s _ H5 (fun _ _ => False) I5 (stat I5 n5) st5 go
      rw [hXA] at ti
      refine seg_bind_wrap (thnF ti fun r s6 ⟨u, hr, h6⟩ => ?_)
      subst hr
      refine seg_bind_wrap (thnF h6 fun _ s7 ⟨x, H7, I7, r7, y7, st7, n7⟩ => ?_)
      have I7' := I7.pinned (stat I7 n7) (T.obj _ _ st7)
      have rg := pg.run _ s7 _ H7 x u _ I7' r7 (step x H7 y7)
      rw [hXA, hXe, hXf, hXp, hXw] at rg
      refine seg_bind_wrap (thnF rg fun _ s8 ⟨σ8, H8, I8, hw8, q8⟩ => ?_)
      refine seg_bind_wrap (wpAny_tests_nil ?_)
      simp only [if_true]
      simp only [hy]
      rw [Sem.bind_eq_wrap', Sem.bind_eq_wrap', Sem.wrap_wrap, Sem.wrap_wrap]
      have re := pe.run _ s8 σ8 H8 _ I8 q8
      rw [hXA, hXe, hXf, hXp, hXw] at re
      refine seg_wrap (thnF re fun z s9 ⟨yv, H9, I9, r9, b, hb, q9⟩ => ?_)
      subst hb
      have hz : z = .bool b := r9
      subst hz
      have pin' : ∀ b ∈ fp, ∀ o, s7.heap.get? b = some o → s9.heap.get? b = some o ∧ H9 b = none := fun b hb o e => by
        have z := I9.pin (b, o) (List.mem_append_right _ (List.mem_append_right _ (mem_pinsAt hb e)))
        exact ⟨z.1, z.2.1⟩
      have hl : (wipe σ vs).length = σ8.length := by rw [← hw8, wipe_length]
      have I9' : Inv Xg gp (wipe σ vs) H9 s9 := (I9.unpinned (pins := gp)).weak hl fun j v e => by
        rw [← hw8] at e
        exact (wipe_some e).1
      refine seg_at (seg_yield rfl rfl rfl ⟨b, rfl, ?_⟩)
      by_cases hbc : b = c
      · rw [if_pos hbc] at q9 ⊢
        have hG9 : GS Xg gp (wipe σ vs) fp tn W (i + 1) s9 := by
          refine ⟨H9, I9', T.keep _ _ _ st7 fun b hb o e => (pin' b hb o e).1, fun b hb => ?_, q9⟩
          obtain ⟨o, e, _⟩ := T.obj _ _ st7 b hb
          exact (pin' b hb o e).2
        refine ⟨⟨i + 1, by omega, hlt, hG9⟩, fun s'' hre => ?_⟩
        exact seg_again rfl (ih (i + 1) s'' s'' (by omega) hlt (hG9.re hre))
      · rw [if_neg hbc] at q9 ⊢
        exact ⟨H9, I9', q9⟩
/-- the generator's first waking -/
theorem gen_first {X : Cx} {A : Around} {R : GenEnd} {Y : Protocol} {elt tg iter : Expr} {scope : Scope} {pos : Pos} {ge : Env} {fp : List Addr} {it : Addr} {tn : Nat → Heap → Prop} {J : It} {n : Nat} {s₀ s : Shared} (T : Turn X.prog X.w X.K tg J fp it tn) (st : tn 0 s.heap)
    (loop : Seg (model X.prog X.w) A R Y n s₀ (gLoop elt tg iter scope pos it ge) ((model X.prog X.w).den (gLoop elt tg iter scope pos it ge)) [] s) :
    Seg (model X.prog X.w) A R Y n s₀ (.compStart (gExp elt tg iter scope pos) 0 (.ref it) .none ge) ((model X.prog X.w).den (.compStart (gExp elt tg iter scope pos) 0 (.ref it) .none ge)) [] s := by
  show Seg _ A _ _ _ s₀ _ ((compStart (gExp elt tg iter scope pos) 0 (.ref it) .none ge).onRaise (leaving ge)) [] s
  unfold compStart
  rw [Sem.onRaise_eq_wrap]
  show Seg _ A _ _ _ s₀ _ ((ask >>= _).wrap _ _ _ _) [] s
  refine seg_bind_wrap (wpAny_askSetting ?_)
  split
  · exact seg_again rfl loop
  · refine seg_bind_wrap (wpAny_rule ?_)
    exact seg_bind_wrap (wpAny_standAt (seg_bind_wrap (T.self _ 0 s _ _ st (seg_again rfl loop))))
end GX

set_option Elab.async false
set_option linter.all false
set_option maxRecDepth 100000
set_option maxHeartbeats 4000000
namespace GX
open PySem PySem.Spec PyProof.Rows L2 Evl DL
theorem bare_set {s : Shared} {g : Nat} {x : GenState} (h : AllBare s.gens) (hx : x.bare = true) : AllBare (s.setGen g x).gens := fun y hy => by
  have hy' : y ∈ s.gens.setIfInBounds g x := hy
  obtain ⟨i, hi, rfl⟩ := Array.mem_iff_getElem.mp hy'
  have hi' : i < s.gens.size := by simpa using hi
  rw [Array.getElem_setIfInBounds hi']
  split
  · exact hx
  · exact h _ (Array.getElem_mem hi')
theorem re_set {s : Shared} {g : Nat} {x : GenState} (h : AllBare s.gens) (hx : x.bare = true) : Re s (s.setGen g x) := ⟨rfl, rfl, bare_set h hx⟩
/-- the generator at a stands before turn i -/
def At (X Xg : Cx) (A : Around) (gp : List (Addr × Obj)) (τ : L2.St) (fp : List Addr) (tn : Nat → Heap → Prop) (W : Nat → Hp → Prop) (c : Bool) (Qt : Bool → Hp → Prop) (N g i : Nat) (s : Shared) : Prop :=
  GS Xg gp τ fp tn W i s ∧ ∃ gs, s.gens[g]? = some gs ∧ ∀ s'', Re s s'' → gs.Goes (model X.prog X.w) A (gR Xg gp τ c Qt) (gY Xg gp τ fp tn W c Qt N) (N - i) (.send .none) s''
theorem next_at {X Xg : Cx} {A : Around} {gp : List (Addr × Obj)} {τ : L2.St} {fp : List Addr} {tn : Nat → Heap → Prop} {W : Nat → Hp → Prop} {c : Bool} {Qt : Bool → Hp → Prop} {N g i : Nat} {a : Addr} {s : Shared} {E : Value → Shared → Prop} {Q : Option Value → Shared → Prop}
    (hh : A.handled = none) (hroom : A.depth < recursionLimit) (hgen : ∀ s' H', Inv Xg gp τ H' s' → s'.heap.IsGen a g) (h : At X Xg A.in1 gp τ fp tn W c Qt N g i s) (hi : i ≤ N)
    (hN : ∀ s' H', Inv Xg gp τ H' s' → Qt c H' → Q none s') (hD : ∀ b s' H', b ≠ c → Inv Xg gp τ H' s' → Qt b H' → Q (some (.bool b)) s')
    (hG : ∀ i' s', i < i' → i' ≤ N → At X Xg A.in1 gp τ fp tn W c Qt N g i' s' → Q (some (.bool c)) s') :
    wpAny (model X.prog X.w) A (pyNext (.ref a)) Q E s := by
  obtain ⟨⟨H', I, st, n, w⟩, gs, hgs, hgo⟩ := h
  have hsz : g + 1 ≤ s.gens.size := by
    rcases Nat.lt_or_ge g s.gens.size with h' | h'
    · exact h'
    · rw [Array.getElem?_eq_none h'] at hgs
      cases hgs
  refine GenW.wpAny_gsz hsz ?_
  refine wpAny_mono (Q := fun r s' => g + 1 ≤ s'.gens.size → Q r s') ?_ (fun _ _ q => q) fun _ _ e _ => e
  refine wpAny_pyNext_genexpQ (P := fun _ _ s₁ => ∃ H', Inv Xg gp τ H' s₁ ∧ Qt c H') (n := N - i) hh I.nolimit hroom (hgen s H' I) hgs (hgo _ (re_set I.bare rfl)) (fun v s₁ gs' hb hv hz => ?_) (fun s₁ hp h' hk _ => ?_)
  · obtain ⟨b, rfl, hv⟩ := hv
    by_cases hbc : b = c
    · rw [if_pos hbc] at hv
      subst hbc
      obtain ⟨⟨i', hn, hi', hG1⟩, hkap⟩ := hv
      obtain ⟨H1, I1, _⟩ := id hG1
      cases hm : N - i with
      | zero =>
        rw [hm] at hkap
        exact (hkap s₁ ⟨rfl, rfl, I1.bare⟩).elim
      | succ m =>
        rw [hm] at hkap hn
        refine hG i' _ (by omega) hi' ⟨hG1.re (re_set I1.bare hb), gs', ?_, fun s'' hre => ?_⟩
        · have h1 : g < (s₁.setGen g gs').gens.size := hz
          have h2 : g < s₁.gens.size := by simpa [Shared.setGen] using h1
          exact setGen_self (gs := s₁.gens[g]) (Array.getElem?_eq_getElem h2)
        · have e : N - i' = m := by omega
          rw [e]
          exact hkap s'' ⟨hre.1, hre.2.1, hre.2.2⟩
    · rw [if_neg hbc] at hv
      obtain ⟨H1, I1, q1⟩ := hv
      exact hD b _ H1 hbc (inv_gens I1 (bare_set I1.bare hb)) q1
  · obtain ⟨H1, I1, q1⟩ := hp
    exact hN _ H1 (inv_gens (I1.kept (t' := s₁.toks) hk) (bare_set I1.bare rfl)) q1
/-- all's loop over it -/
theorem all_loop {X Xg : Cx} {A : Around} {gp : List (Addr × Obj)} {τ : L2.St} {fp : List Addr} {tn : Nat → Heap → Prop} {W : Nat → Hp → Prop} {Qt : Bool → Hp → Prop} {N g : Nat} {a : Addr} {R : Result → Shared → Prop}
    (hh : A.handled = none) (hroom : A.depth < recursionLimit) (hgen : ∀ s' H', Inv Xg gp τ H' s' → s'.heap.IsGen a g) (hR : ∀ b s' H', Inv Xg gp τ H' s' → Qt b H' → R (.ok (.ret (.bool b))) s') :
    ∀ (k i : Nat) (s : Shared), N - i = k → i ≤ N → At X Xg A.in1.in1 gp τ fp tn W true Qt N g i s → codeAny (model X.prog X.w) A (.builtin "all.loop" ⟨[.ref a], []⟩) R s := by
  intro k
  induction k using Nat.strongRecOn with
  | ind k ih =>
    intro i s hk hi hA
    refine codeAny_builtin F.entry_all_loop ?_
    rw [Around.under_plainId F.plain_all_loop _]
    show wpAny _ A.in1 (pyNext (.ref a) >>= _) _ _ s
    refine wpAny_bind (next_at (A := A.in1) hh hroom hgen hA hi (fun s' H' I q => ?_) (fun b s' H' hb I q => ?_) fun i' s' h1 h2 h3 => ?_)
    · exact wpAny_bind (wpAny_rule (wpAny_pure (hR true s' H' I q)))
    · have hb : b = false := by
        cases b with
        | true => exact absurd rfl hb
        | false => rfl
      subst hb
      refine wpAny_bind (wpAny_holding (wpAny_truthy_bool ?_))
      refine wpAny_bind (wpAny_letGo ?_)
      simp only [Bool.false_eq_true, if_false]
      exact wpAny_bind (wpAny_rule (wpAny_pure (hR false s' H' I q)))
    · refine wpAny_bind (wpAny_holding (wpAny_truthy_bool ?_))
      refine wpAny_bind (wpAny_letGo ?_)
      simp only [if_true]
      exact wpAny_pure ⟨plainId_quiet F.plain_all_loop _, ih (N - i') (by omega) i' s' rfl h2 h3⟩
end GX

set_option Elab.async false
set_option linter.all false
set_option maxRecDepth 100000
set_option maxHeartbeats 4000000
namespace GX
open PySem PySem.Spec PyProof.Rows L2 Evl DL
/-- all(e for t in it) (c true), any(..) (c false): N bounds the turns, W by the turn -/
def tQuant (c : Bool) (P : Addr) (wi : TI) (g : TG) (te : TE) (vs : List Nat) : TE := fun σ H Q => wi σ H fun J H1 => H1 P = some (TabE P) ∧ ∃ (N : Nat) (W : Nat → Hp → Prop), W 0 H1 ∧
  ∀ i H, W i H → (J.stop i H ∧ Q (.bl c) H) ∨ (J.go i H ∧ i < N ∧ ∀ x H', J.yld i H x H' → g x (wipe σ vs) H' fun σ2 H2 => wipe σ2 vs = wipe σ vs ∧ te σ2 H2 fun y H4 => ∃ b, y = .bl b ∧ if b = c then W (i + 1) H4 else Q (.bl b) H4)
theorem room_gen {A : Around} {k : Nat} {elt tg iter : Expr} {scope : Scope} {pos : Pos} {it : Addr} {ge : Env} (hr : Room (k + 1) A) : Room k (A.in1.in1.over (gLoop elt tg iter scope pos it ge) []) := by
  have h1 := hr.dp
  have h2 := hr.un
  refine ⟨hr.hd, ?_, ?_⟩
  · show A.depth + 0 + 1 + 3 * k + 5 < _
    omega
  · show A.units + 1 + 1 + 0 + 3 + 16 * k + 200 < _
    omega
theorem frames_gen {A : Around} {l : List Env} {elt tg iter : Expr} {scope : Scope} {pos : Pos} {it : Addr} {ge : Env} (h : A.frames = some l) : (A.in1.in1.over (gLoop elt tg iter scope pos it ge) []).frames = some (ge :: l) := by
  show pushEnvs [ge] (pushEnvs [] A.frames) = _
  rw [h]
  rfl
section
variable {X : Cx}
theorem gen_made {c P : Addr} {cc : Bool} {elt tg iter : Expr} {scope : Scope} {gpos : Pos} {own : List (Str × Nat)} {wi : TI} {g : TG} {te : TE} {k : Nat} {pins : List (Addr × Obj)} {σ : L2.St} {H : Hp} {s : Shared} {Q : VK} {Q' : Value → Shared → Prop}
    (hr : Room (k + 1) X.A) (hcm : X.calm = true) (hN : X.N.Nodup) (TB : GxR.TabB X.base X.mg c P) (hcode : X.env.code = .ref c) (G : GenOk X.N X.env.scope scope own) (hi : PI X tg iter wi)
    (hg : ∀ (A : Around) (s : Shared) (H : Hp) (cl : List (Str × Addr)) (C : Addr) (code : Value) (fp : List Addr), PG (gblk X A s H (genEnv scope cl C code builtinsNs X.env) fp) tg g)
    (he : ∀ (A : Around) (s : Shared) (H : Hp) (cl : List (Str × Addr)) (C : Addr) (code : Value) (fp : List Addr), Room k A → PE (gblk X A s H (genEnv scope cl C code builtinsNs X.env) fp) elt te)
    (hs : ∀ v, genFold iter X.env v = pure v) (I : Inv X pins σ H s) (h : tQuant cc P wi g te (own.map (·.2)) σ H Q)
    (hQ : ∀ (a : Addr) (s5 : Shared) (Xg : Cx) (gp : List (Addr × Obj)) (fp : List Addr) (tn : Nat → Heap → Prop) (W : Nat → Hp → Prop) (N gi : Nat), At X Xg X.A.in1.in1 gp (wipe σ (own.map (·.2))) fp tn W cc (fun b H' => Q (.bl b) H') N gi 0 s5 →
      (∀ s' H', Inv Xg gp (wipe σ (own.map (·.2))) H' s' → s'.heap.IsGen a gi) → (∀ s' H', Inv Xg gp (wipe σ (own.map (·.2))) H' s' → Inv X pins σ H' s') → Q' (.ref a) s5) :
    wpAny (model X.prog X.w) X.A (eval (gExp elt tg iter scope gpos) X.env) Q' X.xe s := by
  have hfree : ∀ y ∈ scope.names, y.2 = .free → ∃ c, X.env.cells.lookup y.1 = some c := fun y hy e => by
    rcases G.blk.free y hy e with k | k
    · exact I.ok.has _ (.inl k)
    · exact I.ok.has _ (.inr k)
  refine wpAny_GeneratorExp_make G.co (closure_ok hfree) G.cell G.dot G.blk.kind (by have := hr.dp; omega) ?_ hs
  refine thn (hi.run pins s σ H _ I h) fun xv s1 hx => thn hx fun itv s2 h2 => ?_
  obtain ⟨it, fp, tn, J, H2, rfl, I2, T, st2, f2, hP, N, W, w0, turn⟩ := h2
  refine ⟨I2.nolimit, ?_⟩
  obtain ⟨⟨ps, hPs, ht⟩, _⟩ := I2.hok P _ hP
  have cd : PySem.W.CodeHd s2.heap c P := TB.code.keeps fun b u e => I2.bk b u e
  have sz : ∀ b ∈ fp, b < s2.heap.objs.size := fun b hb => by
    obtain ⟨o, e, _⟩ := T.obj _ _ st2 b hb
    exact Heap.lt_size e
  have cont : ∀ (code : Value) (h3 : Heap) (tk : Nat), Inv X pins σ H2 { s2 with heap := h3, toks := tk } → tn 0 h3 → (∀ b ∈ fp, b < h3.objs.size) →
      wpAny (model X.prog X.w) X.A (builtinsFor X.env.globals X.env.builtins) (fun bi s₄ => ∀ h', h'.Ns s₄.heap.objs.size (fun y => if y = ".0" then some (.ref it) else none) → Heap.SameBut s₄.heap.objs.size (s₄.heap.push { cls := .type "frame", data := .dict #[] }) h' →
          Q' (.ref h'.objs.size) { s₄ with
            gens := s₄.gens.push (.fresh (.compStart (gExp elt tg iter scope gpos) 0 (.ref it) .none (genEnv scope (cloFrom X.env.cells scope.names []) s₄.heap.objs.size code bi X.env))),
            toks := s₄.toks + 1 + 1 + 1,
            heap := h'.push { cls := .type "generator", data := .fields #[.int s₄.gens.size 0, .str "<genexpr>" (s₄.toks + 1), .str (X.env.qual ++ "<genexpr>") (s₄.toks + 1 + 1)] } }) X.xe { s2 with heap := h3, toks := tk } := by
    intro code h3 tk I3 st3 sz3
    obtain ⟨bm, ob, e1, e2, e3, e4, e5, e6, e7, e8⟩ := TB.bm
    refine wpAny_builtinsFor (m := X.mg) (by rw [I3.ok.glob]; exact I3.mod.glob.keeps I3.bk) e1 e2 (I3.bk _ _ e5) e6 e7 e8 ?_
    intro h' hn' hs'
    generalize hs4 : ({ s2 with heap := h3, toks := tk } : Shared) = s4 at I3 hn' hs' ⊢
    have h34 : s4.heap = h3 := by rw [← hs4]
    have hsz : h'.objs.size = s4.heap.objs.size + 1 := by rw [hs'.1, Heap.size_push]
    generalize hgob : ({ cls := .type "generator", data := .fields #[.int s4.gens.size 0, .str "<genexpr>" (s4.toks + 1), .str (X.env.qual ++ "<genexpr>") (s4.toks + 1 + 1)] } : Obj) = gob
    have kp : ∀ b o, s4.heap.get? b = some o → (h'.push gob).get? b = some o := fun b o e => Heap.get?_push_of_some _ (hs'.extBut b o (Nat.ne_of_lt (Heap.lt_size e)) (Heap.get?_push_of_some _ e))
    have ha : (h'.push gob).get? h'.objs.size = some gob := Heap.get?_push_size _ (by rw [← hgob]; rfl)
    have bare5 : AllBare (s4.gens.push (.fresh (.compStart (gExp elt tg iter scope gpos) 0 (.ref it) .none (genEnv scope (cloFrom X.env.cells scope.names []) s4.heap.objs.size code builtinsNs X.env)))) := I3.bare.push rfl
    have Ig := gen_start (A := X.A.in1.in1.over (gLoop elt tg iter scope gpos it (genEnv scope (cloFrom X.env.cells scope.names []) s4.heap.objs.size code builtinsNs X.env)) []) (it := .ref it) (a := h'.objs.size) (gob := gob) (code := code) (fp := fp)
      (s5 := { s4 with gens := s4.gens.push (.fresh (.compStart (gExp elt tg iter scope gpos) 0 (.ref it) .none (genEnv scope (cloFrom X.env.cells scope.names []) s4.heap.objs.size code builtinsNs X.env))), toks := s4.toks + 1 + 1 + 1, heap := h'.push gob }) I3 G hN
      (fun b hb => ⟨f2 b hb, by rw [h34]; exact sz3 b hb⟩) hr.hd (frames_gen I3.ok.frames) (hn'.push _) kp rfl bare5 ha (fun v q => by rw [← hgob] at q; cases q) (by omega)
    have st5 : tn 0 (h'.push gob) := T.keep _ _ _ (h34 ▸ st3 : tn 0 s4.heap) fun b _ o e => kp b o e
    refine hQ h'.objs.size _ _ [(h'.objs.size, gob)] fp tn W N s4.gens.size ⟨⟨H2, Ig, st5, fun b hb => (f2 b hb).1, w0⟩, _, Array.getElem?_push_size .., fun s'' hre => ⟨rfl, ?_⟩⟩ (fun s' H' I' => ?_) fun s' H' I' => ?_
    · refine gen_first T (by rw [hre.1]; exact st5) (gen_seg (c := cc) (Qt := fun b H' => Q (.bl b) H') hcm G.co T (fun p hp b hb => ?_) (hg _ _ _ _ _ _ _) (he _ _ _ _ _ _ _ (room_gen hr)) turn N 0 s'' s'' (Nat.sub_zero _) (Nat.zero_le _) (GS.re ⟨H2, Ig, st5, fun b hb => (f2 b hb).1, w0⟩ hre))
      rw [List.mem_singleton] at hp
      subst hp
      have := sz3 b hb
      rw [← h34] at this
      exact Nat.ne_of_gt (by rw [hsz]; exact Nat.lt_succ_of_lt this)
    · have z := I'.pin (h'.objs.size, gob) (List.mem_append_right _ List.mem_cons_self)
      rw [← hgob] at z
      exact ⟨_, _, _, z.1, rfl, rfl, rfl⟩
    · exact I3.call' (ch := fp) I'.os I'.base I'.hok I'.bare fun b hb => ⟨(f2 b hb).2.2.2.1, (f2 b hb).2.1, (f2 b hb).2.2.2.2.1, (f2 b hb).2.2.2.2.2⟩
  cases hf : codeAmong gpos ps.toList with
  | none =>
    refine wpAny_genexprCodeX hcode (cd.code hPs ht) (cd.tab hPs) hf fun c' h' tk hx hge hlt hco' _ htab' _ => ?_
    obtain ⟨o1, vs, f1, tf, fl, tg', inF, tx, tt, op, _, _, _, _, _, _, _, _, _, htr, _⟩ := hco'
    have hk : ∀ b o, b ≠ P → s2.heap.get? b = some o → h'.get? b = some o := fun b o hb e => hx b o hb e
    have nP : ∀ b ∈ fp, b ≠ P := fun b hb z => by
      have := (f2 b hb).1
      rw [z, hP] at this
      cases this
    exact cont _ h' tk (tab_write I2 hP hk htab'.2 htr) (T.keep _ _ _ st2 fun b hb o e => hk b o (nP b hb) e) fun b hb => Nat.lt_of_lt_of_le (sz b hb) (Nat.le_trans hge (Nat.le_of_lt hlt))
  | some cv =>
    refine wpAny_genexprCode_hit hcode (cd.code hPs ht) hf ?_
    exact cont cv s2.heap s2.toks I2 st2 sz
/-- all(e for t in it) -/
theorem pe_allG {c P : Addr} {elt tg iter : Expr} {scope : Scope} {p pos gpos : Pos} {own : List (Str × Nat)} {wi : TI} {g : TG} {te : TE} {k : Nat}
    (hr : Room (k + 1) X.A) (hgl : Gl X "all") (hm : X.mg "all" = none) (hcm : X.calm = true) (hN : X.N.Nodup) (TB : GxR.TabB X.base X.mg c P) (hcode : X.env.code = .ref c) (G : GenOk X.N X.env.scope scope own) (hi : PI X tg iter wi)
    (hg : ∀ (A : Around) (s : Shared) (H : Hp) (cl : List (Str × Addr)) (C : Addr) (code : Value) (fp : List Addr), PG (gblk X A s H (genEnv scope cl C code builtinsNs X.env) fp) tg g)
    (he : ∀ (A : Around) (s : Shared) (H : Hp) (cl : List (Str × Addr)) (C : Addr) (code : Value) (fp : List Addr), Room k A → PE (gblk X A s H (genEnv scope cl C code builtinsNs X.env) fp) elt te)
    (hs : ∀ v, genFold iter X.env v = pure v := by intro _; rfl)
    (hst : starEach [gExp elt tg iter scope gpos] X.env = (false, eval (gExp elt tg iter scope gpos) X.env) :: starEach [] X.env := by rfl) :
    PE X (.Call (.Name "all" p) [gExp elt tg iter scope gpos] [] pos) (tQuant true P wi g te (own.map (·.2))) := by
  refine ⟨fun pins s σ H Q I h => ?_⟩
  refine wpAny_Call_Name_kw (ld_blt I hgl hm boot_all ?_)
  refine PyProof.Rows.callWith_builtin1 ?_ hst (by rfl)
  rw [hst]
  show wpAny _ _ (spliced ((false, eval (gExp elt tg iter scope gpos) X.env) :: backTo pos (starEach [] X.env))) _ _ s
  refine Calls.spliced_cons (gen_made (cc := true) hr hcm hN TB hcode G hi hg he hs I h fun a s5 Xg gp fp tn W N gi hat hgen hback => Calls.spliced_nil ?_)
  refine call_function_tree F.kind_all F.plain_all F.entry_all (F.args_all1 _) ?_
  unfold Builtin.«all»
  refine wpAny_bind (m := oneArg "all" _) (wpAny_pure ?_)
  obtain ⟨⟨H5, I5, _⟩, _⟩ := id hat
  refine wpAny_bind (wpAny_pyIter_gen (hgen s5 H5 I5) ?_)
  refine wpAny_pure ⟨plainId_quiet F.plain_all_loop _, all_loop (A := X.A) hr.hd (by have := hr.dp; omega) hgen (fun b s' H' I' q => ?_) N 0 s5 (Nat.sub_zero _) (Nat.zero_le _) hat⟩
  exact ⟨.bl b, H', hback s' H' I', rfl, q⟩
end
end GX

set_option Elab.async false
set_option linter.all false
set_option maxRecDepth 100000
set_option maxHeartbeats 4000000
namespace GX
open PySem PySem.Spec PyProof.Rows L2 Evl DL

/-! ### tables tracked as tables, or whatever they hold -/
def reT (Ps : List Addr) (H : Hp) : Hp := fun b => if b ∈ Ps then some (TabE b) else H b
theorem reT_in {Ps : List Addr} {H : Hp} {b : Addr} (h : b ∈ Ps) : reT Ps H b = some (TabE b) := if_pos h
theorem reT_out {Ps : List Addr} {H : Hp} {b : Addr} (h : b ∉ Ps) : reT Ps H b = H b := if_neg h
/-- back: what the tables hold in the heap h -/
def tblOf (h : Heap) (b : Addr) : HO := match h.get? b with
  | some o => (match o.data with
    | .fields ps => .tbl ps
    | _ => .tbl #[])
  | none => .tbl #[]
def deT (Ps : List Addr) (h : Heap) (H : Hp) : Hp := fun b => if b ∈ Ps then some (tblOf h b) else H b
theorem deT_in {Ps : List Addr} {h : Heap} {H : Hp} {b : Addr} (e : b ∈ Ps) : deT Ps h H b = some (tblOf h b) := if_pos e
theorem deT_out {Ps : List Addr} {h : Heap} {H : Hp} {b : Addr} (e : b ∉ Ps) : deT Ps h H b = H b := if_neg e
def spT (Ps : List Addr) (sp : Sp) : Sp := fun vs H Q _ => (∀ b ∈ Ps, H b = some (.tbl #[])) ∧ sp vs (reT Ps H) (fun v H' => (∀ b ∈ Ps, H' b = some (TabE b)) ∧ ∀ Hb, Q v Hb) fun _ _ _ => False
theorem tblOf_eq {h : Heap} {b : Addr} {ps : Array Value} (e : h.get? b = some { cls := .none, data := .fields ps }) : tblOf h b = .tbl ps := by
  unfold tblOf
  rw [e]
theorem retrack {P : Program} {w : World} {K : PySem.W.Frag} {mg : Str → Option Value} {base : Heap} {k : Nat} {f : Addr} {fd : FuncData} {qs : List Str} {sp : Sp} {Ps : List Addr} (F : FnOk P w K mg base CX0 k f fd qs sp) : FnOk P w K mg base CX0 k f fd qs (spT Ps sp) := by
  refine ⟨fun vs H Q E h => F.len _ _ _ _ h.2, fun A outer s H args us vs Q E hr e0 hb hv hsp => ?_⟩
  obtain ⟨hH, hsp⟩ := hsp
  have out : ∀ b, H b = none → b ∉ Ps := fun b e z => by
    rw [hH b z] at e
    cases e
  have outT : ∀ b xs, H b = some (.tup xs) → b ∉ Ps := fun b xs e z => by
    rw [hH b z] at e
    cases e
  have outO : ∀ b x, H b = some (.own x) → b ∉ Ps := fun b x e z => by
    rw [hH b z] at e
    cases e
  have e1 : Env0 P w K mg base A outer s (reT Ps H) := by
    refine ⟨e0.frames, e0.mod, fun b o e => ⟨(e0.bs b o e).1, ?_⟩, e0.bsz, e0.funs, fun b hb => ?_, fun b u e => ?_, e0.bare⟩
    · rw [reT_out (out b (e0.bs b o e).2)]
      exact (e0.bs b o e).2
    · rw [reT_out (out b (e0.frf b hb))]
      exact e0.frf b hb
    · by_cases hbP : b ∈ Ps
      · rw [reT_in hbP] at e
        cases e
        have q : s.heap.get? b = some { cls := .none, data := .fields #[] } := e0.hok b _ (hH b hbP)
        exact tab_ok q True.intro
      · rw [reT_out hbP] at e
        exact (e0.hok b u e).stay (fun _ _ _ q => q) (fun c q => by rw [reT_out (outO c _ q)]; exact q) fun c xs q => by rw [reT_out (outT c _ q)]; exact q
  refine codeAny_mono (F.run A outer s (reT Ps H) args us vs _ _ hr e1 hb hv hsp) fun r s' h => ?_
  cases r with
  | error e => exact h
  | ok fl =>
    cases fl with
    | next => exact h
    | brk => exact h
    | cont => exact h
    | ret u =>
      obtain ⟨v, H1, os, bare, un, hok, rv, hT, hq⟩ := h
      have tabs : ∀ b ∈ Ps, ∃ ps, s'.heap.get? b = some { cls := .none, data := .fields ps } := fun b hb => by
        obtain ⟨⟨ps, e, _⟩, _⟩ := hok b _ (hT b hb)
        exact ⟨ps, e⟩
      refine ⟨v, deT Ps s'.heap H1, os, bare, ⟨fun b o e n hb hx => ?_, fun b o e n hb hx => ?_, fun b o e n hx => ?_, fun b o e hx => un.there b o e hx, fun b xs e => ?_, fun b o u e => ?_, fun b ps e => ?_⟩, fun b u e => ?_, rv, hq _⟩
      · exact un.keep b o e (by rw [reT_out (out b n)]; exact n) hb hx
      · exact un.slot b o e (by rw [reT_out (out b n)]; exact n) hb hx
      · rw [deT_out (out b n)]
        exact un.free b o e (by rw [reT_out (out b n)]; exact n) hx
      · rw [deT_out (outT b xs e)]
        exact un.tups b xs (by rw [reT_out (outT b xs e)]; exact e)
      · have z : b ∉ Ps := fun z => by
          rw [hH b z] at e
          cases e
        rw [deT_out z]
        exact un.frzs b o u (by rw [reT_out z]; exact e)
      · by_cases z : b ∈ Ps
        · rw [hH b z] at e
          cases e
          obtain ⟨qs, hqs⟩ := tabs b z
          exact ⟨qs, by rw [deT_in z, tblOf_eq hqs]; simp⟩
        · rw [deT_out z]
          exact un.tbls b ps (by rw [reT_out z]; exact e)
      · by_cases z : b ∈ Ps
        · rw [deT_in z] at e
          obtain ⟨qs, hqs⟩ := tabs b z
          rw [tblOf_eq hqs] at e
          cases e
          exact hqs
        · rw [deT_out z] at e
          have no1 : ∀ c x, H1 c = some (.own x) → c ∉ Ps := fun c x q z => by
            rw [hT c z] at q
            cases q
          have no2 : ∀ c xs, H1 c = some (.tup xs) → c ∉ Ps := fun c x q z => by
            rw [hT c z] at q
            cases q
          exact (hok b u e).stay (fun _ _ _ q => q) (fun c q => by rw [deT_out (no1 c _ q)]; exact q) fun c xs q => by rw [deT_out (no2 c _ q)]; exact q
/-- the law's end, with tables: xs, the defs' names with their code objects and tables -/
theorem walk_ofX {l : PySem.W.OpenLaw} {n k : Nat} {q : Program} {loose : List Str} {XP : (Str → Option Value) → Heap → Prop} {YP : World → Heap → Prop} {d : DefRec} {K : Params → PySem.W.Frag} {x : Str}
    (hn : l.most = some n) (hn2 : n ≤ sizeLine) (hdf : d.params.defaults = []) (hr : Room k callerA) (hY : ∀ (w : World) (h : Heap), YP w h → (K w.params).In h)
    (F : ∀ (w : World) (mg : Str → Option Value) (fa : Addr) (h : Heap), (K w.params).In h → h.Ns mainGlobals mg → mg d.name = some (.ref fa) →
      ∃ (xs : List (Str × Addr × Addr)) (fd : FuncData) (sp : Sp), (∀ p ∈ xs, ((recsOf q).any fun e => e.name == p.1) = true ∧ PySem.W.tabIn (K w.params) p.1 = some p.2 ∧ (K w.params).lookup p.2.2 = none) ∧
        (∀ (s : Shared) (u : Value), BindsTo s fd ⟨[u], []⟩ [(x, u)]) ∧
        (∀ (H : Hp) (a : Addr) (ns : List Int), ns.length ≤ n → (∀ p ∈ xs, H p.2.2 = some (TabE p.2.2)) → SqL (K w.params) H a (ns.map V.int) → sp [.ref a] H (fun v H' => (∀ p ∈ xs, H' p.2.2 = some (TabE p.2.2)) ∧ v = .bl true) fun _ _ _ => False) ∧
        ∀ base : Heap, (K w.params).In base → base.Ns mainGlobals mg → (∀ p ∈ xs, GxR.TabB base mg p.2.1 p.2.2) → FnOk l.prog w (K w.params) mg base CX0 k fa fd [x] sp) :
    PySem.W.WalkO q loose XP YP l.row.toRowW d [] (fun f vs => PySem.call f vs) := by
  refine Att.attach_callB hn hdf fun w s₀ s₁ mg mb fa o pm cd doc a vs ns G Y ho hd hcd hmg hobj hints hlen hbits hg => ?_
  have KX := hY w _ Y
  obtain ⟨xs, fd, sp, hx, hb, hsp, hF⟩ := F w mg fa _ KX G.T.g hmg
  have tabs : ∀ p ∈ xs, PySem.W.CodeHd s₁.heap p.2.1 p.2.2 ∧ s₁.heap.get? p.2.2 = some (PySem.W.tabObj #[]) := fun p hp => by
    obtain ⟨h1, h2, _⟩ := hx p hp
    cases hfd : (recsOf q).find? (fun e => e.name == p.1) with
    | none =>
      obtain ⟨e, he, hn⟩ := List.any_eq_true.mp h1
      exact absurd hn (List.find?_eq_none.mp hfd e he)
    | some d' => exact PySem.W.tab_of G.T KX hfd h2
  have mem2 : ∀ b, b ∈ xs.map (fun p => p.2.2) ↔ ∃ p ∈ xs, p.2.2 = b := fun b => List.mem_map
  refine LamX.law_callTs (cs := xs.map (·.2)) (CX := CX0) (sp := spT (xs.map (fun p => p.2.2)) sp) KX G.T.g G.T.b G.T.builtins G.T.nolimit hg (fun p hp => ?_) (fun p hp => ?_) (fun p hp => ?_) G.T.bmain hobj hints (Nat.le_trans hlen hn2) hr (fun base KB NB hTB => retrack (hF base KB NB fun p hp => ?_)) hb (fun H hH hS => ⟨fun b hbb => ?_, ?_⟩) fun H e s' h => h
  · obtain ⟨p', hp', rfl⟩ := List.mem_map.mp hp
    exact (tabs p' hp').2
  · obtain ⟨p', hp', rfl⟩ := List.mem_map.mp hp
    exact (hx p' hp').2.2
  · obtain ⟨p', hp', rfl⟩ := List.mem_map.mp hp
    exact (tabs p' hp').1
  · have z := hTB p.2 (List.mem_map.mpr ⟨p, hp, rfl⟩)
    exact ⟨z.code, z.bm, z.gP⟩
  · obtain ⟨p, hp, rfl⟩ := (mem2 b).mp hbb
    exact hH p.2 (List.mem_map.mpr ⟨p, hp, rfl⟩)
  · have inT : ∀ p ∈ xs, p.2.2 ∈ xs.map (fun p => p.2.2) := fun p hp => List.mem_map.mpr ⟨p, hp, rfl⟩
    have hnT : ∀ u, (∀ ps, u ≠ .tbl ps) → H a = some u → a ∉ xs.map (fun p => p.2.2) := fun u hu e z => by
      obtain ⟨p, hp, rfl⟩ := (mem2 a).mp z
      rw [hH p.2 (List.mem_map.mpr ⟨p, hp, rfl⟩)] at e
      cases e
      exact hu _ rfl
    have hS' : SqL (K w.params) (reT (xs.map (fun p => p.2.2)) H) a (ns.map V.int) := by
      rcases hS with (e | ⟨o', e⟩) | e
      · exact .inl (.inl (by rw [reT_out (hnT _ (fun ps z => by cases z) e)]; exact e))
      · exact .inl (.inr ⟨o', by rw [reT_out (hnT _ (fun ps z => by cases z) e)]; exact e⟩)
      · exact .inr e
    have z := hsp (reT (xs.map (fun p => p.2.2)) H) a ns hlen (fun p hp => reT_in (inT p hp)) hS'
    refine cast ?_ z
    congr 1
    funext v H'
    refine propext ⟨fun ⟨h1, h2⟩ => ⟨fun b hb => ?_, fun _ => h2⟩, fun ⟨h1, h2⟩ => ⟨fun p hp => h1 _ (inT p hp), h2 H'⟩⟩
    obtain ⟨p, hp, rfl⟩ := (mem2 b).mp hb
    exact h1 p hp
end GX

set_option Elab.async false
set_option linter.all false
set_option maxRecDepth 100000
set_option maxHeartbeats 4000000
namespace GX
open PySem PySem.Spec PyProof.Rows L2 Evl DL

/-! ### all(..) by data -/
section
variable {K : PySem.W.Frag} {σ : L2.St} {H : Hp} {te : TE} {wi : TI} {g : TG}
theorem ed_allG {P : Addr} {vs : List Nat} {ds : List PyData} (f : PyData → Bool) (hw : EvW K wi σ H ds) (hP : H P = some (TabE P))
    (hs : ∀ (i : Nat) (d : PyData) (x : V) (H1 : Hp), Ex H H1 → ds[i]? = some d → Dp K H1 x d → ∃ σ2, TgD g x (wipe σ vs) H1 σ2 ∧ wipe σ2 vs = wipe σ vs ∧ EvD K te σ2 H1 (.bool (f d))) :
    EvD K (tQuant true P wi g te vs) σ H (.bool (ds.all f)) := fun H0 e0 Q q => hw H0 e0 _ fun J H1 e1 wk => by
  obtain ⟨G, Y, wlk, hG, hY⟩ := wk
  refine ⟨(e0.trans e1) _ _ hP, ds.length, fun i H' => Ex H1 H' ∧ i ≤ ds.length ∧ (ds.take i).all f = true, ⟨Ex.refl H1, Nat.zero_le _, rfl⟩, fun i H' hW => ?_⟩
  obtain ⟨ex, hi, hall⟩ := hW
  by_cases hlt : i < ds.length
  · refine .inr ⟨wlk.goes i H' hlt (hG H' ex), hlt, fun x H2 hy => ?_⟩
    obtain ⟨ey, d, hd, hdp⟩ := hY i H' x H2 ex (wlk.yields i H' x H2 hlt (hG H' ex) hy)
    obtain ⟨σ2, tg, hwp, hev⟩ := hs i d x H2 ((e0.trans e1).trans (ex.trans ey)) hd hdp
    refine tg H2 (Ex.refl H2) _ ⟨hwp, hev H2 (Ex.refl H2) _ fun v H3 e3 hv => ⟨f d, dp_bool hv, ?_⟩⟩
    by_cases hf : f d = true
    · rw [if_pos hf]
      refine ⟨(ex.trans ey).trans e3, hlt, ?_⟩
      rw [List.take_add_one, hd, List.all_append, hall]
      simp [hf]
    · rw [if_neg hf]
      have hff : f d = false := by simpa using hf
      have hz : ds.all f = false := by
        rw [List.all_eq_false]
        exact ⟨d, List.mem_of_getElem? hd, hf⟩
      have hq := q (.bl (ds.all f)) H3 (e1.trans ((ex.trans ey).trans e3)) (.bl _)
      rw [hz] at hq
      rw [hff]
      exact hq
  · have hin : i = ds.length := by omega
    subst hin
    refine .inl ⟨wlk.stops H' (hG H' ex), ?_⟩
    rw [List.take_of_length_le (Nat.le_refl _)] at hall
    have hq := q (.bl (ds.all f)) H' (e1.trans ex) (.bl _)
    rw [hall] at hq
    exact hq
end
/-! ### a def whose code object is known -/
structure FunC (K : PySem.W.Frag) (x qual : Str) (st : Stmt) (f : Addr) (fd : FuncData) (c : Addr) : Prop where
  ex : ∃ (oc : Value) (od : Option Addr) (kV doc pm : Value) (an : Option Addr) (ct : Value) (osl : Array (Option Value)),
    fd = PySem.W.fnOf x qual (defArgs st) (defBody st) (defScope st) .none kV doc pm an (.ref c) ct ∧ K.lookup f = some ⟨oc, od, .func fd, osl⟩ ∧ PySem.W.codeIn K (.ref c) qual = true
  kp : PySem.W.keepIn K (.ref f) = true
section
variable {P : Program} {w : World} {K : PySem.W.Frag} {mg : Str → Option Value} {base : Heap} {x qual : Str} {st : Stmt} {f c : Addr} {fd : FuncData}
theorem FunC.fn (F : FunC K x qual st f fd c) : Fun K x qual st f fd := by
  obtain ⟨⟨oc, od, kV, doc, pm, an, ct, osl, h1, h2, h3⟩, kp⟩ := F
  exact ⟨⟨oc, od, kV, doc, pm, an, .ref c, ct, osl, h1, h2, h3⟩, kp⟩
theorem FunC.ok {N ps : List Str} {k : Nat} {sp : Sp} (F : FunC K x qual st f fd c) (S : FnScope N ps (defScope st)) (len : ∀ vs H Q E, sp vs H Q E → vs.length = ps.length)
    (hbody : ∀ (A : Around) (outer : List Env) (s : Shared) (H : Hp) (vs : List V) (Q : VK) (E : XK), Room k (A.deeper (envOfC qual (defScope st) s.heap.objs.size f (.ref c))) → sp vs H Q E →
      ∃ t, PSs (cxOf CX0 P w K mg base N qual (defScope st) f (.ref c) A outer s H E).nox (defBody st) t ∧ t { nx := fun _ H' => Q .non H', rt := Q } (start N vs) H) : FnOk P w K mg base CX0 (k + 1) f fd ps sp := by
  obtain ⟨oc, od, kV, doc, pm, an, ct, osl, rfl, lk, hcd⟩ := F.ex
  refine fn_of lk hcd S len fun A outer s H vs Q E hr hsp => ?_
  obtain ⟨t, h1, h2⟩ := hbody A outer s H vs Q E hr hsp
  exact ⟨t, h1.nox, h2⟩
theorem func_mk {oc : Value} {od an : Option Addr} {osl : Array (Option Value)} {kV doc pm ct : Value} (l : K.lookup f = some ⟨oc, od, .func (PySem.W.fnOf x qual (defArgs st) (defBody st) (defScope st) .none kV doc pm an (.ref c) ct), osl⟩)
    (h : PySem.W.codeIn K (.ref c) qual = true) (k : PySem.W.keepIn K (.ref f) = true) : FunC K x qual st f (PySem.W.fnOf x qual (defArgs st) (defBody st) (defScope st) .none kV doc pm an (.ref c) ct) c := ⟨⟨oc, od, kV, doc, pm, an, ct, osl, rfl, l, h⟩, k⟩
end
end GX

set_option Elab.async false
set_option linter.all false
set_option maxRecDepth 100000
set_option maxHeartbeats 4000000
/-! for i, x in enumerate(t), t a tuple. -/
namespace GX
open PySem PySem.Spec PyProof.Rows L2 Evl DL
theorem enum_new1 {v : Value} {o : Obj} {HH : Heap → Prop} (B : Begins v o HH) :
    Meets (Builtin.«enumerate.__new__» ⟨[.type "enumerate", v], []⟩) (fun _ R s => HH s.heap ∧
      R (.ok (.ret (.ref (s.heap.push o).objs.size))) { s with heap := (s.heap.push o).push { cls := .type "enumerate", data := .fields #[.none, .bool false, .ref s.heap.objs.size, rawInt 0, .none, .none] } }) :=
  .of_wp fun prog w A R s hh => by
    obtain ⟨hp, gs, dr, tk, os⟩ := s
    obtain ⟨k1, kr⟩ := hh
    have sb := sub_enumerate
    have it1 : ∀ {A' : Around} {E : Value → Shared → Prop} {Q : Value → Shared → Prop}, Q (.ref hp.objs.size) ⟨hp.push o, gs, dr, tk, os⟩ → wpAny (model prog w) A' (pyIter v) Q E ⟨hp, gs, dr, tk, os⟩ :=
      fun kq => B.iter prog w _ _ ⟨hp, gs, dr, tk, os⟩ _ k1 kq
    wp_walk using it1
    refine wpAny_stack_any fun st => wpAny_pure ?_
    split
    · rename_i c _ _ _ _ _
      cases (c == Value.type "enumerate")
      · wp_walk using it1
        exact ⟨_, rfl, kr⟩
      · wp_walk using it1
        exact ⟨_, rfl, kr⟩
    · wp_walk using it1
      exact ⟨_, rfl, kr⟩
theorem call_enum1 {prog : Program} {w : World} {A : Around} {E : Value → Shared → Prop} {s : Shared} {v : Value} {o : Obj} {HH : Heap → Prop} {Q : Value → Shared → Prop} (B : Begins v o HH) (k1 : HH s.heap)
    (kq : ∀ h', IsEnum h' (s.heap.objs.size + 1) s.heap.objs.size 0 .none → h'.get? s.heap.objs.size = some o → h'.objs.size = s.heap.objs.size + 2 → (∀ b o, s.heap.get? b = some o → h'.get? b = some o) → Q (.ref (s.heap.objs.size + 1)) { s with heap := h' }) :
    wpAny (model prog w) A (call (.type "enumerate") [v]) Q E s := by
  refine callType_new F.called_enumerate (by decide) (F.typeCall_enumerate_1 _) (F.newCall_enumerate_1 _) (fun obj => F.args_object_init_2 obj _) F.entry_enumerate_new (enum_new1 B) ⟨k1, ?_⟩
  have sz1 : (s.heap.push o).objs.size = s.heap.objs.size + 1 := Heap.size_push ..
  show _ ∧ _
  rw [sz1]
  have isE : IsEnum ((s.heap.push o).push { cls := .type "enumerate", data := .fields #[.none, .bool false, .ref s.heap.objs.size, rawInt 0, .none, .none] }) (s.heap.objs.size + 1) s.heap.objs.size 0 .none := by
    have z := Heap.get?_push_size (s.heap.push o) (o := { cls := .type "enumerate", data := .fields #[.none, .bool false, .ref s.heap.objs.size, rawInt 0, .none, .none] }) rfl
    rw [sz1] at z
    exact z
  exact ⟨⟨_, isE, rfl⟩, kq _ isE (Heap.get?_push_of_some _ (Heap.get?_push_size _ B.free)) (by rw [Heap.size_push, sz1]) fun b o x => Heap.get?_push_of_some _ (Heap.get?_push_of_some _ x)⟩
/-- turn i: a new pair of i and the i-th item -/
def IteT (K : PySem.W.Frag) (a : Addr) : It :=
  ⟨fun i H => ∃ (xs : List V) (x : V), SqT K H a xs ∧ xs[i]? = some x, fun i H v H' => ∃ T x, v = .ref T ∧ H T = none ∧ H' = upd H T (.tup [.int (i : Nat), x]) ∧ ∀ xs, SqT K H a xs → xs[i]? = some x, fun i H => ∃ xs : List V, SqT K H a xs ∧ xs.length ≤ i⟩
theorem turn_enumT {P : Program} {w : World} {K : PySem.W.Frag} {elts : List Expr} {kk : Nat} {tpos : Pos} (a e it : Addr) (hai : a ≠ it) (hae : e ≠ a) :
    Turn P w K (.Tuple elts kk tpos) (IteT K a) [e, it] e (fun i h => (∃ old, IsEnum h e it ((i : Nat) : Int) old) ∧ h.IsTupleIter it a i ∧ e ≠ it) where
  mem := by simp
  obj := fun i h st b hb => by
    obtain ⟨⟨old, he⟩, ⟨o, ho, _, hd⟩, _⟩ := st
    rcases List.mem_cons.mp hb with z | z
    · subst z
      exact ⟨_, he, fun v q => nomatch q⟩
    · rw [List.mem_singleton] at z
      subst z
      exact ⟨o, ho, fun v q => by rw [hd] at q; cases q⟩
  keep := fun i h h' st k => by
    obtain ⟨⟨old, he⟩, hi, hne⟩ := st
    exact ⟨⟨old, k e (by simp) _ he⟩, hi.at fun o q => k it (by simp) o q, hne⟩
  item := by
    intro X hP hw hK hc i pins s σ H E I hf st hg
    subst hP hw hK
    obtain ⟨⟨old, he⟩, hit, hne⟩ := st
    obtain ⟨xs, x, hq, hx⟩ := hg
    obtain ⟨its, rv, p, hz⟩ := I.tuple hq
    obtain ⟨u, hu, ru⟩ := rv.get hx
    have hlt : i < its.toArray.size := by
      have := (List.getElem?_eq_some_iff.mp hu).1
      simpa using this
    have hel : e < s.heap.objs.size := Heap.lt_size he
    have hil : it < s.heap.objs.size := by
      obtain ⟨_, q, _⟩ := hit
      exact Heap.lt_size q
    have hTp : s.heap.IsTuple a its.toArray := p
    refine wpAny_pyNext_enum_itemD (Draws.tuple (A := X.A.in1) (I.ok.hd hc) it a hai its.toArray) he ⟨hit, hTp⟩ hlt hne (by simp [hne, hae]) fun y h' tk hy hout hst' hT hsz hk => ?_
    have ey : y = u := by
      have h2 : its.toArray[i]? = some u := by simpa using hu
      rw [h2] at hy
      exact (Option.some.inj hy).symm
    subst ey
    refine ⟨_, rfl, wpAny_letOwnedTupleGo_enum (s := { s with heap := h', toks := tk + 1 }) hout fun h'' he' sb => ?_⟩
    have hT2 : h''.get? s.heap.objs.size = some { cls := .type "tuple", data := .seq #[.int i tk, y] } := (sb.2 _ (Nat.ne_of_gt hel)).trans hT
    have new : ObjOk X.prog X.w (upd H s.heap.objs.size (.tup [.int (i : Nat), x])) h'' s.heap.objs.size (.tup [.int (i : Nat), x]) :=
      ⟨by show 2 ≤ sizeLine; decide, [.int i tk, y], .cons ⟨_, rfl⟩ (.cons ru .nil), ⟨_, hT2, rfl, _, rfl⟩⟩
    have I1 : Inv X pins σ (upd H s.heap.objs.size (.tup [.int (i : Nat), x])) { s with heap := h'', toks := tk + 1 } :=
      I.turnedNew (ch := [e, it]) (fun b ob hb q => (sb.2 b (fun z => hb (by simp [z]))).trans (hk b ob (fun z => hb (by simp [z])) (fun z => hb (by simp [z])) q)) hf (Nat.le_refl _) new
    refine ⟨.ref s.heap.objs.size, _, I1, rfl, ⟨_, x, rfl, I.hok.fresh (Nat.le_refl _), rfl, fun ys hy => by rw [I.tuple_inj hy hq]; exact hx⟩, ⟨⟨y, ?_⟩, hst'.1.at fun o q => (sb.2 it (Ne.symm hne)).trans q, hne⟩, fun b hb => ?_⟩
    · have e1 : ((i + 1 : Nat) : Int) = (i : Int) + 1 := by omega
      rw [e1]
      exact he'
    · have hb' : b < s.heap.objs.size := by
        rcases List.mem_cons.mp hb with z | z
        · rw [z]
          exact hel
        · rw [List.mem_singleton.mp z]
          exact hil
      rw [upd_ne (Nat.ne_of_lt hb')]
      exact (hf b hb).1
  done := by
    intro X hP hw hK hc i pins s σ H E I hf st hg
    subst hP hw hK
    obtain ⟨⟨old, he⟩, hit, hne⟩ := st
    obtain ⟨xs, hq, hx⟩ := hg
    obtain ⟨its, rv, p, hz⟩ := I.tuple hq
    have hTp : s.heap.IsTuple a its.toArray := p
    obtain ⟨f0, f1, f2, f3, f4, f5⟩ := hf it (by simp)
    have D : Draws X.prog X.w X.A.in1 it [it, a] i (fun _ _ => False) (fun j h => j = i ∧ h.IsTupleIter it a i ∧ h.IsTuple a its.toArray) :=
      { live := fun _ _ st => by
          obtain ⟨_, ⟨o, ho, _⟩, _⟩ := st
          exact ⟨o, ho⟩
        frame := fun _ _ _ st hk => ⟨st.1, st.2.1.at fun o e => hk it (by simp) o e, st.2.2.at fun o e => hk a (by simp) o e⟩
        item := fun j s Q E hj st _ => absurd st.1 (Nat.ne_of_lt hj)
        done := fun s Q E st hE => wpAny_nextOf_tuple_end (I.ok.hd hc) st.2.1 st.2.2 (by have := rv.length; simp; omega) hE }
    exact wpAny_pyNext_enum_endD D he ⟨rfl, hit, hTp⟩ fun h' eb => ⟨rfl, I.turned (t' := s.toks) (fun b o hb q => eb b o hb q) f0 f1 f3 f4 f5⟩
  self := fun A i s Q E st h => by
    obtain ⟨⟨_, he⟩, _⟩ := st
    exact wpAny_pyIter_enum he h
def iEnumT (K : PySem.W.Frag) (ta : TA) : TI := fun σ H R => ta σ H fun vs H1 => ∃ a xs, vs = [.ref a] ∧ SqT K H1 a xs ∧ R (IteT K a) H1
theorem pi_enumT {X : Cx} {e : Expr} {ta : TA} {p pos tpos : Pos} {elts : List Expr} {kk : Nat} (hg : Gl X "enumerate") (hm : X.mg "enumerate" = none) (ha : PA X [e] ta) (hs : starEach [e] X.env = [(false, eval e X.env)] := by rfl) :
    PI X (.Tuple elts kk tpos) (.Call (.Name "enumerate" p) [e] [] pos) (iEnumT X.K ta) := by
  refine ⟨fun pins s σ H R I h => ?_⟩
  refine Call_ (ld_blt I hg hm boot_enumerate (PyProof.Rows.callWith_type1 (thn (ha.run pos pins s σ H _ I h) fun us s1 ⟨vs, H1, I1, r1, q1⟩ => ?_) hs rfl))
  obtain ⟨a, xs, ex, hq, q⟩ := q1
  subst ex
  cases r1 with
  | cons r rr =>
    cases rr
    cases r
    obtain ⟨its, rv, p', hz⟩ := I1.tuple hq
    have hTp : s1.heap.IsTuple a its.toArray := p'
    have hal : a < s1.heap.objs.size := by
      obtain ⟨o, ho, _⟩ := hTp
      exact Heap.lt_size ho
    refine call_enum1 (begins_tuple a its.toArray) hTp fun h' he hit hsz hk => wpAny_pyIter_enum he ?_
    have I2 : Inv X pins σ H1 { s1 with heap := h' } := I1.kept (t' := s1.toks) hk
    refine ⟨s1.heap.objs.size + 1, [s1.heap.objs.size + 1, s1.heap.objs.size], _, _, H1, rfl, I2, turn_enumT a (s1.heap.objs.size + 1) s1.heap.objs.size (Nat.ne_of_lt hal) (Nat.ne_of_gt (Nat.lt_succ_of_lt hal)), ⟨⟨.none, he⟩, ⟨_, hit, rfl, rfl⟩, Nat.succ_ne_self _⟩, fun b hb => ?_, q⟩
    rcases List.mem_cons.mp hb with z | z
    · rw [z]
      exact I1.fpOk (Nat.le_succ _) (I1.hok.fresh (Nat.le_succ _))
    · rw [List.mem_singleton.mp z]
      exact I1.fpOk (Nat.le_refl _) (I1.hok.fresh (Nat.le_refl _))
end GX

set_option Elab.async false
set_option linter.all false
set_option maxRecDepth 100000
set_option maxHeartbeats 4000000
/-! Things of any kind, and what is asked of them. -/
namespace YA
open PySem PySem.Spec PyProof.Rows L2 Evl DL GX

inductive Od where
  | lst | dct
inductive Th where
  | none | bool (b : Bool) | int (i : Int) | str (s : Str) | tup (ts : List Th) | odd (o : Od)
def Th.ty : Th → String
  | .none => "NoneType"
  | .bool _ => "bool"
  | .int _ => "int"
  | .str _ => "str"
  | .tup _ => "tuple"
  | .odd .lst => "list"
  | .odd .dct => "dict"
mutual
/-- the value bears the thing; odd ones are lists and dicts -/
inductive Rp (K : PySem.W.Frag) (H : Hp) : V → Th → Prop
  | non : Rp K H .non .none
  | bl (b : Bool) : Rp K H (.bl b) (.bool b)
  | int (i : Int) : Rp K H (.int i) (.int i)
  | str (x : Str) : Rp K H (.str x) (.str x)
  | tup {a : Addr} {xs : List V} {ts : List Th} : SqT K H a xs → RpAll K H xs ts → Rp K H (.ref a) (.tup ts)
  | lst {a : Addr} {xs : List V} : SqL K H a xs → Rp K H (.ref a) (.odd .lst)
  | dct {a : Addr} {kvs : List (Key × V)} : H a = some (.dK kvs) → Rp K H (.ref a) (.odd .dct)
  | dctT {a : Addr} {kvs : List (List Key × V)} : H a = some (.dT kvs) → Rp K H (.ref a) (.odd .dct)
inductive RpAll (K : PySem.W.Frag) (H : Hp) : List V → List Th → Prop
  | nil : RpAll K H [] []
  | cons {v : V} {vs : List V} {t : Th} {ts : List Th} : Rp K H v t → RpAll K H vs ts → RpAll K H (v :: vs) (t :: ts)
end
mutual
theorem rp_mono {K : PySem.W.Frag} {H H' : Hp} (e : Ex H H') : ∀ {t : Th} {v : V}, Rp K H v t → Rp K H' v t
  | .none, _, h => by cases h; exact .non
  | .bool b, _, h => by cases h; exact .bl b
  | .int i, _, h => by cases h; exact .int i
  | .str x, _, h => by cases h; exact .str x
  | .tup ts, _, h => by
    cases h with
    | tup hs ha => exact .tup (ex_t e hs) (ra_mono e ha)
  | .odd T, _, h => by
    cases h with
    | lst hs => exact .lst (ex_l e hs)
    | dct hs => exact .dct (e _ _ hs)
    | dctT hs => exact .dctT (e _ _ hs)
theorem ra_mono {K : PySem.W.Frag} {H H' : Hp} (e : Ex H H') : ∀ {ts : List Th} {vs : List V}, RpAll K H vs ts → RpAll K H' vs ts
  | [], _, h => by cases h; exact .nil
  | t :: ts, _, h => by
    cases h with
    | cons h1 h2 => exact .cons (rp_mono e h1) (ra_mono e h2)
end
section
variable {K : PySem.W.Frag} {H H' : Hp}
theorem rp_int {v : V} {i : Int} (h : Rp K H v (.int i)) : v = .int i := by cases h; rfl
theorem rp_tup {v : V} {ts : List Th} (h : Rp K H v (.tup ts)) : ∃ a xs, v = .ref a ∧ SqT K H a xs ∧ RpAll K H xs ts := by
  cases h with
  | tup hs ha => exact ⟨_, _, rfl, hs, ha⟩
theorem ra_len : ∀ {ts : List Th} {vs : List V}, RpAll K H vs ts → vs.length = ts.length
  | [], _, h => by cases h; rfl
  | t :: ts, _, h => by
    cases h with
    | cons h1 h2 => rw [List.length_cons, List.length_cons, ra_len h2]
theorem ra_get : ∀ {ts : List Th} {vs : List V} {i : Nat} {v : V}, RpAll K H vs ts → vs[i]? = some v → ∃ t, ts[i]? = some t ∧ Rp K H v t
  | [], _, i, v, h, e => by cases h; simp at e
  | t :: ts, _, i, v, h, e => by
    cases h with
    | cons h1 h2 =>
      cases i with
      | zero => simp at e; subst e; exact ⟨t, rfl, h1⟩
      | succ i => simp at e; simpa using ra_get h2 e
theorem ra_at : ∀ {ts : List Th} {vs : List V} {i : Nat} {t : Th}, RpAll K H vs ts → ts[i]? = some t → ∃ v, vs[i]? = some v ∧ Rp K H v t
  | [], _, i, t, h, e => by simp at e
  | t :: ts, _, i, t', h, e => by
    cases h with
    | cons h1 h2 =>
      cases i with
      | zero => simp at e; subst e; exact ⟨_, rfl, h1⟩
      | succ i => simp at e; simpa using ra_at h2 e
/-- its type, as isinstance sees it -/
theorem rp_ty {v : V} {t : Th} (h : Rp K H v t) : TyX K H v (.type t.ty) ∧ t.ty ∈ ["NoneType", "bool", "int", "str", "tuple", "list", "dict"] := by
  cases h with
  | non => exact ⟨.base .non, by decide⟩
  | bl b => exact ⟨.base (.bl b), by simp [Th.ty]⟩
  | int i => exact ⟨.base (.int i), by simp [Th.ty]⟩
  | str x => exact ⟨.base (.str x), by simp [Th.ty]⟩
  | tup hs _ =>
    refine ⟨?_, by simp [Th.ty]⟩
    rcases hs with (h | ⟨o, h⟩) | ⟨o, its, n, hk, hc, _⟩
    · exact .base (.tup h)
    · exact .fTuple h
    · exact .kTuple hk hc
  | lst hs =>
    refine ⟨?_, by simp [Th.ty]⟩
    rcases hs with (h | ⟨o, h⟩) | ⟨o, its, n, hk, hc, _⟩
    · exact .base (.lst h)
    · exact .base (.frz h)
    · exact .kList hk hc
  | dct h => exact ⟨.base (.dK h), by decide⟩
  | dctT h => exact ⟨.base (.dT h), by decide⟩
end
def isIn (t : Th) (C : String) : Bool := t.ty == C || (t.ty == "bool" && C == "int")
theorem kit_in {T C : String} (hT : T ∈ ["NoneType", "bool", "int", "str", "tuple", "list", "dict"]) (hC : C ∈ ["int", "bool", "str", "tuple"]) : kitB T C = some (T == C || (T == "bool" && C == "int")) := by
  have all : (["NoneType", "bool", "int", "str", "tuple", "list", "dict"].all fun T => ["int", "bool", "str", "tuple"].all fun C => kitB T C == some (T == C || (T == "bool" && C == "int"))) = true := by decide +kernel
  have h1 := List.all_eq_true.mp (List.all_eq_true.mp all T hT) C hC
  exact beq_iff_eq.mp h1
section
variable {K : PySem.W.Frag} {σ : L2.St} {H : Hp} {te ta tb tc : TE} {v : V} {t : Th}
/-- isinstance(x, C) -/
theorem ev_isi {C : String} (h : Ev te σ H v) (hr : Rp K H v t) (hC : C ∈ ["int", "bool", "str", "tuple"]) : Ev (tCB (rIsi K) (tCons te (tCons (tC (.ty C)) tNil))) σ H (.bl (isIn t C)) := fun H1 e Q q =>
  h H1 e _ fun H2 e2 => by
    obtain ⟨h1, h2⟩ := rp_ty (rp_mono (e.trans e2) hr)
    exact ⟨v, .ty C, .type t.ty, .type C, isIn t C, rfl, .ty _, h1, kit_ty (kit_in h2 hC), q H2 e2⟩
/-- len(x) of a tuple -/
theorem ev_lenR {ts : List Th} (h : Ev te σ H v) (hr : Rp K H v (.tup ts)) : Ev (tCB (rLenS K) (tCons te tNil)) σ H (.int (ts.length : Int)) := fun H1 e Q q =>
  h H1 e _ fun H2 e2 => by
    obtain ⟨a, xs, rfl, hs, ha⟩ := rp_tup (rp_mono (e.trans e2) hr)
    exact ⟨a, xs, rfl, .inr hs, by rw [ra_len ha]; exact q H2 e2⟩
/-- a <= x <= b -/
theorem ev_chain {r r' : R2} {x y z : V} {a b : Bool} (ha : Ev ta σ H x) (hb : Ev tb σ H y) (hc : Ev tc σ H z) (h1 : RV r x y H (.bl a)) (h2 : RV r' y z H (.bl b)) : Ev (tChain r r' ta tb tc) σ H (.bl (a && b)) := fun H1 e Q q =>
  ha H1 e _ fun H2 e2 => hb H2 (e.trans e2) _ fun H3 e3 => h1 H3 ((e.trans e2).trans e3) _ fun H4 e4 => ⟨a, rfl, by
    cases a with
    | true =>
      show tc σ H4 _
      exact hc H4 (((e.trans e2).trans e3).trans e4) _ fun H5 e5 => h2 H5 ((((e.trans e2).trans e3).trans e4).trans e5) Q fun H6 e6 => q H6 ((((e2.trans e3).trans e4).trans e5).trans e6)
    | false =>
      show Q (.bl false) H4
      exact q H4 ((e2.trans e3).trans e4)⟩
end
/-! ### walks told by any relation -/
def WkR {α : Type} (S : Hp → V → α → Prop) (J : It) (H : Hp) (as : List α) : Prop := ∃ (G : Hp → Prop) (Y : Nat → Hp → V → Hp → Prop), Walk J as.length G Y ∧ (∀ H1, Ex H H1 → G H1) ∧
  ∀ i H1 x H2, Ex H H1 → Y i H1 x H2 → Ex H1 H2 ∧ ∃ d, as[i]? = some d ∧ S H2 x d
def EvWR {α : Type} (S : Hp → V → α → Prop) (wi : TI) (σ : L2.St) (H : Hp) (as : List α) : Prop := ∀ H1, Ex H H1 → ∀ R : It → Hp → Prop, (∀ J H2, Ex H1 H2 → WkR S J H2 as → R J H2) → wi σ H1 R
section
variable {K : PySem.W.Frag} {σ : L2.St} {H : Hp} {te tl : TE} {v : V}
theorem ewr_tup {ts : List Th} (h : Ev tl σ H v) (hr : Rp K H v (.tup ts)) : EvWR (Rp K) (iTup K tl) σ H ts := fun H1 e R q => h H1 e _ fun H2 e2 => by
  obtain ⟨a, xs, rfl, hs, ha⟩ := rp_tup (rp_mono (e.trans e2) hr)
  refine ⟨a, rfl, ⟨xs, hs⟩, q _ H2 e2 ⟨fun H3 => SqT K H3 a xs, YAt xs, by rw [← ra_len ha]; exact walk_tup (xs := xs), fun H3 e3 => ex_t e3 hs, fun i H3 x H4 e3 y => ?_⟩⟩
  obtain ⟨rfl, hx⟩ := y
  exact ⟨Ex.refl _, ra_get (ra_mono e3 ha) hx⟩
/-- the pair (i, x) -/
def PairR (K : PySem.W.Frag) (H : Hp) (x : V) (p : Nat × Th) : Prop := ∃ a u, x = .ref a ∧ SqT K H a [.int (p.1 : Int), u] ∧ Rp K H u p.2
def nums (ts : List Th) : List (Nat × Th) := (List.range ts.length).zip ts
theorem nums_len (ts : List Th) : (nums ts).length = ts.length := by
  unfold nums
  rw [List.length_zip, List.length_range, Nat.min_self]
theorem nums_at {ts : List Th} {i : Nat} {t : Th} (h : ts[i]? = some t) : (nums ts)[i]? = some (i, t) := by
  have hi : i < ts.length := (List.getElem?_eq_some_iff.mp h).1
  unfold nums
  exact List.getElem?_zip_eq_some.mpr ⟨List.getElem?_range hi, h⟩
theorem ewr_enum {ts : List Th} (h : Ev tl σ H v) (hr : Rp K H v (.tup ts)) : EvWR (PairR K) (iEnumT K (tCons tl tNil)) σ H (nums ts) := fun H1 e R q => h H1 e _ fun H2 e2 => by
  obtain ⟨a, xs, rfl, hs, ha⟩ := rp_tup (rp_mono (e.trans e2) hr)
  refine ⟨a, xs, rfl, hs, q _ H2 e2 ⟨fun H3 => SqT K H3 a xs, fun i H3 y H4 => ∃ T x, y = .ref T ∧ H3 T = none ∧ H4 = upd H3 T (.tup [.int (i : Nat), x]) ∧ xs[i]? = some x, ?_, fun H3 e3 => ex_t e3 hs, fun i H3 x H4 e3 y => ?_⟩⟩
  · rw [nums_len, ← ra_len ha]
    refine ⟨fun i H3 hi g => ⟨xs, xs[i], g, by simp [hi]⟩, fun H3 g => ⟨xs, g, Nat.le_refl _⟩, fun i H3 y H4 hi g yy => ?_⟩
    obtain ⟨T, x, h1, h2, h3, h4⟩ := yy
    exact ⟨T, x, h1, h2, h3, h4 xs g⟩
  · obtain ⟨T, u, rfl, hT, rfl, hu⟩ := y
    obtain ⟨t, ht, hrt⟩ := ra_get (ra_mono e3 ha) hu
    exact ⟨Ex.new hT, (i, t), nums_at ht, T, u, rfl, st_of upd_same, rp_mono (Ex.new hT) hrt⟩
theorem ewr_rng {ta : TA} {n : Int} (h : EvA ta σ H [.int n]) (hn : -(2 ^ 62) ≤ n ∧ n < 2 ^ 62) : EvWR (fun _ x (i : Nat) => x = .int (i : Int)) (iRng1 ta) σ H (List.range n.toNat) := fun H1 e R q => h H1 e _ fun H2 e2 => by
  refine ⟨n, rfl, hn.1, hn.2, q _ H2 e2 ⟨fun _ => True, fun i H x H' => H' = H ∧ x = .int ((0 : Int) + (i : Nat)) ∧ i < n.toNat, ?_, fun H3 _ => trivial, fun i H3 x H4 e3 y => ?_⟩⟩
  · rw [List.length_range]
    exact ⟨fun _ _ hi _ => hi, fun _ _ => Nat.le_refl _, fun _ _ _ _ hi _ y => ⟨y.1, y.2, hi⟩⟩
  · obtain ⟨rfl, rfl, hi⟩ := y
    exact ⟨Ex.refl _, i, List.getElem?_range hi, by rw [Int.zero_add]⟩
variable {wi : TI} {g : TG}
/-- all(..): by the relation -/
theorem ev_all {α : Type} {S : Hp → V → α → Prop} {P : Addr} {vs : List Nat} {as : List α} (f : α → Bool) (hw : EvWR S wi σ H as) (hP : H P = some (TabE P))
    (hs : ∀ (i : Nat) (d : α) (x : V) (H1 : Hp), Ex H H1 → as[i]? = some d → S H1 x d → ∃ σ2, TgD g x (wipe σ vs) H1 σ2 ∧ wipe σ2 vs = wipe σ vs ∧ Ev te σ2 H1 (.bl (f d))) :
    Ev (tQuant true P wi g te vs) σ H (.bl (as.all f)) := fun H0 e0 Q q => hw H0 e0 _ fun J H1 e1 wk => by
  obtain ⟨G, Y, wlk, hG, hY⟩ := wk
  refine ⟨(e0.trans e1) _ _ hP, as.length, fun i H' => Ex H1 H' ∧ i ≤ as.length ∧ (as.take i).all f = true, ⟨Ex.refl H1, Nat.zero_le _, rfl⟩, fun i H' hW => ?_⟩
  obtain ⟨ex, hi, hall⟩ := hW
  by_cases hlt : i < as.length
  · refine .inr ⟨wlk.goes i H' hlt (hG H' ex), hlt, fun x H2 hy => ?_⟩
    obtain ⟨ey, d, hd, hdp⟩ := hY i H' x H2 ex (wlk.yields i H' x H2 hlt (hG H' ex) hy)
    obtain ⟨σ2, tg, hwp, hev⟩ := hs i d x H2 ((e0.trans e1).trans (ex.trans ey)) hd hdp
    refine tg H2 (Ex.refl H2) _ ⟨hwp, hev H2 (Ex.refl H2) _ fun H3 e3 => ⟨f d, rfl, ?_⟩⟩
    by_cases hf : f d = true
    · rw [if_pos hf]
      refine ⟨(ex.trans ey).trans e3, hlt, ?_⟩
      rw [List.take_add_one, hd, List.all_append, hall]
      simp [hf]
    · rw [if_neg hf]
      have hff : f d = false := by simpa using hf
      have hz : as.all f = false := by
        rw [List.all_eq_false]
        exact ⟨d, List.mem_of_getElem? hd, hf⟩
      have hq := q H3 (e1.trans ((ex.trans ey).trans e3))
      rw [hz] at hq
      rw [hff]
      exact hq
  · have hin : i = as.length := by omega
    subst hin
    refine .inl ⟨wlk.stops H' (hG H' ex), ?_⟩
    rw [List.take_of_length_le (Nat.le_refl _)] at hall
    have hq := q H' (e1.trans ex)
    rw [hall] at hq
    exact hq
end
end YA

set_option Elab.async false
set_option linter.all false
set_option maxRecDepth 100000
set_option maxHeartbeats 4000000
/-! Caught exceptions as tracked objects: they may be kept, handed on, asked for their class. -/
namespace EX
open PySem PySem.Spec PyProof.Rows L2 Evl DL GX YA

/-- an exception's object at a: its class, its dict -/
def ExG (cls : Value) (d : Option Addr) (a : Addr) : HO := .ext fun h => ∃ (o : Obj) (r : Array Value), h.get? a = some o ∧ Zc cls d o ∧ o.data = .fields r
theorem exG_ok {P : Program} {w : World} {H : Hp} {h : Heap} {a : Addr} {cls : Value} {d : Option Addr} {o : Obj} {r : Array Value} (e : h.get? a = some o) (z : Zc cls d o) (q : o.data = .fields r) : ObjOk P w H h a (ExG cls d a) :=
  ⟨⟨o, r, e, z, q⟩, ⟨o, e⟩, fun _ _ ⟨o', r', e', z'⟩ k => ⟨o', r', k o' e', z'⟩⟩
section
variable {X : Cx} {pins : List (Addr × Obj)} {σ : L2.St} {H : Hp} {sI s' : Shared} {B : Heap}
/-- back on the ground, the exception's object tracked -/
theorem grounded {a : Addr} {cls : Value} {d : Option Addr} {o : Obj} {r : Array Value} {h : Heap} (J : Inv X pins σ H sI) (inB : ∀ b u, sI.heap.get? b = some u → b ∉ frs X.stack → B.get? b = some u) (stay : B.StaysIn h) (slots : sI.heap.UpToSlots h)
    (hos : s'.os = sI.os) (hag : AllBare s'.gens) (nB : B.get? a = none) (nfr : a ∉ frs X.stack) (he : h.get? a = some o) (hz : Zc cls d o) (hd : o.data = .fields r) (na : H a = none) :
    Inv X pins σ (upd H a (ExG cls d a)) { s' with heap := h } := by
  have nI : sI.heap.get? a = none := by
    cases q : sI.heap.get? a with
    | none => rfl
    | some u =>
      have := inB a u q nfr
      rw [nB] at this
      cases this
  obtain ⟨G, g1, g2⟩ := restrict h fun b => decide (b ≠ a)
  have out : G.get? a = none := g2 a (by simp)
  have same : ∀ b, b ≠ a → G.get? b = h.get? b := fun b hb => g1 b (by simpa using hb)
  have J1 : Inv X pins σ H { s' with heap := G } := by
    refine J.landed (s' := { s' with heap := G }) inB (fun b u q => ?_) (fun b u q nf => ?_) hos hag
    · have hb : b ≠ a := fun z => by rw [z, nB] at q; cases q
      exact (same b hb).trans (stay b u q)
    · have hb : b ≠ a := fun z => by rw [z, nI] at q; cases q
      obtain ⟨sl, e⟩ := slots b u q nf
      exact ⟨sl, (same b hb).trans e⟩
  have J2 := J1.laidN (h' := h) (a := a) (o := ExG cls d a) (t' := s'.toks) (fun b u q => by
    have hb : b ≠ a := fun z => by
      have q' : G.get? b = some u := q
      rw [z, out] at q'
      cases q'
    exact (same b hb).symm.trans q) out na (exG_ok he hz hd)
  exact J2
/-- the suite's context bears the same pins -/
theorem in_suite {s : Shared} (I : Inv X pins σ H s) (a : Addr) : Inv (X.suite a (X.pn ++ pins)) [] σ H s :=
  ⟨I.ok.suite _ _, I.os, I.bare, I.base, I.loc, I.cell, I.free, I.freeC, fun p hp => I.pin p (by simpa using hp), I.hok, I.len⟩
theorem off_suite {s : Shared} {a : Addr} (I : Inv (X.suite a (X.pn ++ pins)) [] σ H s) (ok : X.Ok) : Inv X pins σ H s :=
  ⟨ok, I.os, I.bare, I.base, I.loc, I.cell, I.free, I.freeC, fun p hp => I.pin p (by simpa using hp), I.hok, I.len⟩
end
/-- what 'except x as n' wishes of the body's exceptions: each is caught, its object tracked; n is slot i -/
def wTr (K : PySem.W.Frag) (c : Value) (i : Nat) (ts : Addr → Value → Option Addr → TS) (D : Ends) : WX := fun cls d σ H =>
  PySem.W.exmOne K cls c = some true ∧ ∀ a, H a = none → ts a cls d ⟨fun σ' H' => D.nx (σ'.set i none) H', D.rt, fun σ' H' => D.bk (σ'.set i none) H', fun σ' H' => D.ct (σ'.set i none) H'⟩ (σ.set i (some (.ref a))) (upd H a (ExG cls d a))
section
variable {X : Cx} {x n : Str} {c : Value} {i : Nat} {body suite : List Stmt} {b₀ : Stmt} {np pos pos' : Pos} {tb : WX → TS} {ts : Addr → Value → Option Addr → TS}
theorem ps_try_tr (hs : X.stack = X.env :: X.outer) (hf : X.env.frame = some X.env.locals) (hN : X.N.Nodup) (hi : X.N[i]? = some n) (hln : X.env.kindOf n = some .local) (hc : Names X x c)
    (hbody : ∀ (W : WX) (pn : List (Addr × Obj)) (xe : Value → Shared → Prop), Takes (X.tr pn xe) W → PassesOwn (model X.prog X.w) X.A X.env xe → PSs (X.tr pn xe) body (tb W))
    (hsuite : ∀ (a : Addr) (cls : Value) (d : Option Addr) (pn : List (Addr × Obj)), PSs (X.suite a pn) (b₀ :: suite) (ts a cls d)) :
    PS X (.Try body [.ExceptHandler (some (.Name x np)) (some n) (b₀ :: suite) pos'] [] [] pos) (fun D σ H => tb (wTr X.K c i ts D) D σ H) := by
  refine ⟨fun pins s σ H D I h => wpAny_Try_except ?_⟩
  have ok := I.ok
  have frm : X.A.frames = some (X.env :: X.outer) := by rw [ok.frames, hs]
  -- whatever leaves the body is landed, and goes by the clause
  generalize hxe : (fun e s₁ => wpAny (model X.prog X.w) X.A (noteFrame e X.env) (fun _ s₂ => wpAny (model X.prog X.w) X.A (setFlight e none) (fun _ s₃ =>
    wpAny (model X.prog X.w) X.A (handleBy e X.env [.ExceptHandler (some (.Name x np)) (some n) (b₀ :: suite) pos']) (SP X pins D) X.xe s₃) X.xe s₂) X.xe s₁ : Value → Shared → Prop) = air
  have caught : Takes (X.tr (X.pn ++ pins) air) (wTr X.K c i ts D) := by
    intro u s' ⟨a, B, sI, pins', τ, H1, cls, d, eu, J', inB, up, sky, na, hos, hag, hm, hgo⟩
    subst eu
    have J : Inv X pins τ H1 sI := J'.ofTry ok
    rw [← hxe]
    have sky' : Sky B (X.env :: X.outer) a (Zc cls d) X.env.locals s'.heap := by rw [← hs]; exact sky
    show wpAny (model X.prog X.w) X.A (noteFrame (.ref a) X.env) _ _ _
    refine Sky.land Zc.steady frm hf sky' fun h3 fl3 up3 => ?_
    obtain ⟨o3, r3, he3, hz3, hd3⟩ := fl3.there
    have nfr : a ∉ frs (X.env :: X.outer) := fun hm => by
      obtain ⟨_, o', e', hnf⟩ := fl3.2.2.1.mem hm
      rw [he3] at e'
      cases e'
      exact hnf _ hd3
    have I3 : Inv X pins τ (upd H1 a (ExG cls d a)) { s' with heap := h3 } := grounded J inB fl3.1 (up.trans up3) hos hag fl3.2.1 (by rw [hs]; exact nfr) he3 hz3 hd3 na
    refine wpAny_handleBy_cons (codeAny_handlers_test ?_) (by intro q; cases q)
    have ltp : PySem.W.Looks (model X.prog X.w) h3 (typeOf (.ref a)) cls := fun A Q E s k q => wpAny_typeOf_ref (k _ _ he3) (by rw [hz3.1]; exact q)
    have lmt := PySem.W.exm_one (M := model X.prog X.w) I3.kIn ltp hm
    have named : ∀ {Q : Value → Shared → Prop} {E : Value → Shared → Prop}, Q c { s' with heap := h3 } → wpAny (model X.prog X.w) (X.A.mark (some (.ref a))) (eval (.Name x np) X.env) Q E { s' with heap := h3 } := fun {Q E} q => by
      have S3 := in_suite I3 a
      rcases hc with ⟨hg, hdb, hm | ⟨hm, hv, hnn⟩⟩
      · exact ld_glob (X := X.suite a (X.pn ++ pins)) S3 hg hm q hdb
      · exact ld_blt (X := X.suite a (X.pn ++ pins)) S3 hg hm hv q hnn hdb
    refine named (lmt.here (codeAny_handlers_suite_as (HandSPX.lands_againZ fl3 fun h4 fl4 up4 => ?_)))
    obtain ⟨o4, r4, he4, hz4, hd4⟩ := fl4.there
    have I4 : Inv X pins τ (upd H1 a (ExG cls d a)) { s' with heap := h4 } := grounded J inB fl4.1 ((up.trans up3).trans up4) hos hag fl4.2.1 (by rw [hs]; exact nfr) he4 hz4 hd4 na
    refine store_ok (X := X.suite a (X.pn ++ pins)) (v := .ref a) (in_suite I4 a) hN hi (.inl hln) rfl (fun s5 S5 => ?_) (.inr hln)
    refine wpAny_mono ((hsuite a cls d (X.pn ++ pins)).run [] s5 _ _ _ S5 (hgo a na)) (fun f s6 done => ?_) (fun _ _ z => False.elim z)
    have off : ∀ {σ6 : L2.St} {H6 : Hp} {Q : Shared → Prop}, Inv (X.suite a (X.pn ++ pins)) [] σ6 H6 s6 → (∀ s7, Inv X pins (σ6.set i none) H6 s7 → Q s7) →
        wpAny (model X.prog X.w) X.A (do bindName X.env n .none; unbindBehindTheSuite X.env n pos') (fun _ s7 => Q s7) X.xe s6 := fun {σ6 H6 Q} S6 hq => gone_ok (off_suite S6 ok) hN hi hln hq
    cases f with
    | next =>
      obtain ⟨_, _, S6, q6⟩ := done
      exact off S6 fun s7 J7 => ⟨_, _, J7, q6⟩
    | brk =>
      obtain ⟨_, _, S6, q6⟩ := done
      exact off S6 fun s7 J7 => ⟨_, _, J7, q6⟩
    | cont =>
      obtain ⟨_, _, S6, q6⟩ := done
      exact off S6 fun s7 J7 => ⟨_, _, J7, q6⟩
    | ret u =>
      obtain ⟨_, _, _, S6, r6, q6⟩ := done
      exact off S6 fun s7 J7 => ⟨_, _, _, J7, r6, q6⟩
  have own : PassesOwn (model X.prog X.w) X.A X.env air := by
    rw [← hxe]
    exact PassesOwn.looking
  refine wpAny_mono ((hbody _ _ air caught own).run [] s σ H D (I.toTry _) h) (fun f s1 done => ?_) (fun e s1 he => he)
  cases f with
  | next =>
    obtain ⟨_, _, J', q⟩ := done
    exact wpAny_execs_nil ⟨_, _, J'.ofTry ok, q⟩
  | brk =>
    obtain ⟨_, _, J', q⟩ := done
    exact ⟨_, _, J'.ofTry ok, q⟩
  | cont =>
    obtain ⟨_, _, J', q⟩ := done
    exact ⟨_, _, J'.ofTry ok, q⟩
  | ret u =>
    obtain ⟨_, _, _, J', r, q⟩ := done
    exact ⟨_, _, _, J'.ofTry ok, r, q⟩
end
/-! ### isinstance(e, C) -/
def rIsG (K : PySem.W.Frag) (D : Addr) : List V → Hp → VK → Prop := fun xs H Q => ∃ (a : Addr) (c : V) (cv : Value) (b : Bool), xs = [.ref a, c] ∧ H a = some (ExG (.ref D) none a) ∧ ClsV c cv ∧ PySem.W.kitOne K (.ref D) cv = some b ∧ Q (.bl b) H
theorem call_isG {X : Cx} {D : Addr} (C : ExcC X.K D) : CallR X (.builtin "isinstance") (rIsG X.K D) := by
  intro pins s σ H xs us Q I rel h
  obtain ⟨a, c, cv, b, rfl, ha, hcv, hk, q⟩ := h
  obtain ⟨u1, u2, rfl, r1, r2⟩ := vals2 rel
  cases (show u1 = Value.ref a from r1)
  have ec := hcv.eq r2
  subst ec
  obtain ⟨⟨o, r, hget, hz, hd⟩, _, _⟩ := I.hok a _ ha
  have inst : PySem.W.InstAt s.heap a o D none := by
    obtain ⟨oc, od, oda, osl⟩ := o
    obtain ⟨h1, h2⟩ := hz
    dsimp only at h1 h2 hd
    subst h1 h2 hd
    exact ⟨hget, rfl, rfl, trivial⟩
  exact PySem.W.kia_one (PySem.W.handS_kitx_exc C.hg C.hk C.hs C.hd C.ha C.hn C.ht C.hm) I.kIn inst hk (fun z => nomatch z) fun tk => ⟨.bl b, H, I.tok tk, rfl, q⟩
end EX

set_option Elab.async false
set_option linter.all false
set_option maxRecDepth 100000
set_option maxHeartbeats 4000000
/-! Defs that may be called while an exception is handled (they raise nothing themselves). -/
namespace EX
open PySem PySem.Spec PyProof.Rows L2 Evl DL GX YA

abbrev RoomW := L2H.RoomH
theorem RoomW.units {k : Nat} {A : Around} (r : RoomW k A) : A.units + 64 < cLine := by have := r.un; omega
theorem room_mark {j k : Nat} {A : Around} {h : Option Value} (r : Room k A) (hj : j ≤ k) : RoomW j (A.mark h) :=
  ⟨by have := r.dp; show A.depth + 3 * j + 5 < _; omega, by have := r.un; show A.units + 16 * j + 200 < _; omega⟩
/-- as FnOk, where perhaps an exception is handled -/
structure FnW (P : Program) (w : World) (K : PySem.W.Frag) (mg : Str → Option Value) (base : Heap) (k : Nat) (f : Addr) (fd : FuncData) (ps : List Str) (sp : Sp) : Prop where
  len : ∀ vs H Q E, sp vs H Q E → vs.length = ps.length
  go : ∀ (A : Around) (outer : List Env) (s : Shared) (H : Hp) (args : Args) (us : List Value) (vs : List V) (Q : VK) (E : XK), RoomW k A → Env0 P w K mg base A outer s H → BindsTo s fd args (ps.zip us) → Vals vs us → sp vs H Q E →
    codeAny (model P w) A (.call (.ref f) args) (CR CX0 outer P w H s Q E) s
theorem FnW.calm {P : Program} {w : World} {K : PySem.W.Frag} {mg : Str → Option Value} {base : Heap} {k : Nat} {f : Addr} {fd : FuncData} {ps : List Str} {sp : Sp} (F : FnW P w K mg base k f fd ps sp) : FnOk P w K mg base CX0 k f fd ps sp :=
  ⟨F.len, fun A outer s H args us vs Q E hr => F.go A outer s H args us vs Q E (L2H.roomH_of hr)⟩
/-- the body's context -/
abbrev cxW (P : Program) (w : World) (K : PySem.W.Frag) (mg : Str → Option Value) (base : Heap) (N : List Str) (qual : Str) (scope : Scope) (f : Addr) (cd : Value) (A : Around) (outer : List Env) (s : Shared) (H : Hp) : Cx :=
  { cxOf CX0 P w K mg base N qual scope f cd A outer s H E0 with calm := false, xe := fun _ _ => False }
theorem fn_ofW {P : Program} {w : World} {K : PySem.W.Frag} {mg : Str → Option Value} {base : Heap} {x qual : Str} {st : Stmt} {f : Addr} {fd : FuncData} {N ps : List Str} {k : Nat} {sp : Sp} (F : Fun K x qual st f fd) (S : FnScope N ps (defScope st)) (len : ∀ vs H Q E, sp vs H Q E → vs.length = ps.length)
    (hbody : ∀ (cdv : Value) (A : Around) (outer : List Env) (s : Shared) (H : Hp) (vs : List V) (Q : VK) (E : XK), RoomW k (A.deeper (envOfC qual (defScope st) s.heap.objs.size f cdv)) → sp vs H Q E →
      ∃ t, PSs (cxW P w K mg base N qual (defScope st) f cdv A outer s H) (defBody st) t ∧ t { nx := fun _ H' => Q .non H', rt := Q } (start N vs) H) : FnW P w K mg base (k + 1) f fd ps sp := by
  obtain ⟨oc, od, kV, doc, pm, an, cdv, ct, osl, rfl, lk, hcd⟩ := F.ex
  refine ⟨len, fun A outer s H args us vs Q E hr e0 hb rel hsp => ?_⟩
  have inH : K.In s.heap := e0.mod.kin.keeps fun b o e => (e0.bs b o e).1
  have slotted : ∀ y ∈ ps.zip us, (defScope st).names.lookup y.1 = some .local ∨ ((defScope st).names.lookup y.1 = some .cell ∧ ((cellsFrom (s.heap.objs.size + 1) (defScope st).names []).lookup y.1).isSome = true) := by
    rintro ⟨n, v⟩ hy
    exact (S.par n (List.of_mem_zip hy).1).imp id fun q => ⟨q, PySem.W.cellsFrom_some _ _ _ (.inl q)⟩
  refine codeAny_call_function hr.depth (inH _ _ lk) rfl S.co S.gen rfl (PySem.W.codeRec_of inH hcd) (hb _ _ _ _ (wpAny_newFunctionEnv_cells S.kind slotted fun env he s1 made => ?_))
  subst he
  refine ⟨(e0.mod.nolimit.keeps fun b o e => (e0.bs b o e).1).keeps made.toInCall.keep, codeAny_func ?_⟩
  obtain ⟨t, ht, hq⟩ := hbody cdv A outer s H vs Q E (hr.deeper _) hsp
  have J := inv_start (CX := CX0) (E := E0) (A := { A with handled := none }) (cd := cdv) (f := f) (qual := qual) S rfl ⟨e0.frames, e0.mod, e0.bs, e0.bsz, e0.funs, e0.frf, e0.hok, e0.bare⟩ (len _ _ _ _ hsp) rel made
  have okJ := J.ok
  have I : Inv (cxW P w K mg base N qual (defScope st) f cdv A outer s H) [] (start N vs) H s1 :=
    ⟨⟨okJ.mod, okJ.kind, okJ.glob, okJ.blt, okJ.above, okJ.inj, okJ.has, okJ.cab, (fun z => nomatch (show false = true from z)), Around.frames_deeper e0.frames, okJ.stk, okJ.exf, okJ.bs, okJ.bsz, okJ.noex, okJ.exfs, okJ.funs, okJ.frf⟩,
      J.os, J.bare, J.base, J.loc, J.cell, J.free, J.freeC, J.pin, J.hok, J.len⟩
  refine wpAny_mono (ht.run [] s1 (start N vs) H _ I hq) (fun fl s' out => ?_) fun e s' z => z.elim
  cases fl with
  | ret u =>
    obtain ⟨v, _, H', J', rv, q⟩ := out
    exact ⟨v, H', J'.os, J'.bare, J'.base, J'.hok, rv, q⟩
  | next =>
    obtain ⟨_, H', J', q⟩ := out
    exact ⟨V.non, H', J'.os, J'.bare, J'.base, J'.hok, rfl, q⟩
  | brk =>
    obtain ⟨_, _, _, q⟩ := out
    exact q.elim
  | cont =>
    obtain ⟨_, _, _, q⟩ := out
    exact q.elim
section
variable {X : Cx} {k : Nat} {f : Addr} {fd : FuncData} {ps : List Str} {sp : Sp} {x : Str} {p pos : Pos} {e : Expr} {es : List Expr} {t : TA}
/-- such a def called, in a suite or not -/
theorem pe_callW (F : FnW X.prog X.w X.K X.mg X.base k f fd ps sp) (hr : RoomW k X.A) (hg : Gl X x) (hm : X.mg x = some (.ref f)) (hk : PySem.W.keepIn X.K (.ref f) = true) (hb : Binds X.K fd ps []) (ha : PA X (e :: es) t)
    (hdb : (x == ("__debug__" : Str)) = false := by decide) (he : starEach (e :: es) X.env = (false, eval e X.env) :: starEach es X.env := by rfl) (hpl : (backTo pos (starEach es X.env)).any (·.1) = false := by rfl) :
    PE X (.Call (.Name x p) (e :: es) [] pos) (tCall sp [] E0 t) := by
  refine ⟨fun pins s σ H Q I h => wpAny_Call_Name_kw (ld_glob I hg hm ?_ hdb)⟩
  refine PySem.W.callWith_K (h₀ := X.base) I.ok.mod.kin hk (thn (ha.run pos pins s σ H _ I h) fun us s1 ⟨vs, H1, I1, rel, q⟩ => ⟨I1.kIn, ?_⟩) he hpl
  have q : sp (vs ++ []) H1 Q E0 := q
  rw [List.append_nil] at q
  have bound := hb s1 us I1.kIn (by rw [List.append_nil, ← rel.length]; exact F.len _ _ _ _ q)
  rw [List.append_nil] at bound
  refine wpAny_call (codeAny_mono (F.go X.A X.stack s1 H1 ⟨us, []⟩ us vs Q E0 hr I1.env0 bound rel q) fun r s' out => ?_)
  match r, out with
  | .error _, z => exact z.elim
  | .ok (.ret _), z => exact I1.after z
  | .ok .next, z => exact False.elim z
  | .ok .brk, z => exact False.elim z
  | .ok .cont, z => exact False.elim z
end
/-! ### lists of truths -/
/-- xs.count(b) -/
def rCntB (K : PySem.W.Frag) : V → List V → Hp → VK → Prop := fun x xs H Q => ∃ (a : Addr) (bs : List Bool) (b : Bool), x = .ref a ∧ xs = [.bl b] ∧ SqL K H a (bs.map V.bl) ∧ Q (.int ((bs.count b : Nat) : Int)) H
theorem da_bools {K : PySem.W.Frag} {H : Hp} : ∀ bs : List Bool, DpAll K H (bs.map V.bl) (bs.map PyData.bool)
  | [] => .nil
  | b :: bs => .cons (.bl b) (da_bools bs)
theorem plain_bools : ∀ bs : List Bool, PyData.plainAll (bs.map PyData.bool) = true
  | [] => rfl
  | b :: bs => by
    show (PyData.plain (.bool b) && PyData.plainAll (bs.map PyData.bool)) = true
    rw [plain_bools bs]
    rfl
theorem count_bools (bs : List Bool) (b : Bool) : (bs.map PyData.bool).countP (fun y => PyData.eqv y (.bool b)) = bs.count b := by
  rw [List.countP_map, List.count]
  refine List.countP_congr fun x _ => ?_
  cases x <;> cases b <;> simp [PyData.eqv]
theorem mt_cntB {X : Cx} (hu : X.A.units + 64 < cLine) : MtR X "list.count" (rCntB X.K) := by
  intro pins s σ H x xs v us Q I rx rxs h
  obtain ⟨a, bs, b, rfl, rfl, hs, q⟩ := h
  cases rx
  obtain ⟨u, rfl, ru⟩ := Vals.one rxs
  obtain ⟨its, rv, pl, _⟩ := I.list hs
  obtain ⟨as, h1⟩ := Dp.readsAll I (bs.map PyData.bool) _ _ (da_bools bs) rv
  obtain ⟨cs, h2⟩ := Dp.reads I (.bool b) _ _ (.bl b) ru
  refine PySem.SeqAt.count_list_data (vs := its.toArray) (xs := bs.map PyData.bool) (d := .bool b) pl.isList (by simpa using h1) h2 (plain_bools bs) rfl ?_ ?_
  · have : min (PyData.depthAll (bs.map PyData.bool)) (PyData.depth (.bool b)) ≤ PyData.depth (.bool b) := Nat.min_le_right _ _
    have z : PyData.depth (.bool b) ≤ 1 := by first | exact Nat.zero_le _ | exact Nat.le_refl _ | decide
    omega
  · rw [count_bools]
    exact ⟨.int _, H, I.tok _, ⟨_, rfl⟩, q⟩
end EX

set_option Elab.async false
set_option linter.all false
set_option maxRecDepth 100000
set_option maxHeartbeats 4000000
/-! Expressions that come to things of any kind, while a list of digits may be drawn from. -/
namespace TH
open PySem PySem.Spec PyProof.Rows L2 Evl DL GX YA EX

/-- what bears things stays: tuples; lists stay lists, dicts dicts -/
structure ExR (H H' : Hp) : Prop where
  tup : ∀ a xs, Rd H a (.tup xs) → Rd H' a (.tup xs)
  lst : ∀ a xs, Rd H a (.lst xs) → ∃ ys, Rd H' a (.lst ys)
  dK : ∀ a ks, H a = some (.dK ks) → ∃ ls, H' a = some (.dK ls)
  dT : ∀ a ks, H a = some (.dT ks) → ∃ ls, H' a = some (.dT ls)
theorem ExR.refl (H : Hp) : ExR H H := ⟨fun _ _ h => h, fun _ xs h => ⟨xs, h⟩, fun _ ks h => ⟨ks, h⟩, fun _ ks h => ⟨ks, h⟩⟩
theorem ExR.trans {H H1 H2 : Hp} (x : ExR H H1) (y : ExR H1 H2) : ExR H H2 :=
  ⟨fun a xs h => y.tup a xs (x.tup a xs h), fun a xs h => (x.lst a xs h).elim fun ys k => y.lst a ys k, fun a ks h => (x.dK a ks h).elim fun ls k => y.dK a ls k, fun a ks h => (x.dT a ks h).elim fun ls k => y.dT a ls k⟩
theorem exr_of {H H' : Hp} (e : Ex H H') : ExR H H' := ⟨fun _ _ h => ex_rd e h, fun _ xs h => ⟨xs, ex_rd e h⟩, fun _ ks h => ⟨ks, e _ _ h⟩, fun _ ks h => ⟨ks, e _ _ h⟩⟩
theorem exr_upd {H : Hp} {a : Addr} {xs ys : List V} (h : H a = some (.lst xs)) : ExR H (upd H a (.lst ys)) := by
  have nt : ∀ b zs, Rd H b (.tup zs) → b ≠ a := fun b zs r z => by
    subst z
    rcases r with r | ⟨o, r⟩ <;> rw [h] at r <;> cases r
  refine ⟨fun b zs r => ?_, fun b zs r => ?_, fun b ks r => ?_, fun b ks r => ?_⟩
  · have hb := nt b zs r
    rcases r with r | ⟨o, r⟩
    · exact .inl (by rw [upd_ne hb]; exact r)
    · exact .inr ⟨o, by rw [upd_ne hb]; exact r⟩
  · by_cases hb : b = a
    · subst hb
      exact ⟨ys, .inl upd_same⟩
    · refine ⟨zs, ?_⟩
      rcases r with r | ⟨o, r⟩
      · exact .inl (by rw [upd_ne hb]; exact r)
      · exact .inr ⟨o, by rw [upd_ne hb]; exact r⟩
  · have hb : b ≠ a := fun z => by rw [z, h] at r; cases r
    exact ⟨ks, by rw [upd_ne hb]; exact r⟩
  · have hb : b ≠ a := fun z => by rw [z, h] at r; cases r
    exact ⟨ks, by rw [upd_ne hb]; exact r⟩
mutual
theorem rp_r {K : PySem.W.Frag} {H H' : Hp} (e : ExR H H') : ∀ {t : Th} {v : V}, Rp K H v t → Rp K H' v t
  | .none, _, h => by cases h; exact .non
  | .bool b, _, h => by cases h; exact .bl b
  | .int i, _, h => by cases h; exact .int i
  | .str x, _, h => by cases h; exact .str x
  | .tup ts, _, h => by
    cases h with
    | tup hs ha => exact .tup (hs.imp (e.tup _ _) id) (ra_r e ha)
  | .odd T, _, h => by
    cases h with
    | lst hs =>
      rcases hs with hs | hs
      · obtain ⟨ys, k⟩ := e.lst _ _ hs
        exact .lst (.inl k)
      · exact .lst (.inr hs)
    | dct hs =>
      obtain ⟨_, k⟩ := e.dK _ _ hs
      exact .dct k
    | dctT hs =>
      obtain ⟨_, k⟩ := e.dT _ _ hs
      exact .dctT k
theorem ra_r {K : PySem.W.Frag} {H H' : Hp} (e : ExR H H') : ∀ {ts : List Th} {vs : List V}, RpAll K H vs ts → RpAll K H' vs ts
  | [], _, h => by cases h; exact .nil
  | t :: ts, _, h => by
    cases h with
    | cons h1 h2 => exact .cons (rp_r e h1) (ra_r e h2)
end
section
variable {K : PySem.W.Frag} {H : Hp}
theorem ra_app : ∀ {ts us : List Th} {vs ws : List V}, RpAll K H vs ts → RpAll K H ws us → RpAll K H (vs ++ ws) (ts ++ us)
  | [], _, _, _, h, k => by cases h; exact k
  | _ :: _, _, _, _, h, k => by
    cases h with
    | cons h1 h2 => exact .cons h1 (ra_app h2 k)
theorem ra_drop : ∀ (n : Nat) {ts : List Th} {vs : List V}, RpAll K H vs ts → RpAll K H (vs.drop n) (ts.drop n)
  | 0, _, _, h => h
  | n + 1, [], _, h => by cases h; exact .nil
  | n + 1, _ :: _, _, h => by
    cases h with
    | cons h1 h2 => exact ra_drop n h2
theorem ra_take : ∀ (n : Nat) {ts : List Th} {vs : List V}, RpAll K H vs ts → RpAll K H (vs.take n) (ts.take n)
  | 0, _, _, _ => .nil
  | n + 1, [], _, h => by cases h; exact .nil
  | n + 1, _ :: _, _, h => by
    cases h with
    | cons h1 h2 => exact .cons h1 (ra_take n h2)
theorem ra_rev : ∀ {ts : List Th} {vs : List V}, RpAll K H vs ts → RpAll K H vs.reverse ts.reverse
  | [], _, h => by cases h; exact .nil
  | t :: ts, _, h => by
    cases h with
    | cons h1 h2 =>
      rw [List.reverse_cons, List.reverse_cons]
      exact ra_app (ra_rev h2) (.cons h1 .nil)
theorem ra_rep {ts : List Th} {vs : List V} (h : RpAll K H vs ts) : ∀ n : Nat, RpAll K H (List.replicate n vs).flatten (List.replicate n ts).flatten
  | 0 => .nil
  | n + 1 => by
    rw [List.replicate_succ, List.replicate_succ, List.flatten_cons, List.flatten_cons]
    exact ra_app h (ra_rep h n)
end
/-! ### the ways in which the heap may go on -/
/-- Ok: the places whose lists stay -/
structure Way (G : Hp → Hp → Prop) (Ok : Addr → Prop) : Prop where
  refl : ∀ H, G H H
  trans : ∀ {H H1 H2}, G H H1 → G H1 H2 → G H H2
  ex : ∀ {H H'}, Ex H H' → G H H'
  exr : ∀ {H H'}, G H H' → ExR H H'
  put : ∀ {H H' : Hp} {D : Addr} {xs ys : List V}, G H H' → H D = none → H' D = some (.lst xs) → G H (upd H' D (.lst ys))
  kp : ∀ {H H' : Hp} {l : Addr} {xs : List V}, G H H' → Ok l → H l = some (.lst xs) → H' l = some (.lst xs)
theorem way_ex : Way Ex fun _ => True := ⟨Ex.refl, fun a b => a.trans b, fun e => e, exr_of, fun e hn _ => Ex.mut e hn, fun e _ h => e _ _ h⟩
/-- all but the digits at a -/
def ExB (a : Addr) (H H' : Hp) : Prop := ∀ b o, b ≠ a → H b = some o → H' b = some o
def PoolAt (H : Hp) (a : Addr) : Prop := ∃ n, H a = some (.lst [.int n])
structure GP (p : Addr) (H H' : Hp) : Prop where
  b : ExB p H H'
  p : PoolAt H p → PoolAt H' p
  r : ExR H H'
theorem way_pool (p : Addr) : Way (GP p) (fun l => l ≠ p) where
  refl := fun H => ⟨fun _ _ _ h => h, id, ExR.refl H⟩
  trans := fun x y => ⟨fun b o n h => y.b b o n (x.b b o n h), fun h => y.p (x.p h), x.r.trans y.r⟩
  ex := fun e => ⟨fun b o _ h => e b o h, fun ⟨n, h⟩ => ⟨n, e _ _ h⟩, exr_of e⟩
  exr := fun x => x.r
  kp := fun x n h => x.b _ _ n h
  put := fun {H H' D xs ys} x hn hd => ⟨fun b o n h => by rw [upd_ne (ne_of_none h hn)]; exact x.b b o n h, fun h => by
      obtain ⟨n, q⟩ := x.p h
      obtain ⟨m, q0⟩ := h
      exact ⟨n, by rw [upd_ne (ne_of_none q0 hn)]; exact q⟩, x.r.trans (exr_upd hd)⟩
/-- digits are drawn -/
theorem gp_of {p : Addr} {H H' : Hp} (e : ExB p H H') (h : PoolAt H p) (h' : PoolAt H' p) : GP p H H' := by
  obtain ⟨n, q⟩ := h
  obtain ⟨m, q'⟩ := h'
  refine ⟨e, fun _ => ⟨m, q'⟩, ⟨fun a xs r => ?_, fun a xs r => ?_, fun a ks r => ?_, fun a ks r => ?_⟩⟩
  · have hb : a ≠ p := fun z => by
      subst z
      rcases r with r | ⟨o, r⟩ <;> rw [q] at r <;> cases r
    rcases r with r | ⟨o, r⟩
    · exact .inl (e _ _ hb r)
    · exact .inr ⟨o, e _ _ hb r⟩
  · by_cases hb : a = p
    · subst hb
      exact ⟨_, .inl q'⟩
    · rcases r with r | ⟨o, r⟩
      · exact ⟨xs, .inl (e _ _ hb r)⟩
      · exact ⟨xs, .inr ⟨o, e _ _ hb r⟩⟩
  · exact ⟨ks, e _ _ (fun z => by rw [z, q] at r; cases r) r⟩
  · exact ⟨ks, e _ _ (fun z => by rw [z, q] at r; cases r) r⟩
/-! ### what an expression comes to: some thing of which P holds -/
section
variable (G : Hp → Hp → Prop) (Ok : Addr → Prop) (K : PySem.W.Frag)
def EvP (te : TE) (σ : L2.St) (H : Hp) (P : Th → Prop) : Prop := ∀ H1, G H H1 → ∀ Q : VK, (∀ v t H2, G H1 H2 → Rp K H2 v t → P t → Q v H2) → te σ H1 Q
def EvPA (ta : TA) (σ : L2.St) (H : Hp) (P : List Th → Prop) : Prop := ∀ H1, G H H1 → ∀ Q : List V → Hp → Prop, (∀ vs ts H2, G H1 H2 → RpAll K H2 vs ts → P ts → Q vs H2) → ta σ H1 Q
/-- .. to a list of things -/
def EvPL (te : TE) (σ : L2.St) (H : Hp) (P : List Th → Prop) : Prop := ∀ H1, G H H1 → ∀ Q : VK, (∀ l xs ts H2, G H1 H2 → Ok l → H2 l = some (.lst xs) → RpAll K H2 xs ts → P ts → Q (.ref l) H2) → te σ H1 Q
/-- new places are such -/
def Fr (H : Hp) : Prop := ∀ H1 l, G H H1 → H1 l = none → Ok l
/-- a two-place operation -/
def RP (r : R2) (x y : Th) (P : Th → Prop) : Prop := ∀ v u H, Rp K H v x → Rp K H u y → ∀ Q : VK, (∀ w z H2, Ex H H2 → Rp K H2 w z → P z → Q w H2) → r v u H Q
end
section
variable {G : Hp → Hp → Prop} {Ok : Addr → Prop} {K : PySem.W.Frag} (W : Way G Ok) {σ : L2.St} {H H' : Hp} {ta tb te tx : TE} {P P' P'' : Th → Prop} {v : V} {t : Th} {r : R2}
include W
theorem p_mono (e : G H H') (h : EvP G K te σ H P) : EvP G K te σ H' P := fun H1 g Q q => h H1 (W.trans e g) Q q
theorem p_imp (h : EvP G K te σ H P) (k : ∀ t, P t → P' t) : EvP G K te σ H P' := fun H1 g Q q => h H1 g Q fun v t H2 g2 hr hp => q v t H2 g2 hr (k t hp)
theorem p_var {i : Nat} (h : σ[i]? = some (some v)) (hr : Rp K H v t) (hp : P t) : EvP G K (tVar i) σ H P := fun H1 g Q q => ⟨v, h, q v t H1 (W.refl _) (rp_r (W.exr g) hr) hp⟩
theorem p_ci {i : Int} (hp : P (.int i)) : EvP G K (tC (.int i)) σ H P := fun H1 g Q q => q _ _ H1 (W.refl _) (.int i) hp
theorem p_cb {b : Bool} (hp : P (.bool b)) : EvP G K (tC (.bl b)) σ H P := fun H1 g Q q => q _ _ H1 (W.refl _) (.bl b) hp
theorem p_cs {s : Str} (hp : P (.str s)) : EvP G K (tC (.str s)) σ H P := fun H1 g Q q => q _ _ H1 (W.refl _) (.str s) hp
theorem p_cn (hp : P .none) : EvP G K (tC .non) σ H P := fun H1 g Q q => q _ _ H1 (W.refl _) .non hp
theorem p_op (ha : EvP G K ta σ H P) (hb : EvP G K tb σ H P') (hr : ∀ x y, P x → P' y → RP K r x y P'') : EvP G K (tOp r ta tb) σ H P'' := fun H1 g Q q =>
  ha H1 g _ fun v x H2 g2 hv hx => hb H2 (W.trans g g2) _ fun u y H3 g3 hu hy => hr x y hx hy v u H3 (rp_r (W.exr g3) hv) hu Q fun w z H4 e4 hw hz => q w z H4 (W.trans (W.trans g2 g3) (W.ex e4)) hw hz
theorem pa_nilP {Ps : List Th → Prop} (hp : Ps []) : EvPA G K tNil σ H Ps := fun H1 g Q q => q [] [] H1 (W.refl _) .nil hp
theorem pa_consP {Ps Ps' : List Th → Prop} {tr : TA} (h : EvP G K ta σ H P) (hr : EvPA G K tr σ H Ps) (hp : ∀ t ts, P t → Ps ts → Ps' (t :: ts)) : EvPA G K (tCons ta tr) σ H Ps' := fun H1 g Q q =>
  h H1 g _ fun v t H2 g2 hv ht => hr H2 (W.trans g g2) _ fun vs ts H3 g3 hvs hts => q (v :: vs) (t :: ts) H3 (W.trans g2 g3) (.cons (rp_r (W.exr g3) hv) hvs) (hp t ts ht hts)
theorem p_tup {ta : TA} {Ps : List Th → Prop} (h : EvPA G K ta σ H Ps) (hl : ∀ ts, Ps ts → ts.length ≤ 100000) (hp : ∀ ts, Ps ts → P (.tup ts)) : EvP G K (tTup ta) σ H P := fun H1 g Q q =>
  h H1 g _ fun vs ts H2 g2 hv ht => ⟨by rw [ra_len hv]; exact sz_of (hl ts ht), fun p hn => q (.ref p) (.tup ts) _ (W.trans g2 (W.ex (Ex.new hn))) (.tup (st_of upd_same) (ra_mono (Ex.new hn) hv)) (hp ts ht)⟩
theorem p_lst {ta : TA} {Ps : List Th → Prop} (h : EvPA G K ta σ H Ps) (hl : ∀ ts, Ps ts → ts.length ≤ 100000) (hp : P (.odd .lst)) : EvP G K (tLst ta) σ H P := fun H1 g Q q =>
  h H1 g _ fun vs ts H2 g2 hv ht => ⟨by rw [ra_len hv]; exact sz_of (hl ts ht), fun p hn => q (.ref p) (.odd .lst) _ (W.trans g2 (W.ex (Ex.new hn))) (.lst (sq_of upd_same)) hp⟩
theorem p_dict (hp : P (.odd .dct)) : EvP G K tDNewK σ H P := fun H1 g Q q p hn => q (.ref p) (.odd .dct) _ (W.ex (Ex.new hn)) (.dct upd_same) hp
theorem pl_lst {ta : TA} {Ps : List Th → Prop} (fr : Fr G Ok H) (h : EvPA G K ta σ H Ps) (hl : ∀ ts, Ps ts → ts.length ≤ 100000) : EvPL G Ok K (tLst ta) σ H Ps := fun H1 g Q q =>
  h H1 g _ fun vs ts H2 g2 hv ht => ⟨by rw [ra_len hv]; exact sz_of (hl ts ht), fun p hn => q p vs ts _ (W.trans g2 (W.ex (Ex.new hn))) (fr H2 p (W.trans g g2) hn) upd_same (ra_mono (Ex.new hn) hv) ht⟩
theorem fr_mono (e : G H H') (h : Fr G Ok H) : Fr G Ok H' := fun H1 l g n => h H1 l (W.trans e g) n
/-- a list and a list -/
theorem pl_cat {Ps Ps' Pt : List Th → Prop} (fr : Fr G Ok H) (ha : EvPL G Ok K ta σ H Ps) (hb : EvPL G Ok K tb σ H Ps') (hl : ∀ ts us, Ps ts → Ps' us → ts.length + us.length ≤ 100000) (hp : ∀ ts us, Ps ts → Ps' us → Pt (ts ++ us)) : EvPL G Ok K (tOp rCat ta tb) σ H Pt := fun H1 g Q q =>
  ha H1 g _ fun l xs ts H2 g2 ol hx rx ht => hb H2 (W.trans g g2) _ fun m ys us H3 g3 om hy ry hu => by
    have rx3 := ra_r (W.exr g3) rx
    refine ⟨l, m, xs, ys, rfl, rfl, W.kp g3 ol hx, hy, by rw [ra_len rx, ra_len ry]; exact sz_of (hl ts us ht hu), fun p hn => ?_⟩
    have g13 := W.trans g2 g3
    exact q p _ _ _ (W.trans g13 (W.ex (Ex.new hn))) (fr H3 p (W.trans g g13) hn) upd_same (ra_mono (Ex.new hn) (ra_app rx3 ry)) (hp ts us ht hu)
omit W in
theorem rp_tupI {H : Hp} {v : V} {ts : List Th} (h : Rp K H v (.tup ts)) : ∃ a xs, v = .ref a ∧ SqT K H a xs ∧ RpAll K H xs ts := rp_tup h
omit W in
theorem rp_ixT {ts : List Th} {i : Nat} (h : ts[i]? = some t) (hp : P t) : RP K (rIxT K) (.tup ts) (.int (i : Int)) P := fun v u H hv hu Q q => by
  obtain ⟨a, xs, rfl, hs, ha⟩ := rp_tup hv
  obtain ⟨w, hw, hd⟩ := ra_at ha h
  exact ⟨a, xs, i, w, rfl, rp_int hu, hs, atI_nat hw, q w t H (Ex.refl H) hd hp⟩
omit W in
theorem rp_catT {ts us : List Th} (hl : ts.length + us.length ≤ 100000) (hp : P (.tup (ts ++ us))) : RP K (rCatA K) (.tup ts) (.tup us) P := fun v u H hv hu Q q => by
  obtain ⟨a, xs, rfl, hs, ha⟩ := rp_tup hv
  obtain ⟨b, ys, rfl, ht, hb⟩ := rp_tup hu
  refine ⟨a, b, xs, ys, rfl, rfl, hs, ht, by rw [ra_len ha, ra_len hb]; exact sz_of hl, fun h => ?_, fun _ h => ?_, fun _ _ p hn => ?_⟩
  · subst h
    have : ts = [] := by have := ra_len ha; exact List.length_eq_zero_iff.mp this.symm
    subst this
    exact q _ _ H (Ex.refl H) (.tup ht hb) hp
  · subst h
    have : us = [] := by have := ra_len hb; exact List.length_eq_zero_iff.mp this.symm
    subst this
    rw [List.append_nil] at hp
    exact q _ _ H (Ex.refl H) (.tup hs ha) hp
  · exact q _ _ _ (Ex.new hn) (.tup (st_of upd_same) (ra_mono (Ex.new hn) (ra_app ha hb))) hp
omit W in
theorem rp_repT {ts : List Th} {k : Nat} (h0 : ts ≠ []) (h2 : 2 ≤ k) (h3 : k ≤ 1000) (hl : ts.length ≤ 1000) (hp : P (.tup (List.replicate k ts).flatten)) : RP K (rRepT K) (.tup ts) (.int (k : Int)) P := fun v u H hv hu Q q => by
  obtain ⟨a, xs, rfl, hs, ha⟩ := rp_tup hv
  refine ⟨a, k, xs, rfl, rp_int hu, hs, fun z => h0 ?_, by omega, by omega, by rw [ra_len ha]; exact hl, fun p hn => ?_⟩
  · subst z
    exact List.length_eq_zero_iff.mp (ra_len ha).symm
  · rw [Int.toNat_natCast]
    exact q _ _ _ (Ex.new hn) (.tup (st_of upd_same) (ra_mono (Ex.new hn) (ra_rep ha k))) hp
omit W in
theorem rp_I0 {g : Int → Int → Int} {i j : Int} (hp : P (.int (g i j))) : RP K (rI0 fun i j => .int (g i j)) (.int i) (.int j) P := fun v u H hv hu Q q => ⟨i, j, rp_int hv, rp_int hu, q _ _ H (Ex.refl H) (.int _) hp⟩
omit W in
theorem rp_I {C : Int → Int → Prop} {g : Int → Int → Int} {i j : Int} (hc : C i j) (hp : P (.int (g i j))) : RP K (rI C fun i j => .int (g i j)) (.int i) (.int j) P := fun v u H hv hu Q q => ⟨i, j, rp_int hv, rp_int hu, hc, q _ _ H (Ex.refl H) (.int _) hp⟩
/-- x[lo:hi] of a tuple; the parts come to ints -/
theorem p_cut {tl th : TO} {lo hi : Option Int} (h : EvP G K te σ H fun t => ∃ ts, t = .tup ts ∧ P (.tup ((ts.drop (HT.sIx ts.length 0 lo)).take (HT.sIx ts.length ts.length hi - HT.sIx ts.length 0 lo))))
    (hl : ∀ H1, G H H1 → ∀ Q : Option Int → Hp → Prop, (∀ H2, Ex H1 H2 → Q lo H2) → tl σ H1 Q) (hh : ∀ H1, G H H1 → ∀ Q : Option Int → Hp → Prop, (∀ H2, Ex H1 H2 → Q hi H2) → th σ H1 Q) : EvP G K (tSl (rSlA K) te tl th) σ H P := fun H1 g Q q =>
  h H1 g _ fun v t H2 g2 hv ht => hl H2 (W.trans g g2) _ fun H3 e3 => hh H3 (W.trans (W.trans g g2) (W.ex e3)) _ fun H4 e4 => by
    obtain ⟨ts, rfl, hp⟩ := ht
    obtain ⟨a, xs, rfl, hs, ha⟩ := rp_tup (rp_mono (e3.trans e4) hv)
    have hn : xs.length = ts.length := ra_len ha
    have g4 := W.trans g2 (W.ex (e3.trans e4))
    refine ⟨a, xs, rfl, hs, fun hw => ?_, fun hw p hp' => ?_⟩
    · rw [hn] at hw
      rw [hw.1, hw.2, List.drop_zero, Nat.sub_zero, List.take_of_length_le (Nat.le_refl _)] at hp
      exact q _ _ H4 g4 (.tup hs ha) hp
    · refine q _ _ _ (W.trans g4 (W.ex (Ex.new hp'))) (.tup (st_of upd_same) ?_) hp
      unfold cutV
      rw [hn]
      exact ra_mono (Ex.new hp') (ra_take _ (ra_drop _ ha))
/-- tuple(a list) -/
abbrev rTupOf (K : PySem.W.Frag) : List V → Hp → VK → Prop := fun xs H Q => ∃ p ys, xs = [.ref p] ∧ ((SqL K H p ys ∧ ∀ l, H l = none → Q (.ref l) (upd H l (.tup ys))) ∨ (SqT K H p ys ∧ Q (.ref p) H))
theorem p_tupL {Ps : List Th → Prop} (h : EvPL G Ok K te σ H Ps) (hp : ∀ ts, Ps ts → P (.tup ts)) :
    EvP G K (tCB (rTupOf K) (tCons te tNil)) σ H P := fun H1 g Q q =>
  h H1 g _ fun l xs ts H2 g2 _ hl hx ht => ⟨l, xs, rfl, .inl ⟨sq_of hl, fun m hm => q _ _ _ (W.trans g2 (W.ex (Ex.new hm))) (.tup (st_of upd_same) (ra_mono (Ex.new hm) hx)) (hp ts ht)⟩⟩
/-- list(a tuple) -/
theorem p_lstT (h : EvP G K te σ H fun t => ∃ ts, t = .tup ts) (hp : P (.odd .lst)) :
    EvP G K (tCB (fun xs H Q => ∃ p ys, xs = [.ref p] ∧ (SqL K H p ys ∨ SqT K H p ys) ∧ ∀ l, H l = none → Q (.ref l) (upd H l (.lst ys))) (tCons te tNil)) σ H P := fun H1 g Q q =>
  h H1 g _ fun v t H2 g2 hv ht => by
    obtain ⟨ts, rfl⟩ := ht
    obtain ⟨a, xs, rfl, hs, ha⟩ := rp_tup hv
    exact ⟨a, xs, rfl, .inr hs, fun l hn => q _ _ _ (W.trans g2 (W.ex (Ex.new hn))) (.lst (sq_of upd_same)) hp⟩
/-- xs[i], a list of things -/
theorem p_ixL {Ps : List Th → Prop} (ha : EvPL G Ok K ta σ H Ps) (hb : EvP G K tb σ H P') (hp : ∀ ts y, Ps ts → P' y → ∃ (i : Nat) (t : Th), y = .int (i : Int) ∧ ts[i]? = some t ∧ P t) : EvP G K (tOp (rIxL K) ta tb) σ H P := fun H1 g Q q =>
  ha H1 g _ fun l xs ts H2 g2 ol hl hx ht => hb H2 (W.trans g g2) _ fun u y H3 g3 hu hy => by
    obtain ⟨i, t, rfl, hi, hpt⟩ := hp ts y ht hy
    obtain ⟨w, hw, hd⟩ := ra_at (ra_r (W.exr g3) hx) hi
    exact ⟨l, xs, i, w, rfl, rp_int hu, sq_of (W.kp g3 ol hl), atI_nat hw, q w t H3 (W.trans g2 g3) hd hpt⟩
end
end TH

set_option Elab.async false
set_option linter.all false
set_option maxRecDepth 100000
set_option maxHeartbeats 4000000
namespace TH
open PySem PySem.Spec PyProof.Rows L2 Evl DL GX YA EX

/-! ### walks that digits may be drawn in -/
def WkG (G : Hp → Hp → Prop) {α : Type} (S : Hp → V → α → Prop) (J : It) (H : Hp) (as : List α) : Prop := ∃ (Gd : Hp → Prop) (Y : Nat → Hp → V → Hp → Prop), Walk J as.length Gd Y ∧ (∀ H1, G H H1 → Gd H1) ∧
  ∀ i H1 x H2, G H H1 → Y i H1 x H2 → G H1 H2 ∧ ∃ d, as[i]? = some d ∧ S H2 x d
def EvWG (G : Hp → Hp → Prop) {α : Type} (S : Hp → V → α → Prop) (wi : TI) (σ : L2.St) (H : Hp) (as : List α) : Prop := ∀ H1, G H H1 → ∀ R : It → Hp → Prop, (∀ J H2, G H1 H2 → WkG G S J H2 as → R J H2) → wi σ H1 R
section
variable {G : Hp → Hp → Prop} {Ok : Addr → Prop} {K : PySem.W.Frag} (W : Way G Ok) {σ : L2.St} {H H' : Hp} {te tl : TE} {v : V} {wi : TI} {g : TG}
include W
theorem wg_tup {ts : List Th} (h : EvP G K tl σ H fun t => t = .tup ts) : EvWG G (Rp K) (iTup K tl) σ H ts := fun H1 e R q => h H1 e _ fun v t H2 g2 hr ht => by
  subst ht
  obtain ⟨a, xs, rfl, hs, ha⟩ := rp_tup hr
  refine ⟨a, rfl, ⟨xs, hs⟩, q _ H2 g2 ⟨fun H3 => SqT K H3 a xs, YAt xs, by rw [← ra_len ha]; exact walk_tup (xs := xs), fun H3 g3 => hs.imp ((W.exr g3).tup _ _) id, fun i H3 x H4 g3 y => ?_⟩⟩
  obtain ⟨rfl, hx⟩ := y
  exact ⟨W.refl _, ra_get (ra_r (W.exr g3) ha) hx⟩
theorem wg_rng {n : Nat} (hn : n ≤ 100000) (h : EvP G K te σ H fun t => t = .int (n : Int)) : EvWG G (fun _ x (i : Nat) => x = .int (i : Int)) (iRng1 (tCons te tNil)) σ H (List.range n) := fun H1 e R q => h H1 e _ fun v t H2 g2 hr ht => by
  subst ht
  cases rp_int hr
  refine ⟨(n : Int), rfl, by omega, by omega, q _ H2 g2 ⟨fun _ => True, fun i H x H' => H' = H ∧ x = .int ((0 : Int) + (i : Nat)) ∧ i < n, ?_, fun H3 _ => trivial, fun i H3 x H4 e3 y => ?_⟩⟩
  · rw [List.length_range, Int.toNat_natCast]
    exact ⟨fun _ _ hi _ => hi, fun _ _ => Nat.le_refl _, fun _ _ _ _ hi _ y => ⟨y.1, y.2, hi⟩⟩
  · obtain ⟨rfl, rfl, hi⟩ := y
    exact ⟨W.refl _, i, List.getElem?_range hi, by rw [Int.zero_add]⟩
/-- over a list of things, whatever becomes of lists elsewhere: the walked one is ours -/
theorem wg_lst {Ps : List Th → Prop} {ts : List Th} (h : EvPL G Ok K tl σ H fun us => us = ts) : EvWG G (Rp K) (iList K tl) σ H ts := fun H1 e R q => h H1 e _ fun l xs us H2 g2 ol hl ha ht => by
  subst ht
  refine ⟨l, rfl, ⟨xs, sq_of hl⟩, q _ H2 g2 ⟨fun H3 => SqL K H3 l xs, YAt xs, by rw [← ra_len ha]; exact walk_list (xs := xs), fun H3 g3 => sq_of (W.kp g3 ol hl), fun i H3 x H4 g3 y => ?_⟩⟩
  obtain ⟨rfl, hx⟩ := y
  exact ⟨W.refl _, ra_get (ra_r (W.exr g3) ha) hx⟩
/-- [e for x in it], of things -/
theorem pl_lc {α : Type} {S : Hp → V → α → Prop} {vs : List Nat} {as : List α} (Pe : α → Th → Prop) (fr : Fr G Ok H) (hw : EvWG G S wi σ H as) (hz : as.length ≤ 40000)
    (hs : ∀ (i : Nat) (d : α) (x : V) (H1 : Hp), G H H1 → as[i]? = some d → S H1 x d → ∃ σ2, TgD g x (wipe σ vs) H1 σ2 ∧ wipe σ2 vs = wipe σ vs ∧ EvP G K te σ2 H1 (Pe d)) :
    EvPL G Ok K (tLc wi g tYes te vs) σ H (fun ts => ts.length = as.length ∧ ∀ (j : Nat) (t : Th) (d : α), ts[j]? = some t → as[j]? = some d → Pe d t) := fun H0 g0 Q q => hw H0 g0 _ fun J H1 g1 wk D hD => by
  obtain ⟨Gd, Y, wlk, hG, hY⟩ := wk
  have oD : Ok D := fr H1 D (W.trans g0 g1) hD
  refine lc_it (σ := σ) wlk (fun i H' => G H1 H' ∧ ∃ xs ts, H' D = some (.lst xs) ∧ RpAll K H' xs ts ∧ ts.length = i ∧ ∀ (j : Nat) (t : Th) (d : α), ts[j]? = some t → as[j]? = some d → Pe d t)
    ⟨W.ex (Ex.new hD), [], [], upd_same, .nil, rfl, fun j t d h => by simp at h⟩ (fun i H' _ p => hG H' p.1) (fun i x H2 H3 hi p y => ?_) (fun H' p => ?_)
  · obtain ⟨gi, xs, ts, hx, ha, hl, hp⟩ := p
    obtain ⟨gy, d, hd, hS⟩ := hY i H2 x H3 gi y
    obtain ⟨σ2, tg, hwp, he⟩ := hs i d x H3 (W.trans (W.trans g0 g1) (W.trans gi gy)) hd hS
    refine tg H3 (Ex.refl H3) _ ⟨hwp, ?_⟩
    show te σ2 H3 _
    refine he H3 (W.refl H3) _ fun v t H5 g5 hv ht => ?_
    have g35 := W.trans gy g5
    have xD : H5 D = some (.lst xs) := W.kp g35 oD hx
    have hxl : xs.length = i := by rw [ra_len ha, hl]
    refine ⟨xs, xD, sz_lt (by omega), W.put (W.trans gi g35) hD xD, xs ++ [v], ts ++ [t], upd_same, ra_r (exr_upd xD) (ra_app (ra_r (W.exr g35) ha) (.cons hv .nil)), by rw [List.length_append, hl]; rfl, fun j t' d' h1 h2 => ?_⟩
    by_cases hj : j < i
    · rw [List.getElem?_append_left (by omega)] at h1
      exact hp j t' d' h1 h2
    · rw [List.getElem?_append_right (by omega)] at h1
      have hj2 : j = i := by
        cases hh : j - ts.length with
        | zero => omega
        | succ m => rw [hh] at h1; simp at h1
      subst hj2
      rw [hl, Nat.sub_self] at h1
      simp at h1
      subst h1
      rw [hd] at h2
      cases h2
      exact ht
  · obtain ⟨gi, xs, ts, hx, ha, hl, hp⟩ := p
    exact q D xs ts H' (W.trans g1 gi) oD hx ha ⟨hl, hp⟩
end
/-! ### for, over a walk told by a relation -/
section
variable {σ : L2.St} {H : Hp} {wi : TI} {g : TG} {tu tz : TS} {D : Ends} {K : PySem.W.Frag} {te : TE}
theorem q_forW {α : Type} {S : Hp → V → α → Prop} {as : List α} (hw : EvWR S wi σ H as) (Pv : Hp → Nat → L2.St → Hp → Prop) (h0 : ∀ H1, Ex H H1 → Pv H1 0 σ H1) (hx : ∀ H1 i σ' H', Pv H1 i σ' H' → Ex H1 H')
    (hs : ∀ (H1 : Hp) (i : Nat) (d : α) (x : V) (σ' : L2.St) (H' H2 : Hp), Ex H H1 → as[i]? = some d → Pv H1 i σ' H' → Ex H' H2 → S H2 x d → ∃ σ2, TgD g x σ' H2 σ2 ∧ tu { D with nx := Pv H1 (i + 1), ct := Pv H1 (i + 1), bk := tz D } σ2 H2) (hd : ∀ H1 σ' H', Ex H H1 → Pv H1 as.length σ' H' → tz D σ' H') :
    tSeq (tFor wi g tu) tz D σ H := hw H (Ex.refl H) _ fun J H1 e1 wk => by
  obtain ⟨Gd, Y, wlk, hG, hY⟩ := wk
  refine for_it (D := { D with nx := tz D }) wlk (Pv H1) (h0 H1 e1) (fun i σ' H' _ p => hG H' (hx _ _ _ _ p)) (fun i x σ' H2 H3 hi p y => ?_) (fun σ' H' p => hd H1 σ' H' e1 p)
  obtain ⟨ey, d, hd', hS⟩ := hY i H2 x H3 (hx _ _ _ _ p) y
  obtain ⟨σ2, tg, hu⟩ := hs H1 i d x σ' H2 H3 e1 hd' p ey hS
  exact tg H3 (Ex.refl H3) _ hu
/-- [e for x in it], of data -/
theorem ed_lcR {α : Type} {S : Hp → V → α → Prop} {vs : List Nat} {as : List α} (f : α → PyData) (hw : EvWR S wi σ H as) (hz : as.length ≤ 40000)
    (hs : ∀ (i : Nat) (d : α) (x : V) (H1 : Hp), Ex H H1 → as[i]? = some d → S H1 x d → ∃ σ2, TgD g x (wipe σ vs) H1 σ2 ∧ wipe σ2 vs = wipe σ vs ∧ noL (f d) = true ∧ EvD K te σ2 H1 (f d)) :
    EvD K (tLc wi g tYes te vs) σ H (.list (as.map f)) := fun H0 e0 Q q => hw H0 e0 _ fun J H1 e1 wk D hD => by
  obtain ⟨Gd, Y, wlk, hG, hY⟩ := wk
  refine lc_it (σ := σ) wlk (fun i H' => Ex H1 H' ∧ noLs ((as.take i).map f) = true ∧ ∃ xs, H' D = some (.lst xs) ∧ xs.length ≤ i ∧ DpAll K H' xs ((as.take i).map f))
    ⟨Ex.new hD, rfl, [], upd_same, Nat.le_refl _, .nil⟩ (fun i H' _ p => hG H' p.1) (fun i x H2 H3 hi p y => ?_) (fun H' p => ?_)
  · obtain ⟨ex, hn, xs, hx, hl, ha⟩ := p
    obtain ⟨ey, d, hd, hS⟩ := hY i H2 x H3 ex y
    obtain ⟨σ2, tg, hwp, hno, he⟩ := hs i d x H3 ((e0.trans e1).trans (ex.trans ey)) hd hS
    refine tg H3 (Ex.refl H3) _ ⟨hwp, ?_⟩
    show te σ2 H3 _
    refine he H3 (Ex.refl H3) _ fun v H5 e5 hv => ?_
    have tk : as.take (i + 1) = as.take i ++ [d] := by rw [List.take_add_one, hd]; rfl
    have xD : H5 D = some (.lst xs) := e5 _ _ (ey _ _ hx)
    refine ⟨xs, xD, sz_lt (by omega), Ex.mut (ex.trans (ey.trans e5)) hD, ?_, xs ++ [v], upd_same, by rw [List.length_append]; show xs.length + 1 ≤ i + 1; omega, ?_⟩
    · rw [tk, List.map_append]
      exact noLs_snoc hn hno
    · rw [tk, List.map_append]
      exact da_monoT (ext_upd xD) (noLs_snoc hn hno) (da_snoc (da_mono (ey.trans e5) ha) hv)
  · obtain ⟨ex, hn, xs, hx, hl, ha⟩ := p
    rw [List.take_of_length_le (Nat.le_refl _)] at ha
    exact q (.ref D) H' (e1.trans ex) (.lst (sq_of hx) ha)
/-- all([e for x in it]) -/
theorem ev_allL {α : Type} {S : Hp → V → α → Prop} {vs : List Nat} {as : List α} (f : α → Bool) (hw : EvWR S wi σ H as) (hz : as.length ≤ 40000)
    (hs : ∀ (i : Nat) (d : α) (x : V) (H1 : Hp), Ex H H1 → as[i]? = some d → S H1 x d → ∃ σ2, TgD g x (wipe σ vs) H1 σ2 ∧ wipe σ2 vs = wipe σ vs ∧ Ev te σ2 H1 (.bl (f d))) :
    Ev (tCB (rAll K) (tCons (tLc wi g tYes te vs) tNil)) σ H (.bl (as.all f)) := by
  have z := ed_lcR (K := K) (g := g) (te := te) (vs := vs) (fun d => .bool (f d)) hw hz fun i d x H1 e hd hS => by
    obtain ⟨σ2, a, b, c⟩ := hs i d x H1 e hd hS
    exact ⟨σ2, a, b, rfl, ed_bool c⟩
  have e : as.map (fun d => PyData.bool (f d)) = (as.map f).map .bool := by rw [List.map_map]; rfl
  rw [e] at z
  have r := ev_bool (ed_cbt (eda_cons z eda_nil) rdc_all)
  rwa [List.all_map] at r
end
end TH

set_option Elab.async false
set_option linter.all false
set_option maxRecDepth 100000
set_option maxHeartbeats 4000000
/-! What is asked of things of any kind, in plain words. -/
namespace TV
open PySem PySem.Spec PyProof.Rows L2 Evl DL GX YA EX TH
/-! ### what is asked -/
def isWhole : Th → Bool
  | .int _ => true
  | _ => false
def asInt : Th → Int
  | .int i => i
  | _ => 0
def isWithin (t : Th) (lo hi : Int) : Bool := isWhole t && (decide (lo ≤ asInt t) && decide (asInt t ≤ hi))
def parts : Th → List Th
  | .tup ts => ts
  | _ => []
def isTup (t : Th) : Bool := isIn t "tuple"
def isTupleOf (t : Th) (lo hi : Int) : Bool := isTup t && (decide (lo ≤ ((parts t).length : Int)) && decide (((parts t).length : Int) ≤ hi))
theorem whole_in (t : Th) : (isIn t "int" && !isIn t "bool") = isWhole t := by
  cases t with
  | odd o => cases o <;> rfl
  | _ => rfl
theorem tup_of {t : Th} (h : isTup t = true) : ∃ ts, t = .tup ts := by
  cases t with
  | tup ts => exact ⟨ts, rfl⟩
  | odd o => cases o <;> cases h
  | _ => cases h
theorem int_of {t : Th} (h : isWhole t = true) : ∃ i, t = .int i := by
  cases t with
  | int i => exact ⟨i, rfl⟩
  | _ => cases h
theorem int_within {t : Th} {lo hi : Int} (h : isWithin t lo hi = true) : ∃ i, t = .int i ∧ lo ≤ i ∧ i ≤ hi := by
  unfold isWithin at h
  rw [Bool.and_eq_true, Bool.and_eq_true] at h
  obtain ⟨i, rfl⟩ := int_of h.1
  exact ⟨i, rfl, of_decide_eq_true h.2.1, of_decide_eq_true h.2.2⟩
theorem tup_len {t : Th} {lo hi : Int} (h : isTupleOf t lo hi = true) : ∃ ts, t = .tup ts ∧ lo ≤ (ts.length : Int) ∧ (ts.length : Int) ≤ hi := by
  unfold isTupleOf at h
  rw [Bool.and_eq_true, Bool.and_eq_true] at h
  obtain ⟨ts, rfl⟩ := tup_of h.1
  exact ⟨ts, rfl, of_decide_eq_true h.2.1, of_decide_eq_true h.2.2⟩
def Tb (Ps : List Addr) (H : Hp) : Prop := ∀ P ∈ Ps, H P = some (TabE P)
theorem Tb.ex {Ps : List Addr} {H H' : Hp} (e : Ex H H') (h : Tb Ps H) : Tb Ps H' := fun P hp => e _ _ (h P hp)
/-- a def of things that tells a truth, where F says which -/
def spF (K : PySem.W.Frag) (Ps : List Addr) (F : List Th → Option Bool) : Sp := fun vs H Q _ => ∃ ts b, RpAll K H vs ts ∧ F ts = some b ∧ Tb Ps H ∧ ∀ H', Ex H H' → Q (.bl b) H'
section
variable {K : PySem.W.Frag} {Ps : List Addr} {σ : L2.St} {H : Hp} {te : TE} {D : Ends}
theorem ev_callF {F : List Th → Option Bool} {ta : TA} {E : XK} {vs : List V} {ts : List Th} {b : Bool} (ha : EvA ta σ H vs) (hr : RpAll K H vs ts) (hF : F ts = some b) (hT : Tb Ps H) : Ev (tCall (spF K Ps F) [] E ta) σ H (.bl b) := fun H1 e Q q =>
  ha H1 e _ fun H2 e2 => ⟨ts, b, by rw [List.append_nil]; exact ra_mono (e.trans e2) hr, hF, hT.ex (e.trans e2), fun H3 e3 => q H3 (e2.trans e3)⟩
theorem sr_ret {v : V} (h : Ev te σ H v) (k : ∀ H1, Ex H H1 → D.rt v H1) : tRet te D σ H := h H (Ex.refl H) _ fun H1 e => k H1 e
theorem len_spF {F : List Th → Option Bool} {n : Nat} (hn : ∀ ts b, F ts = some b → ts.length = n) : ∀ vs H Q E, spF K Ps F vs H Q E → vs.length = n := fun vs H Q E h => by
  obtain ⟨ts, b, hr, hF, _⟩ := h
  rw [ra_len hr]
  exact hn ts b hF
end
theorem f3_is {g : Th → Int → Int → Bool} {F : List Th → Option Bool} (hF : ∀ ts, F ts = match ts with | [t, .int a, .int b] => some (g t a b) | _ => none) {ts : List Th} {b : Bool} (h : F ts = some b) : ∃ t lo hi, ts = [t, .int lo, .int hi] ∧ b = g t lo hi := by
  rw [hF] at h
  split at h
  · exact ⟨_, _, _, rfl, (Option.some.inj h).symm⟩
  · cases h
theorem f2_is {g : Th → Int → Bool} {F : List Th → Option Bool} (hF : ∀ ts, F ts = match ts with | [t, .int a] => some (g t a) | _ => none) {ts : List Th} {b : Bool} (h : F ts = some b) : ∃ t n, ts = [t, .int n] ∧ b = g t n := by
  rw [hF] at h
  split at h
  · exact ⟨_, _, rfl, (Option.some.inj h).symm⟩
  · cases h
theorem f1_is {g : Th → Bool} {F : List Th → Option Bool} (hF : ∀ ts, F ts = match ts with | [t] => some (g t) | _ => none) {ts : List Th} {b : Bool} (h : F ts = some b) : ∃ t, ts = [t] ∧ b = g t := by
  rw [hF] at h
  split at h
  · exact ⟨_, rfl, (Option.some.inj h).symm⟩
  · cases h
def fn1 (g : Th → Bool) : List Th → Option Bool := fun ts => match ts with | [t] => some (g t) | _ => none
def fn2 (g : Th → Int → Bool) : List Th → Option Bool := fun ts => match ts with | [t, .int a] => some (g t a) | _ => none
def fn3 (g : Th → Int → Int → Bool) : List Th → Option Bool := fun ts => match ts with | [t, .int a, .int b] => some (g t a b) | _ => none
theorem fn1_is {g : Th → Bool} {ts : List Th} {b : Bool} (h : fn1 g ts = some b) : ∃ t, ts = [t] ∧ b = g t := f1_is (fun _ => rfl) h
theorem fn2_is {g : Th → Int → Bool} {ts : List Th} {b : Bool} (h : fn2 g ts = some b) : ∃ t n, ts = [t, .int n] ∧ b = g t n := f2_is (fun _ => rfl) h
theorem fn3_is {g : Th → Int → Int → Bool} {ts : List Th} {b : Bool} (h : fn3 g ts = some b) : ∃ t lo hi, ts = [t, .int lo, .int hi] ∧ b = g t lo hi := f3_is (fun _ => rfl) h
section
variable {K : PySem.W.Frag}
theorem ra1 {H : Hp} {vs : List V} {t : Th} (h : RpAll K H vs [t]) : ∃ v, vs = [v] ∧ Rp K H v t := by
  cases h with
  | cons h1 h2 =>
    cases h2
    exact ⟨_, rfl, h1⟩
theorem ra2 {H : Hp} {vs : List V} {t u : Th} (h : RpAll K H vs [t, u]) : ∃ v w, vs = [v, w] ∧ Rp K H v t ∧ Rp K H w u := by
  cases h with
  | cons h1 h2 =>
    obtain ⟨w, rfl, h3⟩ := ra1 h2
    exact ⟨_, w, rfl, h1, h3⟩
theorem ra3 {H : Hp} {vs : List V} {t u x : Th} (h : RpAll K H vs [t, u, x]) : ∃ v w y, vs = [v, w, y] ∧ Rp K H v t ∧ Rp K H w u ∧ Rp K H y x := by
  cases h with
  | cons h1 h2 =>
    obtain ⟨w, y, rfl, h3, h4⟩ := ra2 h2
    exact ⟨_, w, y, rfl, h1, h3, h4⟩
end
theorem all_no {α : Type} {as : List α} {f : α → Bool} {i : Nat} {d : α} (h : as[i]? = some d) (hf : f d = false) : as.all f = false := by
  rw [List.all_eq_false]
  exact ⟨d, List.mem_of_getElem? h, by rw [hf]; exact Bool.false_ne_true⟩
theorem all_take {α : Type} {as : List α} {f : α → Bool} {i : Nat} {d : α} (h : as[i]? = some d) (h0 : (as.take i).all f = true) (hf : f d = true) : (as.take (i + 1)).all f = true := by
  rw [List.take_add_one, h, List.all_append, h0]
  simp [hf]
theorem tb_nil {H : Hp} : Tb [] H := fun P h => nomatch h
end TV

set_option Elab.async false
set_option linter.all false
set_option maxRecDepth 100000
set_option maxHeartbeats 4000000
/-! t[::-1], t a tuple. -/
namespace EX
open PySem PySem.Spec PyProof.Rows L2 Evl DL GX YA TH
section
variable {prog : Program} {w : World} {A : Around} {E : Value → Shared → Prop} {s : Shared}
theorem turned_pick (xs : Array Value) : ((List.range xs.size).filterMap fun (m : Nat) => xs[(((xs.size : Int) - 1) + (m : Int) * -1).toNat]?).toArray = xs.toList.reverse.toArray := by
  have e0 : (List.range xs.size).map (fun (m : Nat) => (((xs.size : Int) - 1) + (m : Int) * -1).toNat) = (List.range xs.size).map fun m => xs.size - 1 - m := List.map_congr_left fun m hm => by
    have hl := List.mem_range.mp hm
    omega
  have e1 : (List.range xs.size).filterMap (fun (m : Nat) => xs[(((xs.size : Int) - 1) + (m : Int) * -1).toNat]?) = ((List.range xs.size).map fun (m : Nat) => (((xs.size : Int) - 1) + (m : Int) * -1).toNat).filterMap (xs[·]?) := by rw [List.filterMap_map]; rfl
  rw [e1, e0, PySem.W.krv_range, List.filterMap_reverse, PySem.W.krv_all]
theorem applied_turned {sl : Addr} {vl vu vs : Value} {n : Nat} {Q : Int × Int × Nat → Shared → Prop} (hs : s.heap.IsSliceOf sl vl vu vs) (pl : IsPart vl none) (pu : IsPart vu none) (ps : IsPart vs (some (-1))) (h : Q ((n : Int) - 1, -1, n) s) :
    wpAny (model prog w) A (Builtin.Slice.sliceApplied (.ref sl) (pure (n : Int))) Q E s := by
  obtain ⟨os, hos, hcs, hds⟩ := id hs
  unfold Builtin.Slice.sliceApplied Builtin.Slice.sliceFields
  refine wpAny_bind (wpAny_bind (wpAny_field hos hds (x := vl) rfl (wpAny_bind (wpAny_field hos hds (x := vu) rfl (wpAny_bind (wpAny_field hos hds (x := vs) rfl (wpAny_pure ?_)))))))
  refine wpAny_bind (HT.slicePart_ ps ?_)
  show wpAny _ _ (if ((-1 : Int) == 0) = true then _ else _) _ _ s
  rw [if_neg (by decide)]
  refine wpAny_bind (HT.slicePart_ pl (wpAny_bind (HT.slicePart_ pu (wpAny_bind (wpAny_pure ?_)))))
  have e1 : Builtin.Slice.sliceAdjust none none (-1) (n : Int) = ((n : Int) - 1, -1) := rfl
  show wpAny _ _ (match Builtin.Slice.sliceAdjust none none (-1) (n : Int) with | (lo, hi) => pure (lo, (-1 : Int), Builtin.Slice.slicePlaces lo hi (-1))) _ _ s
  rw [e1]
  have e2 : Builtin.Slice.slicePlaces ((n : Int) - 1) (-1) (-1) = n := by
    unfold Builtin.Slice.slicePlaces
    rw [if_neg (by decide)]
    by_cases hn : (n : Int) - 1 > -1
    · rw [if_pos hn, show (- -1 : Int) = 1 by decide, Int.ediv_one]
      omega
    · rw [if_neg hn]
      omega
  show wpAny _ _ (pure ((n : Int) - 1, (-1 : Int), Builtin.Slice.slicePlaces ((n : Int) - 1) (-1) (-1))) _ _ s
  rw [e2]
  exact wpAny_pure h
theorem tuple_turned {t sl : Addr} {items : Array Value} {vl vu vs : Value} {Q : Value → Shared → Prop} (ht : IsTup s.heap t items) (hs : s.heap.IsSliceOf sl vl vu vs) (pl : IsPart vl none) (pu : IsPart vu none) (ps : IsPart vs (some (-1)))
    (h : Q (.ref s.heap.objs.size) { s with heap := s.heap.push { cls := .type "tuple", data := .seq items.toList.reverse.toArray } }) (hsz : items.size ≤ sizeLine) : wpAny (model prog w) A (getItem (.ref t) (.ref sl)) Q E s := by
  have fits : sizeOk (.seq items.toList.reverse.toArray) := by
    show items.toList.reverse.toArray.size ≤ sizeLine
    rw [List.size_toArray, List.length_reverse, Array.length_toList]
    exact hsz
  obtain ⟨os, hos, hcs, hds⟩ := id hs
  have hTs : s.TypeIs (.ref sl) "slice" := ⟨os, hos, hcs⟩
  unfold getItem
  try with_reducible refine wpAny_holding ?_
  first | refine wpAny_bind (wpAny_pure ?_) | skip
  refine wpAny_bind (wpAny_sequenceKey ht.typeIs (by decide) (wpAny_bind (wpAny_callSpecial?_slot (name := Str.ofString "__getitem__") ht.typeIs PyProof.Rows.slot_tuple_getitem
    (wpAny_call_entry PyProof.Rows.slot_tuple_getitem ht.typeIs entry_tuple_getitem ?_ (args_tuple_getitem _ _)))))
  show wpAny _ _ (Builtin.Tuple.tupleItemsOf (.ref t) >>= _) _ _ s
  refine wpAny_bind (tupleItemsOf_ ht (wpAny_bind (wpAny_typeOf hTs ?_)))
  rw [if_pos (by decide)]
  refine wpAny_bind (applied_turned hs pl pu ps ?_)
  show wpAny _ _ (if (((items.size : Int) - 1) == 0 && (-1 : Int) == 1 && items.size == items.size) = true then _ else _) _ _ s
  rw [if_neg (by simp), turned_pick]
  first
    | exact wpAny_bind (m := Builtin.Tuple.tupleExact _) (wpAny_newObj_type (wpAny_pure ⟨_, rfl, wpAny_pure h⟩) fits)
    | exact wpAny_bind (m := Builtin.Tuple.tupleExact _) (wpAny_newObj_type (wpAny_bind (wpAny_pure (wpAny_pure ⟨_, rfl, wpAny_pure h⟩))) fits)
    | exact wpAny_bind (wpAny_bind (m := Builtin.Tuple.tupleExact _) (wpAny_newObj_type (wpAny_pure (wpAny_pure ⟨_, rfl, wpAny_pure h⟩)) fits))
    | exact wpAny_bind (wpAny_bind (m := Builtin.Tuple.tupleExact _) (wpAny_newObj_type (wpAny_pure ⟨_, rfl, wpAny_pure h⟩) fits))
end
def tRevT (K : PySem.W.Frag) (te : TE) : TE := fun σ H Q => te σ H fun x H1 => ∃ a xs, x = .ref a ∧ SqT K H1 a xs ∧ ∀ p, H1 p = none → Q (.ref p) (upd H1 p (.tup xs.reverse))
theorem pe_revT {X : Cx} {e : Expr} {te : TE} {k : Nat} {p1 p2 p3 pos : Pos} (he : PE X e te) : PE X (.Subscript e (.Slice none none (some (.UnaryOp .USub (.Constant (.int 1) k p1) p2)) p3) pos) (tRevT X.K te) := by
  refine ⟨fun pins s σ H Q I h => Subscript_ (thn (he.run pins s σ H _ I h) fun v s1 ⟨x, H1, I1, r1, a, xs, ex, hx, q⟩ => ?_)⟩
  subst ex
  cases r1
  have back : PO X (some (.UnaryOp .USub (.Constant (.int 1) k p1) p2)) (tPart (tUn (rU fun i => .int (-i)) (tC (.int 1)))) := po_some (pe_un un_neg pe_int)
  refine wpAny_Slice (thn (po_none.run pins s1 σ H1 (fun o H2 => o = none ∧ H2 = H1) I1 ⟨rfl, rfl⟩) fun vl s2 ⟨l, H2, I2, pl, el, e2⟩ => ?_)
  subst el e2
  refine thn (po_none.run pins s2 σ H2 (fun o H3 => o = none ∧ H3 = H2) I2 ⟨rfl, rfl⟩) fun vu s3 ⟨u, H3, I3, pu, eu, e3⟩ => ?_
  subst eu e3
  refine thn (back.run pins s3 σ H3 (fun o H4 => o = some (-1) ∧ H4 = H3) I3 ⟨1, rfl, -1, rfl, rfl, rfl⟩) fun vs s4 ⟨o, H4, I4, ps, eo, e4⟩ => ?_
  subst eo e4
  have I5 : Inv X pins σ H4 { s4 with heap := s4.heap.push { cls := .type "slice", data := .fields #[vl, vu, vs] } } := I4.kept (t' := s4.toks) fun b ob z => Heap.get?_push_of_some _ z
  obtain ⟨its, r, ht, hz⟩ := I5.tuple hx
  have hlen : its.length = xs.length := r.length.symm
  show wpAny (model X.prog X.w) X.A (subscriptTail e (.Slice none none (some (.UnaryOp .USub (.Constant (.int 1) k p1) p2)) p3) (.ref a) (.ref s4.heap.objs.size)) (EP X pins σ Q) X.xe { s4 with heap := s4.heap.push { cls := .type "slice", data := .fields #[vl, vu, vs] } }
  refine tail_any (ops := [.ref a, .ref s4.heap.objs.size]) ht.typeIs (PyProof.Rows.slot_tuple_getitem.lookup) ?_ (by with_unfolding_all rfl)
  refine tuple_turned ht (Heap.IsSliceOf.new _ vl vu vs) pl pu ps ?_ (by rw [List.size_toArray]; omega)
  refine ⟨.ref _, _, I5.laid (t' := s4.toks) (o := .tup xs.reverse) (fun b ob z => Heap.get?_push_of_some _ z) (Nat.le_refl _) ?_, rfl, q _ (I5.hok.fresh (Nat.le_refl _))⟩
  exact ⟨by rw [List.length_reverse]; exact hz, _, r.reverse, IsTup.new _ _⟩
theorem p_rev {G : Hp → Hp → Prop} {Ok : Addr → Prop} {K : PySem.W.Frag} (W : Way G Ok) {σ : L2.St} {H : Hp} {te : TE} {P : Th → Prop} (h : EvP G K te σ H fun t => ∃ ts, t = .tup ts ∧ P (.tup ts.reverse)) : EvP G K (tRevT K te) σ H P := fun H1 g Q q =>
  h H1 g _ fun v t H2 g2 hv ht => by
    obtain ⟨ts, rfl, hp⟩ := ht
    obtain ⟨a, xs, rfl, hs, ha⟩ := rp_tup hv
    exact ⟨a, xs, rfl, hs, fun p hn => q _ _ _ (W.trans g2 (W.ex (Ex.new hn))) (.tup (st_of upd_same) (ra_mono (Ex.new hn) (ra_rev ha))) hp⟩
end EX

set_option Elab.async false
set_option linter.all false
set_option maxRecDepth 100000
set_option maxHeartbeats 4000000
namespace TH
open PySem PySem.Spec PyProof.Rows L2 Evl DL GX YA EX TV

/-! ### pure things and their data -/
def okN : Nat → Th → Bool
  | 0, _ => false
  | _ + 1, .none => true
  | _ + 1, .bool _ => true
  | _ + 1, .int _ => true
  | _ + 1, .str s => PyData.strOk s
  | n + 1, .tup ts => decide (ts.length ≤ 20) && ts.all (okN n)
  | _ + 1, .odd _ => false
mutual
def thD : Th → PyData
  | .none => .none
  | .bool b => .bool b
  | .int i => .int i
  | .str s => .str s
  | .tup ts => .tuple (thDs ts)
  | .odd _ => .none
def thDs : List Th → List PyData
  | [] => []
  | t :: ts => thD t :: thDs ts
end
theorem dp_of {K : PySem.W.Frag} {H : Hp} : ∀ (n : Nat) {t : Th} {v : V}, okN n t = true → Rp K H v t → Dp K H v (thD t)
  | 0, _, _, h, _ => nomatch h
  | n + 1, t, v, h, hr => by
    cases hr with
    | non => exact .non
    | bl b => exact .bl b
    | int i => exact .int i
    | str s => exact .str s
    | @tup a xs ts hs ha =>
      have h2 : ts.all (okN n) = true := by
        have z : (decide (ts.length ≤ 20) && ts.all (okN n)) = true := h
        exact (Bool.and_eq_true_iff.mp z).2
      refine .tup hs ?_
      clear h hs
      induction ts generalizing xs with
      | nil => cases ha; exact .nil
      | cons t ts ih =>
        rw [List.all_cons, Bool.and_eq_true] at h2
        cases ha with
        | cons h1 hrest => exact .cons (dp_of n h2.1 h1) (ih hrest h2.2)
    | lst hs => nomatch h
    | dct hs => nomatch h
    | dctT hs => nomatch h
theorem lay_of : ∀ (n : Nat) {t : Th}, okN n t = true → PyData.canLay0 (thD t) = true ∧ (thD t).depth ≤ n
  | 0, _, h => nomatch h
  | n + 1, t, h => by
    cases t with
    | none => exact ⟨rfl, Nat.zero_le _⟩
    | bool b => exact ⟨rfl, Nat.zero_le _⟩
    | int i => exact ⟨rfl, Nat.zero_le _⟩
    | str s => exact ⟨h, Nat.zero_le _⟩
    | tup ts =>
      have h2 : ts.all (okN n) = true := by
        have z : (decide (ts.length ≤ 20) && ts.all (okN n)) = true := h
        exact (Bool.and_eq_true_iff.mp z).2
      have all : PyData.canLayAll0 (thDs ts) = true ∧ PyData.depthAll (thDs ts) ≤ n := by
        clear h
        induction ts with
        | nil => exact ⟨rfl, Nat.zero_le _⟩
        | cons t ts ih =>
          rw [List.all_cons, Bool.and_eq_true] at h2
          obtain ⟨a, b⟩ := lay_of n h2.1
          obtain ⟨c, d⟩ := ih h2.2
          refine ⟨?_, ?_⟩
          · show (PyData.canLay0 (thD t) && PyData.canLayAll0 (thDs ts)) = true
            rw [a, c]
            rfl
          · show max (thD t).depth (PyData.depthAll (thDs ts)) ≤ n
            omega
      exact ⟨all.1, Nat.succ_le_succ all.2⟩
    | odd o => nomatch h
theorem shaped_of {n : Nat} {t : Th} (h : okN n t = true) (hn : n ≤ 64) : SeqAt.shaped (thD t) = true := by
  obtain ⟨a, b⟩ := lay_of n h
  unfold SeqAt.shaped
  rw [a, decide_eq_true (show (thD t).depth ≤ 64 by omega)]
  rfl
/-! ### sum of a tuple of ints -/
def rSumT (K : PySem.W.Frag) : List V → Hp → VK → Prop := fun vs H Q => ∃ (a : Addr) (ns : List Int), vs = [V.ref a] ∧ SqT K H a (ns.map V.int) ∧ Q (.int ns.sum) H
theorem cr_sumT {X : Cx} (hc : X.calm = true) : CallR X (.builtin "sum") (rSumT X.K) := by
  intro pins s σ H vs us Q I rel h
  obtain ⟨a, ns, rfl, hs, q⟩ := h
  obtain ⟨its, rv, hT, _⟩ := I.tuple hs
  rw [Vals.ref1 rel]
  have hi : IntsAre its ns := rv.ints
  have hl : s.heap.IsTuple a its.toArray := hT
  obtain ⟨xs, e⟩ := hi.allInts.items
  have hn : numsOf (intItems xs).toList = ns := by
    rw [← e]
    exact hi.numsOf
  rw [nums_intItems] at hn
  rw [e] at hl
  refine PySem.W.ktm_sumG (I.ok.hd hc) hl fun h' tk t' hk => ?_
  rw [preSum_eq, List.take_of_length_le (by simp), hn]
  exact ⟨.int _, H, I.kept hk, ⟨_, rfl⟩, q⟩
/-! ### tests, steps -/
def EvTG (G : Hp → Hp → Prop) (tt : TT) (σ : L2.St) (H : Hp) (P : Bool → Prop) : Prop := ∀ H1, G H H1 → ∀ Q : Bool → Hp → Prop, (∀ b H2, G H1 H2 → P b → Q b H2) → tt σ H1 Q
section
variable {G : Hp → Hp → Prop} {Ok : Addr → Prop} {K : PySem.W.Frag} (W : Way G Ok) {σ : L2.St} {H H' : Hp} {te : TE} {P : Th → Prop} {t u : TT} {Pa Pb Pc : Bool → Prop} {v : V} {D : Ends} {tu tw tz : TS}
theorem tg_B (h : EvP G K te σ H fun t => ∃ b, t = .bool b ∧ Pa b) : EvTG G (tB te) σ H Pa := fun H1 g Q q => h H1 g _ fun v t H2 g2 hr hp => by
  obtain ⟨b, rfl, hb⟩ := hp
  cases hr
  exact ⟨b, rfl, q b H2 g2 hb⟩
theorem tg_T (h : EvP G K te σ H fun t => ∃ b, t = .bool b ∧ Pa b) : EvTG G (tTest te) σ H Pa := fun H1 g Q q => h H1 g _ fun v t H2 g2 hr hp => by
  obtain ⟨b, rfl, hb⟩ := hp
  cases hr
  exact ⟨b, rfl, q b H2 g2 hb⟩
include W
theorem tg_and (h1 : EvTG G t σ H Pa) (h2 : Pa true → EvTG G u σ H Pb) (k1 : ∀ b, Pa true → Pb b → Pc b) (k2 : Pa false → Pc false) : EvTG G (tAnd t u) σ H Pc := fun H1 g Q q => h1 H1 g _ fun b H2 g2 hb => by
  cases b with
  | true =>
    show u σ H2 Q
    exact h2 hb H2 (W.trans g g2) Q fun b H3 g3 hb3 => q b H3 (W.trans g2 g3) (k1 b hb hb3)
  | false => exact q false H2 g2 (k2 hb)
theorem q_whenG (h : EvTG G t σ H Pa) (h1 : ∀ H1, G H H1 → Pa true → tu { D with nx := tz D } σ H1) (h2 : ∀ H1, G H H1 → Pa false → tz D σ H1) : tSeq (tIfS t tu tNext) tz D σ H := h H (W.refl H) _ fun b H1 g hb => by
  cases b with
  | true => exact h1 H1 g hb
  | false => exact h2 H1 g hb
theorem q_asgP {i : Nat} (h : EvP G K te σ H P) (k : ∀ v t H1, G H H1 → Rp K H1 v t → P t → tz D (σ.set i (some v)) H1) : tSeq (tAsg te (gName i)) tz D σ H := h H (W.refl H) _ fun v t H1 g hr hp => k v t H1 g hr hp
theorem q_asgPL {i : Nat} {Ps : List Th → Prop} (h : EvPL G Ok K te σ H Ps) (k : ∀ l xs ts H1, G H H1 → Ok l → H1 l = some (.lst xs) → RpAll K H1 xs ts → Ps ts → tz D (σ.set i (some (.ref l))) H1) : tSeq (tAsg te (gName i)) tz D σ H := h H (W.refl H) _ fun l xs ts H1 g o hl hx hp => k l xs ts H1 g o hl hx hp
theorem s_retP (h : EvP G K te σ H P) (k : ∀ v t H1, G H H1 → Rp K H1 v t → P t → D.rt v H1) : tRet te D σ H := h H (W.refl H) _ fun v t H1 g hr hp => k v t H1 g hr hp
theorem pl_var {i : Nat} {l : Addr} {xs : List V} {ts : List Th} {Ps : List Th → Prop} (h : σ[i]? = some (some (.ref l))) (o : Ok l) (hl : H l = some (.lst xs)) (hx : RpAll K H xs ts) (hp : Ps ts) : EvPL G Ok K (tVar i) σ H Ps := fun H1 g Q q =>
  ⟨.ref l, h, q l xs ts H1 (W.refl _) o (W.kp g o hl) (ra_r (W.exr g) hx) hp⟩
theorem p_isi {C : String} (h : EvP G K te σ H fun t => P (.bool (isIn t C))) (hC : C ∈ ["int", "bool", "str", "tuple"]) : EvP G K (tCB (rIsi K) (tCons te (tCons (tC (.ty C)) tNil))) σ H P := fun H1 g Q q => h H1 g _ fun v t H2 g2 hr hp => by
  obtain ⟨h1, h2⟩ := rp_ty hr
  exact ⟨v, .ty C, .type t.ty, .type C, isIn t C, rfl, .ty _, h1, kit_ty (kit_in h2 hC), q _ _ H2 g2 (.bl _) hp⟩
theorem p_len (h : EvP G K te σ H fun t => ∃ ts, t = .tup ts ∧ P (.int (ts.length : Int))) : EvP G K (tCB (rLenS K) (tCons te tNil)) σ H P := fun H1 g Q q => h H1 g _ fun v t H2 g2 hr hp => by
  obtain ⟨ts, rfl, hp⟩ := hp
  obtain ⟨a, xs, rfl, hs, ha⟩ := rp_tup hr
  exact ⟨a, xs, rfl, .inr hs, by rw [ra_len ha]; exact q _ _ H2 g2 (.int _) hp⟩
omit W in
theorem rp_ne0 {n : Nat} {x : Th} (hx : okN n x = true) (hn : n ≤ 64) (hp : P (.bool (!PyData.eqv (thD x) (.tuple [])))) : RP K (rNeD K) x (.tup []) P := fun v w H hv hw Q q => by
  refine ⟨thD x, .tuple [], dp_of n hx hv, ?_, shaped_of hx hn, by decide +kernel, q _ _ H (Ex.refl H) (.bl _) hp⟩
  obtain ⟨a, xs, rfl, hs, ha⟩ := rp_tup hw
  cases ha
  exact .tup hs .nil
omit W in
theorem rp_gt {i j : Int} (hp : P (.bool (decide (i > j)))) : RP K (rI0 fun i j => .bl (decide (i > j))) (.int i) (.int j) P := fun v u H hv hu Q q => ⟨i, j, rp_int hv, rp_int hu, q _ _ H (Ex.refl H) (.bl _) hp⟩
end
end TH

set_option Elab.async false
set_option linter.all false
set_option maxRecDepth 100000
set_option maxHeartbeats 4000000
/-! sorted(d), d a dict whose keys are tuples of ints. -/
namespace DS
open PySem PySem.Spec PyProof.Rows L2 Evl DL GX
theorem key_ints : ∀ (ns : List Int), (ns.map (Sum.inl : Int → Key)).map kV = ns.map V.int
  | [] => rfl
  | n :: ns => by
    show kV (Sum.inl n) :: _ = _
    rw [key_ints ns]
    rfl
theorem inl_inj {as bs : List Int} (h : as.map (Sum.inl : Int → Key) = bs.map Sum.inl) : as = bs := by
  induction as generalizing bs with
  | nil => cases bs with
    | nil => rfl
    | cons b bs => cases h
  | cons a as ih => cases bs with
    | nil => cases h
    | cons b bs =>
      rw [List.map_cons, List.map_cons] at h
      injection h with h1 h2
      cases h1
      rw [ih h2]

def refA : Value → Addr
  | .ref a => a
  | _ => 0
def rSortDT (d : Nat) (B : Int) : List V → Hp → VK → Prop := fun vs H Q => ∃ (a : Addr) (kvs : List (List Key × V)), vs = [V.ref a] ∧ H a = some (.dT kvs) ∧ kvs.length < 64 ∧ (∀ p ∈ kvs, ∃ ns : List Int, p.1 = ns.map Sum.inl ∧ ns.length = d ∧ TS.Bd B ns) ∧
  ∀ (L : List (Addr × List Int)) (p : Addr), (L.map fun q => q.2.map (Sum.inl : Int → Key)).Perm (kvs.map (·.1)) → (L.map (·.2)).Nodup → (∀ q ∈ L, H q.1 = some (.tup (q.2.map V.int))) → L.Pairwise (fun q r => TS.code B q.2 ≤ TS.code B r.2) → H p = none → Q (.ref p) (upd H p (.lst (L.map fun q => V.ref q.1)))
theorem pick_keys {H : Hp} {d : Nat} {B : Int} : ∀ {kvs : List (List Key × V)} {xs : List (List Key × Addr × Value)}, Paired (fun (p : List Key × V) (q : List Key × Addr × Value) => p.1 = q.1 ∧ H q.2.1 = some (.tup (p.1.map kV)) ∧ RelV p.2 q.2.2) kvs xs → (∀ p ∈ kvs, ∃ ns : List Int, p.1 = ns.map Sum.inl ∧ ns.length = d ∧ TS.Bd B ns) →
    ∃ L : List (Addr × List Int), L.length = xs.length ∧ L.map (fun q => Value.ref q.1) = xs.map (fun x => Value.ref x.2.1) ∧ L.map (fun q => q.2.map (Sum.inl : Int → Key)) = kvs.map (·.1) ∧ L.map (fun q => q.2.map (Sum.inl : Int → Key)) = xs.map (·.1) ∧ (∀ q ∈ L, H q.1 = some (.tup (q.2.map V.int)) ∧ q.2.length = d ∧ TS.Bd B q.2)
  | _, _, .nil, _ => ⟨[], rfl, rfl, rfl, rfl, fun q hq => nomatch hq⟩
  | p :: ps, q :: qs, .cons h t, hk => by
    obtain ⟨L, l0, l1, l2, l3, l4⟩ := pick_keys t fun p hp => hk p (List.mem_cons_of_mem _ hp)
    obtain ⟨ns, e, h1, h2⟩ := hk p List.mem_cons_self
    refine ⟨(q.2.1, ns) :: L, by simp [l0], by simp [l1], by simp [l2, e], by simp [l3, ← h.1, e], fun r hr => ?_⟩
    rcases List.mem_cons.mp hr with z | z
    · rw [z]
      refine ⟨?_, h1, h2⟩
      have w := h.2.1
      rw [e, key_ints] at w
      exact w
    · exact l4 r z
theorem cr_sortDT {X : Cx} {d : Nat} {B : Int} (hd : 1 ≤ d) (hc : X.calm = true) : CallR X (.builtin "sorted") (rSortDT d B) := by
  intro pins s σ H vs us Q I r h
  obtain ⟨a, kvs, rfl, ha, h64, hk, q⟩ := h
  rw [Vals.ref1 r]
  obtain ⟨_, lo, xs, rel, o, es, ep, h1, h2, h3, h4, h5⟩ := (show ObjOk X.prog X.w H s.heap a (.dT kvs) from I.hok a _ ha)
  obtain ⟨L0, l0, l1, l2, l3, l4⟩ := pick_keys rel hk
  have hxl : xs.length = kvs.length := by
    have := congrArg List.length (l2.symm.trans l3)
    simpa using this.symm
  have hes : es.size = xs.length := by
    have := congrArg List.length h4
    simpa using this
  refine Calls.call_function_entry PyProof.Rows.kind_sorted PyProof.Rows.plain_sorted PyProof.Rows.entry_sorted (PyProof.Rows.args_sorted1 _) ?_
  unfold Builtin.«sorted»
  refine wpAny_bind (m := checkCount "sorted" 1 1 _) (wpAny_pure ?_)
  refine wpAny_bind (PySem.W.kdu_collect (A := X.A.in1) (KdlSrc.rawDict (es := es) (ep := ep) lo) (I.ok.hd hc) ⟨o, h1, h2, h3⟩ (by rw [hes, hxl, sizeLine_eq]; omega) fun h' tk acc hkp hacc => ?_)
  have hal : acc.toList.length = L0.length := by rw [Array.length_toList, hacc.1, hes, l0]
  have hacc2 : acc.toList = L0.map fun q => Value.ref q.1 := by
    rw [l1]
    refine List.ext_getElem? fun j => ?_
    cases e : acc.toList[j]? with
    | none =>
      have : acc.toList.length ≤ j := List.getElem?_eq_none_iff.mp e
      symm
      rw [List.getElem?_eq_none_iff, List.length_map]
      omega
    | some v =>
      obtain ⟨hi, ev⟩ := hacc.2 j v (by rw [← Array.getElem?_toList]; exact e)
      have e5 : es.toList[j]? = some es[j] := by rw [Array.getElem?_toList]; exact Array.getElem?_eq_getElem hi
      rw [h4, List.getElem?_map] at e5
      obtain ⟨x, hx, ex⟩ := Option.map_eq_some_iff.mp e5
      rw [List.getElem?_map, hx, ev, ← ex]
      rfl
  have I1 : Inv X pins σ H { s with heap := h', toks := tk } := I.kept hkp
  have hvl : acc.toList.length < 64 := by rw [hal, l0, hxl]; exact h64
  refine wpAny_bind (wpAny_newList ?_ (by rw [sizeLine_eq]; omega))
  have hoL : (h'.push (seqObj "list" acc.toList.toArray 0)).get? h'.objs.size = some (seqObj "list" acc.toList.toArray 0) := Heap.get?_push_size _ rfl
  show wpAny _ _ _ _ _ { s with heap := h'.push (seqObj "list" acc.toList.toArray 0), toks := tk }
  have tkI : ∀ q ∈ L0, TS.TupInts (h'.push (seqObj "list" acc.toList.toArray 0)) (.ref q.1) q.2 := fun q hq => by
    have J : Inv X pins σ H { s with heap := h'.push (seqObj "list" acc.toList.toArray 0), toks := tk } := I.kept fun b u e => Heap.get?_push_of_some _ (hkp b u e)
    exact tupI_raw J (st_of (l4 q hq).1)
  have x : TS.TupsOk (h'.push (seqObj "list" acc.toList.toArray 0)) d B acc.toList := fun v hv => by
    rw [hacc2] at hv
    obtain ⟨q, hq, e⟩ := List.mem_map.mp hv
    rw [← e]
    exact ⟨q.2, tkI q hq, (l4 q hq).2⟩
  refine wpAny_bind (wpAny_holding (TS.call_sort_tups (s := { s with heap := h'.push (seqObj "list" acc.toList.toArray 0), toks := tk }) hoL hvl hd x fun out a1 a2 => ?_))
  obtain ⟨c, hcc⟩ := sortedHeap_at (vs := acc.toList) (out := out) hoL
  generalize hh1 : h'.push (seqObj "list" acc.toList.toArray 0) = h1' at *
  have old : ∀ b u, s.heap.get? b = some u → (sortedHeap h1' h'.objs.size acc.toList out).get? b = some u := fun b u e => by
    have q := hkp b u e
    have hlt := Heap.lt_size q
    rw [sortedHeap_old (Nat.ne_of_lt hlt) (by rw [← hh1, size_push']; exact Nat.lt_succ_of_lt hlt), ← hh1]
    exact Heap.get?_push_of_some _ q
  have hpL : (out.toList.map fun v => (refA v, TS.intsOf h1' v)).Perm L0 := by
    have z := a1.map fun v => (refA v, TS.intsOf h1' v)
    rw [hacc2, List.map_map] at z
    refine z.trans (List.Perm.of_eq ?_)
    conv => rhs; rw [← List.map_id L0]
    refine List.map_congr_left fun q hq => ?_
    show (q.1, TS.intsOf h1' (.ref q.1)) = q
    rw [(tkI q hq).ints]
  generalize hL : (out.toList.map fun v => (refA v, TS.intsOf h1' v)) = L' at hpL
  have hout : out.toList = L'.map fun q => Value.ref q.1 := by
    rw [← hL, List.map_map]
    conv => lhs; rw [← List.map_id out.toList]
    refine List.map_congr_left fun v hv => ?_
    have hv2 := a1.mem_iff.mp hv
    rw [hacc2] at hv2
    obtain ⟨q, hq, e⟩ := List.mem_map.mp hv2
    rw [← e]
    rfl
  have hlen : (L'.map fun q => V.ref q.1).length ≤ sizeLine := by rw [List.length_map, hpL.length_eq, sizeLine_eq]; omega
  have hn : H h'.objs.size = none := I1.hok.fresh (Nat.le_refl _)
  have hv : Vals (L'.map fun q => V.ref q.1) out.toList := by rw [hout]; exact vals_of_refs L'
  have J : Inv X pins σ (upd H h'.objs.size (.lst (L'.map fun q => V.ref q.1))) { s with heap := sortedHeap h1' h'.objs.size acc.toList out, toks := tk } :=
    I.laidN (t' := tk) old (by
      cases e : s.heap.get? h'.objs.size with
      | none => rfl
      | some u => exact absurd (Heap.lt_size (hkp _ _ e)) (Nat.lt_irrefl _)) hn ⟨hlen, out.toList, c, hv, hcc⟩
  refine wpAny_pure ⟨_, rfl, .ref h'.objs.size, _, J, rfl, q L' _ ?_ ?_ (fun r hr => (l4 r (hpL.mem_iff.mp hr)).1) ?_ hn⟩
  · rw [← l2]
    exact hpL.map _
  · refine ((hpL.map (·.2)).nodup_iff).mpr ?_
    have nd : (L0.map fun q => q.2.map (Sum.inl : Int → Key)).Nodup := by rw [l3]; exact h5
    have nd2 : ((L0.map (·.2)).map fun ns => ns.map (Sum.inl : Int → Key)).Nodup := by rw [List.map_map]; exact nd
    exact (List.pairwise_map.mp nd2).imp fun h e => h (by rw [e])
  · rw [← hL]
    exact List.pairwise_map.mpr a2
end DS

set_option Elab.async false
set_option linter.all false
set_option maxRecDepth 100000
set_option maxHeartbeats 4000000
/-! What a yard is, of things of any kind. -/
namespace YT
open PySem PySem.Spec PyProof.Rows L2 Evl DL GX YA EX TH TV
def thLt : Th → Th → Bool
  | .int a, .int b => decide (a < b)
  | .tup as, .tup bs => HT.lexLt (as.map asInt) (bs.map asInt)
  | _, _ => false
def rising (ts : List Th) : Bool := (List.range ((ts.length : Int) - 1).toNat).all fun i => thLt (ts.getD i .none) (ts.getD (i + 1) .none)
def intTup (t : Th) : Bool := isTup t && (parts t).all isWhole
def cmpOk (ts : List Th) : Bool := (ts.all isWhole || ts.all intTup) && decide (ts.length ≤ 1000)
def isRow (t : Th) (full threads : Int) : Bool := isTupleOf t 2 2 && (isWithin ((parts t).getD 0 .none) 1 full && isWithin ((parts t).getD 1 .none) 0 (threads - 1))
def isRows (t : Th) (full threads : Int) : Bool := isTupleOf t 0 8 && ((parts t).all (fun p => isRow p full threads) && rising (parts t))
def isFrame (t : Th) : Bool := isTupleOf t 6 6 && match parts t with
  | [kind, threads, most, full, doff, rows] => isWithin kind 0 1 && (isWithin threads 1 4 && (isWithin most 0 (asInt threads - 1) && (isWithin full 1 30 && (isWithin doff 0 9 && isRows rows (asInt full) (asInt threads)))))
  | _ => false
def isFrames (t : Th) : Bool := isTupleOf t 1 4 && (parts t).all isFrame
def isWalk (t : Th) (at' many : Int) : Bool := isTupleOf t many many && ((parts t).all (fun p => isWithin p 0 9) && decide (asInt ((parts t).getD at'.toNat .none) = 0))
def isWalks (t : Th) (many : Int) : Bool := isTupleOf t many many && (nums (parts t)).all fun p => isWalk p.2 (p.1 : Int) many
def isPieces (t : Th) : Bool := isTupleOf t 2 2 && (parts t).all fun p => isWithin p 1 9
theorem row_tup {t : Th} {a b : Int} (h : isRow t a b = true) : intTup t = true := by
  unfold isRow at h
  rw [Bool.and_eq_true, Bool.and_eq_true] at h
  obtain ⟨us, rfl, l1, l2⟩ := tup_len h.1
  obtain ⟨x, y, rfl⟩ : ∃ x y, us = [x, y] := by
    match us, l1, l2 with
    | [x, y], _, _ => exact ⟨x, y, rfl⟩
    | [], h, _ => simp at h
    | [_], h, _ => simp at h
    | _ :: _ :: _ :: _, _, h => simp at h; omega
  obtain ⟨i, e1, _⟩ := int_within h.2.1
  obtain ⟨j, e2, _⟩ := int_within h.2.2
  have e1 : x = .int i := e1
  have e2 : y = .int j := e2
  subst e1
  subst e2
  rfl
theorem six_of {us : List Th} (l1 : (6 : Int) ≤ (us.length : Int)) (l2 : (us.length : Int) ≤ 6) : ∃ a b c d e f, us = [a, b, c, d, e, f] := by
  match us, l1, l2 with
  | [a, b, c, d, e, f], _, _ => exact ⟨a, b, c, d, e, f, rfl⟩
  | [], h, _ => simp at h
  | [_], h, _ => simp at h
  | [_, _], h, _ => simp at h
  | [_, _, _], h, _ => simp at h
  | [_, _, _, _], h, _ => simp at h
  | [_, _, _, _, _], h, _ => simp at h
  | _ :: _ :: _ :: _ :: _ :: _ :: _ :: _, _, h => simp at h; omega
def RUL : List V := [.str "near", .str "old", .str "sort"]
def strV : Th → V
  | .str s => .str s
  | _ => .non
def isRule (t : Th) : Bool := isIn t "str" && inV (strV t) RUL
def isNone : Th → Bool
  | .none => true
  | _ => false
def isMinds (t : Th) (many : Int) : Bool := isTupleOf t 1 many && ((parts t).all (fun p => isWithin p 0 (many - 1)) && rising (parts t))
def isHand (t : Th) (many : Int) : Bool := isTupleOf t 4 4 && match parts t with
  | [fr, mi, st, en] => (isWithin fr 0 (many - 1) && (isMinds mi many && isWithin st 0 (10 ^ 30))) && (isNone en || isWithin en (asInt st + 1) (10 ^ 30))
  | _ => false
def isHands (t : Th) (many : Int) : Bool := isTupleOf t 0 16 && (parts t).all fun p => isHand p many
/-- how many threads the frame has -/
def threadsOf (fs : List Th) (fr : Th) : Int := asInt ((parts (fs.getD (asInt fr).toNat .none)).getD 1 .none)
def isStray (t : Th) (fs : List Th) : Bool := isTupleOf t 3 3 && match parts t with
  | [fr, sp, th] => (isWithin fr 0 ((fs.length : Int) - 1) && isWithin sp 1 (10 ^ 30)) && isWithin th 0 (threadsOf fs fr - 1)
  | _ => false
def isStrays (t : Th) (fs : List Th) : Bool := isTupleOf t 0 16 && ((parts t).all (fun p => isStray p fs) && rising (parts t))
def isYard (t : Th) : Bool := isTupleOf t 6 6 && match parts t with
  | [fr, wa, pi, ru, ha, st] => isFrames fr && (isWalks wa ((parts fr).length : Int) && (isPieces pi && (isRule ru && (isHands ha ((parts fr).length : Int) && isStrays st (parts fr)))))
  | _ => false
theorem str_of {t : Th} (h : isIn t "str" = true) : ∃ s, t = .str s := by
  cases t with
  | str s => exact ⟨s, rfl⟩
  | odd o => cases o <;> cases h
  | _ => cases h
theorem stray_tup {t : Th} {fs : List Th} (h : isStray t fs = true) : intTup t = true := by
  unfold isStray at h
  rw [Bool.and_eq_true] at h
  obtain ⟨us, rfl, l1, l2⟩ := tup_len h.1
  obtain ⟨x, y, z, rfl⟩ : ∃ x y z, us = [x, y, z] := by
    match us, l1, l2 with
    | [x, y, z], _, _ => exact ⟨x, y, z, rfl⟩
    | [], h, _ => simp at h
    | [_], h, _ => simp at h
    | [_, _], h, _ => simp at h
    | _ :: _ :: _ :: _ :: _, _, h => simp at h; omega
  have h2 : ((isWithin x 0 ((fs.length : Int) - 1) && isWithin y 1 (10 ^ 30)) && isWithin z 0 (threadsOf fs x - 1)) = true := h.2
  rw [Bool.and_eq_true, Bool.and_eq_true] at h2
  obtain ⟨i, rfl, _⟩ := int_within h2.1.1
  obtain ⟨j, rfl, _⟩ := int_within h2.1.2
  obtain ⟨k, rfl, _⟩ := int_within h2.2
  rfl
/-- a frame's threads are told by a number -/
theorem frame_threads {t : Th} (h : isFrame t = true) : ∃ us th, t = .tup us ∧ us[1]? = some (.int th) := by
  unfold isFrame at h
  rw [Bool.and_eq_true] at h
  obtain ⟨us, rfl, l1, l2⟩ := tup_len h.1
  obtain ⟨k1, k2, k3, k4, k5, k6, rfl⟩ := six_of l1 l2
  have h2 : (isWithin k1 0 1 && (isWithin k2 1 4 && (isWithin k3 0 (asInt k2 - 1) && (isWithin k4 1 30 && (isWithin k5 0 9 && isRows k6 (asInt k4) (asInt k2)))))) = true := h.2
  rw [Bool.and_eq_true, Bool.and_eq_true] at h2
  obtain ⟨th, rfl, _⟩ := int_within h2.2.1
  exact ⟨_, th, rfl, rfl⟩
end YT

set_option Elab.async false
set_option linter.all false
set_option maxRecDepth 100000
set_option maxHeartbeats 4000000
/-! Keys in their order; lists of things with a test; a dict beside the pool. -/
namespace YT
open PySem PySem.Spec PyProof.Rows L2 Evl DL GX YA EX TH TV DS
theorem code_bd {B : Int} : ∀ {ns : List Int}, TS.Bd B ns → 0 < B → 0 ≤ TS.code B ns ∧ TS.code B ns < B ^ ns.length
  | [], _, hB => by
    have e1 : TS.code B [] = 0 := by unfold TS.code; rfl
    have e2 : B ^ ([] : List Int).length = 1 := Int.pow_zero B
    rw [e1, e2]
    decide
  | x :: xs, h, hB => by
    obtain ⟨h1, h2⟩ := code_bd (ns := xs) (fun y hy => h y (List.mem_cons_of_mem _ hy)) hB
    obtain ⟨x0, x1⟩ := h x List.mem_cons_self
    have hp : (0 : Int) < B ^ xs.length := Int.pow_pos hB
    have e : B ^ (x :: xs).length = B ^ xs.length * B := Int.pow_succ ..
    show 0 ≤ x * B ^ xs.length + TS.code B xs ∧ x * B ^ xs.length + TS.code B xs < B ^ (x :: xs).length
    rw [e]
    have a1 : 0 ≤ x * B ^ xs.length := Int.mul_nonneg x0 (by omega)
    have a2 : x * B ^ xs.length ≤ (B - 1) * B ^ xs.length := Int.mul_le_mul_of_nonneg_right (by omega) (by omega)
    have a3 : (B - 1) * B ^ xs.length = B ^ xs.length * B - B ^ xs.length := by rw [Int.sub_mul, Int.one_mul, Int.mul_comm]
    omega
/-- by the code is by the tuples' order -/
theorem code_lex {B : Int} (hB : 0 < B) : ∀ {xs ys : List Int}, xs.length = ys.length → TS.Bd B xs → TS.Bd B ys → TS.code B xs ≤ TS.code B ys → xs ≠ ys → HT.lexLt xs ys = true
  | [], [], _, _, _, _, hn => absurd rfl hn
  | x :: xs, y :: ys, hl, hx, hy, hc, hn => by
    have hl' : xs.length = ys.length := by simpa using hl
    have bx : TS.Bd B xs := fun z hz => hx z (List.mem_cons_of_mem _ hz)
    have by' : TS.Bd B ys := fun z hz => hy z (List.mem_cons_of_mem _ hz)
    have cx := code_bd bx hB
    have cy := code_bd by' hB
    have hc : x * B ^ xs.length + TS.code B xs ≤ y * B ^ ys.length + TS.code B ys := hc
    rw [← hl'] at hc cy
    rw [HT.lexLt_cons]
    by_cases e : x = y
    · rw [if_pos e]
      subst e
      exact code_lex hB hl' bx by' (by omega) fun z => hn (by rw [z])
    · rw [if_neg e]
      refine decide_eq_true ?_
      rcases Int.lt_trichotomy x y with c | c | c
      · exact c
      · exact absurd c e
      · exfalso
        have a : (y + 1) * B ^ xs.length ≤ x * B ^ xs.length := Int.mul_le_mul_of_nonneg_right (by omega) (by have hq : (0 : Int) < B ^ xs.length := Int.pow_pos hB; omega)
        rw [Int.add_mul, Int.one_mul] at a
        omega
def tupI (ns : List Int) : Th := .tup (ns.map Th.int)
theorem asInt_ints (ns : List Int) : (ns.map Th.int).map asInt = ns := by
  rw [List.map_map]
  conv => rhs; rw [← List.map_id ns]
  rfl
theorem rise_of {L : List (List Int)} {d : Nat} {B : Int} (hB : 0 < B) (hd : ∀ ns ∈ L, ns.length = d ∧ TS.Bd B ns) (nd : L.Nodup) (hs : L.Pairwise fun q r => TS.code B q ≤ TS.code B r) : rising (L.map tupI) = true := by
  unfold rising
  refine List.all_eq_true.mpr fun i hi => ?_
  have hi2 : i < ((L.map tupI).length : Int) - 1 := by
    have := List.mem_range.mp hi
    omega
  rw [List.length_map] at hi2
  have h1 : i < L.length := by omega
  have h2 : i + 1 < L.length := by omega
  have e1 : (L.map tupI).getD i .none = tupI L[i] := by rw [List.getD_eq_getElem?_getD, List.getElem?_map, List.getElem?_eq_getElem h1]; rfl
  have e2 : (L.map tupI).getD (i + 1) .none = tupI L[i + 1] := by rw [List.getD_eq_getElem?_getD, List.getElem?_map, List.getElem?_eq_getElem h2]; rfl
  rw [e1, e2]
  show HT.lexLt ((L[i].map Th.int).map asInt) ((L[i + 1].map Th.int).map asInt) = true
  rw [asInt_ints, asInt_ints]
  have m1 := hd _ (List.getElem_mem h1)
  have m2 := hd _ (List.getElem_mem h2)
  refine code_lex hB (by rw [m1.1, m2.1]) m1.2 m2.2 (List.pairwise_iff_getElem.mp hs i (i + 1) h1 h2 (by omega)) fun z => ?_
  exact absurd z (List.pairwise_iff_getElem.mp nd i (i + 1) h1 h2 (by omega))
section
variable {G : Hp → Hp → Prop} {Ok : Addr → Prop} {K : PySem.W.Frag} (W : Way G Ok) {σ : L2.St} {H : Hp} {te : TE} {tt : TT} {wi : TI} {g : TG}
include W
/-- [e for x in it if c], of things: those of some of the items, in their order -/
theorem pl_lcF {α : Type} {S : Hp → V → α → Prop} {vs : List Nat} {as : List α} (Pe : α → Th → Prop) (fr : Fr G Ok H) (hw : EvWG G S wi σ H as) (hz : as.length ≤ 40000)
    (hs : ∀ (i : Nat) (d : α) (x : V) (H1 : Hp), G H H1 → as[i]? = some d → S H1 x d → ∃ σ2, TgD g x (wipe σ vs) H1 σ2 ∧ wipe σ2 vs = wipe σ vs ∧ EvTG G tt σ2 H1 (fun _ => True) ∧ ∀ H2, G H1 H2 → EvP G K te σ2 H2 (Pe d)) :
    EvPL G Ok K (tLc wi g tt te vs) σ H (fun ts => ∃ bs : List α, bs.Sublist as ∧ ts.length = bs.length ∧ ∀ (j : Nat) (t : Th) (d : α), ts[j]? = some t → bs[j]? = some d → Pe d t) := fun H0 g0 Q q => hw H0 g0 _ fun J H1 g1 wk D hD => by
  obtain ⟨Gd, Y, wlk, hG, hY⟩ := wk
  have oD : Ok D := fr H1 D (W.trans g0 g1) hD
  refine lc_it (σ := σ) wlk (fun i H' => G H1 H' ∧ ∃ xs ts bs, H' D = some (.lst xs) ∧ RpAll K H' xs ts ∧ bs.Sublist (as.take i) ∧ ts.length = bs.length ∧ ∀ (j : Nat) (t : Th) (d : α), ts[j]? = some t → bs[j]? = some d → Pe d t)
    ⟨W.ex (Ex.new hD), [], [], [], upd_same, .nil, by simp, rfl, fun j t d h => by simp at h⟩ (fun i H' _ p => hG H' p.1) (fun i x H2 H3 hi p y => ?_) (fun H' p => ?_)
  · obtain ⟨gi, xs, ts, bs, hx, ha, hsub, hl, hp⟩ := p
    obtain ⟨gy, d, hd, hS⟩ := hY i H2 x H3 gi y
    obtain ⟨σ2, tg, hwp, ht, he⟩ := hs i d x H3 (W.trans (W.trans g0 g1) (W.trans gi gy)) hd hS
    have tk : as.take (i + 1) = as.take i ++ [d] := by rw [List.take_add_one, hd]; rfl
    refine tg H3 (Ex.refl H3) _ ⟨hwp, ht H3 (W.refl H3) _ fun b H4 g4 _ => ?_⟩
    cases b with
    | true =>
      show te σ2 H4 _
      refine he H4 g4 H4 (W.refl H4) _ fun v t H5 g5 hv ht => ?_
      have g35 := W.trans gy (W.trans g4 g5)
      have xD : H5 D = some (.lst xs) := W.kp g35 oD hx
      have hxl : xs.length ≤ i := by
        rw [ra_len ha, hl]
        have := hsub.length_le
        rw [List.length_take] at this
        omega
      refine ⟨xs, xD, sz_lt (by omega), W.put (W.trans gi g35) hD xD, xs ++ [v], ts ++ [t], bs ++ [d], upd_same, ra_r (exr_upd xD) (ra_app (ra_r (W.exr g35) ha) (.cons hv .nil)), by rw [tk]; exact hsub.append (List.Sublist.refl _), by rw [List.length_append, List.length_append, hl]; rfl, fun j t' d' h1 h2 => ?_⟩
      by_cases hj : j < ts.length
      · rw [List.getElem?_append_left hj] at h1
        rw [List.getElem?_append_left (by omega)] at h2
        exact hp j t' d' h1 h2
      · rw [List.getElem?_append_right (by omega)] at h1
        rw [List.getElem?_append_right (by omega)] at h2
        have hj2 : j - ts.length = 0 := by
          cases hh : j - ts.length with
          | zero => rfl
          | succ m => rw [hh] at h1; simp at h1
        rw [hj2] at h1
        rw [← hl, hj2] at h2
        simp at h1 h2
        rw [← h1, ← h2]
        exact ht
    | false =>
      show G H1 H4 ∧ _
      have g34 := W.trans gy g4
      refine ⟨W.trans gi g34, xs, ts, bs, W.kp g34 oD hx, ra_r (W.exr g34) ha, by rw [tk]; exact hsub.trans (List.sublist_append_left _ _), hl, hp⟩
  · obtain ⟨gi, xs, ts, bs, hx, ha, hsub, hl, hp⟩ := p
    rw [List.take_of_length_le (Nat.le_refl _)] at hsub
    exact q D xs ts H' (W.trans g1 gi) oD hx ha ⟨bs, hsub, hl, hp⟩
end
end YT

set_option Elab.async false
set_option linter.all false
set_option maxRecDepth 100000
set_option maxHeartbeats 4000000
/-! A tuple beside the empty one; range(1, n); things that aren't too wide. -/
namespace YT
open PySem PySem.Spec PyProof.Rows L2 Evl DL GX YA EX TH TV DS
/-- t == (), whatever stands in t -/
def rEqT0 (K : PySem.W.Frag) : R2 := fun x y H Q => ∃ a b xs, x = .ref a ∧ y = .ref b ∧ SqT K H a xs ∧ SqT K H b [] ∧ Q (.bl xs.isEmpty) H
theorem op_eqT0 {X : Cx} (hu : X.A.units + 64 < cLine) : OpR X (compareOp .Eq) (rEqT0 X.K) := by
  intro pins s σ H x y v u Q I rx ry h
  obtain ⟨a, b, xs, rfl, rfl, ha, hb, q⟩ := h
  cases rx
  cases ry
  obtain ⟨its, r1, p1, _⟩ := I.tuple ha
  obtain ⟨its2, r2, p2, _⟩ := I.tuple hb
  cases r2
  have p1' : s.heap.IsTuple a its.toArray := p1
  have p2' : s.heap.IsTuple b #[] := p2
  refine PySem.SeqAt.eq_tupleAt (e := fun _ => true) p1' p2' (by omega) (fun j h1 h2 => by simp at h2) ⟨.bl xs.isEmpty, H, I, ?_, q⟩
  cases r1 with
  | nil => rfl
  | cons _ _ => rfl
section
variable {K : PySem.W.Frag} {σ : L2.St} {H : Hp} {ta tb : TE} {v : V}
theorem ev_eqT0 {ts : List Th} (ha : Ev ta σ H v) (hr : Rp K H v (.tup ts)) : Ev (tOp (rEqT0 K) ta (tTup tNil)) σ H (.bl ts.isEmpty) := fun H1 e Q q => ha H1 e _ fun H2 e2 => by
  refine ⟨Nat.zero_le _, fun t ht => ?_⟩
  have e3 := e2.trans (Ex.new (o := .tup []) ht)
  obtain ⟨a, xs, rfl, hs, hx⟩ := rp_tup (rp_mono (e.trans e3) hr)
  refine ⟨a, t, xs, rfl, rfl, hs, st_of upd_same, ?_⟩
  have : xs.isEmpty = ts.isEmpty := by
    cases hx with
    | nil => rfl
    | cons _ _ => rfl
  rw [this]
  exact q _ e3
/-- range(1, n) -/
theorem ewr_rng1 {n : Nat} (hn : n ≤ 100000) (h : Ev tb σ H (.int (n : Int))) : EvWR (fun _ x (i : Nat) => x = .int ((i : Int) + 1)) (iRng2 (tCons (tC (.int 1)) (tCons tb tNil))) σ H (List.range ((n : Int) - 1).toNat) := fun H1 e R q => h H1 e _ fun H2 e2 => by
  refine ⟨1, (n : Int), rfl, ⟨by decide, by decide, by omega, by omega⟩, q _ H2 e2 ⟨fun _ => True, fun i H x H' => H' = H ∧ x = .int ((1 : Int) + (i : Nat)) ∧ i < ((n : Int) - 1).toNat, ?_, fun H3 _ => trivial, fun i H3 x H4 e3 y => ?_⟩⟩
  · rw [List.length_range]
    exact ⟨fun _ _ hi _ => hi, fun _ _ => Nat.le_refl _, fun _ _ _ _ hi _ y => ⟨y.1, y.2, hi⟩⟩
  · obtain ⟨rfl, rfl, hi⟩ := y
    exact ⟨Ex.refl _, i, List.getElem?_range hi, by rw [Int.add_comm]⟩
end
mutual
/-- no tuple in it has more than a thousand parts -/
def thin : Th → Bool
  | .tup ts => decide (ts.length ≤ 1000) && thins ts
  | _ => true
def thins : List Th → Bool
  | [] => true
  | t :: ts => thin t && thins ts
end
theorem thins_all : ∀ {ts : List Th}, thins ts = true ↔ ∀ t ∈ ts, thin t = true
  | [] => ⟨fun _ t h => (nomatch h), fun _ => rfl⟩
  | t :: ts => by
    show (thin t && thins ts) = true ↔ _
    rw [Bool.and_eq_true, thins_all]
    constructor
    · rintro ⟨a, b⟩ u hu
      rcases List.mem_cons.mp hu with z | z
      · rw [z]
        exact a
      · exact b u z
    · intro h
      exact ⟨h t List.mem_cons_self, fun u hu => h u (List.mem_cons_of_mem _ hu)⟩
theorem thin_tup {ts : List Th} (h : thin (.tup ts) = true) : ts.length ≤ 1000 ∧ ∀ t ∈ ts, thin t = true := by
  have z : (decide (ts.length ≤ 1000) && thins ts) = true := h
  rw [Bool.and_eq_true] at z
  exact ⟨of_decide_eq_true z.1, thins_all.mp z.2⟩
theorem thin_of {ts : List Th} (h1 : ts.length ≤ 1000) (h2 : ∀ t ∈ ts, thin t = true) : thin (.tup ts) = true := by
  show (decide (ts.length ≤ 1000) && thins ts) = true
  rw [decide_eq_true h1, thins_all.mpr h2]
  rfl
def rLtB (K : PySem.W.Frag) : R2 := fun x y H Q => rI0 (fun i j => .bl (decide (i < j))) x y H Q ∨ rLtT K x y H Q
theorem op_ltB {X : Cx} (hu : X.A.units < cLine) : OpR X (compareOp .Lt) (rLtB X.K) := OpR.or op_lt (op_ltT hu)
def fRising : List Th → Option Bool
  | [.tup ts] => if cmpOk ts = true then some (rising ts) else none
  | _ => none
theorem fRising_is {ts : List Th} {b : Bool} (h : fRising ts = some b) : ∃ us, ts = [.tup us] ∧ cmpOk us = true ∧ b = rising us := by
  unfold fRising at h
  split at h
  · split at h
    · rename_i us hc
      exact ⟨us, rfl, hc, (Option.some.inj h).symm⟩
    · cases h
  · cases h
section
variable {K : PySem.W.Frag}
theorem ra_intsW {H : Hp} : ∀ {us : List Th} {xs : List V}, us.all isWhole = true → RpAll K H xs us → xs = (us.map asInt).map V.int
  | [], _, _, h => by cases h; rfl
  | u :: us, _, ha, h => by
    rw [List.all_cons, Bool.and_eq_true] at ha
    cases h with
    | cons h1 h2 =>
      obtain ⟨i, rfl⟩ := int_of ha.1
      rw [rp_int h1, ra_intsW ha.2 h2]
      rfl
theorem rv_ltB {H : Hp} {x y : V} {t u : Th} (ht : Rp K H x t) (hu : Rp K H y u) (hk : (isWhole t = true ∧ isWhole u = true) ∨ (intTup t = true ∧ intTup u = true)) : RV (rLtB K) x y H (.bl (thLt t u)) := fun H1 e Q q => by
  rcases hk with ⟨h1, h2⟩ | ⟨h1, h2⟩
  · obtain ⟨i, rfl⟩ := int_of h1
    obtain ⟨j, rfl⟩ := int_of h2
    exact .inl ⟨i, j, rp_int ht, rp_int hu, q H1 (Ex.refl H1)⟩
  · unfold intTup at h1 h2
    rw [Bool.and_eq_true] at h1 h2
    obtain ⟨as, rfl⟩ := tup_of h1.1
    obtain ⟨bs, rfl⟩ := tup_of h2.1
    obtain ⟨a, xs, rfl, hs, ha⟩ := rp_tup (rp_mono e ht)
    obtain ⟨b, ys, rfl, ks, hb⟩ := rp_tup (rp_mono e hu)
    rw [ra_intsW h1.2 ha] at hs
    rw [ra_intsW h2.2 hb] at ks
    exact .inr ⟨a, b, _, _, rfl, rfl, hs, ks, q H1 (Ex.refl H1)⟩
theorem ix_of {H : Hp} {v : V} {ts : List Th} {j : Nat} {t : Th} {i : Int} (hv : Rp K H v (.tup ts)) (hj : ts[j]? = some t) (hi : i = (j : Int)) : ∃ u, Rp K H u t ∧ RV (rIxT K) v (.int i) H u := by
  obtain ⟨a, xs, rfl, hs, ha⟩ := rp_tup hv
  obtain ⟨u, hu, hr⟩ := ra_at ha hj
  subst hi
  exact ⟨u, hr, rv_ixT hs (atI_nat hu)⟩
end
/-- rising whole numbers from 0 to m - 1 are m at most -/
theorem rise_len {ws : List Th} {m : Int} (hm : (ws.all fun p => isWithin p 0 (m - 1)) = true) (hr : rising ws = true) (hne : 0 < ws.length) : (ws.length : Int) ≤ m := by
  have at' : ∀ (i : Nat) (h : i < ws.length), ∃ n : Int, ws[i] = .int n ∧ (i : Int) ≤ n ∧ n ≤ m - 1 := by
    intro i
    induction i with
    | zero =>
      intro h
      obtain ⟨n, e, h0, h1⟩ := int_within (List.all_eq_true.mp hm _ (List.getElem_mem h))
      exact ⟨n, e, by simpa using h0, h1⟩
    | succ i ih =>
      intro h
      obtain ⟨n, e, h0, h1⟩ := ih (by omega)
      obtain ⟨k, e', k0, k1⟩ := int_within (List.all_eq_true.mp hm _ (List.getElem_mem h))
      refine ⟨k, e', ?_, k1⟩
      unfold rising at hr
      have z := List.all_eq_true.mp hr i (List.mem_range.mpr (by omega))
      have g1 : ws.getD i .none = .int n := by rw [List.getD_eq_getElem?_getD, List.getElem?_eq_getElem (show i < ws.length by omega), e]; rfl
      have g2 : ws.getD (i + 1) .none = .int k := by rw [List.getD_eq_getElem?_getD, List.getElem?_eq_getElem h, e']; rfl
      rw [g1, g2] at z
      have : n < k := of_decide_eq_true z
      omega
  obtain ⟨k, _, k0, k1⟩ := at' (ws.length - 1) (by omega)
  omega
end YT

set_option Elab.async false
set_option linter.all false
set_option maxRecDepth 100000
set_option maxHeartbeats 4000000
namespace GX
open PySem PySem.Spec PyProof.Rows L2 Evl DL
/-- the law's end, with tables and what is told of loose names: xs, the defs' names with their code objects and tables -/
theorem walk_ofXL {l : PySem.W.OpenLaw} {n k : Nat} {q : Program} {loose : List Str} {XP : (Str → Option Value) → Heap → Prop} {YP : World → Heap → Prop} {d : DefRec} {K : Params → PySem.W.Frag} {x : Str}
    (hn : l.most = some n) (hn2 : n ≤ sizeLine) (hdf : d.params.defaults = []) (hr : Room k callerA) (hY : ∀ (w : World) (h : Heap), YP w h → (K w.params).In h)
    (F : ∀ (w : World) (mg : Str → Option Value) (fa : Addr) (h : Heap), (K w.params).In h → h.Ns mainGlobals mg → XP mg h → mg d.name = some (.ref fa) →
      ∃ (xs : List (Str × Addr × Addr)) (fd : FuncData) (sp : Sp), (∀ p ∈ xs, ((recsOf q).any fun e => e.name == p.1) = true ∧ PySem.W.tabIn (K w.params) p.1 = some p.2 ∧ (K w.params).lookup p.2.2 = none) ∧
        (∀ (s : Shared) (u : Value), BindsTo s fd ⟨[u], []⟩ [(x, u)]) ∧
        (∀ (H : Hp) (a : Addr) (ns : List Int), ns.length ≤ n → (∀ p ∈ xs, H p.2.2 = some (TabE p.2.2)) → SqL (K w.params) H a (ns.map V.int) → sp [.ref a] H (fun v H' => (∀ p ∈ xs, H' p.2.2 = some (TabE p.2.2)) ∧ v = .bl true) fun _ _ _ => False) ∧
        ∀ base : Heap, (K w.params).In base → base.Ns mainGlobals mg → (∀ p ∈ xs, GxR.TabB base mg p.2.1 p.2.2) → FnOk l.prog w (K w.params) mg base CX0 k fa fd [x] sp) :
    PySem.W.WalkO q loose XP YP l.row.toRowW d [] (fun f vs => PySem.call f vs) := by
  refine Att.attach_callB hn hdf fun w s₀ s₁ mg mb fa o pm cd doc a vs ns G Y ho hd hcd hmg hobj hints hlen hbits hg => ?_
  have KX := hY w _ Y
  obtain ⟨xs, fd, sp, hx, hb, hsp, hF⟩ := F w mg fa _ KX G.T.g G.X hmg
  have tabs : ∀ p ∈ xs, PySem.W.CodeHd s₁.heap p.2.1 p.2.2 ∧ s₁.heap.get? p.2.2 = some (PySem.W.tabObj #[]) := fun p hp => by
    obtain ⟨h1, h2, _⟩ := hx p hp
    cases hfd : (recsOf q).find? (fun e => e.name == p.1) with
    | none =>
      obtain ⟨e, he, hn⟩ := List.any_eq_true.mp h1
      exact absurd hn (List.find?_eq_none.mp hfd e he)
    | some d' => exact PySem.W.tab_of G.T KX hfd h2
  have mem2 : ∀ b, b ∈ xs.map (fun p => p.2.2) ↔ ∃ p ∈ xs, p.2.2 = b := fun b => List.mem_map
  refine LamX.law_callTs (cs := xs.map (·.2)) (CX := CX0) (sp := spT (xs.map (fun p => p.2.2)) sp) KX G.T.g G.T.b G.T.builtins G.T.nolimit hg (fun p hp => ?_) (fun p hp => ?_) (fun p hp => ?_) G.T.bmain hobj hints (Nat.le_trans hlen hn2) hr (fun base KB NB hTB => retrack (hF base KB NB fun p hp => ?_)) hb (fun H hH hS => ⟨fun b hbb => ?_, ?_⟩) fun H e s' h => h
  · obtain ⟨p', hp', rfl⟩ := List.mem_map.mp hp
    exact (tabs p' hp').2
  · obtain ⟨p', hp', rfl⟩ := List.mem_map.mp hp
    exact (hx p' hp').2.2
  · obtain ⟨p', hp', rfl⟩ := List.mem_map.mp hp
    exact (tabs p' hp').1
  · have z := hTB p.2 (List.mem_map.mpr ⟨p, hp, rfl⟩)
    exact ⟨z.code, z.bm, z.gP⟩
  · obtain ⟨p, hp, rfl⟩ := (mem2 b).mp hbb
    exact hH p.2 (List.mem_map.mpr ⟨p, hp, rfl⟩)
  · have inT : ∀ p ∈ xs, p.2.2 ∈ xs.map (fun p => p.2.2) := fun p hp => List.mem_map.mpr ⟨p, hp, rfl⟩
    have hnT : ∀ u, (∀ ps, u ≠ .tbl ps) → H a = some u → a ∉ xs.map (fun p => p.2.2) := fun u hu e z => by
      obtain ⟨p, hp, rfl⟩ := (mem2 a).mp z
      rw [hH p.2 (List.mem_map.mpr ⟨p, hp, rfl⟩)] at e
      cases e
      exact hu _ rfl
    have hS' : SqL (K w.params) (reT (xs.map (fun p => p.2.2)) H) a (ns.map V.int) := by
      rcases hS with (e | ⟨o', e⟩) | e
      · exact .inl (.inl (by rw [reT_out (hnT _ (fun ps z => by cases z) e)]; exact e))
      · exact .inl (.inr ⟨o', by rw [reT_out (hnT _ (fun ps z => by cases z) e)]; exact e⟩)
      · exact .inr e
    have z := hsp (reT (xs.map (fun p => p.2.2)) H) a ns hlen (fun p hp => reT_in (inT p hp)) hS'
    refine cast ?_ z
    congr 1
    funext v H'
    refine propext ⟨fun ⟨h1, h2⟩ => ⟨fun b hb => ?_, fun _ => h2⟩, fun ⟨h1, h2⟩ => ⟨fun p hp => h1 _ (inT p hp), h2 H'⟩⟩
    obtain ⟨p, hp, rfl⟩ := (mem2 b).mp hb
    exact h1 p hp
/-- a loose name whose value is a number -/
theorem loose_int {p : Program} {lv : List (Str × PySem.W.WData)} {mg : Str → Option Value} {h : Heap} {x : Str} {n : Int} (X : PySem.W.XL p lv mg h) (hx : (x, PySem.W.WData.int n) ∈ lv) : ∃ t, mg x = some (.int n t) := by
  obtain ⟨v, e, r⟩ := X.2.val _ hx
  cases r
  exact ⟨_, e⟩
end GX

set_option Elab.async false
set_option linter.all false
set_option maxRecDepth 100000
set_option maxHeartbeats 4000000
namespace K01
open PySem PySem.Spec PyProof.Rows L2 Evl DL GX YA EX TH TV YT
def topS (i : Nat) : Stmt := PySem.Challenge.pw_doffyard_k01_yards_of_any_kind.main.body.getD i (.Pass ⟨0, 0, 0, 0⟩)
abbrev s_law_pool : Stmt := topS 54
theorem sc_law_pool : FnScope ["_law_script", "_law_k", "_law_cell", "_law_more", "_law_found", "_law_turn"] ["_law_script", "_law_k"] (defScope s_law_pool) := ⟨rfl, rfl, rfl, by decide +kernel, rfl, by decide +kernel, by decide +kernel⟩
abbrev s_law_take : Stmt := topS 55
theorem sc_law_take : FnScope ["_law_pool_here", "_law_many", "_law_digit"] ["_law_pool_here", "_law_many"] (defScope s_law_take) := ⟨rfl, rfl, rfl, by decide +kernel, rfl, by decide +kernel, by decide +kernel⟩
structure Bi (mg : Str → Option Value) : Prop where
  len : mg "len" = none
  sum : mg "sum" = none
  abs : mg "abs" = none
  min : mg "min" = none
  max : mg "max" = none
  divmod : mg "divmod" = none
  all : mg "all" = none
  isinstance : mg "isinstance" = none
  tuple : mg "tuple" = none
  int : mg "int" = none
  bool : mg "bool" = none
  range : mg "range" = none
  enumerate : mg "enumerate" = none
  list : mg "list" = none
  str : mg "str" = none
  ValueError : mg "ValueError" = none
  sorted : mg "sorted" = none
structure Df (K : PySem.W.Frag) (mg : Str → Option Value) (x : Str) (st : Stmt) (ps : List Str) (f : Addr) (fd : FuncData) : Prop where
  F : Fun K x x st f fd
  b : Binds K fd ps []
  g : mg x = some (.ref f)
section
variable {P : Program} {w : World} {K : PySem.W.Frag} {mg : Str → Option Value} {base : Heap}
theorem cdivp {n m : Int} (h0 : 0 < m) (h1 : m ≤ 10 ^ 40) : CDivP n m := by
  refine ⟨h0, PyProof.noPylong_of_log2 (Nat.lt_of_lt_of_le (PySem.Flt.log2_lt_of (show 0 < 200 by decide) ?_) (show 200 ≤ 9000 by decide))⟩
  have h2 : m.natAbs ≤ 10 ^ 40 := by omega
  exact Nat.lt_of_le_of_lt h2 (by decide)
theorem ev_run {te : TE} {σ : L2.St} {H : Hp} {v : V} {Q : VK} (h : Ev te σ H v) (k : ∀ H1, Ex H H1 → Q v H1) : te σ H Q := h H (Ex.refl H) Q k
theorem pos384 : (0 : Int) < 10 ^ Int.toNat 64 * 10 ^ Int.toNat 64 * 10 ^ Int.toNat 64 * 10 ^ Int.toNat 64 * 10 ^ Int.toNat 64 * 10 ^ Int.toNat 64 := by decide +kernel
theorem mulW {i j : Int} (hi : -(10 ^ 500) ≤ i ∧ i ≤ 10 ^ 500) (hj : -(10 ^ 500) ≤ j ∧ j ≤ 10 ^ 500) : CMulW i j := wide_mul (a := 2000) (b := 2000)
  (Nat.lt_of_le_of_lt (show i.natAbs ≤ 10 ^ 500 by omega) (by decide +kernel)) (Nat.lt_of_le_of_lt (show j.natAbs ≤ 10 ^ 500 by omega) (by decide +kernel)) (by decide) (by decide) (by decide)
theorem mulF {i j : Int} (hi : 0 ≤ i ∧ i < 10 ^ 11000) (hj : 0 ≤ j ∧ j ≤ 10 ^ 500) : CMulW i j := wide_mul (a := 40000) (b := 2000)
  (Nat.lt_of_lt_of_le (show i.natAbs < 10 ^ 11000 by have h2 := hi.2; have h1 := hi.1; exact_mod_cast (show ((i.natAbs : Nat) : Int) < ((10 ^ 11000 : Nat) : Int) by rw [Int.natAbs_of_nonneg h1]; exact_mod_cast h2)) (by decide +kernel))
  (Nat.lt_of_le_of_lt (show j.natAbs ≤ 10 ^ 500 by omega) (by decide +kernel)) (by decide) (by decide) (by decide)
def spTake : Sp := fun vs H Q _ => ∃ (a : Addr) (n m : Int), vs = [.ref a, .int m] ∧ H a = some (.lst [.int n]) ∧ (0 < m ∧ m ≤ 10 ^ 40) ∧ ∀ t, H t = none → Q (.int (n % m)) (upd (upd H t (.tup [.int (n / m), .int (n % m)])) a (.lst [.int (n / m)]))
theorem ok_take {f : Addr} {fd : FuncData} {k : Nat} (T : Bi mg) (D : Df K mg "_law_take" s_law_take ["_law_pool_here", "_law_many"] f fd) : FnOk P w K mg base CX0 (k + 1) f fd ["_law_pool_here", "_law_many"] spTake := by
  refine D.F.ok sc_law_take (fun vs H Q E h => ?_) (fun cdv A outer s H vs Q E hr h => ?_)
  · obtain ⟨a, n, m, rfl, _⟩ := h
    rfl
  · obtain ⟨a, n, m, rfl, ha, hc, q⟩ := h
    refine ⟨_, (pss_cons (ps_asg (pe_callB call_divmodW (by rfl) T.divmod boot_divmod (pa_cons (pe_ix (r := rIxL K) ix_list (pv 0) pe_int (fun _ _ => rfl)) (pa_cons (pv 1) pa_nil))) (pg_tup rfl (pgs_cons (pg_sub (pv 0) pe_int set_list) (pgs_cons (pg_name (i := 2) sc_law_take.nd rfl (.inl rfl)) pgs_nil))))
      (pss_one (ps_ret (pv 2)))), ?_⟩
    refine ⟨.ref a, rfl, a, _, 0, .int n, rfl, rfl, sq_of ha, rfl, .int m, rfl, n, m, rfl, cdivp hc.1 hc.2, fun t ht => ?_⟩
    have hat : a ≠ t := ne_of_none ha ht
    refine ⟨t, [.int (n / m), .int (n % m)], rfl, .inl (.inl upd_same), rfl, _, _, rfl, .ref a, rfl, a, [.int n], 0, 0, rfl, rfl, ?_, rfl, _, _, rfl, rfl, .int (n % m), rfl, q t ht⟩
    rw [upd_ne hat]
    exact ha
theorem cut_ints (ns : List Int) (lo hi : Option Int) : ∃ ms : List Int, cutV (ns.map V.int) lo hi = ms.map V.int := by
  refine ⟨(ns.drop (HT.sIx ns.length 0 lo)).take (HT.sIx ns.length ns.length hi - HT.sIx ns.length 0 lo), ?_⟩
  unfold cutV
  rw [List.length_map, List.map_take, List.map_drop]
/-- the digits' pool: a new list of one int from 0 on -/
def spPool (K : PySem.W.Frag) : Sp := fun vs H Q _ => ∃ (s : Addr) (ns : List Int) (k : Int), vs = [.ref s, .int k] ∧ SqL K H s (ns.map V.int) ∧ (0 ≤ k ∧ k ≤ 1000) ∧ ∀ p H' n, Ex H H' → H p = none → H' p = some (.lst [.int n]) → 0 ≤ n → Q (.ref p) H'
theorem ok_pool {f : Addr} {fd : FuncData} {k : Nat} (T : Bi mg) (D : Df K mg "_law_pool" s_law_pool ["_law_script", "_law_k"] f fd) : FnOk P w K mg base CX0 (k + 1) f fd ["_law_script", "_law_k"] (spPool K) := by
  refine D.F.ok sc_law_pool (fun vs H Q E h => ?_) (fun cdv A outer s H vs Q E hr h => ?_)
  · obtain ⟨a, n, m, rfl, _⟩ := h
    rfl
  · obtain ⟨a, ns, kk, rfl, hS, hk, q⟩ := h
    refine ⟨_, (pss_cons (ps_set (i := 2) sc_law_pool.nd rfl (.inl rfl) (pe_callB (r := rSum K) (cr_sum rfl) (by rfl) T.sum boot_sum (pa_cons (pe_slice sl_list (pv 0) (po_some (pv 1)) (po_some (pe_op op_add (pv 1) pe_int))) pa_nil)))
      (pss_cons (ps_if (PW.pt (pw_or (pt_cmpR op_lt (pv 2) pe_int (nomark _)) (pw_or1 (pt_cmpR op_ge (pv 2) (pe_op op_pow pe_int pe_int) (nomark _))))) (pss_one (ps_ret (pe_lst (pa_cons (pe_op op_mod (pe_callB call_abs (by rfl) T.abs boot_abs (pa_cons (pv 2) pa_nil)) (pe_op op_mulW (pe_op op_mulW (pe_op op_mulW (pe_op op_mulW (pe_op op_mulW (pe_op op_pow pe_int pe_int) (pe_op op_pow pe_int pe_int)) (pe_op op_pow pe_int pe_int)) (pe_op op_pow pe_int pe_int)) (pe_op op_pow pe_int pe_int)) (pe_op op_pow pe_int pe_int))) pa_nil)))) pss_nil)
      (pss_cons (ps_set (i := 3) sc_law_pool.nd rfl (.inl rfl) (pe_op op_add (pe_op op_add (pe_op op_mulW (pv 2) pe_int) (pe_op op_mulW (pe_op op_mulW pe_int (pv 1)) (pv 1))) pe_int))
      (pss_cons (ps_set (i := 4) sc_law_pool.nd rfl (.inl rfl) pe_int)
      (pss_cons (ps_for PassesOwn.never rfl (pi_range1 rfl T.range (pa_cons pe_int pa_nil)) (pg_name (i := 5) sc_law_pool.nd rfl (.inl rfl)) (pss_cons (ps_set (i := 3) sc_law_pool.nd rfl (.inl rfl) (pe_op op_mod (pe_op op_add (pe_op op_add (pe_op op_mulW (pe_op op_mod (pv 3) pe_int) pe_int) (pe_op op_mulW pe_int (pv 5))) pe_int) pe_int))
      (pss_one (ps_set (i := 4) sc_law_pool.nd rfl (.inl rfl) (pe_op op_add (pe_op op_mulW (pv 4) (pe_op op_pow pe_int pe_int)) (pe_op op_mod (pe_op op_mulW (pv 3) (pe_op op_add (pe_op op_mod (pv 3) pe_int) pe_int)) pe_int))))))
      (pss_one (ps_ret (pe_lst (pa_cons (pv 4) pa_nil))))))))), ?_⟩
    refine ⟨.ref a, rfl, .int kk, rfl, kk, rfl, .int kk, rfl, kk, 1, rfl, rfl, kk + 1, rfl, a, _, rfl, hS, fun c hc => ?_⟩
    obtain ⟨ms, hms⟩ := cut_ints ns (some kk) (some (kk + 1))
    refine ⟨c, ms, rfl, .inl (.inl (by rw [← hms]; exact upd_same)), ?_⟩
    generalize ms.sum = cell
    have e1 : Ex H (upd H c (.lst (cutV (ns.map V.int) (some kk) (some (kk + 1))))) := Ex.new hc
    generalize upd H c (.lst (cutV (ns.map V.int) (some kk) (some (kk + 1)))) = H1 at e1
    dsimp only [gName]
    refine q_when (et_or (et_test (ev_op (ev_var rfl) ev_c rv_I0)) (fun _ => (et_test (ev_op (ev_var rfl) (ev_op ev_c ev_c (rv_I ?_)) rv_I0)))) (fun _ H2 e2 => ?_) (fun hb H2 e2 => ?_)
    · exact ⟨by decide, by decide, by decide⟩
    · -- the cell's own digits
      refine ⟨.int cell, rfl, cell, rfl, ?_⟩
      dsimp only
      refine ev_run (ev_op (ev_op (ev_op (ev_op (ev_op (ev_op ev_c ev_c (rv_I ?_)) (ev_op ev_c ev_c (rv_I ?_)) (rv_I ?_)) (ev_op ev_c ev_c (rv_I ?_)) (rv_I ?_)) (ev_op ev_c ev_c (rv_I ?_)) (rv_I ?_)) (ev_op ev_c ev_c (rv_I ?_)) (rv_I ?_)) (ev_op ev_c ev_c (rv_I ?_)) (rv_I ?_)) fun H3 e3 => ?_
      all_goals first
        | exact ⟨by decide, by decide, by decide⟩
        | (refine mulW ?_ ?_ <;> decide +kernel)
        | skip
      refine ⟨_, _, rfl, rfl, pos384, by show 1 ≤ sizeLine; decide, fun p hp => ?_⟩
      have e13 := (e1.trans e2).trans e3
      exact q p _ _ (e13.trans (Ex.new hp)) (fresh_back e13 hp) upd_same (Int.emod_nonneg _ (Int.ne_of_gt pos384))
    · have hb' : ¬ cell < 0 ∧ ¬ (10 : Int) ^ 18 ≤ cell := by simpa using hb
      refine q_asg (ev_op (ev_op (ev_op (ev_var rfl) ev_c (rv_I ?_)) (ev_op (ev_op ev_c (ev_var rfl) (rv_I ?_)) (ev_var rfl) (rv_I ?_)) rv_I0) ev_c rv_I0) fun H3 e3 => ?_
      · exact mulW (by omega) (by omega)
      · exact mulW (by omega) (by omega)
      · exact mulW (by omega) (by omega)
      refine q_asg ev_c fun H4 e4 => ?_
      refine q_forR1 (ea_cons ev_c ea_nil) ⟨by decide, by decide⟩ (fun i σ' H' => Ex H H' ∧ i ≤ 1000 ∧ ∃ more found y5, σ' = [some (.ref a), some (.int kk), some (.int cell), some (.int more), some (.int found), y5] ∧ 0 ≤ found ∧ found < 10 ^ (11 * i)) (fun H5 e5 => ?_) (fun i σ' H' hi p => ?_) (fun σ' H' p => ?_)
      · exact ⟨(((e1.trans e2).trans e3).trans e4).trans e5, by omega, _, 0, _, rfl, by decide, by decide⟩
      · obtain ⟨ex, h9, more, found, y5, rfl, h0, h1⟩ := p
        have m1 : 0 ≤ more % 999999999989 ∧ more % 999999999989 < 999999999989 := ⟨Int.emod_nonneg _ (by decide), Int.emod_lt_of_pos _ (by decide)⟩
        refine q_asg (ev_op (ev_op (ev_op (ev_op (ev_op (ev_var rfl) ev_c (rv_I ?_)) ev_c (rv_I ?_)) (ev_op ev_c (ev_var rfl) (rv_I ?_)) rv_I0) ev_c rv_I0) ev_c (rv_I ?_)) fun H5 e5 => ?_
        · show (0 : Int) < _; decide
        · exact mulW (by omega) (by omega)
        · exact mulW (by omega) (by omega)
        · show (0 : Int) < _; decide
        generalize hm : (more % 999999999989 * 69621 + 40503 * (i : Int) + 271) % 999999999989 = m2
        have m3 : 0 ≤ m2 ∧ m2 < 999999999989 := by rw [← hm]; exact ⟨Int.emod_nonneg _ (by decide), Int.emod_lt_of_pos _ (by decide)⟩
        have m4 : 0 ≤ m2 % 65537 ∧ m2 % 65537 < 65537 := ⟨Int.emod_nonneg _ (by decide), Int.emod_lt_of_pos _ (by decide)⟩
        have f1 : found < 10 ^ 11000 := Int.lt_of_lt_of_le h1 (by
          have z : (10 : Int) ^ (11 * i) ≤ 10 ^ 11000 := by exact_mod_cast Nat.pow_le_pow_right (by decide) (by omega)
          exact z)
        refine s_asg (ev_op (ev_op (ev_var rfl) (ev_op ev_c ev_c (rv_I ?_)) (rv_I ?_)) (ev_op (ev_op (ev_var rfl) (ev_op (ev_op (ev_var rfl) ev_c (rv_I ?_)) ev_c rv_I0) (rv_I ?_)) ev_c (rv_I ?_)) rv_I0) fun H6 e6 => ?_
        · exact ⟨by decide, by decide, by decide⟩
        · exact mulF ⟨h0, f1⟩ ⟨by decide, by decide⟩
        · show (0 : Int) < _; decide
        · exact mulW (by omega) (by omega)
        · show (0 : Int) < _; decide
        have m5 : 0 ≤ m2 * (m2 % 65537 + 3) % 99999999977 ∧ m2 * (m2 % 65537 + 3) % 99999999977 < 99999999977 := ⟨Int.emod_nonneg _ (by decide), Int.emod_lt_of_pos _ (by decide)⟩
        generalize m2 * (m2 % 65537 + 3) % 99999999977 = r at m5
        refine ⟨(ex.trans e5).trans e6, by have : (i : Int) < 27 := hi; omega, m2, _, _, rfl, ?_, ?_⟩
        · show 0 ≤ found * 10 ^ 11 + r
          omega
        · show found * 10 ^ 11 + r < 10 ^ (11 * (i + 1))
          have e : (10 : Int) ^ (11 * (i + 1)) = 10 ^ (11 * i) * 10 ^ 11 := by rw [Nat.mul_add, Int.pow_add]
          rw [e]
          omega
      · obtain ⟨ex, _, more, found, y5, rfl, h0, h1⟩ := p
        refine ⟨.int found, rfl, by show 1 ≤ sizeLine; decide, fun p hp => ?_⟩
        exact q p _ found (ex.trans (Ex.new hp)) (fresh_back ex hp) upd_same h0
end
/-! ### the pool, wherever it stands -/
theorem exb_refl (a : Addr) (H : Hp) : ExB a H H := fun _ _ _ h => h
theorem exb_of {a : Addr} {H H' : Hp} (e : Ex H H') : ExB a H H' := fun b o _ h => e b o h
theorem pool_ex {H H' : Hp} {a : Addr} (e : Ex H H') (p : PoolAt H a) : PoolAt H' a := by
  obtain ⟨n, h⟩ := p
  exact ⟨n, e _ _ h⟩
theorem pool_ne {H : Hp} {a t : Addr} (p : PoolAt H a) (h : H t = none) : a ≠ t := by
  obtain ⟨n, q⟩ := p
  exact ne_of_none q h
theorem exb_fresh {a t : Addr} {H H' : Hp} (e : ExB a H H') (p : PoolAt H a) (h : H' t = none) (hp : PoolAt H' a) : H t = none := by
  cases q : H t with
  | none => rfl
  | some o =>
    by_cases z : t = a
    · obtain ⟨n, k⟩ := hp
      rw [z, k] at h
      cases h
    · rw [e t o z q] at h
      cases h
theorem take_run {a : Addr} {σ : L2.St} {H : Hp} {te : TE} {i : Nat} {m : Int} {E : XK} {Q : VK} (hv : σ[i]? = some (some (.ref a))) (hp : PoolAt H a) (he : Ev te σ H (.int m)) (h0 : 0 < m ∧ m ≤ 10 ^ 40)
    (k : ∀ r H', 0 ≤ r ∧ r < m → ExB a H H' → PoolAt H' a → Q (.int r) H') : tCall spTake [] E (tCons (tVar i) (tCons te tNil)) σ H Q := by
  obtain ⟨n, hn⟩ := hp
  refine ⟨.ref a, hv, he H (Ex.refl H) _ fun H1 e1 => ⟨a, n, m, rfl, e1 _ _ hn, h0, fun t ht => k _ _ ⟨Int.emod_nonneg _ (by omega), Int.emod_lt_of_pos _ h0.1⟩ (fun b o nb hb => ?_) ⟨_, upd_same⟩⟩⟩
  rw [upd_ne nb, upd_ne (ne_of_none (e1 _ _ hb) ht)]
  exact e1 _ _ hb
theorem pick {ns : List Int} {r : Int} (h : 0 ≤ r ∧ r < ns.length) : ∃ w ∈ ns, atI (ns.map V.int) r = some (.int w) := by
  obtain ⟨k, rfl⟩ : ∃ k : Nat, r = (k : Int) := ⟨r.toNat, by omega⟩
  have hk : k < ns.length := by omega
  exact ⟨ns[k], List.getElem_mem hk, atI_nat (by rw [List.getElem?_map, List.getElem?_eq_getElem hk]; rfl)⟩
end K01

set_option Elab.async false
set_option linter.all false
set_option maxRecDepth 100000
set_option maxHeartbeats 4000000
namespace K01
open PySem PySem.Spec PyProof.Rows L2 Evl DL GX YA EX TH TV YT DS
abbrev s_law_frame : Stmt := topS 56
theorem sc_law_frame : FnScope ["_law_pool_here", "_law_most_full", "_law_threads", "_law_full", "_law_rows", "_law_turn", "_law_doff"] ["_law_pool_here", "_law_most_full"] (defScope s_law_frame) := ⟨rfl, rfl, rfl, by decide +kernel, rfl, by decide +kernel, by decide +kernel⟩
section
variable {P : Program} {w : World} {K : PySem.W.Frag} {mg : Str → Option Value} {base : Heap}
theorem dec_i {i j : Int} : decide (V.int i = V.int j) = decide (i = j) := by
  by_cases h : i = j
  · subst h
    simp
  · rw [decide_eq_false h, decide_eq_false fun q => h (V.int.inj q)]
theorem p_take {p : Addr} {σ : L2.St} {H : Hp} {te : TE} {i : Nat} {m : Int} {E : XK} (hv : σ[i]? = some (some (.ref p))) (hp : PoolAt H p) (h0 : 0 < m ∧ m ≤ 10 ^ 40) (he : EvP (GP p) K te σ H fun t => t = .int m) :
    EvP (GP p) K (tCall spTake [] E (tCons (tVar i) (tCons te tNil))) σ H (fun t => ∃ r, t = .int r ∧ 0 ≤ r ∧ r < m) := fun H1 g Q q => ⟨.ref p, hv, he H1 g _ fun v t H2 g2 hr ht => by
  subst ht
  cases rp_int hr
  have hp2 := ((way_pool p).trans g g2).p hp
  obtain ⟨n, hn⟩ := id hp2
  refine ⟨p, n, m, rfl, hn, h0, fun t ht => ?_⟩
  refine q _ _ _ ((way_pool p).trans g2 (gp_of (fun b o nb hb => ?_) hp2 ⟨_, upd_same⟩)) (.int _) ⟨_, rfl, Int.emod_nonneg _ (by omega), Int.emod_lt_of_pos _ h0.1⟩
  rw [upd_ne nb, upd_ne (ne_of_none hb ht)]
  exact hb⟩
theorem fr_pool {p : Addr} {H : Hp} (hp : PoolAt H p) : Fr (GP p) (fun l => l ≠ p) H := fun H1 l g hn z => by
  obtain ⟨n, h⟩ := g.p hp
  rw [z, h] at hn
  cases hn
theorem po_cut {G : Hp → Hp → Prop} {σ : L2.St} {H : Hp} {te : TE} {i : Int} (h : ∀ H, Ev te σ H (.int i)) : ∀ H1, G H H1 → ∀ Q : Option Int → Hp → Prop, (∀ H2, Ex H1 H2 → Q (some i) H2) → tPart te σ H1 Q := fun H1 _ Q q => h H1 H1 (Ex.refl H1) _ fun H2 e2 => ⟨i, rfl, q H2 e2⟩
theorem po_none' {G : Hp → Hp → Prop} {σ : L2.St} {H : Hp} : ∀ H1, G H H1 → ∀ Q : Option Int → Hp → Prop, (∀ H2, Ex H1 H2 → Q none H2) → tNoPart σ H1 Q := fun H1 _ Q q => q H1 (Ex.refl H1)
def anyT : Th → Prop := fun _ => True
def tupL (k : Nat) : Th → Prop := fun t => ∃ ts, t = .tup ts ∧ ts.length ≤ k
theorem cut_len (ts : List Th) (i j : Nat) : ((ts.drop i).take j).length ≤ ts.length := by
  rw [List.length_take, List.length_drop]
  omega
section
variable {G : Hp → Hp → Prop} {Ok : Addr → Prop} (W : Way G Ok) {σ : L2.St} {H : Hp} {ta : TE} {tr : TA} {Pt : Th → Prop}
include W
theorem addP (k : Nat) (h1 : EvP G K ta σ H Pt) (h2 : EvPA G K tr σ H (fun ts => ts.length = k ∧ ∀ t ∈ ts, Pt t)) : EvPA G K (tCons ta tr) σ H (fun ts => ts.length = k + 1 ∧ ∀ t ∈ ts, Pt t) :=
  pa_consP W h1 h2 fun t ts ht h => ⟨by rw [List.length_cons, h.1], fun u hu => (List.mem_cons.mp hu).elim (fun e => by rw [e]; exact ht) (h.2 u)⟩
theorem nilP : EvPA G K tNil σ H (fun ts => ts.length = 0 ∧ ∀ t ∈ ts, Pt t) := pa_nilP W ⟨rfl, fun t h => nomatch h⟩
end
/-- one of a list, drawn -/
theorem p_pick {p : Addr} {σ : L2.St} {H : Hp} {tl te : TE} {i k : Nat} {E : XK} {Pt : Th → Prop} (hv : σ[i]? = some (some (.ref p))) (hp : PoolAt H p) (hk : 1 ≤ k ∧ k ≤ 100) (hl : EvPL (GP p) (fun l => l ≠ p) K tl σ H (fun ts => ts.length = k ∧ ∀ t ∈ ts, Pt t)) (he : EvP (GP p) K te σ H fun t => t = .int (k : Int)) :
    EvP (GP p) K (tOp (rIxL K) tl (tCall spTake [] E (tCons (tVar i) (tCons te tNil)))) σ H Pt := p_ixL (way_pool p) hl (p_take hv hp ⟨by omega, by omega⟩ he) fun ts y h hy => by
  obtain ⟨z, rfl, z0, z1⟩ := hy
  have hz : z.toNat < ts.length := by rw [h.1]; omega
  exact ⟨z.toNat, ts[z.toNat], by rw [Int.toNat_of_nonneg z0], List.getElem?_eq_getElem hz, h.2 _ (List.getElem_mem hz)⟩
theorem rp_neI {Pt : Th → Prop} {i j : Int} (hp : Pt (.bool (!decide (i = j)))) : RP K rNe (.int i) (.int j) Pt := fun v u H hv hu Q q => by
  rw [rp_int hv, rp_int hu]
  exact ⟨rfl, by rw [dec_i]; exact q _ _ H (Ex.refl H) (.bl _) hp⟩
theorem rp_eqI {Pt : Th → Prop} {i j : Int} (hp : Pt (.bool (decide (i = j)))) : RP K rEq (.int i) (.int j) Pt := fun v u H hv hu Q q => by
  rw [rp_int hv, rp_int hu]
  exact ⟨rfl, by rw [dec_i]; exact q _ _ H (Ex.refl H) (.bl _) hp⟩
/-- int(a truth) -/
theorem p_intB {G : Hp → Hp → Prop} {σ : L2.St} {H : Hp} {te : TE} {Pt : Th → Prop} (h : EvP G K te σ H fun t => ∃ b, t = .bool b ∧ Pt (.int (if b then 1 else 0))) :
    EvP G K (tCB (fun xs H Q => (∃ i, xs = [.int i] ∧ Q (.int i) H) ∨ ∃ k, xs = [.bl k] ∧ Q (.int (if k then 1 else 0)) H) (tCons te tNil)) σ H Pt := fun H1 g Q q => h H1 g _ fun v t H2 g2 hr ht => by
  obtain ⟨b, rfl, hp⟩ := ht
  cases hr
  exact .inr ⟨b, rfl, q _ _ H2 g2 (.int _) hp⟩
theorem within_of {i lo hi : Int} (h1 : lo ≤ i) (h2 : i ≤ hi) : isWithin (.int i) lo hi = true := by
  show (true && (decide (lo ≤ i) && decide (i ≤ hi))) = true
  rw [decide_eq_true h1, decide_eq_true h2]
  rfl
theorem tupOf_of {ts : List Th} {lo hi : Int} (h1 : lo ≤ (ts.length : Int)) (h2 : (ts.length : Int) ≤ hi) : isTupleOf (.tup ts) lo hi = true := by
  show (true && (decide (lo ≤ (ts.length : Int)) && decide ((ts.length : Int) ≤ hi))) = true
  rw [decide_eq_true h1, decide_eq_true h2]
  rfl
/-- keys of a dict of tuples -/
def KeysOk (C : List Int → Prop) (kvs : List (List Key × V)) : Prop := ∀ p ∈ kvs, ∃ ns : List Int, p.1 = ns.map Sum.inl ∧ C ns
theorem keys_put {C : List Int → Prop} {kvs : List (List Key × V)} {ns : List Int} {v : V} (h : KeysOk C kvs) (hn : C ns) : KeysOk C (putK kvs (ns.map Sum.inl) v) ∧ (putK kvs (ns.map Sum.inl) v).length ≤ kvs.length + 1 := by
  unfold putK
  split
  · refine ⟨fun p hp => ?_, by simp⟩
    obtain ⟨q, hq, e⟩ := List.mem_map.mp hp
    obtain ⟨ms, e1, e2⟩ := h q hq
    refine ⟨ms, ?_, e2⟩
    rw [← e]
    split
    · exact e1
    · exact e1
  · refine ⟨fun p hp => ?_, by simp⟩
    rcases List.mem_append.mp hp with z | z
    · exact h p z
    · rw [List.mem_singleton.mp z]
      exact ⟨ns, rfl, hn⟩
theorem ra_ints {H : Hp} : ∀ (ns : List Int), RpAll K H (ns.map V.int) (ns.map Th.int)
  | [] => .nil
  | n :: ns => .cons (.int n) (ra_ints ns)
theorem ra_keys {H : Hp} : ∀ {L : List (Addr × List Int)}, (∀ q ∈ L, H q.1 = some (.tup (q.2.map V.int))) → RpAll K H (L.map fun q => V.ref q.1) ((L.map (·.2)).map tupI)
  | [], _ => .nil
  | q :: L, h => .cons (.tup (st_of (h q List.mem_cons_self)) (ra_ints q.2)) (ra_keys fun r hr => h r (List.mem_cons_of_mem _ hr))
/-- tuple(sorted(d)) -/
theorem p_sortDT {p d : Addr} {σ : L2.St} {H : Hp} {i n : Nat} {B : Int} {C : List Int → Prop} {kvs : List (List Key × V)} (hv : σ[i]? = some (some (.ref d))) (hne : d ≠ p) (hd : H d = some (.dT kvs)) (hl : kvs.length < 64) (hB : 0 < B) (hk : KeysOk (fun ns => (ns.length = n ∧ TS.Bd B ns) ∧ C ns) kvs) :
    EvP (GP p) K (tCB (rTupOf K) (tCons (tCB (rSortDT n B) (tCons (tVar i) tNil)) tNil)) σ H (fun t => ∃ L : List (List Int), t = .tup (L.map tupI) ∧ L.length = kvs.length ∧ (∀ ns ∈ L, C ns) ∧ rising (L.map tupI) = true) := fun H1 g Q q => by
  refine ⟨.ref d, hv, d, kvs, rfl, g.b d _ hne hd, hl, fun r hr => ?_, fun L pp perm nd ht hs hn => ?_⟩
  · obtain ⟨ns, e, ⟨e1, e2⟩, _⟩ := hk r hr
    exact ⟨ns, e, e1, e2⟩
  · refine ⟨pp, _, rfl, .inl ⟨sq_of upd_same, fun l hl => ?_⟩⟩
    have ex : Ex H1 (upd (upd H1 pp (.lst (L.map fun q => V.ref q.1))) l (.tup (L.map fun q => V.ref q.1))) := (Ex.new hn).trans (Ex.new hl)
    have mem : ∀ ns ∈ L.map (·.2), (ns.length = n ∧ TS.Bd B ns) ∧ C ns := fun ns hns => by
      have h1 : ns.map (Sum.inl : Int → Key) ∈ kvs.map (·.1) := perm.mem_iff.mp (by
        obtain ⟨q, hq, e⟩ := List.mem_map.mp hns
        exact List.mem_map.mpr ⟨q, hq, by rw [e]⟩)
      obtain ⟨r, hr, e⟩ := List.mem_map.mp h1
      obtain ⟨ms, e1, e2⟩ := hk r hr
      rw [e1] at e
      rw [← inl_inj e]
      exact e2
    refine q (.ref l) _ _ ((way_pool p).ex ex) (.tup (st_of upd_same) (ra_keys fun r hr => ex _ _ (ht r hr))) ⟨L.map (·.2), rfl, ?_, fun ns hns => (mem ns hns).2, rise_of hB (fun ns hns => (mem ns hns).1) nd (List.pairwise_map.mpr hs)⟩
    have := perm.length_eq
    simpa using this
theorem rows_ok {L : List (List Int)} {full threads : Int} (hl : L.length ≤ 8) (h : ∀ ns ∈ L, ∃ a b, ns = [a, b] ∧ 1 ≤ a ∧ a ≤ full ∧ 0 ≤ b ∧ b ≤ threads - 1) (hr : rising (L.map tupI) = true) : isRows (.tup (L.map tupI)) full threads = true := by
  unfold isRows
  rw [tupOf_of (by rw [List.length_map]; omega) (by rw [List.length_map]; omega), Bool.true_and]
  show ((L.map tupI).all (fun p => isRow p full threads) && rising (L.map tupI)) = true
  rw [hr, Bool.and_true]
  refine List.all_eq_true.mpr fun t ht => ?_
  obtain ⟨ns, hns, rfl⟩ := List.mem_map.mp ht
  obtain ⟨a, b, rfl, a1, a2, b1, b2⟩ := h ns hns
  show (isTupleOf (.tup [.int a, .int b]) 2 2 && (isWithin (.int a) 1 full && isWithin (.int b) 0 (threads - 1))) = true
  rw [tupOf_of (by show (2 : Int) ≤ 2; decide) (by show (2 : Int) ≤ 2; decide), within_of a1 a2, within_of b1 b2]
  rfl
def spFrame (K : PySem.W.Frag) : Sp := fun vs H Q _ => ∃ (p : Addr) (n : Int), vs = [.ref p, .int n] ∧ (1 ≤ n ∧ n ≤ 30) ∧ PoolAt H p ∧ ∀ v t H', GP p H H' → Rp K H' v t → isFrame t = true → Q v H'
theorem ok_frame {f f1 : Addr} {fd fd1 : FuncData} {k : Nat} (T : Bi mg) (D : Df K mg "_law_frame" s_law_frame ["_law_pool_here", "_law_most_full"] f fd) (D_law_take : Df K mg "_law_take" s_law_take ["_law_pool_here", "_law_many"] f1 fd1) : FnOk P w K mg base CX0 (k + 2) f fd ["_law_pool_here", "_law_most_full"] (spFrame K) := by
  have G_law_take : FnOk P w K mg base CX0 1 f1 fd1 ["_law_pool_here", "_law_many"] spTake := ok_take T D_law_take
  refine D.F.ok sc_law_frame (fun vs H Q E h => by obtain ⟨_, _, rfl, _⟩ := h; rfl) (fun cdv A outer s H vs Q E hr h => ?_)
  obtain ⟨p, n, rfl, hn, hp, q⟩ := h
  have W := way_pool p
  refine ⟨_, (pss_cons (ps_set (i := 2) sc_law_frame.nd rfl (.inl rfl) (pe_op op_add pe_int (pe_call G_law_take (hr.mono (by omega)) (by rfl) D_law_take.g D_law_take.F.kp D_law_take.b .nil pass0 (pa_cons (pv 0) (pa_cons pe_int pa_nil)))))
      (pss_cons (ps_set (i := 3) sc_law_frame.nd rfl (.inl rfl) (pe_op op_add pe_int (pe_call G_law_take (hr.mono (by omega)) (by rfl) D_law_take.g D_law_take.F.kp D_law_take.b .nil pass0 (pa_cons (pv 0) (pa_cons (pv 1) pa_nil)))))
      (pss_cons (ps_set (i := 4) sc_law_frame.nd rfl (.inl rfl) pe_dnewT)
      (pss_cons (ps_for PassesOwn.never rfl (pi_range1 rfl T.range (pa_cons (pe_call G_law_take (hr.mono (by omega)) (by rfl) D_law_take.g D_law_take.F.kp D_law_take.b .nil pass0 (pa_cons (pv 0) (pa_cons pe_int pa_nil))) pa_nil)) (pg_name (i := 5) sc_law_frame.nd rfl (.inl rfl)) (pss_one (ps_asg pe_bl (pg_sub (pv 4) (pe_tup (pa_cons (pe_op op_add pe_int (pe_call G_law_take (hr.mono (by omega)) (by rfl) D_law_take.g D_law_take.F.kp D_law_take.b .nil pass0 (pa_cons (pv 0) (pa_cons (pv 3) pa_nil)))) (pa_cons (pe_call G_law_take (hr.mono (by omega)) (by rfl) D_law_take.g D_law_take.F.kp D_law_take.b .nil pass0 (pa_cons (pv 0) (pa_cons (pv 2) pa_nil))) pa_nil))) (set_dict (Nat.lt_of_le_of_lt (Nat.add_le_add_left (show 1 ≤ 64 by decide) _) hr.units))))))
      (pss_cons (ps_set (i := 6) sc_law_frame.nd rfl (.inl rfl) (pe_ix (r := rIxL K) ix_list (pe_lst (pa_cons pe_int (pa_cons (pe_call G_law_take (hr.mono (by omega)) (by rfl) D_law_take.g D_law_take.F.kp D_law_take.b .nil pass0 (pa_cons (pv 0) (pa_cons pe_int pa_nil))) (pa_cons (pe_call G_law_take (hr.mono (by omega)) (by rfl) D_law_take.g D_law_take.F.kp D_law_take.b .nil pass0 (pa_cons (pv 0) (pa_cons pe_int pa_nil))) pa_nil)))) (pe_call G_law_take (hr.mono (by omega)) (by rfl) D_law_take.g D_law_take.F.kp D_law_take.b .nil pass0 (pa_cons (pv 0) (pa_cons pe_int pa_nil))) (fun _ _ => rfl)))
      (pss_one (ps_ret (pe_tup (pa_cons (pe_call G_law_take (hr.mono (by omega)) (by rfl) D_law_take.g D_law_take.F.kp D_law_take.b .nil pass0 (pa_cons (pv 0) (pa_cons pe_int pa_nil))) (pa_cons (pv 2) (pa_cons (pe_call G_law_take (hr.mono (by omega)) (by rfl) D_law_take.g D_law_take.F.kp D_law_take.b .nil pass0 (pa_cons (pv 0) (pa_cons (pv 2) pa_nil))) (pa_cons (pv 3) (pa_cons (pv 6) (pa_cons (pe_callTy (r := rTupOf K) call_tuple_of (by rfl) T.tuple boot_tuple (pa_cons (pe_callB (r := rSortDT 2 64) (cr_sortDT (by decide) rfl) (by rfl) T.sorted boot_sorted (pa_cons (pv 4) pa_nil)) pa_nil)) pa_nil)))))))))))))), ?_⟩
  -- threads
  refine q_asgP (K := K) W (P := fun t => ∃ i : Int, t = .int i ∧ 1 ≤ i ∧ i ≤ 4) (p_op W (P := fun x => x = .int 1) (p_ci W rfl) (p_take (m := 4) rfl hp ⟨by decide, by decide⟩ (p_ci W rfl)) (fun x y hx hy => by obtain ⟨r, rfl, _⟩ := hy; rw [hx]; exact rp_I0 ⟨_, rfl, by omega, by omega⟩)) fun v1 t1 H1 g1 hr1 ht1 => ?_
  obtain ⟨th, rfl, th1, th4⟩ := ht1
  cases rp_int hr1
  have hp1 := g1.p hp
  -- full
  refine q_asgP (K := K) W (P := fun t => ∃ i : Int, t = .int i ∧ 1 ≤ i ∧ i ≤ n) (p_op W (P := fun x => x = .int 1) (p_ci W rfl) (p_take (m := n) rfl hp1 ⟨by omega, by omega⟩ (p_var W rfl (.int _) rfl)) (fun x y hx hy => by obtain ⟨r, rfl, _⟩ := hy; rw [hx]; exact rp_I0 ⟨_, rfl, by omega, by omega⟩)) fun v2 t2 H2 g2 hr2 ht2 => ?_
  obtain ⟨fu, rfl, fu1, fun'⟩ := ht2
  cases rp_int hr2
  have hp2 := g2.p hp1
  have g02 := W.trans g1 g2
  -- rows
  refine fun d hd => ?_
  have hdp : d ≠ p := fun z => by
    obtain ⟨m, hm⟩ := hp2
    rw [z, hm] at hd
    cases hd
  have gd : GP p H2 (upd H2 d (.dT [])) := W.ex (Ex.new hd)
  have hp3 := gd.p hp2
  refine p_take (K := K) (m := 5) rfl hp3 ⟨by decide, by decide⟩ (p_ci W rfl) _ (W.refl _) _ fun v3 t3 H3 g3 hr3 ht3 => ?_
  obtain ⟨r, rfl, r0, r5⟩ := ht3
  cases rp_int hr3
  have hp4 := g3.p hp3
  refine q_forR1 (ta := tCons (tC (.int r)) tNil) (ea_cons ev_c ea_nil) ⟨by omega, by omega⟩ (fun i σ' H' => ExB p H2 H' ∧ PoolAt H' p ∧ ∃ kvs y5, σ' = [some (.ref p), some (.int n), some (.int th), some (.int fu), some (.ref d), y5, none] ∧ H' d = some (.dT kvs) ∧ kvs.length ≤ i ∧ KeysOk (fun ns => (ns.length = 2 ∧ TS.Bd 64 ns) ∧ ∃ a b, ns = [a, b] ∧ 1 ≤ a ∧ a ≤ fu ∧ 0 ≤ b ∧ b ≤ th - 1) kvs) (fun H4 e4 => ?_) (fun i σ' H' hi pv => ?_) (fun σ' H' pv => ?_)
  · have g4 := W.trans (W.trans gd g3) (W.ex e4)
    refine ⟨g4.b, g4.p hp2, [], _, rfl, (W.trans g3 (W.ex e4)).b d _ hdp upd_same, Nat.le_refl _, fun q hq => nomatch hq⟩
  · obtain ⟨exb, hpp, kvs, y5, rfl, hkd, hkl, hko⟩ := pv
    refine ⟨.ref d, rfl, ?_⟩
    refine p_op (K := K) W (P := fun x => x = .int 1) (P'' := fun t => ∃ a : Int, t = .int a ∧ 1 ≤ a ∧ a ≤ fu) (p_ci W rfl) (p_take (m := fu) rfl hpp ⟨by omega, by omega⟩ (p_var W rfl (.int _) rfl)) (fun x y hx hy => by obtain ⟨r, rfl, _⟩ := hy; rw [hx]; exact rp_I0 ⟨_, rfl, by omega, by omega⟩) _ (W.refl _) _ fun v5 t5 H5 g5 hr5 ht5 => ?_
    obtain ⟨a, rfl, a1, a2⟩ := ht5
    cases rp_int hr5
    refine p_take (K := K) (m := th) rfl (g5.p hpp) ⟨by omega, by omega⟩ (p_var W rfl (.int _) rfl) _ (W.refl _) _ fun v6 t6 H6 g6 hr6 ht6 => ?_
    obtain ⟨b, rfl, b1, b2⟩ := ht6
    cases rp_int hr6
    have g56 := W.trans g5 g6
    refine ⟨by show 2 ≤ sizeLine; decide, fun t ht => ?_⟩
    have hkd6 : H6 d = some (.dT kvs) := g56.b d _ hdp hkd
    have hdt : d ≠ t := ne_of_none hkd6 ht
    obtain ⟨m6, hm6⟩ := g56.p hpp
    have hpt : p ≠ t := ne_of_none hm6 ht
    have ko := keys_put (v := .bl true) hko (ns := [a, b]) ⟨⟨rfl, fun x hx => by
      simp only [List.mem_cons, List.not_mem_nil, or_false] at hx
      rcases hx with rfl | rfl <;> omega⟩, a, b, rfl, a1, a2, b1, by omega⟩
    refine ⟨d, _, rfl, DPut.t (k := [a, b].map Sum.inl) (by rw [upd_ne hdt]; exact hkd6) upd_same (by rw [sizeLine_eq]; omega), fun x o hx ho => ?_, ⟨m6, ?_⟩, _, _, rfl, upd_same, by have := ko.2; omega, ko.1⟩
    · rw [upd_ne (ne_of_none ho hd), upd_ne (ne_of_none (g56.b x o hx (exb x o hx ho)) ht)]
      exact g56.b x o hx (exb x o hx ho)
    · rw [upd_ne (Ne.symm hdp), upd_ne hpt]
      exact hm6
  · obtain ⟨exb, hpp, kvs, y5, rfl, hkd, hkl, hko⟩ := pv
    have g4 : GP p H2 H' := gp_of exb hp2 hpp
    -- doff
    refine q_asgP (K := K) W (P := fun t => ∃ i : Int, t = .int i ∧ 0 ≤ i ∧ i ≤ 9) (p_pick (k := 3) rfl hpp (by decide) (pl_lst W (fr_pool hpp) (addP W 2 (p_ci W ⟨0, rfl, by decide, by decide⟩) (addP W 1 (p_imp W (p_take (m := 4) rfl hpp ⟨by decide, by decide⟩ (p_ci W rfl)) fun t ht => by obtain ⟨i, rfl, _⟩ := ht; exact ⟨i, rfl, by omega, by omega⟩) (addP W 0 (p_imp W (p_take (m := 10) rfl hpp ⟨by decide, by decide⟩ (p_ci W rfl)) fun t ht => by obtain ⟨i, rfl, _⟩ := ht; exact ⟨i, rfl, by omega, by omega⟩) (nilP W)))) (fun ts h => by rw [h.1]; decide)) (p_ci W rfl)) fun v7 t7 H7 g7 hr7 ht7 => ?_
    obtain ⟨df, rfl, df0, df9⟩ := ht7
    cases rp_int hr7
    have hp7 := g7.p hpp
    have hkd7 : H7 d = some (.dT kvs) := g7.b d _ hdp hkd
    refine s_retP W (P := fun t => isFrame t = true) (p_tup W (Ps := fun ts => ∃ s m rows, ts = [.int s, .int th, .int m, .int fu, .int df, rows] ∧ (0 ≤ s ∧ s ≤ 1) ∧ (0 ≤ m ∧ m ≤ th - 1) ∧ isRows rows fu th = true)
      (pa_consP W (P := fun t => ∃ s : Int, t = .int s ∧ 0 ≤ s ∧ s ≤ 1) (p_imp W (p_take (m := 2) rfl hp7 ⟨by decide, by decide⟩ (p_ci W rfl)) fun t ht => by obtain ⟨i, rfl, _⟩ := ht; exact ⟨i, rfl, by omega, by omega⟩)
      (pa_consP W (P := fun t => t = .int th) (p_var W rfl (.int _) rfl)
      (pa_consP W (P := fun t => ∃ m : Int, t = .int m ∧ 0 ≤ m ∧ m ≤ th - 1) (p_imp W (p_take (m := th) rfl hp7 ⟨by omega, by omega⟩ (p_var W rfl (.int _) rfl)) fun t ht => by obtain ⟨i, rfl, _⟩ := ht; exact ⟨i, rfl, by omega, by omega⟩)
      (pa_consP W (P := fun t => t = .int fu) (p_var W rfl (.int _) rfl)
      (pa_consP W (P := fun t => t = .int df) (p_var W rfl (.int _) rfl)
      (pa_consP W (P := fun t => isRows t fu th = true) (p_imp W (p_sortDT rfl hdp hkd7 (by omega) (by decide) hko) fun t ht => by
        obtain ⟨L, rfl, l1, l2, l3⟩ := ht
        exact rows_ok (by omega) l2 l3)
      (pa_nilP W (Ps := fun ts => ts = []) rfl) (Ps' := fun ts => ∃ rows, ts = [rows] ∧ isRows rows fu th = true) fun t ts h1 h2 => ⟨t, by rw [h2], h1⟩)
      (Ps' := fun ts => ∃ rows, ts = [.int df, rows] ∧ isRows rows fu th = true) fun t ts h1 h2 => by obtain ⟨r, rfl, h⟩ := h2; exact ⟨r, by rw [h1], h⟩)
      (Ps' := fun ts => ∃ rows, ts = [.int fu, .int df, rows] ∧ isRows rows fu th = true) fun t ts h1 h2 => by obtain ⟨r, rfl, h⟩ := h2; exact ⟨r, by rw [h1], h⟩)
      (Ps' := fun ts => ∃ m rows, ts = [.int m, .int fu, .int df, rows] ∧ (0 ≤ m ∧ m ≤ th - 1) ∧ isRows rows fu th = true) fun t ts h1 h2 => by obtain ⟨r, rfl, h⟩ := h2; obtain ⟨m, rfl, hm⟩ := h1; exact ⟨m, r, rfl, hm, h⟩)
      (Ps' := fun ts => ∃ m rows, ts = [.int th, .int m, .int fu, .int df, rows] ∧ (0 ≤ m ∧ m ≤ th - 1) ∧ isRows rows fu th = true) fun t ts h1 h2 => by obtain ⟨m, r, rfl, h⟩ := h2; exact ⟨m, r, by rw [h1], h⟩)
      fun t ts h1 h2 => by obtain ⟨m, r, rfl, h⟩ := h2; obtain ⟨s, rfl, hs⟩ := h1; exact ⟨s, m, r, rfl, hs, h⟩)
      (fun ts h => by obtain ⟨s, m, r, rfl, _⟩ := h; show 6 ≤ 100000; decide) (fun ts h => ?_)) fun v8 t8 H8 g8 hr8 ht8 => q v8 t8 H8 (W.trans g02 (W.trans g4 (W.trans g7 g8))) hr8 ht8
    obtain ⟨s, m, rows, rfl, hs, hm, hrows⟩ := h
    show (isTupleOf (.tup [.int s, .int th, .int m, .int fu, .int df, rows]) 6 6 && (isWithin (.int s) 0 1 && (isWithin (.int th) 1 4 && (isWithin (.int m) 0 (th - 1) && (isWithin (.int fu) 1 30 && (isWithin (.int df) 0 9 && isRows rows fu th)))))) = true
    rw [tupOf_of (by show (6 : Int) ≤ 6; decide) (by show (6 : Int) ≤ 6; decide), within_of hs.1 hs.2, within_of th1 th4, within_of hm.1 hm.2, within_of fu1 (by omega), within_of df0 df9, hrows]
    rfl
end
end K01

set_option Elab.async false
set_option linter.all false
set_option maxRecDepth 100000
set_option maxHeartbeats 4000000
namespace K01
open PySem PySem.Spec PyProof.Rows L2 Evl DL GX YA EX TH TV YT DS
abbrev s_law_hand : Stmt := topS 57
theorem sc_law_hand : FnScope ["_law_pool_here", "_law_many", "_law_far", "_law_minds", "_law_home", "_law_first", "_law_last", "_law_frame_here"] ["_law_pool_here", "_law_many", "_law_far"] (defScope s_law_hand) := ⟨rfl, rfl, rfl, by decide +kernel, rfl, by decide +kernel, by decide +kernel⟩
def natT (n : Nat) : Th := .int (n : Int)
theorem sub_rise {bs : List Nat} {m : Nat} (h : bs.Sublist (List.range m)) : rising (bs.map natT) = true ∧ ∀ b ∈ bs, b < m := by
  have hp : bs.Pairwise (· < ·) := List.pairwise_lt_range.sublist h
  refine ⟨?_, fun b hb => List.mem_range.mp (h.subset hb)⟩
  unfold rising
  refine List.all_eq_true.mpr fun i hi => ?_
  have hi2 : i < ((bs.map natT).length : Int) - 1 := by
    have := List.mem_range.mp hi
    omega
  rw [List.length_map] at hi2
  have h1 : i < bs.length := by omega
  have h2 : i + 1 < bs.length := by omega
  have e1 : (bs.map natT).getD i .none = natT bs[i] := by rw [List.getD_eq_getElem?_getD, List.getElem?_map, List.getElem?_eq_getElem h1]; rfl
  have e2 : (bs.map natT).getD (i + 1) .none = natT bs[i + 1] := by rw [List.getD_eq_getElem?_getD, List.getElem?_map, List.getElem?_eq_getElem h2]; rfl
  rw [e1, e2]
  show decide ((bs[i] : Int) < (bs[i + 1] : Int)) = true
  have := List.pairwise_iff_getElem.mp hp i (i + 1) h1 h2 (by omega)
  exact decide_eq_true (by omega)
theorem minds_sub {bs : List Nat} {m : Nat} (h : bs.Sublist (List.range m)) (hne : bs ≠ []) : isMinds (.tup (bs.map natT)) (m : Int) = true := by
  obtain ⟨h1, h2⟩ := sub_rise h
  have hl := h.length_le
  rw [List.length_range] at hl
  have hpos := List.length_pos_iff.mpr hne
  unfold isMinds
  rw [tupOf_of (by rw [List.length_map]; omega) (by rw [List.length_map]; omega), Bool.true_and]
  show ((bs.map natT).all (fun p => isWithin p 0 ((m : Int) - 1)) && rising (bs.map natT)) = true
  rw [h1, Bool.and_true]
  refine List.all_eq_true.mpr fun t ht => ?_
  obtain ⟨b, hb, rfl⟩ := List.mem_map.mp ht
  have := h2 b hb
  exact within_of (by omega) (by omega)
theorem minds_one {i : Int} {m : Nat} (h0 : 0 ≤ i) (h1 : i < m) : isMinds (.tup [.int i]) (m : Int) = true := by
  unfold isMinds
  rw [tupOf_of (by show (1 : Int) ≤ 1; decide) (by show (1 : Int) ≤ (m : Int); omega), Bool.true_and]
  show ((isWithin (.int i) 0 ((m : Int) - 1) && true) && true) = true
  rw [within_of h0 (by omega)]
  rfl
theorem list_eq {α : Type} {ts : List Th} {bs : List α} {f : α → Th} (hl : ts.length = bs.length) (h : ∀ (j : Nat) (t : Th) (d : α), ts[j]? = some t → bs[j]? = some d → t = f d) : ts = bs.map f := by
  refine List.ext_getElem? fun j => ?_
  rw [List.getElem?_map]
  by_cases hj : j < ts.length
  · have h1 := List.getElem?_eq_getElem hj
    have h2 := List.getElem?_eq_getElem (show j < bs.length by omega)
    rw [h1, h2, h j _ _ h1 h2]
    rfl
  · rw [List.getElem?_eq_none_iff.mpr (by omega), List.getElem?_eq_none_iff.mpr (by omega)]
    rfl
section
variable {P : Program} {w : World} {K : PySem.W.Frag} {mg : Str → Option Value} {base : Heap}
theorem rp_eq0 {n : Nat} {x : Th} {Pt : Th → Prop} (hx : okN n x = true) (hn : n ≤ 64) (hp : Pt (.bool (PyData.eqv (thD x) (.tuple [])))) : RP K (rEqD K) x (.tup []) Pt := fun v w H hv hw Q q => by
  refine ⟨thD x, .tuple [], dp_of n hx hv, ?_, shaped_of hx hn, by decide +kernel, q _ _ H (Ex.refl H) (.bl _) hp⟩
  obtain ⟨a, xs, rfl, hs, ha⟩ := rp_tup hw
  cases ha
  exact .tup hs .nil
theorem rp_notN {x : Th} {Pt : Th → Prop} (hp : Pt (.bool (!isNone x))) : RP K (fun x y H Q => y = .non ∧ Q (.bl (!decide (x = .non))) H) x .none Pt := fun v w H hv hw Q q => by
  have e : decide (v = .non) = isNone x := by
    cases hv with
    | non => rfl
    | _ => exact decide_eq_false (fun z => by cases z)
  cases hw
  exact ⟨rfl, by rw [e]; exact q _ _ H (Ex.refl H) (.bl _) hp⟩
theorem p_minV {G : Hp → Hp → Prop} {Ok : Addr → Prop} (W : Way G Ok) {σ : L2.St} {H : Hp} {ta tb : TE} {Pa Pb Pt : Th → Prop} (ha : EvP G K ta σ H Pa) (hb : EvP G K tb σ H Pb) (hp : ∀ x y, Pa x → Pb y → ∃ i j : Int, x = .int i ∧ y = .int j ∧ Pt (.int (if j < i then j else i))) :
    EvP G K (tCB (fun xs H Q => ∃ i j, xs = [.int i, .int j] ∧ Q (.int (if j < i then j else i)) H) (tCons ta (tCons tb tNil))) σ H Pt := fun H1 g Q q => ha H1 g _ fun v t H2 g2 hr ht => hb H2 (W.trans g g2) _ fun u t' H3 g3 hr' ht' => by
  obtain ⟨i, j, rfl, rfl, h⟩ := hp t t' ht ht'
  cases rp_int hr
  cases rp_int hr'
  exact ⟨i, j, rfl, q _ _ H3 (W.trans g2 g3) (.int _) h⟩
theorem nats_okN {bs : List Nat} (h : bs.length ≤ 20) : okN 2 (.tup (bs.map natT)) = true := by
  show (decide ((bs.map natT).length ≤ 20) && (bs.map natT).all (okN 1)) = true
  rw [List.length_map, decide_eq_true h]
  refine List.all_eq_true.mpr fun t ht => ?_
  obtain ⟨b, _, rfl⟩ := List.mem_map.mp ht
  rfl
def spHand (K : PySem.W.Frag) : Sp := fun vs H Q _ => ∃ (p : Addr) (m : Nat) (far : Int), vs = [.ref p, .int (m : Int), .int far] ∧ (1 ≤ m ∧ m ≤ 4) ∧ (1 ≤ far ∧ far ≤ 10 ^ 30) ∧ PoolAt H p ∧ ∀ v t H', GP p H H' → Rp K H' v t → isHand t (m : Int) = true → Q v H'
theorem ok_hand {f f1 : Addr} {fd fd1 : FuncData} {k : Nat} (T : Bi mg) (D : Df K mg "_law_hand" s_law_hand ["_law_pool_here", "_law_many", "_law_far"] f fd) (D_law_take : Df K mg "_law_take" s_law_take ["_law_pool_here", "_law_many"] f1 fd1) : FnOk P w K mg base CX0 (k + 2) f fd ["_law_pool_here", "_law_many", "_law_far"] (spHand K) := by
  have G_law_take : FnOk P w K mg base CX0 1 f1 fd1 ["_law_pool_here", "_law_many"] spTake := ok_take T D_law_take
  refine D.F.ok sc_law_hand (fun vs H Q E h => by obtain ⟨_, _, _, rfl, _⟩ := h; rfl) (fun cdv A outer s H vs Q E hr h => ?_)
  obtain ⟨p, m, far, rfl, hm, hfar, hp, q⟩ := h
  have W := way_pool p
  refine ⟨_, (pss_cons (ps_set (i := 3) sc_law_hand.nd rfl (.inl rfl) (pe_callTy (r := rTupOf K) call_tuple_of (by rfl) T.tuple boot_tuple (pa_cons (pe_lc (own := [("_law_frame_here", 7)]) (g := (gName 7)) rfl sc_law_hand.nd (pi_range1 rfl T.range (pa_cons (pv 1) pa_nil)) (blkOk_by (N := ["_law_pool_here", "_law_many", "_law_far", "_law_minds", "_law_home", "_law_first", "_law_last", "_law_frame_here"]) (sc := defScope s_law_hand) (by decide +kernel)) (fun _ _ _ _ _ => (pg_name (i := 7) sc_law_hand.nd rfl (.inl rfl))) (fun _ _ _ _ _ => (pts_one (pt_cmpR op_gt (pe_call G_law_take (hr.mono (by omega)) (by rfl) D_law_take.g D_law_take.F.kp D_law_take.b .nil pass0 (pa_cons (pv 0) (pa_cons pe_int pa_nil))) pe_int (nomark _)))) (fun _ _ _ _ _ => (pv 7))) pa_nil)))
      (pss_cons (ps_set (i := 4) sc_law_hand.nd rfl (.inl rfl) (pe_call G_law_take (hr.mono (by omega)) (by rfl) D_law_take.g D_law_take.F.kp D_law_take.b .nil pass0 (pa_cons (pv 0) (pa_cons (pv 1) pa_nil))))
      (pss_cons (ps_if (pt_cmpR (r := rEqD K) (op_eqD hr.units) (pv 3) (pe_tup pa_nil) (nomark _)) (pss_one (ps_set (i := 3) sc_law_hand.nd rfl (.inl rfl) (pe_tup (pa_cons (pv 4) pa_nil)))) pss_nil)
      (pss_cons (ps_set (i := 5) sc_law_hand.nd rfl (.inl rfl) (pe_ix (r := rIxL K) ix_list (pe_lst (pa_cons pe_int (pa_cons pe_int (pa_cons (pe_call G_law_take (hr.mono (by omega)) (by rfl) D_law_take.g D_law_take.F.kp D_law_take.b .nil pass0 (pa_cons (pv 0) (pa_cons pe_int pa_nil))) (pa_cons (pe_call G_law_take (hr.mono (by omega)) (by rfl) D_law_take.g D_law_take.F.kp D_law_take.b .nil pass0 (pa_cons (pv 0) (pa_cons (pv 2) pa_nil))) pa_nil))))) (pe_call G_law_take (hr.mono (by omega)) (by rfl) D_law_take.g D_law_take.F.kp D_law_take.b .nil pass0 (pa_cons (pv 0) (pa_cons pe_int pa_nil))) (fun _ _ => rfl)))
      (pss_cons (ps_set (i := 6) sc_law_hand.nd rfl (.inl rfl) (pe_ix (r := rIxL K) ix_list (pe_lst (pa_cons pe_non (pa_cons pe_non (pa_cons (pe_op op_add (pe_op op_add (pv 5) pe_int) (pe_call G_law_take (hr.mono (by omega)) (by rfl) D_law_take.g D_law_take.F.kp D_law_take.b .nil pass0 (pa_cons (pv 0) (pa_cons pe_int pa_nil)))) (pa_cons (pe_op op_add (pe_op op_add (pv 5) pe_int) (pe_call G_law_take (hr.mono (by omega)) (by rfl) D_law_take.g D_law_take.F.kp D_law_take.b .nil pass0 (pa_cons (pv 0) (pa_cons (pv 2) pa_nil)))) pa_nil))))) (pe_call G_law_take (hr.mono (by omega)) (by rfl) D_law_take.g D_law_take.F.kp D_law_take.b .nil pass0 (pa_cons (pv 0) (pa_cons pe_int pa_nil))) (fun _ _ => rfl)))
      (pss_cons (ps_if (pt_cmpR op_notN (pv 6) pe_non (nomark _)) (pss_one (ps_set (i := 6) sc_law_hand.nd rfl (.inl rfl) (pe_callB (call_min2 rfl) (by rfl) T.min boot_min (pa_cons (pv 6) (pa_cons (pe_op op_pow pe_int pe_int) pa_nil))))) pss_nil)
      (pss_one (ps_ret (pe_tup (pa_cons (pv 4) (pa_cons (pv 3) (pa_cons (pe_callB (call_min2 rfl) (by rfl) T.min boot_min (pa_cons (pv 5) (pa_cons (pe_op op_sub (pe_op op_pow pe_int pe_int) pe_int) pa_nil))) (pa_cons (pv 6) pa_nil))))))))))))), ?_⟩
  have big : ∀ {σ : L2.St} {H' : Hp}, EvP (GP p) K (tOp (rI (fun i j => CPow i j) fun i j => .int (i ^ j.toNat)) (tC (.int 10)) (tC (.int 30))) σ H' (fun t => t = .int (10 ^ 30)) := p_op W (P := fun x => x = .int 10) (P' := fun y => y = .int 30) (p_ci W rfl) (p_ci W rfl) (fun x y hx hy => by rw [hx, hy]; exact rp_I ⟨by decide, by decide, by decide⟩ rfl)
  -- minds
  refine q_asgP (K := K) W (P := fun t => ∃ bs : List Nat, bs.Sublist (List.range m) ∧ t = .tup (bs.map natT)) (p_tupL W (pl_lcF W (as := List.range m) (Pe := fun d t => t = natT d) (fr_pool hp) (wg_rng (K := K) W (by omega) (p_var W rfl (.int _) rfl)) (by rw [List.length_range]; omega) fun i d x H2 g2 hd hx => ?_) (fun ts h => ?_)) fun v1 t1 H1 g1 hr1 ht1 => ?_
  · subst hx
    exact ⟨_, tg_name, rfl, tg_T (K := K) (p_op W (p_take (m := 3) rfl (g2.p hp) ⟨by decide, by decide⟩ (p_ci W rfl)) (P' := fun y => y = .int 0) (p_ci W rfl) (fun x y hx hy => by obtain ⟨r, rfl, _⟩ := hx; rw [hy]; exact rp_gt ⟨_, rfl, trivial⟩)), fun H3 g3 => p_var W rfl (.int _) rfl⟩
  · obtain ⟨bs, h1, h2, h3⟩ := h
    exact ⟨bs, h1, by rw [list_eq h2 h3]⟩
  obtain ⟨bs, hsub, rfl⟩ := ht1
  have hbl : bs.length ≤ 20 := by
    have := hsub.length_le
    rw [List.length_range] at this
    omega
  have hp1 := g1.p hp
  -- home
  refine q_asgP (K := K) W (p_take (m := (m : Int)) rfl hp1 ⟨by omega, by omega⟩ (p_var W rfl (.int _) rfl)) fun v2 t2 H2 g2 hr2 ht2 => ?_
  obtain ⟨home, rfl, home0, home1⟩ := ht2
  cases rp_int hr2
  have hp2 := g2.p hp1
  have g02 := W.trans g1 g2
  have hr12 := rp_r g2.r hr1
  refine (show ∀ tz : TS, (∀ (v3 : V) (t3 : Th) (H3 : Hp), GP p H2 H3 → Rp K H3 v3 t3 → isMinds t3 (m : Int) = true → tz { nx := fun _ H' => Q .non H', rt := Q } [some (.ref p), some (.int (m : Int)), some (.int far), some v3, some (.int home), none, none, none] H3) →
      tSeq (tIfS (tTest (tOp (rEqD K) (tVar 3) (tTup tNil))) (tAsg (tTup (tCons (tVar 4) tNil)) (gName 3)) tNext) tz { nx := fun _ H' => Q .non H', rt := Q } [some (.ref p), some (.int (m : Int)), some (.int far), some v1, some (.int home), none, none, none] H2 from fun tz rest => ?_) _ fun v3 t3 H3 g3 hr3 hm3 => ?_
  · refine q_whenG W (Pa := fun b => b = PyData.eqv (thD (.tup (bs.map natT))) (.tuple [])) (tg_T (K := K) (p_op W (P := fun x => x = .tup (bs.map natT)) (P' := fun y => y = .tup []) (p_var W rfl hr12 rfl) (p_tup W (pa_nilP W (Ps := fun ts => ts = []) rfl) (fun ts h => by rw [h]; exact Nat.zero_le _) (fun ts h => by rw [h])) (fun x y hx hy => by rw [hx, hy]; exact rp_eq0 (nats_okN hbl) (by decide) ⟨_, rfl, rfl⟩))) (fun H3 g3 hb => ?_) (fun H3 g3 hb => ?_)
    · exact p_tup (K := K) W (Ps := fun ts => ts = [.int home]) (P := fun t => t = .tup [.int home]) (pa_consP W (P := fun t => t = .int home) (p_var W rfl (.int _) rfl) (pa_nilP W (Ps := fun ts => ts = []) rfl) (fun t ts h1 h2 => by rw [h1, h2])) (fun ts h => by rw [h]; show 1 ≤ 100000; decide) (fun ts h => by rw [h]) H3 (W.refl H3) _ fun v t H4 g4 hrt ht => rest v t H4 (W.trans g3 g4) hrt (by rw [ht]; exact minds_one home0 (by omega))
    · refine rest v1 _ H3 g3 (rp_r g3.r hr12) (minds_sub hsub fun z => ?_)
      rw [z] at hb
      exact absurd hb (by decide +kernel)
  have hp3 := g3.p hp2
  -- first
  refine q_asgP (K := K) W (P := fun t => ∃ i : Int, t = .int i ∧ 0 ≤ i ∧ i ≤ 10 ^ 30) (p_pick (k := 4) rfl hp3 (by decide) (pl_lst W (fr_pool hp3) (addP W 3 (p_ci W ⟨0, rfl, by decide, by decide⟩) (addP W 2 (p_ci W ⟨0, rfl, by decide, by decide⟩) (addP W 1 (p_imp W (p_take (m := 20) rfl hp3 ⟨by decide, by decide⟩ (p_ci W rfl)) fun t ht => by obtain ⟨i, rfl, _⟩ := ht; exact ⟨i, rfl, by omega, by omega⟩) (addP W 0 (p_imp W (p_take (m := far) rfl hp3 ⟨by omega, by omega⟩ (p_var W rfl (.int _) rfl)) fun t ht => by obtain ⟨i, rfl, _⟩ := ht; exact ⟨i, rfl, by omega, by omega⟩) (nilP W))))) (fun ts h => by rw [h.1]; decide)) (p_ci W rfl)) fun v4 t4 H4 g4 hr4 ht4 => ?_
  obtain ⟨fi, rfl, fi0, fi1⟩ := ht4
  cases rp_int hr4
  have hp4 := g4.p hp3
  -- last
  have more : ∀ {mm : Int} {te : TE} {σ : L2.St} {H' : Hp}, σ[0]? = some (some (.ref p)) → σ[5]? = some (some (.int fi)) → PoolAt H' p → (0 < mm ∧ mm ≤ 10 ^ 40) → EvP (GP p) K te σ H' (fun t => t = .int mm) → EvP (GP p) K (tOp (rI0 fun i j => .int (i + j)) (tOp (rI0 fun i j => .int (i + j)) (tVar 5) (tC (.int 1))) (tCall spTake [] E0 (tCons (tVar 0) (tCons te tNil)))) σ H' (fun t => t = .none ∨ ∃ i : Int, t = .int i ∧ fi + 1 ≤ i) := fun h0 h5 hpp hmm he =>
    p_op W (P := fun x => x = .int (fi + 1)) (p_op W (P := fun x => x = .int fi) (P' := fun y => y = .int 1) (p_var W h5 (.int _) rfl) (p_ci W rfl) (fun x y hx hy => by rw [hx, hy]; exact rp_I0 rfl)) (p_take h0 hpp hmm he) (fun x y hx hy => by obtain ⟨r, rfl, _⟩ := hy; rw [hx]; exact rp_I0 (.inr ⟨_, rfl, by omega⟩))
  refine q_asgP (K := K) W (P := fun t => t = .none ∨ ∃ i : Int, t = .int i ∧ fi + 1 ≤ i) (p_pick (k := 4) rfl hp4 (by decide) (pl_lst W (fr_pool hp4) (addP W 3 (p_cn W (.inl rfl)) (addP W 2 (p_cn W (.inl rfl)) (addP W 1 (more rfl rfl hp4 ⟨by decide, by decide⟩ (p_ci W rfl)) (addP W 0 (more (mm := far) rfl rfl hp4 ⟨by omega, by omega⟩ (p_var W rfl (.int _) rfl)) (nilP W))))) (fun ts h => by rw [h.1]; decide)) (p_ci W rfl)) fun v5 t5 H5 g5 hr5 ht5 => ?_
  have hp5 := g5.p hp4
  have g35 := W.trans g4 g5
  refine (show ∀ tz : TS, (∀ (v6 : V) (t6 : Th) (H6 : Hp), GP p H5 H6 → Rp K H6 v6 t6 → (t6 = .none ∨ ∃ i : Int, t6 = .int i ∧ (fi + 1 ≤ i ∨ i = 10 ^ 30) ∧ i ≤ 10 ^ 30) → tz { nx := fun _ H' => Q .non H', rt := Q } [some (.ref p), some (.int (m : Int)), some (.int far), some v3, some (.int home), some (.int fi), some v6, none] H6) →
      tSeq (tIfS (tTest (tOp (fun x y H Q => y = .non ∧ Q (.bl (!decide (x = .non))) H) (tVar 6) (tC .non))) (tAsg (tCB (fun xs H Q => ∃ i j, xs = [.int i, .int j] ∧ Q (.int (if j < i then j else i)) H) (tCons (tVar 6) (tCons (tOp (rI (fun i j => CPow i j) fun i j => .int (i ^ j.toNat)) (tC (.int 10)) (tC (.int 30))) tNil))) (gName 6)) tNext) tz { nx := fun _ H' => Q .non H', rt := Q } [some (.ref p), some (.int (m : Int)), some (.int far), some v3, some (.int home), some (.int fi), some v5, none] H5 from fun tz rest => ?_) _ fun v6 t6 H6 g6 hr6 ht6 => ?_
  · refine q_whenG W (Pa := fun b => b = !isNone t5) (tg_T (K := K) (p_op W (P := fun x => x = t5) (P' := fun y => y = .none) (p_var W rfl hr5 rfl) (p_cn W rfl) (fun x y hx hy => by rw [hx, hy]; exact rp_notN ⟨_, rfl, rfl⟩))) (fun H6 g6 hb => ?_) (fun H6 g6 hb => ?_)
    · rcases ht5 with z | ⟨i, rfl, hi⟩
      · rw [z] at hb
        cases hb
      · refine p_minV (K := K) (Pt := fun t => ∃ j : Int, t = .int j ∧ (fi + 1 ≤ j ∨ j = 10 ^ 30) ∧ j ≤ 10 ^ 30) W (Pa := fun t => t = .int i) (p_var W rfl (rp_r g6.r hr5) rfl) big (fun x y hx hy => ⟨i, 10 ^ 30, hx, hy, _, rfl, ?_, ?_⟩) H6 (W.refl H6) _ fun v t H7 g7 hrt ht => rest v t H7 (W.trans g6 g7) hrt (.inr ht)
        · split
          · exact .inr rfl
          · exact .inl hi
        · split <;> omega
    · rcases ht5 with z | ⟨i, rfl, hi⟩
      · exact rest v5 _ H6 g6 (rp_r g6.r hr5) (.inl z)
      · cases hb
  have g26 := W.trans g3 (W.trans g35 g6)
  have hr36 := rp_r (W.trans g35 g6).r hr3
  refine s_retP W (P := fun t => isHand t (m : Int) = true) (p_tup W (Ps := fun ts => ∃ st, ts = [.int home, t3, .int st, t6] ∧ st = (if (10 : Int) ^ 30 - 1 < fi then 10 ^ 30 - 1 else fi))
    (pa_consP W (P := fun t => t = .int home) (p_var W rfl (.int _) rfl) (pa_consP W (P := fun t => t = t3) (p_var W rfl hr36 rfl) (pa_consP W (P := fun t => t = .int (if (10 : Int) ^ 30 - 1 < fi then 10 ^ 30 - 1 else fi)) (p_minV W (Pa := fun t => t = .int fi) (Pb := fun t => t = .int (10 ^ 30 - 1)) (p_var W rfl (.int _) rfl) (p_op W (P' := fun y => y = .int 1) big (p_ci W rfl) (fun x y hx hy => by rw [hx, hy]; exact rp_I0 rfl)) (fun x y hx hy => ⟨fi, _, hx, hy, rfl⟩))
    (pa_consP W (P := fun t => t = t6) (p_var W rfl hr6 rfl) (pa_nilP W (Ps := fun ts => ts = []) rfl) (Ps' := fun ts => ts = [t6]) fun t ts h1 h2 => by rw [h1, h2]) (Ps' := fun ts => ts = [.int (if (10 : Int) ^ 30 - 1 < fi then 10 ^ 30 - 1 else fi), t6]) fun t ts h1 h2 => by rw [h1, h2]) (Ps' := fun ts => ts = [t3, .int (if (10 : Int) ^ 30 - 1 < fi then 10 ^ 30 - 1 else fi), t6]) fun t ts h1 h2 => by rw [h1, h2]) fun t ts h1 h2 => ⟨_, by rw [h1, h2], rfl⟩)
    (fun ts h => by obtain ⟨st, rfl, _⟩ := h; show 4 ≤ 100000; decide) (fun ts h => ?_)) fun v8 t8 H8 g8 hr8 ht8 => q v8 t8 H8 (W.trans g02 (W.trans g26 g8)) hr8 ht8
  obtain ⟨st, rfl, hst⟩ := h
  have s1 : 0 ≤ st ∧ st ≤ 10 ^ 30 - 1 ∧ st ≤ fi := by
    rw [hst]
    split <;> omega
  show (isTupleOf (.tup [.int home, t3, .int st, t6]) 4 4 && ((isWithin (.int home) 0 ((m : Int) - 1) && (isMinds t3 (m : Int) && isWithin (.int st) 0 (10 ^ 30))) && (isNone t6 || isWithin t6 (st + 1) (10 ^ 30)))) = true
  rw [tupOf_of (by show (4 : Int) ≤ 4; decide) (by show (4 : Int) ≤ 4; decide), within_of home0 (by omega), hm3, within_of s1.1 (by omega)]
  rcases ht6 with rfl | ⟨i, rfl, h1, h2⟩
  · rfl
  · show (isNone (.int i) || isWithin (.int i) (st + 1) (10 ^ 30)) = true
    rw [within_of (by omega) h2, Bool.or_true]
end
end K01

set_option Elab.async false
set_option linter.all false
set_option maxRecDepth 100000
set_option maxHeartbeats 4000000
namespace K01
open PySem PySem.Spec PyProof.Rows L2 Evl DL GX YA EX TH TV YT DS
abbrev s_law_strays : Stmt := topS 58
theorem sc_law_strays : FnScope ["_law_pool_here", "_law_frames", "_law_most", "_law_far", "_law_found", "_law_turn", "_law_frame_here", "_law_spun"] ["_law_pool_here", "_law_frames", "_law_most", "_law_far"] (defScope s_law_strays) := ⟨rfl, rfl, rfl, by decide +kernel, rfl, by decide +kernel, by decide +kernel⟩
def strayK (fs : List Th) (ns : List Int) : Prop := ∃ a b c : Int, ns = [a, b, c] ∧ (0 ≤ a ∧ a < fs.length) ∧ (1 ≤ b ∧ b ≤ 10 ^ 30) ∧ (0 ≤ c ∧ c ≤ threadsOf fs (.int a) - 1)
theorem strays_ok {L : List (List Int)} {fs : List Th} (hl : L.length ≤ 16) (h : ∀ ns ∈ L, strayK fs ns) (hr : rising (L.map tupI) = true) : isStrays (.tup (L.map tupI)) fs = true := by
  unfold isStrays
  rw [tupOf_of (by rw [List.length_map]; omega) (by rw [List.length_map]; omega), Bool.true_and]
  show ((L.map tupI).all (fun p => isStray p fs) && rising (L.map tupI)) = true
  rw [hr, Bool.and_true]
  refine List.all_eq_true.mpr fun t ht => ?_
  obtain ⟨ns, hns, rfl⟩ := List.mem_map.mp ht
  obtain ⟨a, b, c, rfl, ha, hb, hc⟩ := h ns hns
  show (isTupleOf (.tup [.int a, .int b, .int c]) 3 3 && ((isWithin (.int a) 0 ((fs.length : Int) - 1) && isWithin (.int b) 1 (10 ^ 30)) && isWithin (.int c) 0 (threadsOf fs (.int a) - 1))) = true
  rw [tupOf_of (by show (3 : Int) ≤ 3; decide) (by show (3 : Int) ≤ 3; decide), within_of ha.1 (by omega), within_of hb.1 hb.2, within_of hc.1 hc.2]
  rfl
theorem frame_th {t : Th} (h : isFrame t = true) : ∃ us th, t = .tup us ∧ us[1]? = some (.int th) ∧ 1 ≤ th ∧ th ≤ 4 := by
  unfold isFrame at h
  rw [Bool.and_eq_true] at h
  obtain ⟨us, rfl, l1, l2⟩ := tup_len h.1
  obtain ⟨k1, k2, k3, k4, k5, k6, rfl⟩ := six_of l1 l2
  have h2 : (isWithin k1 0 1 && (isWithin k2 1 4 && (isWithin k3 0 (asInt k2 - 1) && (isWithin k4 1 30 && (isWithin k5 0 9 && isRows k6 (asInt k4) (asInt k2)))))) = true := h.2
  rw [Bool.and_eq_true, Bool.and_eq_true] at h2
  obtain ⟨th, rfl, a, b⟩ := int_within h2.2.1
  exact ⟨_, th, rfl, rfl, a, b⟩
section
variable {P : Program} {w : World} {K : PySem.W.Frag} {mg : Str → Option Value} {base : Heap}
def spStrays (K : PySem.W.Frag) : Sp := fun vs H Q _ => ∃ (p : Addr) (vf : V) (fs : List Th) (most far : Int), vs = [.ref p, vf, .int most, .int far] ∧ Rp K H vf (.tup fs) ∧ fs.all isFrame = true ∧ (1 ≤ fs.length ∧ fs.length ≤ 4) ∧ (0 ≤ most ∧ most ≤ 16) ∧ (1 ≤ far ∧ far ≤ 10 ^ 30) ∧ PoolAt H p ∧ ∀ v t H', GP p H H' → Rp K H' v t → isStrays t fs = true → Q v H'
theorem ok_strays {f f1 : Addr} {fd fd1 : FuncData} {k : Nat} (T : Bi mg) (D : Df K mg "_law_strays" s_law_strays ["_law_pool_here", "_law_frames", "_law_most", "_law_far"] f fd) (D_law_take : Df K mg "_law_take" s_law_take ["_law_pool_here", "_law_many"] f1 fd1) : FnOk P w K mg base CX0 (k + 2) f fd ["_law_pool_here", "_law_frames", "_law_most", "_law_far"] (spStrays K) := by
  have G_law_take : FnOk P w K mg base CX0 1 f1 fd1 ["_law_pool_here", "_law_many"] spTake := ok_take T D_law_take
  refine D.F.ok sc_law_strays (fun vs H Q E h => by obtain ⟨_, _, _, _, _, rfl, _⟩ := h; rfl) (fun cdv A outer s H vs Q E hr h => ?_)
  obtain ⟨p, vf, fs, most, far, rfl, hrf, hall, hfl, hmost, hfar, hp, q⟩ := h
  have W := way_pool p
  refine ⟨_, (pss_cons (ps_set (i := 4) sc_law_strays.nd rfl (.inl rfl) pe_dnewT)
      (pss_cons (ps_for PassesOwn.never rfl (pi_range1 rfl T.range (pa_cons (pe_call G_law_take (hr.mono (by omega)) (by rfl) D_law_take.g D_law_take.F.kp D_law_take.b .nil pass0 (pa_cons (pv 0) (pa_cons (pe_op op_add (pv 2) pe_int) pa_nil))) pa_nil)) (pg_name (i := 5) sc_law_strays.nd rfl (.inl rfl)) (pss_cons (ps_set (i := 6) sc_law_strays.nd rfl (.inl rfl) (pe_call G_law_take (hr.mono (by omega)) (by rfl) D_law_take.g D_law_take.F.kp D_law_take.b .nil pass0 (pa_cons (pv 0) (pa_cons (pe_callB (r := rLenS K) call_len_seq (by rfl) T.len PySem.boot_len (pa_cons (pv 1) pa_nil)) pa_nil))))
      (pss_cons (ps_set (i := 7) sc_law_strays.nd rfl (.inl rfl) (pe_op op_add pe_int (pe_ix (r := rIxL K) ix_list (pe_lst (pa_cons (pe_call G_law_take (hr.mono (by omega)) (by rfl) D_law_take.g D_law_take.F.kp D_law_take.b .nil pass0 (pa_cons (pv 0) (pa_cons pe_int pa_nil))) (pa_cons (pe_call G_law_take (hr.mono (by omega)) (by rfl) D_law_take.g D_law_take.F.kp D_law_take.b .nil pass0 (pa_cons (pv 0) (pa_cons pe_int pa_nil))) (pa_cons (pe_call G_law_take (hr.mono (by omega)) (by rfl) D_law_take.g D_law_take.F.kp D_law_take.b .nil pass0 (pa_cons (pv 0) (pa_cons (pv 3) pa_nil))) pa_nil)))) (pe_call G_law_take (hr.mono (by omega)) (by rfl) D_law_take.g D_law_take.F.kp D_law_take.b .nil pass0 (pa_cons (pv 0) (pa_cons pe_int pa_nil))) (fun _ _ => rfl))))
      (pss_one (ps_asg pe_bl (pg_sub (pv 4) (pe_tup (pa_cons (pv 6) (pa_cons (pv 7) (pa_cons (pe_call G_law_take (hr.mono (by omega)) (by rfl) D_law_take.g D_law_take.F.kp D_law_take.b .nil pass0 (pa_cons (pv 0) (pa_cons (pe_ix (r := rIxT K) ix_tup (pe_ix (r := rIxT K) ix_tup (pv 1) (pv 6) (fun _ _ => rfl)) pe_int (fun _ _ => rfl)) pa_nil))) pa_nil)))) (set_dict (Nat.lt_of_le_of_lt (Nat.add_le_add_left (show 1 ≤ 64 by decide) _) hr.units))))))))
      (pss_one (ps_ret (pe_callTy (r := rTupOf K) call_tuple_of (by rfl) T.tuple boot_tuple (pa_cons (pe_callB (r := rSortDT 3 (10 ^ 31)) (cr_sortDT (by decide) rfl) (by rfl) T.sorted boot_sorted (pa_cons (pv 4) pa_nil)) pa_nil)))))), ?_⟩
  refine fun d hd => ?_
  have hdp : d ≠ p := fun z => by
    obtain ⟨m, hm⟩ := hp
    rw [z, hm] at hd
    cases hd
  have gd : GP p H (upd H d (.dT [])) := W.ex (Ex.new hd)
  have hp3 := gd.p hp
  refine p_take (K := K) (m := most + 1) rfl hp3 ⟨by omega, by omega⟩ (p_op W (P := fun x => x = .int most) (P' := fun y => y = .int 1) (p_var W rfl (.int _) rfl) (p_ci W rfl) (fun x y hx hy => by rw [hx, hy]; exact rp_I0 rfl)) _ (W.refl _) _ fun v3 t3 H3 g3 hr3 ht3 => ?_
  obtain ⟨r, rfl, r0, r5⟩ := ht3
  cases rp_int hr3
  refine q_forR1 (ta := tCons (tC (.int r)) tNil) (ea_cons ev_c ea_nil) ⟨by omega, by omega⟩ (fun i σ' H' => ExB p H H' ∧ PoolAt H' p ∧ ∃ kvs y5 y6 y7, σ' = [some (.ref p), some vf, some (.int most), some (.int far), some (.ref d), y5, y6, y7] ∧ H' d = some (.dT kvs) ∧ kvs.length ≤ i ∧ KeysOk (fun ns => (ns.length = 3 ∧ TS.Bd (10 ^ 31) ns) ∧ strayK fs ns) kvs) (fun H4 e4 => ?_) (fun i σ' H' hi pv => ?_) (fun σ' H' pv => ?_)
  · have g4 := W.trans (W.trans gd g3) (W.ex e4)
    refine ⟨g4.b, g4.p hp, [], _, _, _, rfl, (W.trans g3 (W.ex e4)).b d _ hdp upd_same, Nat.le_refl _, fun q hq => nomatch hq⟩
  · obtain ⟨exb, hpp, kvs, y5, y6, y7, rfl, hkd, hkl, hko⟩ := pv
    have gH : GP p H H' := gp_of exb hp hpp
    have hrf' := rp_r gH.r hrf
    -- the frame
    refine q_asgP (K := K) W (p_take (m := (fs.length : Int)) rfl hpp ⟨by omega, by omega⟩ (p_len W (p_var W rfl hrf' ⟨fs, rfl, rfl⟩))) fun v4 t4 H4 g4 hr4 ht4 => ?_
    obtain ⟨fr, rfl, fr0, fr1⟩ := ht4
    cases rp_int hr4
    have hp4 := g4.p hpp
    -- spun
    refine q_asgP (K := K) W (P := fun t => ∃ i : Int, t = .int i ∧ 1 ≤ i ∧ i ≤ 10 ^ 30) (p_op W (P := fun x => x = .int 1) (p_ci W rfl) (P' := fun t => ∃ i : Int, t = .int i ∧ 0 ≤ i ∧ i < 10 ^ 30) (p_pick (k := 3) rfl hp4 (by decide) (pl_lst W (fr_pool hp4) (addP W 2 (p_imp W (p_take (m := 6) rfl hp4 ⟨by decide, by decide⟩ (p_ci W rfl)) fun t ht => by obtain ⟨i, rfl, _⟩ := ht; exact ⟨i, rfl, by omega, by omega⟩) (addP W 1 (p_imp W (p_take (m := 60) rfl hp4 ⟨by decide, by decide⟩ (p_ci W rfl)) fun t ht => by obtain ⟨i, rfl, _⟩ := ht; exact ⟨i, rfl, by omega, by omega⟩) (addP W 0 (p_imp W (p_take (m := far) rfl hp4 ⟨by omega, by omega⟩ (p_var W rfl (.int _) rfl)) fun t ht => by obtain ⟨i, rfl, _⟩ := ht; exact ⟨i, rfl, by omega, by omega⟩) (nilP W)))) (fun ts h => by rw [h.1]; decide)) (p_ci W rfl)) (fun x y hx hy => by obtain ⟨r, rfl, _⟩ := hy; rw [hx]; exact rp_I0 ⟨_, rfl, by omega, by omega⟩)) fun v5 t5 H5 g5 hr5 ht5 => ?_
    obtain ⟨sp, rfl, sp1, sp2⟩ := ht5
    cases rp_int hr5
    have hp5 := g5.p hp4
    have g45 := W.trans g4 g5
    have hrf5 := rp_r g45.r hrf'
    obtain ⟨j, rfl⟩ : ∃ j : Nat, fr = (j : Int) := ⟨fr.toNat, by omega⟩
    have hj : j < fs.length := by omega
    have hat : fs[j]? = some fs[j] := List.getElem?_eq_getElem hj
    obtain ⟨us, th, eu, hu, th1, th4⟩ := frame_th (List.all_eq_true.mp hall _ (List.getElem_mem hj))
    have hth : threadsOf fs (.int (j : Int)) = th := by
      show asInt ((parts (fs.getD ((j : Int)).toNat .none)).getD 1 .none) = th
      have e1 : fs.getD ((j : Int)).toNat .none = fs[j] := by rw [Int.toNat_natCast, List.getD_eq_getElem?_getD, hat]; rfl
      rw [e1, eu]
      show asInt (us.getD 1 .none) = th
      rw [List.getD_eq_getElem?_getD, hu]
      rfl
    refine ⟨.ref d, rfl, .int (j : Int), rfl, .int sp, rfl, ?_⟩
    refine p_take (K := K) (m := th) rfl hp5 ⟨by omega, by omega⟩ (p_op W (P := fun x => x = .tup us) (P' := fun y => y = .int 1) (p_op W (P := fun x => x = .tup fs) (P' := fun y => y = .int (j : Int)) (p_var W rfl hrf5 rfl) (p_var W rfl (.int _) rfl) (fun x y hx hy => by rw [hx, hy]; exact rp_ixT hat eu)) (p_ci W rfl) (fun x y hx hy => by rw [hx, hy]; exact rp_ixT (i := 1) hu rfl)) _ (W.refl _) _ fun v6 t6 H6 g6 hr6 ht6 => ?_
    obtain ⟨c, rfl, c0, c1⟩ := ht6
    cases rp_int hr6
    have g56 := W.trans g45 g6
    refine ⟨by show 3 ≤ sizeLine; decide, fun t ht => ?_⟩
    have hkd6 : H6 d = some (.dT kvs) := g56.b d _ hdp hkd
    have hdt : d ≠ t := ne_of_none hkd6 ht
    obtain ⟨m6, hm6⟩ := g56.p hpp
    have hpt : p ≠ t := ne_of_none hm6 ht
    have ko := keys_put (v := .bl true) hko (ns := [(j : Int), sp, c]) ⟨⟨rfl, fun x hx => by
      simp only [List.mem_cons, List.not_mem_nil, or_false] at hx
      rcases hx with rfl | rfl | rfl <;> omega⟩, _, _, _, rfl, ⟨by omega, by omega⟩, ⟨sp1, sp2⟩, c0, by rw [hth]; omega⟩
    refine ⟨d, _, rfl, DPut.t (k := [(j : Int), sp, c].map Sum.inl) (by rw [upd_ne hdt]; exact hkd6) upd_same (by rw [sizeLine_eq]; omega), fun x o hx ho => ?_, ⟨m6, ?_⟩, _, _, _, _, rfl, upd_same, by have := ko.2; omega, ko.1⟩
    · rw [upd_ne (ne_of_none ho hd), upd_ne (ne_of_none (g56.b x o hx (exb x o hx ho)) ht)]
      exact g56.b x o hx (exb x o hx ho)
    · rw [upd_ne (Ne.symm hdp), upd_ne hpt]
      exact hm6
  · obtain ⟨exb, hpp, kvs, y5, y6, y7, rfl, hkd, hkl, hko⟩ := pv
    have g4 : GP p H H' := gp_of exb hp hpp
    exact s_retP W (P := fun t => isStrays t fs = true) (p_imp W (p_sortDT rfl hdp hkd (by omega) (by decide) hko) fun t ht => by
      obtain ⟨L, rfl, l1, l2, l3⟩ := ht
      exact strays_ok (by omega) l2 l3) fun v8 t8 H8 g8 hr8 ht8 => q v8 t8 H8 (W.trans g4 g8) hr8 ht8
end
end K01

set_option Elab.async false
set_option linter.all false
set_option maxRecDepth 100000
set_option maxHeartbeats 4000000
namespace K01
open PySem PySem.Spec PyProof.Rows L2 Evl DL GX YA EX TH TV YT DS
abbrev s_law_yard : Stmt := topS 59
theorem sc_law_yard : FnScope ["_law_pool_here", "_law_most_frames", "_law_most_full", "_law_most_hands", "_law_most_strays", "_law_far", "_law_many", "_law_frames", "_law_wide", "_law_walks", "_law_frame_here", "_law_pieces", "_law_hands", "_law_rule", "_law_strays_here", "_law_other", "_law_hand_here"] ["_law_pool_here", "_law_most_frames", "_law_most_full", "_law_most_hands", "_law_most_strays", "_law_far"] (defScope s_law_yard) := ⟨rfl, rfl, rfl, by decide +kernel, rfl, by decide +kernel, by decide +kernel⟩
theorem walk_ok {us : List Th} {j m : Nat} (hl : us.length = m) (h : ∀ (i : Nat) (t : Th), us[i]? = some t → ∃ n : Int, t = .int n ∧ 0 ≤ n ∧ n ≤ 9 ∧ (i = j → n = 0)) (hj : j < m) : isWalk (.tup us) (j : Int) (m : Int) = true := by
  unfold isWalk
  rw [tupOf_of (by omega) (by omega), Bool.true_and]
  show (us.all (fun p => isWithin p 0 9) && decide (asInt (us.getD ((j : Int)).toNat .none) = 0)) = true
  have h1 : us.all (fun p => isWithin p 0 9) = true := List.all_eq_true.mpr fun t ht => by
    obtain ⟨i, hi⟩ := List.getElem?_of_mem ht
    obtain ⟨n, rfl, n0, n9, _⟩ := h i t hi
    exact within_of n0 n9
  have hj2 : us[j]? = some us[j] := List.getElem?_eq_getElem (by omega)
  obtain ⟨n, e, _, _, h0⟩ := h j _ hj2
  rw [h1, Int.toNat_natCast, List.getD_eq_getElem?_getD, hj2]
  show decide (asInt us[j] = 0) = true
  rw [e]
  exact decide_eq_true (h0 rfl)
theorem walks_ok {ws : List Th} {m : Nat} (hl : ws.length = m) (h : ∀ (j : Nat) (t : Th), ws[j]? = some t → isWalk t (j : Int) (m : Int) = true) : isWalks (.tup ws) (m : Int) = true := by
  unfold isWalks
  rw [tupOf_of (by omega) (by omega), Bool.true_and]
  show ((nums ws).all fun p => isWalk p.2 (p.1 : Int) (m : Int)) = true
  refine List.all_eq_true.mpr fun q hq => ?_
  obtain ⟨i, hi, e⟩ := List.mem_iff_getElem.mp hq
  have hi2 : i < ws.length := by rw [nums_len] at hi; exact hi
  have hat := List.getElem?_eq_getElem hi2
  have e2 : q = (i, ws[i]) := by
    have z := nums_at hat
    rw [List.getElem?_eq_getElem hi, e] at z
    exact Option.some.inj z
  rw [e2]
  exact h i _ hat
section
variable {P : Program} {w : World} {K : PySem.W.Frag} {mg : Str → Option Value} {base : Heap}
theorem p_takeB {p : Addr} {σ : L2.St} {H : Hp} {te : TE} {i : Nat} {B : Int} {E : XK} (hv : σ[i]? = some (some (.ref p))) (hp : PoolAt H p) (hB : B ≤ 10 ^ 40) (he : EvP (GP p) K te σ H fun t => ∃ m : Int, t = .int m ∧ 0 < m ∧ m ≤ B) :
    EvP (GP p) K (tCall spTake [] E (tCons (tVar i) (tCons te tNil))) σ H (fun t => ∃ r, t = .int r ∧ 0 ≤ r ∧ r < B) := fun H1 g Q q => ⟨.ref p, hv, he H1 g _ fun v t H2 g2 hr ht => by
  obtain ⟨m, rfl, m0, mB⟩ := ht
  cases rp_int hr
  have hp2 := ((way_pool p).trans g g2).p hp
  obtain ⟨n, hn⟩ := id hp2
  refine ⟨p, n, m, rfl, hn, ⟨m0, by omega⟩, fun t ht => ?_⟩
  refine q _ _ _ ((way_pool p).trans g2 (gp_of (fun b o nb hb => ?_) hp2 ⟨_, upd_same⟩)) (.int _) ⟨_, rfl, Int.emod_nonneg _ (by omega), by have := Int.emod_lt_of_pos n m0; omega⟩
  rw [upd_ne nb, upd_ne (ne_of_none hb ht)]
  exact hb⟩
theorem p_frame {p : Addr} {σ : L2.St} {H : Hp} {i j : Nat} {n : Int} {E : XK} (hv : σ[i]? = some (some (.ref p))) (hj : σ[j]? = some (some (.int n))) (hn : 1 ≤ n ∧ n ≤ 30) (hp : PoolAt H p) : EvP (GP p) K (tCall (spFrame K) [] E (tCons (tVar i) (tCons (tVar j) tNil))) σ H (fun t => isFrame t = true) := fun H1 g Q q =>
  ⟨.ref p, hv, .int n, hj, p, n, rfl, hn, g.p hp, fun v t H' g' hr ht => q v t H' g' hr ht⟩
theorem p_hand {p : Addr} {σ : L2.St} {H : Hp} {i j l : Nat} {m : Nat} {far : Int} {E : XK} (hv : σ[i]? = some (some (.ref p))) (hj : σ[j]? = some (some (.int (m : Int)))) (hl : σ[l]? = some (some (.int far))) (hm : 1 ≤ m ∧ m ≤ 4) (hf : 1 ≤ far ∧ far ≤ 10 ^ 30) (hp : PoolAt H p) : EvP (GP p) K (tCall (spHand K) [] E (tCons (tVar i) (tCons (tVar j) (tCons (tVar l) tNil)))) σ H (fun t => isHand t (m : Int) = true) := fun H1 g Q q =>
  ⟨.ref p, hv, .int (m : Int), hj, .int far, hl, p, m, far, rfl, hm, hf, g.p hp, fun v t H' g' hr ht => q v t H' g' hr ht⟩
theorem all_of {ts : List Th} {f : Th → Bool} {n : Nat} (hl : ts.length = n) (h : ∀ (j : Nat) (t : Th) (d : Nat), ts[j]? = some t → (List.range n)[j]? = some d → f t = true) : ts.all f = true := List.all_eq_true.mpr fun t ht => by
  obtain ⟨j, hj⟩ := List.getElem?_of_mem ht
  have hjl : j < n := by
    rw [← hl]
    exact (List.getElem?_eq_some_iff.mp hj).1
  exact h j t j hj (List.getElem?_range hjl)
def spYard (K : PySem.W.Frag) : Sp := fun vs H Q _ => ∃ (p : Addr) (mf mu mh ms far : Int), vs = [.ref p, .int mf, .int mu, .int mh, .int ms, .int far] ∧ (1 ≤ mf ∧ mf ≤ 4) ∧ (1 ≤ mu ∧ mu ≤ 30) ∧ (0 ≤ mh ∧ mh ≤ 16) ∧ (0 ≤ ms ∧ ms ≤ 16) ∧ (1 ≤ far ∧ far ≤ 10 ^ 30) ∧ PoolAt H p ∧ ∀ v t H', GP p H H' → Rp K H' v t → isYard t = true → Q v H'
theorem ok_yard {f f1 f2 f3 f4 : Addr} {fd fd1 fd2 fd3 fd4 : FuncData} (T : Bi mg) (D : Df K mg "_law_yard" s_law_yard ["_law_pool_here", "_law_most_frames", "_law_most_full", "_law_most_hands", "_law_most_strays", "_law_far"] f fd) (D_law_take : Df K mg "_law_take" s_law_take ["_law_pool_here", "_law_many"] f1 fd1)
    (D_law_frame : Df K mg "_law_frame" s_law_frame ["_law_pool_here", "_law_most_full"] f2 fd2) (D_law_hand : Df K mg "_law_hand" s_law_hand ["_law_pool_here", "_law_many", "_law_far"] f3 fd3) (D_law_strays : Df K mg "_law_strays" s_law_strays ["_law_pool_here", "_law_frames", "_law_most", "_law_far"] f4 fd4) :
    FnOk P w K mg base CX0 3 f fd ["_law_pool_here", "_law_most_frames", "_law_most_full", "_law_most_hands", "_law_most_strays", "_law_far"] (spYard K) := by
  have G_law_take : FnOk P w K mg base CX0 1 f1 fd1 ["_law_pool_here", "_law_many"] spTake := ok_take T D_law_take
  have G_law_frame : FnOk P w K mg base CX0 2 f2 fd2 ["_law_pool_here", "_law_most_full"] (spFrame K) := ok_frame T D_law_frame D_law_take
  have G_law_hand : FnOk P w K mg base CX0 2 f3 fd3 ["_law_pool_here", "_law_many", "_law_far"] (spHand K) := ok_hand T D_law_hand D_law_take
  have G_law_strays : FnOk P w K mg base CX0 2 f4 fd4 ["_law_pool_here", "_law_frames", "_law_most", "_law_far"] (spStrays K) := ok_strays T D_law_strays D_law_take
  refine D.F.ok sc_law_yard (fun vs H Q E h => by obtain ⟨_, _, _, _, _, _, rfl, _⟩ := h; rfl) (fun cdv A outer s H vs Q E hr h => ?_)
  obtain ⟨p, mf, mu, mh, ms, far, rfl, hmf, hmu, hmh, hms, hfar, hp, q⟩ := h
  have W := way_pool p
  refine ⟨_, (pss_cons (ps_set (i := 6) sc_law_yard.nd rfl (.inr rfl) (pe_op op_add pe_int (pe_call G_law_take (hr.mono (by omega)) (by rfl) D_law_take.g D_law_take.F.kp D_law_take.b .nil pass0 (pa_cons (pv 0) (pa_cons (pv 1) pa_nil)))))
      (pss_cons (ps_set (i := 7) sc_law_yard.nd rfl (.inl rfl) (pe_callTy (r := rTupOf K) call_tuple_of (by rfl) T.tuple boot_tuple (pa_cons (pe_lc (own := [("_law_frame_here", 10)]) (g := (gName 10)) rfl sc_law_yard.nd (pi_range1 rfl T.range (pa_cons (pv 6) pa_nil)) (blkOk_by (N := ["_law_pool_here", "_law_most_frames", "_law_most_full", "_law_most_hands", "_law_most_strays", "_law_far", "_law_many", "_law_frames", "_law_wide", "_law_walks", "_law_frame_here", "_law_pieces", "_law_hands", "_law_rule", "_law_strays_here", "_law_other", "_law_hand_here"]) (sc := defScope s_law_yard) (by decide +kernel)) (fun _ _ _ _ _ => (pg_name (i := 10) sc_law_yard.nd rfl (.inl rfl))) (fun _ _ _ _ _ => pts_nil) (fun _ _ _ _ _ => (pe_call G_law_frame (hr.mono (by omega)) (by rfl) D_law_frame.g D_law_frame.F.kp D_law_frame.b .nil pass0 (pa_cons (pv 0) (pa_cons (pv 2) pa_nil))))) pa_nil)))
      (pss_cons (ps_set (i := 8) sc_law_yard.nd rfl (.inr rfl) (pe_ix (r := rIxL K) ix_list (pe_lst (pa_cons pe_int (pa_cons pe_int (pa_cons pe_int (pa_cons pe_int pa_nil))))) (pe_call G_law_take (hr.mono (by omega)) (by rfl) D_law_take.g D_law_take.F.kp D_law_take.b .nil pass0 (pa_cons (pv 0) (pa_cons pe_int pa_nil))) (fun _ _ => rfl)))
      (pss_cons (ps_set (i := 9) sc_law_yard.nd rfl (.inl rfl) (pe_lst pa_nil))
      (pss_cons (ps_for PassesOwn.never rfl (pi_range1 rfl T.range (pa_cons (pv 6) pa_nil)) (pg_name (i := 10) sc_law_yard.nd rfl (.inr rfl)) (pss_one (ps_expr (pe_bm PySem.F.plainAttrs_list PySem.F.slot_list_append PySem.F.type_list_append mt_append (pv 9) (pa_cons (pe_callTy (r := rTupOf K) call_tuple_of (by rfl) T.tuple boot_tuple (pa_cons (pe_lc (own := [("_law_other", 15)]) (g := (gName 15)) rfl sc_law_yard.nd (pi_range1 rfl T.range (pa_cons (pv 6) pa_nil)) (blkOk_by (N := ["_law_pool_here", "_law_most_frames", "_law_most_full", "_law_most_hands", "_law_most_strays", "_law_far", "_law_many", "_law_frames", "_law_wide", "_law_walks", "_law_frame_here", "_law_pieces", "_law_hands", "_law_rule", "_law_strays_here", "_law_other", "_law_hand_here"]) (sc := defScope s_law_yard) (by decide +kernel)) (fun _ _ _ _ _ => (pg_name (i := 15) sc_law_yard.nd rfl (.inl rfl))) (fun _ _ _ _ _ => pts_nil) (fun _ _ _ _ _ => (pe_op op_mulW (pe_call G_law_take (hr.mono (by omega)) (by rfl) D_law_take.g D_law_take.F.kp D_law_take.b .nil pass0 (pa_cons (pv 0) (pa_cons (pv 8) pa_nil))) (pe_callTy call_int1 (by rfl) T.int boot_int (pa_cons (pe_cmpR op_ne (pv 10) (pv 15) (nomark _)) pa_nil))))) pa_nil)) pa_nil)))))
      (pss_cons (ps_set (i := 11) sc_law_yard.nd rfl (.inl rfl) (pe_tup (pa_cons (pe_op op_add pe_int (pe_call G_law_take (hr.mono (by omega)) (by rfl) D_law_take.g D_law_take.F.kp D_law_take.b .nil pass0 (pa_cons (pv 0) (pa_cons (pe_ix (r := rIxL K) ix_list (pe_lst (pa_cons pe_int (pa_cons pe_int pa_nil))) (pe_call G_law_take (hr.mono (by omega)) (by rfl) D_law_take.g D_law_take.F.kp D_law_take.b .nil pass0 (pa_cons (pv 0) (pa_cons pe_int pa_nil))) (fun _ _ => rfl)) pa_nil)))) (pa_cons (pe_op op_add pe_int (pe_call G_law_take (hr.mono (by omega)) (by rfl) D_law_take.g D_law_take.F.kp D_law_take.b .nil pass0 (pa_cons (pv 0) (pa_cons pe_int pa_nil)))) pa_nil))))
      (pss_cons (ps_set (i := 12) sc_law_yard.nd rfl (.inl rfl) (pe_callTy (r := rTupOf K) call_tuple_of (by rfl) T.tuple boot_tuple (pa_cons (pe_lc (own := [("_law_hand_here", 16)]) (g := (gName 16)) rfl sc_law_yard.nd (pi_range1 rfl T.range (pa_cons (pe_call G_law_take (hr.mono (by omega)) (by rfl) D_law_take.g D_law_take.F.kp D_law_take.b .nil pass0 (pa_cons (pv 0) (pa_cons (pe_op op_add (pv 3) pe_int) pa_nil))) pa_nil)) (blkOk_by (N := ["_law_pool_here", "_law_most_frames", "_law_most_full", "_law_most_hands", "_law_most_strays", "_law_far", "_law_many", "_law_frames", "_law_wide", "_law_walks", "_law_frame_here", "_law_pieces", "_law_hands", "_law_rule", "_law_strays_here", "_law_other", "_law_hand_here"]) (sc := defScope s_law_yard) (by decide +kernel)) (fun _ _ _ _ _ => (pg_name (i := 16) sc_law_yard.nd rfl (.inl rfl))) (fun _ _ _ _ _ => pts_nil) (fun _ _ _ _ _ => (pe_call G_law_hand (hr.mono (by omega)) (by rfl) D_law_hand.g D_law_hand.F.kp D_law_hand.b .nil pass0 (pa_cons (pv 0) (pa_cons (pv 6) (pa_cons (pv 5) pa_nil)))))) pa_nil)))
      (pss_cons (ps_set (i := 13) sc_law_yard.nd rfl (.inl rfl) (pe_ix (r := rIxL K) ix_list (pe_lst (pa_cons pe_str (pa_cons pe_str (pa_cons pe_str pa_nil)))) (pe_call G_law_take (hr.mono (by omega)) (by rfl) D_law_take.g D_law_take.F.kp D_law_take.b .nil pass0 (pa_cons (pv 0) (pa_cons pe_int pa_nil))) (fun _ _ => rfl)))
      (pss_cons (ps_set (i := 14) sc_law_yard.nd rfl (.inl rfl) (pe_call G_law_strays (hr.mono (by omega)) (by rfl) D_law_strays.g D_law_strays.F.kp D_law_strays.b .nil pass0 (pa_cons (pv 0) (pa_cons (pv 7) (pa_cons (pv 4) (pa_cons (pv 5) pa_nil))))))
      (pss_one (ps_ret (pe_tup (pa_cons (pv 7) (pa_cons (pe_callTy (r := rTupOf K) call_tuple_of (by rfl) T.tuple boot_tuple (pa_cons (pv 9) pa_nil)) (pa_cons (pv 11) (pa_cons (pv 13) (pa_cons (pv 12) (pa_cons (pv 14) pa_nil)))))))))))))))))), ?_⟩
  -- many
  refine q_asgP (K := K) W (P := fun t => ∃ m : Nat, t = .int (m : Int) ∧ 1 ≤ m ∧ m ≤ 4) (p_op W (P := fun x => x = .int 1) (p_ci W rfl) (p_take (m := mf) rfl hp ⟨by omega, by omega⟩ (p_var W rfl (.int _) rfl)) (fun x y hx hy => by obtain ⟨r, rfl, _⟩ := hy; rw [hx]; exact rp_I0 ⟨(1 + r).toNat, by rw [Int.toNat_of_nonneg (by omega)], by omega, by omega⟩)) fun v1 t1 H1 g1 hr1 ht1 => ?_
  obtain ⟨m, rfl, hm⟩ := ht1
  cases rp_int hr1
  have hp1 := g1.p hp
  -- frames
  refine q_asgP (K := K) W (P := fun t => ∃ fs : List Th, t = .tup fs ∧ fs.length = m ∧ fs.all isFrame = true) (p_tupL W (pl_lc W (as := List.range m) (Pe := fun _ t => isFrame t = true) (fr_pool hp1) (wg_rng (K := K) W (by omega) (p_var W rfl (.int _) rfl)) (by rw [List.length_range]; omega) fun i d x H2 g2 hd hx => ?_) (fun ts h => ?_)) fun v2 t2 H2 g2 hr2 ht2 => ?_
  · subst hx
    exact ⟨_, tg_name, rfl, p_frame rfl rfl hmu (g2.p hp1)⟩
  · have h1 : ts.length = m := by rw [h.1, List.length_range]
    exact ⟨ts, rfl, h1, all_of h1 h.2⟩
  obtain ⟨fs, rfl, hfl, hall⟩ := ht2
  have hp2 := g2.p hp1
  -- wide
  refine q_asgP (K := K) W (P := fun t => ∃ i : Int, t = .int i ∧ 1 ≤ i ∧ i ≤ 10) (p_pick (k := 4) rfl hp2 (by decide) (pl_lst W (fr_pool hp2) (addP W 3 (p_ci W ⟨1, rfl, by decide, by decide⟩) (addP W 2 (p_ci W ⟨2, rfl, by decide, by decide⟩) (addP W 1 (p_ci W ⟨4, rfl, by decide, by decide⟩) (addP W 0 (p_ci W ⟨10, rfl, by decide, by decide⟩) (nilP W))))) (fun ts h => by rw [h.1]; decide)) (p_ci W rfl)) fun v3 t3 H3 g3 hr3 ht3 => ?_
  obtain ⟨wi, rfl, hw1, hw10⟩ := ht3
  cases rp_int hr3
  have hp3 := g3.p hp2
  have g03 := W.trans g1 (W.trans g2 g3)
  have hr23 := rp_r g3.r hr2
  -- walks
  refine ⟨Nat.zero_le _, fun l hl => ?_⟩
  have hlp : l ≠ p := fun z => by
    obtain ⟨n, hn⟩ := hp3
    rw [z, hn] at hl
    cases hl
  have gl : GP p H3 (upd H3 l (.lst [])) := W.ex (Ex.new hl)
  refine q_forR1 (ea_cons (ev_var rfl) ea_nil) ⟨by omega, by omega⟩ (fun i σ' H' => ExB p H3 H' ∧ PoolAt H' p ∧ ∃ (xs : List V) (ts : List Th) (y10 y11 y12 y13 y14 y15 y16 : Option V), σ' = [some (.ref p), some (.int mf), some (.int mu), some (.int mh), some (.int ms), some (.int far), some (.int (m : Int)), some v2, some (.int wi), some (.ref l), y10, y11, y12, y13, y14, y15, y16] ∧ H' l = some (.lst xs) ∧ RpAll K H' xs ts ∧ ts.length = i ∧ ∀ (j : Nat) (t : Th), ts[j]? = some t → isWalk t (j : Int) (m : Int) = true) (fun H4 e4 => ?_) (fun i σ' H' hi pv => ?_) (fun σ' H' pv => ?_)
  · have g4 := W.trans gl (W.ex e4)
    exact ⟨g4.b, g4.p hp3, [], [], _, _, _, _, _, _, _, rfl, e4 _ _ upd_same, .nil, rfl, fun j t h => by simp at h⟩
  · obtain ⟨exb, hpp, xs, ts, y10, y11, y12, y13, y14, y15, y16, rfl, hxl, hra, hlen, hws⟩ := pv
    have him : i < m := by omega
    refine ⟨.ref l, rfl, .inl ⟨rfl, _, .inl (.inl hxl)⟩, ?_⟩
    refine p_tupL (K := K) W (P := fun t => isWalk t (i : Int) (m : Int) = true) (pl_lc W (as := List.range m) (Pe := fun d t => ∃ n : Int, t = .int n ∧ 0 ≤ n ∧ n ≤ 9 ∧ (d = i → n = 0)) (fr_pool hpp) (wg_rng (K := K) W (by omega) (p_var W rfl (.int _) rfl)) (by rw [List.length_range]; omega) fun k d x H5 g5 hd hx => ?_) (fun us h => ?_) H' (W.refl _) _ fun v5 t5 H5 g5 hr5 ht5 => ?_
    · subst hx
      refine ⟨_, tg_name, rfl, p_op W (p_take (m := wi) rfl (g5.p hpp) ⟨by omega, by omega⟩ (p_var W rfl (.int _) rfl)) (P' := fun y => y = .int (if decide ((i : Int) = (d : Int)) then 0 else 1)) (p_intB (p_op W (P := fun x => x = .int (i : Int)) (P' := fun y => y = .int (d : Int)) (p_var W rfl (.int _) rfl) (p_var W rfl (.int _) rfl) (fun x y hx hy => by
        rw [hx, hy]
        refine rp_neI ⟨_, rfl, ?_⟩
        cases decide ((i : Int) = (d : Int)) <;> rfl))) (fun x y hx hy => ?_)⟩
      obtain ⟨r, rfl, r0, r1⟩ := hx
      rw [hy]
      by_cases e : (i : Int) = (d : Int)
      · rw [decide_eq_true e]
        exact rp_I (mulW (by omega) (by show -(10 ^ 500) ≤ (0 : Int) ∧ (0 : Int) ≤ 10 ^ 500; decide +kernel)) ⟨_, rfl, by show 0 ≤ r * 0; omega, by show r * 0 ≤ 9; omega, fun _ => Int.mul_zero r⟩
      · rw [decide_eq_false e]
        exact rp_I (mulW (by omega) (by show -(10 ^ 500) ≤ (1 : Int) ∧ (1 : Int) ≤ 10 ^ 500; decide +kernel)) ⟨_, rfl, by show 0 ≤ r * 1; omega, by show r * 1 ≤ 9; omega, fun z => absurd (by rw [z]) e⟩
    · have h1 : us.length = m := by rw [h.1, List.length_range]
      refine walk_ok h1 (fun j t hj => ?_) him
      have hjl : j < m := by
        rw [← h1]
        exact (List.getElem?_eq_some_iff.mp hj).1
      exact h.2 j t j hj (List.getElem?_range hjl)
    · have hxl5 : H5 l = some (.lst xs) := g5.b l _ hlp hxl
      obtain ⟨n5, hn5⟩ := g5.p hpp
      refine ⟨l, xs, v5, rfl, rfl, hxl5, sz_lt (by rw [ra_len hra, hlen]; omega), fun b o hb ho => ?_, ⟨n5, ?_⟩, xs ++ [v5], ts ++ [t5], _, _, _, _, _, _, _, rfl, upd_same, ?_, by rw [List.length_append, hlen]; rfl, fun j t hj => ?_⟩
      · rw [upd_ne (ne_of_none ho hl)]
        exact g5.b b o hb (exb b o hb ho)
      · rw [upd_ne (Ne.symm hlp)]
        exact hn5
      · exact ra_r (exr_upd hxl5) (ra_app (ra_r g5.r hra) (.cons hr5 .nil))
      · by_cases hj2 : j < ts.length
        · rw [List.getElem?_append_left hj2] at hj
          exact hws j t hj
        · rw [List.getElem?_append_right (by omega)] at hj
          have hj3 : j - ts.length = 0 := by
            cases hh : j - ts.length with
            | zero => rfl
            | succ m => rw [hh] at hj; simp at hj
          rw [hj3] at hj
          simp at hj
          have e : j = i := by omega
          rw [← hj, e]
          exact ht5
  · obtain ⟨exb, hpp, xs, ts, y10, y11, y12, y13, y14, y15, y16, rfl, hxl, hra, hlen, hws⟩ := pv
    have g34 : GP p H3 H' := gp_of exb hp3 hpp
    have hr24 := rp_r g34.r hr23
    have hlen' : ts.length = m := by omega
    -- pieces
    refine q_asgP (K := K) W (P := fun t => isPieces t = true) (p_tup W (Ps := fun ts => ∃ a b : Int, ts = [.int a, .int b] ∧ (1 ≤ a ∧ a ≤ 9) ∧ (1 ≤ b ∧ b ≤ 9))
      (pa_consP W (P := fun t => ∃ a : Int, t = .int a ∧ 1 ≤ a ∧ a ≤ 9) (p_op W (P := fun x => x = .int 1) (p_ci W rfl) (p_takeB (B := 9) rfl hpp (by decide) (p_pick (k := 2) rfl hpp (by decide) (pl_lst W (fr_pool hpp) (addP W 1 (p_ci W ⟨3, rfl, by decide, by decide⟩) (addP W 0 (p_ci W ⟨9, rfl, by decide, by decide⟩) (nilP W))) (fun ts h => by rw [h.1]; decide)) (p_ci W rfl))) (fun x y hx hy => by obtain ⟨r, rfl, _⟩ := hy; rw [hx]; exact rp_I0 ⟨_, rfl, by omega, by omega⟩))
      (pa_consP W (P := fun t => ∃ b : Int, t = .int b ∧ 1 ≤ b ∧ b ≤ 9) (p_op W (P := fun x => x = .int 1) (p_ci W rfl) (p_take (m := 3) rfl hpp ⟨by decide, by decide⟩ (p_ci W rfl)) (fun x y hx hy => by obtain ⟨r, rfl, _⟩ := hy; rw [hx]; exact rp_I0 ⟨_, rfl, by omega, by omega⟩))
      (pa_nilP W (Ps := fun ts => ts = []) rfl) (Ps' := fun ts => ∃ b : Int, ts = [.int b] ∧ 1 ≤ b ∧ b ≤ 9) fun t ts h1 h2 => by obtain ⟨b, rfl, hb⟩ := h1; exact ⟨b, by rw [h2], hb⟩) fun t ts h1 h2 => by obtain ⟨a, rfl, ha⟩ := h1; obtain ⟨b, rfl, hb⟩ := h2; exact ⟨a, b, rfl, ha, hb⟩)
      (fun ts h => by obtain ⟨a, b, rfl, _⟩ := h; show 2 ≤ 100000; decide) (fun ts h => by
        obtain ⟨a, b, rfl, ha, hb⟩ := h
        show (isTupleOf (.tup [.int a, .int b]) 2 2 && (isWithin (.int a) 1 9 && (isWithin (.int b) 1 9 && true))) = true
        rw [tupOf_of (by show (2 : Int) ≤ 2; decide) (by show (2 : Int) ≤ 2; decide), within_of ha.1 ha.2, within_of hb.1 hb.2]
        rfl)) fun v6 t6 H6 g6 hr6 ht6 => ?_
    have hp6 := g6.p hpp
    -- hands
    refine q_asgP (K := K) W (P := fun t => isHands t (m : Int) = true) (p_tupL W (Ps := fun ts => ts.length ≤ 16 ∧ ts.all (fun t => isHand t (m : Int)) = true) (fun H7 g7 Q7 q7 => ?_) (fun ts h => ?_)) fun v7 t7 H7 g7 hr7 ht7 => ?_
    · refine p_take (K := K) (m := mh + 1) rfl (g7.p hp6) ⟨by omega, by omega⟩ (p_op W (P := fun x => x = .int mh) (P' := fun y => y = .int 1) (p_var W rfl (.int _) rfl) (p_ci W rfl) (fun x y hx hy => by rw [hx, hy]; exact rp_I0 rfl)) H7 (W.refl H7) _ fun v8 t8 H8 g8 hr8 ht8 => ?_
      obtain ⟨r, rfl, r0, r1⟩ := ht8
      cases rp_int hr8
      obtain ⟨n, rfl⟩ : ∃ n : Nat, r = (n : Int) := ⟨r.toNat, by omega⟩
      have hp8 := (W.trans g7 g8).p hp6
      refine pl_lc (K := K) W (te := tCall (spHand K) [] E0 (tCons (tVar 0) (tCons (tVar 6) (tCons (tVar 5) tNil)))) (wi := iRng1 (tCons (tC (.int (n : Int))) tNil)) (g := gName 16) (vs := [16]) (as := List.range n) (Pe := fun _ t => isHand t (m : Int) = true) (fr_pool hp8) (wg_rng (K := K) W (by omega) (p_ci W rfl)) (by rw [List.length_range]; omega) (fun i d x H9 g9 hd hx => ⟨_, tg_name, rfl, p_hand rfl rfl rfl hm hfar (g9.p hp8)⟩) H8 (W.refl H8) Q7 fun l9 xs9 ts9 H9 g9 ol hl9 hx9 h9 => q7 l9 xs9 ts9 H9 (W.trans g8 g9) ol hl9 hx9 ?_
      have h1 : ts9.length = n := by rw [h9.1, List.length_range]
      exact ⟨by omega, all_of h1 h9.2⟩
    · unfold isHands
      rw [tupOf_of (by omega) (by omega), Bool.true_and]
      exact h.2
    have hp7 := g7.p hp6
    -- rule
    refine q_asgP (K := K) W (P := fun t => isRule t = true) (p_pick (k := 3) rfl hp7 (by decide) (pl_lst W (fr_pool hp7) (addP W 2 (p_cs W (by decide +kernel)) (addP W 1 (p_cs W (by decide +kernel)) (addP W 0 (p_cs W (by decide +kernel)) (nilP W)))) (fun ts h => by rw [h.1]; decide)) (p_ci W rfl)) fun v8 t8 H8 g8 hr8 ht8 => ?_
    have hp8 := g8.p hp7
    have g48 := W.trans g6 (W.trans g7 g8)
    have hr28 := rp_r g48.r hr24
    -- strays
    refine ⟨.ref p, rfl, v2, rfl, .int ms, rfl, .int far, rfl, p, v2, fs, ms, far, rfl, hr28, hall, ⟨by omega, by omega⟩, hms, hfar, hp8, fun v9 t9 H9 g9 hr9 ht9 => ?_⟩
    have g49 := W.trans g48 g9
    have hra9 := ra_r g49.r hra
    have hxl9 : H9 l = some (.lst xs) := g49.b l _ hlp hxl
    refine s_retP W (P := fun t => isYard t = true) (p_tup W (Ps := fun us => us = [.tup fs, .tup ts, t6, t8, t7, t9])
      (pa_consP W (P := fun t => t = .tup fs) (p_var W rfl (rp_r g9.r hr28) rfl) (pa_consP W (P := fun t => t = .tup ts) (p_tupL W (Ps := fun us => us = ts) (pl_var W rfl hlp hxl9 hra9 rfl) (fun us h => by rw [h])) (pa_consP W (P := fun t => t = t6) (p_var W rfl (rp_r (W.trans g7 (W.trans g8 g9)).r hr6) rfl) (pa_consP W (P := fun t => t = t8) (p_var W rfl (rp_r g9.r hr8) rfl) (pa_consP W (P := fun t => t = t7) (p_var W rfl (rp_r (W.trans g8 g9).r hr7) rfl) (pa_consP W (P := fun t => t = t9) (p_var W rfl hr9 rfl)
      (pa_nilP W (Ps := fun ts => ts = []) rfl) (Ps' := fun us => us = [t9]) fun t ts h1 h2 => by rw [h1, h2]) (Ps' := fun us => us = [t7, t9]) fun t ts h1 h2 => by rw [h1, h2]) (Ps' := fun us => us = [t8, t7, t9]) fun t ts h1 h2 => by rw [h1, h2]) (Ps' := fun us => us = [t6, t8, t7, t9]) fun t ts h1 h2 => by rw [h1, h2]) (Ps' := fun us => us = [.tup ts, t6, t8, t7, t9]) fun t us h1 h2 => by rw [h1, h2]) fun t us h1 h2 => by rw [h1, h2])
      (fun us h => by rw [h]; show 6 ≤ 100000; decide) (fun us h => ?_)) fun v10 t10 H10 g10 hr10 ht10 => q v10 t10 H10 (W.trans g03 (W.trans g34 (W.trans g49 g10))) hr10 ht10
    rw [h]
    show (isTupleOf (.tup [.tup fs, .tup ts, t6, t8, t7, t9]) 6 6 && (isFrames (.tup fs) && (isWalks (.tup ts) (fs.length : Int) && (isPieces t6 && (isRule t8 && (isHands t7 (fs.length : Int) && isStrays t9 fs)))))) = true
    have hF : isFrames (.tup fs) = true := by
      unfold isFrames
      rw [tupOf_of (by omega) (by omega), Bool.true_and]
      exact hall
    rw [tupOf_of (by show (6 : Int) ≤ 6; decide) (by show (6 : Int) ≤ 6; decide), hF, hfl, walks_ok hlen' hws, ht6, ht8, ht7, ht9]
    rfl
end
end K01

set_option Elab.async false
set_option linter.all false
set_option maxRecDepth 100000
set_option maxHeartbeats 4000000
namespace K01
open PySem PySem.Spec PyProof.Rows L2 Evl DL GX YA EX TH TV YT DS
abbrev s_law_whole : Stmt := topS 60
theorem sc_law_whole : FnScope ["_law_thing", "_law_least", "_law_most"] ["_law_thing", "_law_least", "_law_most"] (defScope s_law_whole) := ⟨rfl, rfl, rfl, by decide +kernel, rfl, by decide +kernel, by decide +kernel⟩
abbrev s_law_rising : Stmt := topS 61
theorem sc_law_rising : FnScope ["_law_things", "_law_k"] ["_law_things"] (defScope s_law_rising) := ⟨rfl, rfl, rfl, by decide +kernel, rfl, by decide +kernel, by decide +kernel⟩
abbrev s_law_is_frame : Stmt := topS 62
theorem sc_law_is_frame : FnScope ["_law_thing", "_law_sort", "_law_threads", "_law_most", "_law_full", "_law_doff", "_law_rows", "_law_row"] ["_law_thing"] (defScope s_law_is_frame) := ⟨rfl, rfl, rfl, by decide +kernel, rfl, by decide +kernel, by decide +kernel⟩
theorem b3 {a b c : Bool} (h : (!a || (!b || !c)) = false) : a = true ∧ b = true ∧ c = true := by cases a <;> cases b <;> cases c <;> simp_all
theorem b2 {a b : Bool} (h : (!a || !b) = false) : a = true ∧ b = true := by cases a <;> cases b <;> simp_all
theorem b3n {a b c : Bool} (h : (!a || (!b || !c)) = true) : (a && (b && c)) = false := by cases a <;> cases b <;> cases c <;> simp_all
theorem b2n {a b : Bool} (h : (!a || !b) = true) : (a && b) = false := by cases a <;> cases b <;> simp_all
theorem not_no {b : Bool} (h : (!b) = false) : b = true := by cases b <;> simp_all
section
variable {P : Program} {w : World} {K : PySem.W.Frag} {mg : Str → Option Value} {base : Heap}
theorem ok_whole {f : Addr} {fd : FuncData} {k : Nat} (T : Bi mg) (D : Df K mg "_law_whole" s_law_whole ["_law_thing", "_law_least", "_law_most"] f fd) : FnOk P w K mg base CX0 (k + 1) f fd ["_law_thing", "_law_least", "_law_most"] (spF K [] (fn3 isWithin)) := by
  refine D.F.ok sc_law_whole (len_spF fun ts b h => by obtain ⟨_, _, _, rfl, _⟩ := fn3_is h; rfl) (fun cdv A outer s H vs Q E hr h => ?_)
  obtain ⟨ts, b, hv, hF, hT, q⟩ := h
  obtain ⟨t, lo, hi, rfl, rfl⟩ := fn3_is hF
  obtain ⟨v, v2, v3, rfl, hr1, hr2, hr3⟩ := ra3 hv
  cases rp_int hr2
  cases rp_int hr3
  refine ⟨_, (pss_one (ps_ret (pe_and (pe_callB (r := rIsi K) call_isi (by rfl) T.isinstance boot_isinstance (pa_cons (pv 0) (pa_cons (pe_bltn (by rfl) T.int boot_int (v := .ty "int") rfl) pa_nil))) (pe_and (pe_not (pe_callB (r := rIsi K) call_isi (by rfl) T.isinstance boot_isinstance (pa_cons (pv 0) (pa_cons (pe_bltn (by rfl) T.bool boot_bool (v := .ty "bool") rfl) pa_nil)))) (pe_one (pe_chain op_le op_le (pv 1) (pv 0) (pv 2))))))), ?_⟩
  have e : isWithin t lo hi = (isIn t "int" && (!isIn t "bool" && (decide (lo ≤ asInt t) && decide (asInt t ≤ hi)))) := by
    rw [← Bool.and_assoc, whole_in]
    rfl
  rw [e] at q
  refine sr_ret (ev_andV (ev_isi (ev_var rfl) hr1 (by decide)) fun h1 => ev_andV (ev_notV (ev_isi (ev_var rfl) hr1 (by decide))) fun h2 => ?_) q
  have hw : isWhole t = true := by rw [← whole_in, h1, h2]; rfl
  obtain ⟨i, rfl⟩ := int_of hw
  cases rp_int hr1
  exact ev_chain (ev_var rfl) (ev_var rfl) (ev_var rfl) rv_I0 rv_I0
theorem ev_num {σ : L2.St} {H : Hp} {ta tb tc : TE} {E : XK} {v : V} {t : Th} {lo hi : Int} (h : Ev ta σ H v) (hr : Rp K H v t) (hl : Ev tb σ H (.int lo)) (hh : Ev tc σ H (.int hi)) : Ev (tCall (spF K [] (fn3 isWithin)) [] E (tCons ta (tCons tb (tCons tc tNil)))) σ H (.bl (isWithin t lo hi)) :=
  ev_callF (F := (fn3 isWithin)) (ea_cons h (ea_cons hl (ea_cons hh ea_nil))) (.cons hr (.cons (.int lo) (.cons (.int hi) .nil))) rfl tb_nil
theorem ev_at {H : Hp} {v : V} {ts : List Th} {t : Th} {i : Nat} (hr : Rp K H v (.tup ts)) (ht : ts[i]? = some t) : ∃ u, Rp K H u t ∧ ∀ {σ : L2.St} {ta tb : TE}, Ev ta σ H v → Ev tb σ H (.int (i : Int)) → Ev (tOp (rIxT K) ta tb) σ H u := by
  obtain ⟨a, xs, rfl, hs, ha⟩ := rp_tup hr
  obtain ⟨u, hu, hd⟩ := ra_at ha ht
  exact ⟨u, hd, fun h hi => ev_op h hi (rv_ixT hs (atI_nat hu))⟩
theorem ev_lenP {σ : L2.St} {H : Hp} {te : TE} {v : V} {t : Th} (h : Ev te σ H v) (hr : Rp K H v t) (ht : isTup t = true) : Ev (tCB (rLenS K) (tCons te tNil)) σ H (.int ((parts t).length : Int)) := by
  obtain ⟨us, rfl⟩ := tup_of ht
  exact ev_lenR h hr
theorem ok_rising {f : Addr} {fd : FuncData} {k : Nat} (T : Bi mg) (D : Df K mg "_law_rising" s_law_rising ["_law_things"] f fd) : FnOk P w K mg base CX0 (k + 1) f fd ["_law_things"] (spF K [] fRising) := by
  refine D.F.ok sc_law_rising (len_spF fun ts b h => by obtain ⟨_, rfl, _⟩ := fRising_is h; rfl) (fun cdv A outer s H vs Q E hr h => ?_)
  obtain ⟨ts, b, hv, hF, hT, q⟩ := h
  obtain ⟨us, rfl, hc, rfl⟩ := fRising_is hF
  obtain ⟨v, rfl, hr1⟩ := ra1 hv
  unfold cmpOk at hc
  rw [Bool.and_eq_true] at hc
  have hlen : us.length ≤ 1000 := of_decide_eq_true hc.2
  refine ⟨_, (pss_one (ps_ret (pe_callB (r := rAll K) (cr_all rfl) (by rfl) T.all boot_all (pa_cons (pe_lc (own := [("_law_k", 1)]) (g := (gName 1)) rfl sc_law_rising.nd (pi_range2 rfl T.range (pa_cons pe_int (pa_cons (pe_callB (r := rLenS K) call_len_seq (by rfl) T.len PySem.boot_len (pa_cons (pv 0) pa_nil)) pa_nil))) (blkOk_by (N := ["_law_things", "_law_k"]) (sc := defScope s_law_rising) (by decide +kernel)) (fun _ _ _ _ _ => (pg_name (i := 1) sc_law_rising.nd rfl (.inl rfl))) (fun _ _ _ _ _ => pts_nil) (fun _ _ _ _ _ => (pe_cmpR (r := rLtB K) (op_ltB (Nat.lt_of_le_of_lt (Nat.le_add_right _ 64) hr.units)) (pe_ix (r := rIxT K) ix_tup (pv 0) (pe_op op_sub (pv 1) pe_int) (fun _ _ => rfl)) (pe_ix (r := rIxT K) ix_tup (pv 0) (pv 1) (fun _ _ => rfl)) (nomark _)))) pa_nil)))), ?_⟩
  refine sr_ret (ev_allL (fun (i : Nat) => thLt (us.getD i .none) (us.getD (i + 1) .none)) (ewr_rng1 (n := us.length) (by omega) (ev_lenR (ev_var rfl) hr1)) (by rw [List.length_range]; omega) fun i d x H1 e1 hd hx => ?_) q
  subst hx
  have hd2 : d < ((us.length : Int) - 1).toNat := by
    have := List.mem_of_getElem? hd
    simpa using this
  have h1 : d < us.length := by omega
  have h2 : d + 1 < us.length := by omega
  have g1 : us[d]? = some us[d] := List.getElem?_eq_getElem h1
  have g2 : us[d + 1]? = some us[d + 1] := List.getElem?_eq_getElem h2
  have e1' : us.getD d .none = us[d] := by rw [List.getD_eq_getElem?_getD, g1]; rfl
  have e2' : us.getD (d + 1) .none = us[d + 1] := by rw [List.getD_eq_getElem?_getD, g2]; rfl
  obtain ⟨u1, r1, k1⟩ := ix_of (i := (d : Int) + 1 - 1) (rp_mono e1 hr1) g1 (by omega)
  obtain ⟨u2, r2, k2⟩ := ix_of (i := (d : Int) + 1) (rp_mono e1 hr1) g2 (by omega)
  refine ⟨_, tg_name, rfl, ?_⟩
  rw [e1', e2']
  refine ev_op (ev_op (ev_var rfl) (ev_op (ev_var rfl) ev_c rv_I0) k1) (ev_op (ev_var rfl) (ev_var rfl) k2) (rv_ltB r1 r2 ?_)
  rw [Bool.or_eq_true, List.all_eq_true, List.all_eq_true] at hc
  rcases hc.1 with hz | hz
  · exact .inl ⟨hz _ (List.getElem_mem h1), hz _ (List.getElem_mem h2)⟩
  · exact .inr ⟨hz _ (List.getElem_mem h1), hz _ (List.getElem_mem h2)⟩
theorem ra6 {H : Hp} {vs : List V} {t1 t2 t3 t4 t5 t6 : Th} (h : RpAll K H vs [t1, t2, t3, t4, t5, t6]) : ∃ v1 v2 v3 v4 v5 v6, vs = [v1, v2, v3, v4, v5, v6] ∧ Rp K H v1 t1 ∧ Rp K H v2 t2 ∧ Rp K H v3 t3 ∧ Rp K H v4 t4 ∧ Rp K H v5 t5 ∧ Rp K H v6 t6 := by
  cases h with
  | cons h1 h =>
    cases h with
    | cons h2 h =>
      cases h with
      | cons h3 h =>
        obtain ⟨a, b, d, rfl, r1, r2, r3⟩ := ra3 h
        exact ⟨_, _, _, a, b, d, rfl, h1, h2, h3, r1, r2, r3⟩
theorem tupOf_eq {t : Th} {n : Int} : isTupleOf t n n = (isTup t && decide (((parts t).length : Int) = n)) := by
  unfold isTupleOf
  congr 1
  by_cases h : ((parts t).length : Int) = n
  · rw [decide_eq_true h, decide_eq_true (by omega), decide_eq_true (by omega)]
    rfl
  · rw [decide_eq_false h]
    by_cases h2 : n ≤ ((parts t).length : Int)
    · rw [decide_eq_false (show ¬ ((parts t).length : Int) ≤ n by omega), Bool.and_false]
    · rw [decide_eq_false h2, Bool.false_and]
theorem two_of {us : List Th} (h : us.length = 2) : ∃ a b, us = [a, b] := by
  match us, h with
  | [a, b], _ => exact ⟨a, b, rfl⟩
theorem six_len {us : List Th} (h : us.length = 6) : ∃ a b c d e f, us = [a, b, c, d, e, f] := six_of (by omega) (by omega)
theorem rows_cmp {rs : List Th} {full threads : Int} (hl : rs.length ≤ 1000) (h : (rs.all fun p => isRow p full threads) = true) : cmpOk rs = true := by
  unfold cmpOk
  have h1 : rs.all intTup = true := List.all_eq_true.mpr fun t ht => row_tup (List.all_eq_true.mp h t ht)
  rw [h1, decide_eq_true hl, Bool.or_true]
  rfl
theorem ok_is_frame {f f1 f2 : Addr} {fd fd1 fd2 : FuncData} (T : Bi mg) (D : Df K mg "_law_is_frame" s_law_is_frame ["_law_thing"] f fd) (D_law_whole : Df K mg "_law_whole" s_law_whole ["_law_thing", "_law_least", "_law_most"] f1 fd1) (D_law_rising : Df K mg "_law_rising" s_law_rising ["_law_things"] f2 fd2) :
    FnOk P w K mg base CX0 2 f fd ["_law_thing"] (spF K [] (fn1 isFrame)) := by
  have G_law_whole : FnOk P w K mg base CX0 1 f1 fd1 ["_law_thing", "_law_least", "_law_most"] (spF K [] (fn3 isWithin)) := ok_whole T D_law_whole
  have G_law_rising : FnOk P w K mg base CX0 1 f2 fd2 ["_law_things"] (spF K [] fRising) := ok_rising T D_law_rising
  refine D.F.ok sc_law_is_frame (len_spF fun ts b h => by obtain ⟨_, rfl, _⟩ := fn1_is h; rfl) (fun cdv A outer s H vs Q E hr h => ?_)
  obtain ⟨ts, b, hv, hF, hT, q⟩ := h
  obtain ⟨t, rfl, rfl⟩ := fn1_is hF
  obtain ⟨v, rfl, hr1⟩ := ra1 hv
  refine ⟨_, (pss_cons (ps_if (PW.pt (pw_or (pt_not (pt_val (pe_callB (r := rIsi K) call_isi (by rfl) T.isinstance boot_isinstance (pa_cons (pv 0) (pa_cons (pe_bltn (by rfl) T.tuple boot_tuple (v := .ty "tuple") rfl) pa_nil))))) (pw_or1 (pt_cmpR op_ne (pe_callB (r := rLenS K) call_len_seq (by rfl) T.len PySem.boot_len (pa_cons (pv 0) pa_nil)) pe_int (nomark _))))) (pss_one (ps_ret pe_bl)) pss_nil)
      (pss_cons (ps_asg (pv 0) (pg_tup rfl (pgs_cons (pg_name (i := 1) sc_law_is_frame.nd rfl (.inl rfl)) (pgs_cons (pg_name (i := 2) sc_law_is_frame.nd rfl (.inl rfl)) (pgs_cons (pg_name (i := 3) sc_law_is_frame.nd rfl (.inl rfl)) (pgs_cons (pg_name (i := 4) sc_law_is_frame.nd rfl (.inl rfl)) (pgs_cons (pg_name (i := 5) sc_law_is_frame.nd rfl (.inl rfl)) (pgs_cons (pg_name (i := 6) sc_law_is_frame.nd rfl (.inl rfl)) pgs_nil))))))))
      (pss_cons (ps_if (PW.pt (pw_or (pt_not (pt_val (pe_call G_law_whole (hr.mono (by omega)) (by rfl) D_law_whole.g D_law_whole.F.kp D_law_whole.b .nil pass0 (pa_cons (pv 1) (pa_cons pe_int (pa_cons pe_int pa_nil)))))) (pw_or (pt_not (pt_val (pe_call G_law_whole (hr.mono (by omega)) (by rfl) D_law_whole.g D_law_whole.F.kp D_law_whole.b .nil pass0 (pa_cons (pv 2) (pa_cons pe_int (pa_cons pe_int pa_nil)))))) (pw_or1 (pt_not (pt_val (pe_call G_law_whole (hr.mono (by omega)) (by rfl) D_law_whole.g D_law_whole.F.kp D_law_whole.b .nil pass0 (pa_cons (pv 4) (pa_cons pe_int (pa_cons pe_int pa_nil)))))))))) (pss_one (ps_ret pe_bl)) pss_nil)
      (pss_cons (ps_if (PW.pt (pw_or (pt_not (pt_val (pe_call G_law_whole (hr.mono (by omega)) (by rfl) D_law_whole.g D_law_whole.F.kp D_law_whole.b .nil pass0 (pa_cons (pv 3) (pa_cons pe_int (pa_cons (pe_op op_sub (pv 2) pe_int) pa_nil)))))) (pw_or1 (pt_not (pt_val (pe_call G_law_whole (hr.mono (by omega)) (by rfl) D_law_whole.g D_law_whole.F.kp D_law_whole.b .nil pass0 (pa_cons (pv 5) (pa_cons pe_int (pa_cons pe_int pa_nil))))))))) (pss_one (ps_ret pe_bl)) pss_nil)
      (pss_cons (ps_if (PW.pt (pw_or (pt_not (pt_val (pe_callB (r := rIsi K) call_isi (by rfl) T.isinstance boot_isinstance (pa_cons (pv 6) (pa_cons (pe_bltn (by rfl) T.tuple boot_tuple (v := .ty "tuple") rfl) pa_nil))))) (pw_or1 (pt_cmpR op_gt (pe_callB (r := rLenS K) call_len_seq (by rfl) T.len PySem.boot_len (pa_cons (pv 6) pa_nil)) pe_int (nomark _))))) (pss_one (ps_ret pe_bl)) pss_nil)
      (pss_cons (ps_for PassesOwn.never rfl (pi_tup (pv 6)) (pg_name (i := 7) sc_law_is_frame.nd rfl (.inl rfl)) (pss_cons (ps_if (PW.pt (pw_or (pt_not (pt_val (pe_callB (r := rIsi K) call_isi (by rfl) T.isinstance boot_isinstance (pa_cons (pv 7) (pa_cons (pe_bltn (by rfl) T.tuple boot_tuple (v := .ty "tuple") rfl) pa_nil))))) (pw_or1 (pt_cmpR op_ne (pe_callB (r := rLenS K) call_len_seq (by rfl) T.len PySem.boot_len (pa_cons (pv 7) pa_nil)) pe_int (nomark _))))) (pss_one (ps_ret pe_bl)) pss_nil)
      (pss_one (ps_if (PW.pt (pw_or (pt_not (pt_val (pe_call G_law_whole (hr.mono (by omega)) (by rfl) D_law_whole.g D_law_whole.F.kp D_law_whole.b .nil pass0 (pa_cons (pe_ix (r := rIxT K) ix_tup (pv 7) pe_int (fun _ _ => rfl)) (pa_cons pe_int (pa_cons (pv 4) pa_nil)))))) (pw_or1 (pt_not (pt_val (pe_call G_law_whole (hr.mono (by omega)) (by rfl) D_law_whole.g D_law_whole.F.kp D_law_whole.b .nil pass0 (pa_cons (pe_ix (r := rIxT K) ix_tup (pv 7) pe_int (fun _ _ => rfl)) (pa_cons pe_int (pa_cons (pe_op op_sub (pv 2) pe_int) pa_nil))))))))) (pss_one (ps_ret pe_bl)) pss_nil))))
      (pss_one (ps_ret (pe_call G_law_rising (hr.mono (by omega)) (by rfl) D_law_rising.g D_law_rising.F.kp D_law_rising.b .nil pass0 (pa_cons (pv 6) pa_nil)))))))))), ?_⟩
  refine q_when (b := !isTup t || !decide (((parts t).length : Int) = 6)) (et_or (et_not (et_B (ev_isi (ev_var rfl) hr1 (by decide)))) fun h => et_test (ev_is (ev_op (ev_lenP (ev_var rfl) hr1 (not_no h)) ev_c (rv_ne rfl)) (by rw [dec_i]))) (fun hb H1 e1 => ?_) (fun hb H1 e1 => ?_)
  · have hz : isFrame t = false := by
      unfold isFrame
      rw [tupOf_eq, b2n hb]
      rfl
    rw [hz] at q
    exact q H1 e1
  · obtain ⟨h1, h2⟩ := b2 hb
    obtain ⟨us, rfl⟩ := tup_of h1
    obtain ⟨k1, k2, k3, k4, k5, k6, rfl⟩ := six_len (us := us) (by have := of_decide_eq_true h2; have : (us.length : Int) = 6 := this; omega)
    obtain ⟨a, xs, rfl, hs, ha⟩ := rp_tup (rp_mono e1 hr1)
    obtain ⟨v1, v2, v3, v4, v5, v6, rfl, r1, r2, r3, r4, r5, r6⟩ := ra6 ha
    refine ⟨.ref a, rfl, a, [v1, v2, v3, v4, v5, v6], rfl, hs, rfl, _, _, rfl, _, _, rfl, _, _, rfl, _, _, rfl, _, _, rfl, _, _, rfl, rfl, ?_⟩
    dsimp only
    have hq : ∀ H', Ex H1 H' → Q (.bl (isWithin k1 0 1 && (isWithin k2 1 4 && (isWithin k3 0 (asInt k2 - 1) && (isWithin k4 1 30 && (isWithin k5 0 9 && isRows k6 (asInt k4) (asInt k2))))))) H' := fun H' e' => q H' (e1.trans e')
    refine q_when (b := !isWithin k1 0 1 || (!isWithin k2 1 4 || !isWithin k4 1 30)) (et_or (et_not (et_B (ev_num (ev_var rfl) r1 ev_c ev_c))) fun _ => et_or (et_not (et_B (ev_num (ev_var rfl) r2 ev_c ev_c))) fun _ => et_not (et_B (ev_num (ev_var rfl) r4 ev_c ev_c))) (fun hb H2 e2 => ?_) (fun hb H2 e2 => ?_)
    · have z := hq H2 e2
      have zz : (isWithin k1 0 1 && (isWithin k2 1 4 && (isWithin k3 0 (asInt k2 - 1) && (isWithin k4 1 30 && (isWithin k5 0 9 && isRows k6 (asInt k4) (asInt k2)))))) = false := by
        have k := b3n hb
        generalize isWithin k1 0 1 = x1 at k ⊢
        generalize isWithin k2 1 4 = x2 at k ⊢
        generalize isWithin k4 1 30 = x4 at k ⊢
        generalize isWithin k3 0 (asInt k2 - 1) = x3
        cases x1 <;> cases x2 <;> cases x4 <;> cases x3 <;> simp_all
      rw [zz] at z
      exact z
    · obtain ⟨j1, j2, j4⟩ := b3 hb
      obtain ⟨th, rfl, th1, th4⟩ := int_within j2
      obtain ⟨fu, rfl, fu1, fu2⟩ := int_within j4
      cases rp_int r2
      cases rp_int r4
      have hq2 : ∀ H', Ex H2 H' → Q (.bl (isWithin k3 0 (th - 1) && (isWithin k5 0 9 && isRows k6 fu th))) H' := fun H' e' => by
        have z := hq H' (e2.trans e')
        rw [j1, j2, j4] at z
        exact z
      have r3' := rp_mono e2 r3
      have r5' := rp_mono e2 r5
      have r6' := rp_mono e2 r6
      refine q_when (b := !isWithin k3 0 (th - 1) || !isWithin k5 0 9) (et_or (et_not (et_B (ev_num (ev_var rfl) r3' ev_c (ev_op (ev_var rfl) ev_c rv_I0)))) fun _ => et_not (et_B (ev_num (ev_var rfl) r5' ev_c ev_c))) (fun hb H3 e3 => ?_) (fun hb H3 e3 => ?_)
      · have z := hq2 H3 e3
        have k := b2n hb
        rw [← Bool.and_assoc, k] at z
        exact z
      · obtain ⟨j3, j5⟩ := b2 hb
        have hq3 : ∀ H', Ex H3 H' → Q (.bl (isRows k6 fu th)) H' := fun H' e' => by
          have z := hq2 H' (e3.trans e')
          rw [j3, j5] at z
          exact z
        have r6'' := rp_mono e3 r6'
        refine q_when (b := !isTup k6 || decide (((parts k6).length : Int) > 8)) (et_or (et_not (et_B (ev_isi (ev_var rfl) r6'' (by decide)))) fun h => et_test (ev_op (ev_lenP (ev_var rfl) r6'' (not_no h)) ev_c rv_I0)) (fun hb H4 e4 => ?_) (fun hb H4 e4 => ?_)
        · have z := hq3 H4 e4
          have hz : isRows k6 fu th = false := by
            unfold isRows isTupleOf
            generalize isTup k6 = x at hb
            by_cases h8 : ((parts k6).length : Int) ≤ 8
            · rw [decide_eq_false (show ¬ ((parts k6).length : Int) > 8 by omega)] at hb
              cases x
              · rfl
              · cases hb
            · rw [decide_eq_false h8]
              cases x <;> simp
          rw [hz] at z
          exact z
        · have hk6 : isTup k6 = true ∧ ((parts k6).length : Int) ≤ 8 := by
            generalize isTup k6 = x at hb ⊢
            cases x with
            | false => cases hb
            | true => exact ⟨rfl, by have : decide (((parts k6).length : Int) > 8) = false := hb; have := of_decide_eq_false this; omega⟩
          obtain ⟨rs, rfl⟩ := tup_of hk6.1
          have hrl : (rs.length : Int) ≤ 8 := hk6.2
          have hq4 : ∀ H', Ex H4 H' → Q (.bl (rs.all (fun p => isRow p fu th) && rising rs)) H' := fun H' e' => by
            have z := hq3 H' (e4.trans e')
            unfold isRows at z
            rw [tupOf_of (by omega) hrl, Bool.true_and] at z
            exact z
          have r64 := rp_mono e4 r6''
          refine q_forW (α := Th) (as := rs) (ewr_tup (ev_var (i := 6) rfl) r64) (fun H5 i σ' H' => Ex H5 H' ∧ ∃ y, σ' = [some (.ref a), some v1, some (.int th), some v3, some (.int fu), some v5, some v6, y] ∧ (rs.take i).all (fun p => isRow p fu th) = true)
            (fun H5 e5 => ⟨Ex.refl H5, _, rfl, rfl⟩) (fun _ _ _ _ p => p.1) (fun H5 i d x σ' H6 H7 e5 hd p e7 hx => ?_) (fun H5 σ' H6 e5 p => ?_)
          · obtain ⟨e6, y, rfl, hall⟩ := p
            have e47 : Ex H4 H7 := (e5.trans e6).trans e7
            refine ⟨_, tg_name, ?_⟩
            have bad : isRow d fu th = false → ∀ H', Ex H7 H' → Q (.bl false) H' := fun hf H' e' => by
              have z := hq4 H' (e47.trans e')
              rw [all_no hd hf] at z
              exact z
            refine q_when (b := !isTup d || !decide (((parts d).length : Int) = 2)) (et_or (et_not (et_B (ev_isi (ev_var rfl) hx (by decide)))) fun h => et_test (ev_is (ev_op (ev_lenP (ev_var rfl) hx (not_no h)) ev_c (rv_ne rfl)) (by rw [dec_i]))) (fun hb H8 e8 => ?_) (fun hb H8 e8 => ?_)
            · refine bad ?_ H8 e8
              unfold isRow
              rw [tupOf_eq, b2n hb]
              rfl
            · obtain ⟨d1, d2⟩ := b2 hb
              obtain ⟨ws, rfl⟩ := tup_of d1
              obtain ⟨wa, wb, rfl⟩ := two_of (us := ws) (by have := of_decide_eq_true d2; have : (ws.length : Int) = 2 := this; omega)
              have hx8 := rp_mono e8 hx
              obtain ⟨ua, hua, eva⟩ := ev_at (i := 0) (t := wa) hx8 rfl
              obtain ⟨ub, hub, evb⟩ := ev_at (i := 1) (t := wb) hx8 rfl
              have sm : isRow (.tup [wa, wb]) fu th = (isWithin wa 1 fu && isWithin wb 0 (th - 1)) := by
                show (isTupleOf (.tup [wa, wb]) 2 2 && (isWithin wa 1 fu && isWithin wb 0 (th - 1))) = _
                rw [tupOf_of (by show (2 : Int) ≤ 2; decide) (by show (2 : Int) ≤ 2; decide), Bool.true_and]
              refine s_if (b := !isWithin wa 1 fu || !isWithin wb 0 (th - 1)) (et_or (et_not (et_B (ev_num (eva (ev_var rfl) ev_c) hua ev_c (ev_var rfl)))) fun _ => et_not (et_B (ev_num (evb (ev_var rfl) ev_c) hub ev_c (ev_op (ev_var rfl) ev_c rv_I0)))) (fun hb H9 e9 => ?_) (fun hb H9 e9 => ?_)
              · exact bad (by rw [sm]; exact b2n hb) H9 (e8.trans e9)
              · obtain ⟨w1, w2⟩ := b2 hb
                exact ⟨(e6.trans e7).trans (e8.trans e9), _, rfl, all_take hd hall (by rw [sm, w1, w2]; rfl)⟩
          · obtain ⟨e6, y, rfl, hall⟩ := p
            rw [List.take_of_length_le (Nat.le_refl _)] at hall
            rw [hall, Bool.true_and] at hq4
            refine sr_ret (ev_callF (F := fRising) (ea_cons (ev_var rfl) ea_nil) (.cons (rp_mono (e5.trans e6) r64) .nil) ?_ tb_nil) fun H7 e7 => hq4 H7 ((e5.trans e6).trans e7)
            show (if cmpOk rs = true then some (rising rs) else none) = _
            rw [if_pos (rows_cmp (by omega) hall)]
end
end K01

set_option Elab.async false
set_option linter.all false
set_option maxRecDepth 100000
set_option maxHeartbeats 4000000
namespace K01
open PySem PySem.Spec PyProof.Rows L2 Evl DL GX YA EX TH TV YT DS
abbrev s_law_are_walks : Stmt := topS 63
theorem sc_law_are_walks : FnScope ["_law_thing", "_law_many", "_law_frame_here", "_law_row", "_law_part"] ["_law_thing", "_law_many"] (defScope s_law_are_walks) := ⟨rfl, rfl, rfl, by decide +kernel, rfl, by decide +kernel, by decide +kernel⟩
abbrev s_law_is_hand : Stmt := topS 64
theorem sc_law_is_hand : FnScope ["_law_thing", "_law_many", "_law_home", "_law_minds", "_law_first", "_law_last", "_law_part"] ["_law_thing", "_law_many"] (defScope s_law_is_hand) := ⟨rfl, rfl, rfl, by decide +kernel, rfl, by decide +kernel, by decide +kernel⟩
abbrev s_law_is_stray : Stmt := topS 65
theorem sc_law_is_stray : FnScope ["_law_thing", "_law_frames"] ["_law_thing", "_law_frames"] (defScope s_law_is_stray) := ⟨rfl, rfl, rfl, by decide +kernel, rfl, by decide +kernel, by decide +kernel⟩
theorem four_of {us : List Th} (h : us.length = 4) : ∃ a b c d, us = [a, b, c, d] := by
  match us, h with
  | [a, b, c, d], _ => exact ⟨a, b, c, d, rfl⟩
theorem three_of {us : List Th} (h : us.length = 3) : ∃ a b c, us = [a, b, c] := by
  match us, h with
  | [a, b, c], _ => exact ⟨a, b, c, rfl⟩
def fWalks : List Th → Option Bool
  | [t, .int m] => if 0 ≤ m ∧ m ≤ 1000 then some (isWalks t m) else none
  | _ => none
theorem fWalks_is {ts : List Th} {b : Bool} (h : fWalks ts = some b) : ∃ t m, ts = [t, .int m] ∧ (0 ≤ m ∧ m ≤ 1000) ∧ b = isWalks t m := by
  unfold fWalks at h
  split at h
  · split at h
    · rename_i hc
      exact ⟨_, _, rfl, hc, (Option.some.inj h).symm⟩
    · cases h
  · cases h
def fHand : List Th → Option Bool
  | [t, .int m] => if m ≤ 1000 ∧ thin t = true then some (isHand t m) else none
  | _ => none
theorem fHand_is {ts : List Th} {b : Bool} (h : fHand ts = some b) : ∃ t m, ts = [t, .int m] ∧ (m ≤ 1000 ∧ thin t = true) ∧ b = isHand t m := by
  unfold fHand at h
  split at h
  · split at h
    · rename_i hc
      exact ⟨_, _, rfl, hc, (Option.some.inj h).symm⟩
    · cases h
  · cases h
def fSt : List Th → Option Bool
  | [t, .tup fs] => if fs.all isFrame = true then some (isStray t fs) else none
  | _ => none
theorem fSt_is {ts : List Th} {b : Bool} (h : fSt ts = some b) : ∃ t fs, ts = [t, .tup fs] ∧ fs.all isFrame = true ∧ b = isStray t fs := by
  unfold fSt at h
  split at h
  · split at h
    · rename_i hc
      exact ⟨_, _, rfl, hc, (Option.some.inj h).symm⟩
    · cases h
  · cases h
section
variable {P : Program} {w : World} {K : PySem.W.Frag} {mg : Str → Option Value} {base : Heap}
theorem ok_are_walks {f f1 : Addr} {fd fd1 : FuncData} (T : Bi mg) (D : Df K mg "_law_are_walks" s_law_are_walks ["_law_thing", "_law_many"] f fd) (D_law_whole : Df K mg "_law_whole" s_law_whole ["_law_thing", "_law_least", "_law_most"] f1 fd1) :
    FnOk P w K mg base CX0 2 f fd ["_law_thing", "_law_many"] (spF K [] fWalks) := by
  have G_law_whole : FnOk P w K mg base CX0 1 f1 fd1 ["_law_thing", "_law_least", "_law_most"] (spF K [] (fn3 isWithin)) := ok_whole T D_law_whole
  refine D.F.ok sc_law_are_walks (len_spF fun ts b h => by obtain ⟨_, _, rfl, _⟩ := fWalks_is h; rfl) (fun cdv A outer s H vs Q E hr h => ?_)
  obtain ⟨ts, b, hv, hF, hT, q⟩ := h
  obtain ⟨t, many, rfl, hmany, rfl⟩ := fWalks_is hF
  obtain ⟨v, v2, rfl, hr1, hr2⟩ := ra2 hv
  cases rp_int hr2
  refine ⟨_, (pss_cons (ps_if (PW.pt (pw_or (pt_not (pt_val (pe_callB (r := rIsi K) call_isi (by rfl) T.isinstance boot_isinstance (pa_cons (pv 0) (pa_cons (pe_bltn (by rfl) T.tuple boot_tuple (v := .ty "tuple") rfl) pa_nil))))) (pw_or1 (pt_cmpR op_ne (pe_callB (r := rLenS K) call_len_seq (by rfl) T.len PySem.boot_len (pa_cons (pv 0) pa_nil)) (pv 1) (nomark _))))) (pss_one (ps_ret pe_bl)) pss_nil)
      (pss_cons (ps_for PassesOwn.never rfl (pi_range1 rfl T.range (pa_cons (pv 1) pa_nil)) (pg_name (i := 2) sc_law_are_walks.nd rfl (.inl rfl)) (pss_cons (ps_set (i := 3) sc_law_are_walks.nd rfl (.inl rfl) (pe_ix (r := rIxT K) ix_tup (pv 0) (pv 2) (fun _ _ => rfl)))
      (pss_cons (ps_if (PW.pt (pw_or (pt_not (pt_val (pe_callB (r := rIsi K) call_isi (by rfl) T.isinstance boot_isinstance (pa_cons (pv 3) (pa_cons (pe_bltn (by rfl) T.tuple boot_tuple (v := .ty "tuple") rfl) pa_nil))))) (pw_or (pt_cmpR op_ne (pe_callB (r := rLenS K) call_len_seq (by rfl) T.len PySem.boot_len (pa_cons (pv 3) pa_nil)) (pv 1) (nomark _)) (pw_or1 (pt_not (pt_val (pe_callB (r := rAll K) (cr_all rfl) (by rfl) T.all boot_all (pa_cons (pe_lc (own := [("_law_part", 4)]) (g := (gName 4)) rfl sc_law_are_walks.nd (pi_tup (pv 3)) (blkOk_by (N := ["_law_thing", "_law_many", "_law_frame_here", "_law_row", "_law_part"]) (sc := defScope s_law_are_walks) (by decide +kernel)) (fun _ _ _ _ _ => (pg_name (i := 4) sc_law_are_walks.nd rfl (.inl rfl))) (fun _ _ _ _ _ => pts_nil) (fun _ _ _ _ _ => (pe_call G_law_whole (hr.mono (by omega)) (by rfl) D_law_whole.g D_law_whole.F.kp D_law_whole.b .nil pass0 (pa_cons (pv 4) (pa_cons pe_int (pa_cons pe_int pa_nil)))))) pa_nil)))))))) (pss_one (ps_ret pe_bl)) pss_nil)
      (pss_one (ps_if (pt_cmpR op_ne (pe_ix (r := rIxT K) ix_tup (pv 3) (pv 2) (fun _ _ => rfl)) pe_int (nomark _)) (pss_one (ps_ret pe_bl)) pss_nil)))))
      (pss_one (ps_ret pe_bl)))), ?_⟩
  refine q_when (b := !isTup t || !decide (((parts t).length : Int) = many)) (et_or (et_not (et_B (ev_isi (ev_var rfl) hr1 (by decide)))) fun h => et_test (ev_is (ev_op (ev_lenP (ev_var rfl) hr1 (not_no h)) (ev_var rfl) (rv_ne rfl)) (by rw [dec_i]))) (fun hb H1 e1 => ?_) (fun hb H1 e1 => ?_)
  · have hz : isWalks t many = false := by
      unfold isWalks
      rw [tupOf_eq, b2n hb]
      rfl
    rw [hz] at q
    exact q H1 e1
  · obtain ⟨h1, h2⟩ := b2 hb
    obtain ⟨us, rfl⟩ := tup_of h1
    have hl : (us.length : Int) = many := of_decide_eq_true h2
    have hq : ∀ H', Ex H1 H' → Q (.bl ((nums us).all fun p => isWalk p.2 (p.1 : Int) many)) H' := fun H' e' => by
      have z := q H' (e1.trans e')
      unfold isWalks at z
      rw [tupOf_of (by omega) (by omega), Bool.true_and] at z
      exact z
    have hr1' := rp_mono e1 hr1
    refine q_forR1 (ea_cons (ev_var rfl) ea_nil) ⟨by omega, by omega⟩ (fun i σ' H' => Ex H1 H' ∧ ∃ y2 y3 y4, σ' = [some v, some (.int many), y2, y3, y4] ∧ ((nums us).take i).all (fun p => isWalk p.2 (p.1 : Int) many) = true) (fun H2 e2 => ⟨e2, _, _, _, rfl, rfl⟩) (fun i σ' H' hi p => ?_) (fun σ' H' p => ?_)
    · obtain ⟨e2, y2, y3, y4, rfl, hall⟩ := p
      have hil : i < us.length := by omega
      have hat : us[i]? = some us[i] := List.getElem?_eq_getElem hil
      have hd := nums_at hat
      obtain ⟨u, hu, hev⟩ := ev_at (i := i) (rp_mono e2 hr1') hat
      generalize us[i] = dt at hat hd hu
      refine q_asg (hev (ev_var rfl) (ev_var rfl)) fun H3 e3 => ?_
      have hu3 := rp_mono e3 hu
      have e13 := e2.trans e3
      have bad : isWalk dt (i : Int) many = false → ∀ H', Ex H3 H' → Q (.bl false) H' := fun hf H' e' => by
        have z := hq H' (e13.trans e')
        rw [all_no hd hf] at z
        exact z
      refine q_when (b := !isTup dt || (!decide (((parts dt).length : Int) = many) || !(parts dt).all fun x => isWithin x 0 9)) (et_or (et_not (et_B (ev_isi (ev_var rfl) hu3 (by decide)))) fun h => et_or (et_test (ev_is (ev_op (ev_lenP (ev_var rfl) hu3 (not_no h)) (ev_var rfl) (rv_ne rfl)) (by rw [dec_i]))) fun h2 => et_not (et_B ?_)) (fun hb H6 e6 => ?_) (fun hb H6 e6 => ?_)
      · obtain ⟨ws, rfl⟩ := tup_of (not_no h)
        have hwl : (ws.length : Int) = many := of_decide_eq_true (not_no h2)
        exact ev_allL (fun x => isWithin x 0 9) (ewr_tup (ev_var rfl) hu3) (by show ws.length ≤ 40000; omega) fun j d' x' H6 e6 hd' hx' => ⟨_, tg_name, rfl, ev_num (ev_var rfl) hx' ev_c ev_c⟩
      · refine bad ?_ H6 e6
        unfold isWalk
        rw [tupOf_eq]
        have z := b3n hb
        generalize isTup dt = x1 at z ⊢
        generalize decide (((parts dt).length : Int) = many) = x2 at z ⊢
        generalize ((parts dt).all fun x => isWithin x 0 9) = x3 at z ⊢
        cases x1 <;> cases x2 <;> cases x3 <;> simp_all
      · obtain ⟨k1, k2, k3⟩ := b3 hb
        obtain ⟨ws, rfl⟩ := tup_of k1
        have hwl : (ws.length : Int) = many := of_decide_eq_true k2
        have hdw : i < ws.length := by omega
        obtain ⟨n, hn, _, _⟩ := int_within (List.all_eq_true.mp k3 _ (List.getElem_mem hdw))
        have hat2 : ws[i]? = some (.int n) := by rw [List.getElem?_eq_getElem hdw, hn]
        have sm : isWalk (.tup ws) (i : Int) many = decide (n = 0) := by
          unfold isWalk
          rw [tupOf_of (by omega) (by omega), k3, Bool.true_and, Bool.true_and, Int.toNat_natCast]
          show decide (asInt (ws.getD i .none) = 0) = _
          rw [List.getD_eq_getElem?_getD, hat2]
          rfl
        obtain ⟨un, hun, evn⟩ := ev_at (i := i) (rp_mono e6 hu3) hat2
        cases rp_int hun
        refine s_if (et_test (ev_is (ev_op (evn (ev_var rfl) (ev_var rfl)) ev_c (rv_ne rfl)) (by rw [dec_i]))) (fun hb H7 e7 => ?_) (fun hb H7 e7 => ?_)
        · refine bad ?_ H7 (e6.trans e7)
          rw [sm]
          simpa using hb
        · refine ⟨e13.trans (e6.trans e7), _, _, _, rfl, all_take hd hall ?_⟩
          rw [sm]
          exact not_no hb
    · obtain ⟨e2, y2, y3, y4, rfl, hall⟩ := p
      rw [List.take_of_length_le (by rw [nums_len]; omega)] at hall
      refine sr_ret ev_c fun H5 e5 => ?_
      have z := hq H5 (e2.trans e5)
      rw [hall] at z
      exact z
theorem ra4 {H : Hp} {vs : List V} {t1 t2 t3 t4 : Th} (h : RpAll K H vs [t1, t2, t3, t4]) : ∃ v1 v2 v3 v4, vs = [v1, v2, v3, v4] ∧ Rp K H v1 t1 ∧ Rp K H v2 t2 ∧ Rp K H v3 t3 ∧ Rp K H v4 t4 := by
  cases h with
  | cons h1 h =>
    obtain ⟨a, b, d, rfl, r1, r2, r3⟩ := ra3 h
    exact ⟨_, a, b, d, rfl, h1, r1, r2, r3⟩
theorem none_dec {H : Hp} {v : V} {t : Th} (h : Rp K H v t) : decide (v = .non) = isNone t := by
  cases h with
  | non => rfl
  | _ => exact decide_eq_false (fun z => by cases z)
/-- minds: the law's words -/
theorem minds_eq {ws : List Th} {many : Int} (hm : (ws.all fun p => isWithin p 0 (many - 1)) = true) : isMinds (.tup ws) many = (!ws.isEmpty && rising ws) := by
  unfold isMinds
  cases ws with
  | nil => rfl
  | cons x xs =>
    show (isTupleOf (.tup (x :: xs)) 1 many && ((x :: xs).all (fun p => isWithin p 0 (many - 1)) && rising (x :: xs))) = (true && rising (x :: xs))
    rw [hm, Bool.true_and]
    cases hr : rising (x :: xs) with
    | false => rw [Bool.and_false]
    | true =>
      rw [Bool.and_true]
      refine tupOf_of (by rw [List.length_cons]; omega) ?_
      exact rise_len hm hr (by simp)
theorem ev_10 {σ : L2.St} {H : Hp} : Ev (tOp (rI (fun i j => CPow i j) fun i j => .int (i ^ j.toNat)) (tC (.int 10)) (tC (.int 30))) σ H (.int (10 ^ 30)) := ev_op ev_c ev_c (rv_I ⟨by decide, by decide, by decide⟩)
theorem ok_is_hand {f f1 f2 : Addr} {fd fd1 fd2 : FuncData} (T : Bi mg) (D : Df K mg "_law_is_hand" s_law_is_hand ["_law_thing", "_law_many"] f fd) (D_law_whole : Df K mg "_law_whole" s_law_whole ["_law_thing", "_law_least", "_law_most"] f1 fd1) (D_law_rising : Df K mg "_law_rising" s_law_rising ["_law_things"] f2 fd2) :
    FnOk P w K mg base CX0 2 f fd ["_law_thing", "_law_many"] (spF K [] fHand) := by
  have G_law_whole : FnOk P w K mg base CX0 1 f1 fd1 ["_law_thing", "_law_least", "_law_most"] (spF K [] (fn3 isWithin)) := ok_whole T D_law_whole
  have G_law_rising : FnOk P w K mg base CX0 1 f2 fd2 ["_law_things"] (spF K [] fRising) := ok_rising T D_law_rising
  refine D.F.ok sc_law_is_hand (len_spF fun ts b h => by obtain ⟨_, _, rfl, _⟩ := fHand_is h; rfl) (fun cdv A outer s H vs Q E hr h => ?_)
  obtain ⟨ts, b, hv, hF, hT, q⟩ := h
  obtain ⟨t, many, rfl, hmt, rfl⟩ := fHand_is hF
  obtain ⟨v, v2, rfl, hr1, hr2⟩ := ra2 hv
  cases rp_int hr2
  refine ⟨_, (pss_cons (ps_if (PW.pt (pw_or (pt_not (pt_val (pe_callB (r := rIsi K) call_isi (by rfl) T.isinstance boot_isinstance (pa_cons (pv 0) (pa_cons (pe_bltn (by rfl) T.tuple boot_tuple (v := .ty "tuple") rfl) pa_nil))))) (pw_or1 (pt_cmpR op_ne (pe_callB (r := rLenS K) call_len_seq (by rfl) T.len PySem.boot_len (pa_cons (pv 0) pa_nil)) pe_int (nomark _))))) (pss_one (ps_ret pe_bl)) pss_nil)
      (pss_cons (ps_asg (pv 0) (pg_tup rfl (pgs_cons (pg_name (i := 2) sc_law_is_hand.nd rfl (.inl rfl)) (pgs_cons (pg_name (i := 3) sc_law_is_hand.nd rfl (.inl rfl)) (pgs_cons (pg_name (i := 4) sc_law_is_hand.nd rfl (.inl rfl)) (pgs_cons (pg_name (i := 5) sc_law_is_hand.nd rfl (.inl rfl)) pgs_nil))))))
      (pss_cons (ps_if (PW.pt (pw_or (pt_not (pt_val (pe_call G_law_whole (hr.mono (by omega)) (by rfl) D_law_whole.g D_law_whole.F.kp D_law_whole.b .nil pass0 (pa_cons (pv 2) (pa_cons pe_int (pa_cons (pe_op op_sub (pv 1) pe_int) pa_nil)))))) (pw_or1 (pt_not (pt_val (pe_call G_law_whole (hr.mono (by omega)) (by rfl) D_law_whole.g D_law_whole.F.kp D_law_whole.b .nil pass0 (pa_cons (pv 4) (pa_cons pe_int (pa_cons (pe_op op_pow pe_int pe_int) pa_nil))))))))) (pss_one (ps_ret pe_bl)) pss_nil)
      (pss_cons (ps_if (PW.pt (pw_or (pt_not (pt_val (pe_callB (r := rIsi K) call_isi (by rfl) T.isinstance boot_isinstance (pa_cons (pv 3) (pa_cons (pe_bltn (by rfl) T.tuple boot_tuple (v := .ty "tuple") rfl) pa_nil))))) (pw_or (pt_cmpR (r := rEqT0 K) (op_eqT0 hr.units) (pv 3) (pe_tup pa_nil) (nomark _)) (pw_or1 (pt_not (pt_val (pe_callB (r := rAll K) (cr_all rfl) (by rfl) T.all boot_all (pa_cons (pe_lc (own := [("_law_part", 6)]) (g := (gName 6)) rfl sc_law_is_hand.nd (pi_tup (pv 3)) (blkOk_by (N := ["_law_thing", "_law_many", "_law_home", "_law_minds", "_law_first", "_law_last", "_law_part"]) (sc := defScope s_law_is_hand) (by decide +kernel)) (fun _ _ _ _ _ => (pg_name (i := 6) sc_law_is_hand.nd rfl (.inl rfl))) (fun _ _ _ _ _ => pts_nil) (fun _ _ _ _ _ => (pe_call G_law_whole (hr.mono (by omega)) (by rfl) D_law_whole.g D_law_whole.F.kp D_law_whole.b .nil pass0 (pa_cons (pv 6) (pa_cons pe_int (pa_cons (pe_op op_sub (pv 1) pe_int) pa_nil)))))) pa_nil)))))))) (pss_one (ps_ret pe_bl)) pss_nil)
      (pss_one (ps_ret (pe_and (pe_call G_law_rising (hr.mono (by omega)) (by rfl) D_law_rising.g D_law_rising.F.kp D_law_rising.b .nil pass0 (pa_cons (pv 3) pa_nil)) (pe_one (pe_or (pe_cmpR op_isN (pv 5) pe_non (nomark _)) (pe_one (pe_call G_law_whole (hr.mono (by omega)) (by rfl) D_law_whole.g D_law_whole.F.kp D_law_whole.b .nil pass0 (pa_cons (pv 5) (pa_cons (pe_op op_add (pv 4) pe_int) (pa_cons (pe_op op_pow pe_int pe_int) pa_nil)))))))))))))), ?_⟩
  refine q_when (b := !isTup t || !decide (((parts t).length : Int) = 4)) (et_or (et_not (et_B (ev_isi (ev_var rfl) hr1 (by decide)))) fun h => et_test (ev_is (ev_op (ev_lenP (ev_var rfl) hr1 (not_no h)) ev_c (rv_ne rfl)) (by rw [dec_i]))) (fun hb H1 e1 => ?_) (fun hb H1 e1 => ?_)
  · have hz : isHand t many = false := by
      unfold isHand
      rw [tupOf_eq, b2n hb]
      rfl
    rw [hz] at q
    exact q H1 e1
  · obtain ⟨h1, h2⟩ := b2 hb
    obtain ⟨us, rfl⟩ := tup_of h1
    obtain ⟨k1, k2, k3, k4, rfl⟩ := four_of (us := us) (by have := of_decide_eq_true h2; have : (us.length : Int) = 4 := this; omega)
    obtain ⟨a, xs, rfl, hs, ha⟩ := rp_tup (rp_mono e1 hr1)
    obtain ⟨v1, v2, v3, v4, rfl, r1, r2, r3, r4⟩ := ra4 ha
    have hthin : thin k2 = true := (thin_tup hmt.2).2 k2 (by simp)
    refine ⟨.ref a, rfl, a, [v1, v2, v3, v4], rfl, hs, rfl, _, _, rfl, _, _, rfl, _, _, rfl, _, _, rfl, rfl, ?_⟩
    dsimp only
    have hq : ∀ H', Ex H1 H' → Q (.bl ((isWithin k1 0 (many - 1) && (isMinds k2 many && isWithin k3 0 (10 ^ 30))) && (isNone k4 || isWithin k4 (asInt k3 + 1) (10 ^ 30)))) H' := fun H' e' => by
      have z := q H' (e1.trans e')
      unfold isHand at z
      rw [tupOf_of (by show (4 : Int) ≤ 4; decide) (by show (4 : Int) ≤ 4; decide), Bool.true_and] at z
      exact z
    refine q_when (b := !isWithin k1 0 (many - 1) || !isWithin k3 0 (10 ^ 30)) (et_or (et_not (et_B (ev_num (ev_var rfl) r1 ev_c (ev_op (ev_var rfl) ev_c rv_I0)))) fun _ => et_not (et_B (ev_num (ev_var rfl) r3 ev_c ev_10))) (fun hb H2 e2 => ?_) (fun hb H2 e2 => ?_)
    · have z := hq H2 e2
      have zz : ((isWithin k1 0 (many - 1) && (isMinds k2 many && isWithin k3 0 (10 ^ 30))) && (isNone k4 || isWithin k4 (asInt k3 + 1) (10 ^ 30))) = false := by
        have k := b2n hb
        generalize isWithin k1 0 (many - 1) = x1 at k ⊢
        generalize isWithin k3 0 (10 ^ 30) = x3 at k ⊢
        generalize isMinds k2 many = x2
        cases x1 <;> cases x2 <;> cases x3 <;> simp_all
      rw [zz] at z
      exact z
    · obtain ⟨j1, j3⟩ := b2 hb
      obtain ⟨st, rfl, st0, st1⟩ := int_within j3
      cases rp_int r3
      have r2' := rp_mono e2 r2
      have r4' := rp_mono e2 r4
      have hq2 : ∀ H', Ex H2 H' → Q (.bl (isMinds k2 many && (isNone k4 || isWithin k4 (st + 1) (10 ^ 30)))) H' := fun H' e' => by
        have z := hq H' (e2.trans e')
        rw [j1, j3, Bool.true_and, Bool.and_true] at z
        exact z
      refine q_when (b := !isTup k2 || ((parts k2).isEmpty || !(parts k2).all fun x => isWithin x 0 (many - 1))) (et_or (et_not (et_B (ev_isi (ev_var rfl) r2' (by decide)))) fun h => et_or (et_test ?_) fun h2 => et_not (et_B ?_)) (fun hb H3 e3 => ?_) (fun hb H3 e3 => ?_)
      · obtain ⟨ws, rfl⟩ := tup_of (not_no h)
        exact ev_eqT0 (ev_var rfl) r2'
      · obtain ⟨ws, rfl⟩ := tup_of (not_no h)
        have hwl := (thin_tup hthin).1
        exact ev_allL (fun x => isWithin x 0 (many - 1)) (ewr_tup (ev_var rfl) r2') (by show ws.length ≤ 40000; omega) fun j d' x' H6 e6 hd' hx' => ⟨_, tg_name, rfl, ev_num (ev_var rfl) hx' ev_c (ev_op (ev_var rfl) ev_c rv_I0)⟩
      · have z := hq2 H3 e3
        have zz : isMinds k2 many = false := by
          cases ht : isTup k2 with
          | false =>
            unfold isMinds isTupleOf
            rw [ht]
            rfl
          | true =>
            obtain ⟨ws, rfl⟩ := tup_of ht
            rw [ht] at hb
            have hb : (ws.isEmpty || !ws.all fun x => isWithin x 0 (many - 1)) = true := hb
            cases ha2 : (ws.all fun x => isWithin x 0 (many - 1)) with
            | false =>
              unfold isMinds
              show (isTupleOf (.tup ws) 1 many && ((ws.all fun x => isWithin x 0 (many - 1)) && rising ws)) = false
              rw [ha2, Bool.false_and, Bool.and_false]
            | true =>
              rw [ha2] at hb
              rw [minds_eq ha2]
              cases ws with
              | nil => rfl
              | cons _ _ => cases hb
        rw [zz] at z
        exact z
      · have hk : isTup k2 = true ∧ (parts k2).isEmpty = false ∧ ((parts k2).all fun x => isWithin x 0 (many - 1)) = true := by
          generalize isTup k2 = x1 at hb ⊢
          generalize (parts k2).isEmpty = x2 at hb ⊢
          generalize ((parts k2).all fun x => isWithin x 0 (many - 1)) = x3 at hb ⊢
          cases x1 <;> cases x2 <;> cases x3 <;> simp_all
        obtain ⟨ws, rfl⟩ := tup_of hk.1
        have ha2 : (ws.all fun x => isWithin x 0 (many - 1)) = true := hk.2.2
        have hne : ws.isEmpty = false := hk.2.1
        have hq3 : ∀ H', Ex H3 H' → Q (.bl (rising ws && (isNone k4 || isWithin k4 (st + 1) (10 ^ 30)))) H' := fun H' e' => by
          have z := hq2 H' (e3.trans e')
          rw [minds_eq ha2, hne] at z
          exact z
        have r2'' := rp_mono e3 r2'
        have r4'' := rp_mono e3 r4'
        refine sr_ret (ev_andV (ev_callF (F := fRising) (ea_cons (ev_var rfl) ea_nil) (.cons r2'' .nil) ?_ tb_nil) fun _ => ev_orV (ev_is (ev_op (ev_var rfl) ev_c fun H4 e4 Q4 q4 => ⟨rfl, q4 H4 (Ex.refl H4)⟩) (by rw [none_dec r4''])) fun _ => ev_num (ev_var rfl) r4'' (ev_op (ev_var rfl) ev_c rv_I0) ev_10) hq3
        show (if cmpOk ws = true then some (rising ws) else none) = _
        rw [if_pos]
        unfold cmpOk
        have h1 : ws.all isWhole = true := List.all_eq_true.mpr fun t ht => by
          obtain ⟨i, rfl, _⟩ := int_within (List.all_eq_true.mp ha2 t ht)
          rfl
        rw [h1, decide_eq_true (thin_tup hthin).1]
        rfl
theorem ok_is_stray {f f1 : Addr} {fd fd1 : FuncData} (T : Bi mg) (D : Df K mg "_law_is_stray" s_law_is_stray ["_law_thing", "_law_frames"] f fd) (D_law_whole : Df K mg "_law_whole" s_law_whole ["_law_thing", "_law_least", "_law_most"] f1 fd1) :
    FnOk P w K mg base CX0 2 f fd ["_law_thing", "_law_frames"] (spF K [] fSt) := by
  have G_law_whole : FnOk P w K mg base CX0 1 f1 fd1 ["_law_thing", "_law_least", "_law_most"] (spF K [] (fn3 isWithin)) := ok_whole T D_law_whole
  refine D.F.ok sc_law_is_stray (len_spF fun ts b h => by obtain ⟨_, _, rfl, _⟩ := fSt_is h; rfl) (fun cdv A outer s H vs Q E hr h => ?_)
  obtain ⟨ts, b, hv, hF, hT, q⟩ := h
  obtain ⟨t, fs, rfl, hall, rfl⟩ := fSt_is hF
  obtain ⟨v, v2, rfl, hr1, hr2⟩ := ra2 hv
  refine ⟨_, (pss_cons (ps_if (PW.pt (pw_or (pt_not (pt_val (pe_callB (r := rIsi K) call_isi (by rfl) T.isinstance boot_isinstance (pa_cons (pv 0) (pa_cons (pe_bltn (by rfl) T.tuple boot_tuple (v := .ty "tuple") rfl) pa_nil))))) (pw_or (pt_cmpR op_ne (pe_callB (r := rLenS K) call_len_seq (by rfl) T.len PySem.boot_len (pa_cons (pv 0) pa_nil)) pe_int (nomark _)) (pw_or1 (pt_not (pt_val (pe_call G_law_whole (hr.mono (by omega)) (by rfl) D_law_whole.g D_law_whole.F.kp D_law_whole.b .nil pass0 (pa_cons (pe_ix (r := rIxT K) ix_tup (pv 0) pe_int (fun _ _ => rfl)) (pa_cons pe_int (pa_cons (pe_op op_sub (pe_callB (r := rLenS K) call_len_seq (by rfl) T.len PySem.boot_len (pa_cons (pv 1) pa_nil)) pe_int) pa_nil)))))))))) (pss_one (ps_ret pe_bl)) pss_nil)
      (pss_one (ps_ret (pe_and (pe_call G_law_whole (hr.mono (by omega)) (by rfl) D_law_whole.g D_law_whole.F.kp D_law_whole.b .nil pass0 (pa_cons (pe_ix (r := rIxT K) ix_tup (pv 0) pe_int (fun _ _ => rfl)) (pa_cons pe_int (pa_cons (pe_op op_pow pe_int pe_int) pa_nil)))) (pe_one (pe_call G_law_whole (hr.mono (by omega)) (by rfl) D_law_whole.g D_law_whole.F.kp D_law_whole.b .nil pass0 (pa_cons (pe_ix (r := rIxT K) ix_tup (pv 0) pe_int (fun _ _ => rfl)) (pa_cons pe_int (pa_cons (pe_op op_sub (pe_ix (r := rIxT K) ix_tup (pe_ix (r := rIxT K) ix_tup (pv 1) (pe_ix (r := rIxT K) ix_tup (pv 0) pe_int (fun _ _ => rfl)) (fun _ _ => rfl)) pe_int (fun _ _ => rfl)) pe_int) pa_nil))))))))), ?_⟩
  refine q_when (b := !isTup t || (!decide (((parts t).length : Int) = 3) || !isWithin ((parts t).getD 0 .none) 0 ((fs.length : Int) - 1))) (et_or (et_not (et_B (ev_isi (ev_var rfl) hr1 (by decide)))) fun h => et_or (et_test (ev_is (ev_op (ev_lenP (ev_var rfl) hr1 (not_no h)) ev_c (rv_ne rfl)) (by rw [dec_i]))) fun h2 => et_not (et_B ?_)) (fun hb H1 e1 => ?_) (fun hb H1 e1 => ?_)
  · obtain ⟨us, rfl⟩ := tup_of (not_no h)
    obtain ⟨k1, k2, k3, rfl⟩ := three_of (us := us) (by have := of_decide_eq_true (not_no h2); have : (us.length : Int) = 3 := this; omega)
    obtain ⟨u, hu, hev⟩ := ev_at (i := 0) (t := k1) hr1 rfl
    exact ev_num (hev (ev_var rfl) ev_c) hu ev_c (ev_op (ev_lenR (ev_var rfl) hr2) ev_c rv_I0)
  · have hz : isStray t fs = false := by
      unfold isStray
      rw [tupOf_eq]
      have k := b3n hb
      cases h1 : isTup t with
      | false => rfl
      | true =>
        cases h2 : decide (((parts t).length : Int) = 3) with
        | false => rfl
        | true =>
          obtain ⟨us, rfl⟩ := tup_of h1
          obtain ⟨k1, k2, k3, rfl⟩ := three_of (us := us) (by have := of_decide_eq_true h2; have : (us.length : Int) = 3 := this; omega)
          rw [h1, h2] at k
          have k : isWithin k1 0 ((fs.length : Int) - 1) = false := k
          show (true && ((isWithin k1 0 ((fs.length : Int) - 1) && isWithin k2 1 (10 ^ 30)) && isWithin k3 0 (threadsOf fs k1 - 1))) = false
          rw [k]
          rfl
    rw [hz] at q
    exact q H1 e1
  · obtain ⟨h1, h2, h3⟩ := b3 hb
    obtain ⟨us, rfl⟩ := tup_of h1
    obtain ⟨k1, k2, k3, rfl⟩ := three_of (us := us) (by have := of_decide_eq_true h2; have : (us.length : Int) = 3 := this; omega)
    have h3 : isWithin k1 0 ((fs.length : Int) - 1) = true := h3
    obtain ⟨fr, rfl, fr0, fr1⟩ := int_within h3
    obtain ⟨j, rfl⟩ : ∃ j : Nat, fr = (j : Int) := ⟨fr.toNat, by omega⟩
    have hj : j < fs.length := by omega
    have hat : fs[j]? = some fs[j] := List.getElem?_eq_getElem hj
    obtain ⟨ks, th, eu, hu, th1, th4⟩ := frame_th (List.all_eq_true.mp hall _ (List.getElem_mem hj))
    have hth : threadsOf fs (.int (j : Int)) = th := by
      show asInt ((parts (fs.getD ((j : Int)).toNat .none)).getD 1 .none) = th
      have e1 : fs.getD ((j : Int)).toNat .none = fs[j] := by rw [Int.toNat_natCast, List.getD_eq_getElem?_getD, hat]; rfl
      rw [e1, eu]
      show asInt (ks.getD 1 .none) = th
      rw [List.getD_eq_getElem?_getD, hu]
      rfl
    have hq : ∀ H', Ex H1 H' → Q (.bl (isWithin k2 1 (10 ^ 30) && isWithin k3 0 (th - 1))) H' := fun H' e' => by
      have z := q H' (e1.trans e')
      have e : isStray (.tup [.int (j : Int), k2, k3]) fs = (isTupleOf (.tup [.int (j : Int), k2, k3]) 3 3 && ((isWithin (.int (j : Int)) 0 ((fs.length : Int) - 1) && isWithin k2 1 (10 ^ 30)) && isWithin k3 0 (threadsOf fs (.int (j : Int)) - 1))) := rfl
      rw [e, tupOf_of (by show (3 : Int) ≤ 3; decide) (by show (3 : Int) ≤ 3; decide), h3, hth, Bool.true_and, Bool.true_and] at z
      exact z
    have hr1' := rp_mono e1 hr1
    have hr2' := rp_mono e1 hr2
    obtain ⟨u0, hu0, ev0⟩ := ev_at (i := 0) (t := .int (j : Int)) hr1' rfl
    obtain ⟨u1, hu1, ev1⟩ := ev_at (i := 1) (t := k2) hr1' rfl
    obtain ⟨u2, hu2, ev2⟩ := ev_at (i := 2) (t := k3) hr1' rfl
    cases rp_int hu0
    obtain ⟨uf, huf, evf⟩ := ev_at (i := j) (t := .tup ks) hr2' (by rw [hat, eu])
    obtain ⟨ut, hut, evt⟩ := ev_at (i := 1) (t := .int th) huf hu
    cases rp_int hut
    exact sr_ret (ev_andV (ev_num (ev1 (ev_var rfl) ev_c) hu1 ev_c ev_10) fun _ => ev_num (ev2 (ev_var rfl) ev_c) hu2 ev_c (ev_op (evt (evf (ev_var rfl) (ev0 (ev_var rfl) ev_c)) ev_c) ev_c rv_I0)) hq
end
end K01

set_option Elab.async false
set_option linter.all false
set_option maxRecDepth 100000
set_option maxHeartbeats 4000000
namespace K01
open PySem PySem.Spec PyProof.Rows L2 Evl DL GX YA EX TH TV YT DS
abbrev s_law_is_yard : Stmt := topS 66
theorem sc_law_is_yard : FnScope ["_law_thing", "_law_frames", "_law_walks", "_law_pieces", "_law_rule", "_law_hands", "_law_strays_here", "_law_one", "_law_part"] ["_law_thing"] (defScope s_law_is_yard) := ⟨rfl, rfl, rfl, by decide +kernel, rfl, by decide +kernel, by decide +kernel⟩
def fThin (g : Th → Bool) : List Th → Option Bool
  | [t] => if thin t = true then some (g t) else none
  | _ => none
theorem fThin_is {g : Th → Bool} {ts : List Th} {b : Bool} (h : fThin g ts = some b) : ∃ t, ts = [t] ∧ thin t = true ∧ b = g t := by
  unfold fThin at h
  split at h
  · split at h
    · rename_i hc
      exact ⟨_, rfl, hc, (Option.some.inj h).symm⟩
    · cases h
  · cases h
theorem strays_cmp {ss fs : List Th} (hl : ss.length ≤ 1000) (h : (ss.all fun p => isStray p fs) = true) : cmpOk ss = true := by
  unfold cmpOk
  have h1 : ss.all intTup = true := List.all_eq_true.mpr fun t ht => stray_tup (List.all_eq_true.mp h t ht)
  rw [h1, decide_eq_true hl, Bool.or_true]
  rfl
theorem b4 {a b c d : Bool} (h : (!a || (b || (!c || d))) = false) : a = true ∧ b = false ∧ c = true ∧ d = false := by cases a <;> cases b <;> cases c <;> cases d <;> simp_all
section
variable {P : Program} {w : World} {K : PySem.W.Frag} {mg : Str → Option Value} {base : Heap}
theorem ok_is_yard {f f1 f2 f3 f4 f5 f6 : Addr} {fd fd1 fd2 fd3 fd4 fd5 fd6 : FuncData} (T : Bi mg) (D : Df K mg "_law_is_yard" s_law_is_yard ["_law_thing"] f fd) (D_law_whole : Df K mg "_law_whole" s_law_whole ["_law_thing", "_law_least", "_law_most"] f1 fd1) (D_law_rising : Df K mg "_law_rising" s_law_rising ["_law_things"] f2 fd2)
    (D_law_is_frame : Df K mg "_law_is_frame" s_law_is_frame ["_law_thing"] f3 fd3) (D_law_are_walks : Df K mg "_law_are_walks" s_law_are_walks ["_law_thing", "_law_many"] f4 fd4) (D_law_is_hand : Df K mg "_law_is_hand" s_law_is_hand ["_law_thing", "_law_many"] f5 fd5) (D_law_is_stray : Df K mg "_law_is_stray" s_law_is_stray ["_law_thing", "_law_frames"] f6 fd6) :
    FnOk P w K mg base CX0 3 f fd ["_law_thing"] (spF K [] (fThin isYard)) := by
  have G_law_whole : FnOk P w K mg base CX0 1 f1 fd1 ["_law_thing", "_law_least", "_law_most"] (spF K [] (fn3 isWithin)) := ok_whole T D_law_whole
  have G_law_rising : FnOk P w K mg base CX0 1 f2 fd2 ["_law_things"] (spF K [] fRising) := ok_rising T D_law_rising
  have G_law_is_frame := ok_is_frame (P := P) (w := w) (base := base) T D_law_is_frame D_law_whole D_law_rising
  have G_law_are_walks := ok_are_walks (P := P) (w := w) (base := base) T D_law_are_walks D_law_whole
  have G_law_is_hand := ok_is_hand (P := P) (w := w) (base := base) T D_law_is_hand D_law_whole D_law_rising
  have G_law_is_stray := ok_is_stray (P := P) (w := w) (base := base) T D_law_is_stray D_law_whole
  refine D.F.ok sc_law_is_yard (len_spF fun ts b h => by obtain ⟨_, rfl, _⟩ := fThin_is h; rfl) (fun cdv A outer s H vs Q E hr h => ?_)
  obtain ⟨ts, b, hv, hF, hT, q⟩ := h
  obtain ⟨t, rfl, hthin, rfl⟩ := fThin_is hF
  obtain ⟨v, rfl, hr1⟩ := ra1 hv
  refine ⟨_, (pss_cons (ps_if (PW.pt (pw_or (pt_not (pt_val (pe_callB (r := rIsi K) call_isi (by rfl) T.isinstance boot_isinstance (pa_cons (pv 0) (pa_cons (pe_bltn (by rfl) T.tuple boot_tuple (v := .ty "tuple") rfl) pa_nil))))) (pw_or1 (pt_cmpR op_ne (pe_callB (r := rLenS K) call_len_seq (by rfl) T.len PySem.boot_len (pa_cons (pv 0) pa_nil)) pe_int (nomark _))))) (pss_one (ps_ret pe_bl)) pss_nil)
      (pss_cons (ps_asg (pv 0) (pg_tup rfl (pgs_cons (pg_name (i := 1) sc_law_is_yard.nd rfl (.inr rfl)) (pgs_cons (pg_name (i := 2) sc_law_is_yard.nd rfl (.inl rfl)) (pgs_cons (pg_name (i := 3) sc_law_is_yard.nd rfl (.inl rfl)) (pgs_cons (pg_name (i := 4) sc_law_is_yard.nd rfl (.inl rfl)) (pgs_cons (pg_name (i := 5) sc_law_is_yard.nd rfl (.inl rfl)) (pgs_cons (pg_name (i := 6) sc_law_is_yard.nd rfl (.inl rfl)) pgs_nil))))))))
      (pss_cons (ps_if (PW.pt (pw_or (pt_not (pt_val (pe_callB (r := rIsi K) call_isi (by rfl) T.isinstance boot_isinstance (pa_cons (pv 1) (pa_cons (pe_bltn (by rfl) T.tuple boot_tuple (v := .ty "tuple") rfl) pa_nil))))) (pw_or (pt_not (pt_chain op_le op_le pe_int (pe_callB (r := rLenS K) call_len_seq (by rfl) T.len PySem.boot_len (pa_cons (pv 1) pa_nil)) pe_int)) (pw_or1 (pt_not (pt_val (pe_callB (r := rAll K) (cr_all rfl) (by rfl) T.all boot_all (pa_cons (pe_lc (own := [("_law_one", 7)]) (g := (gName 7)) rfl sc_law_is_yard.nd (pi_tup (pv 1)) (blkOk_by (N := ["_law_thing", "_law_frames", "_law_walks", "_law_pieces", "_law_rule", "_law_hands", "_law_strays_here", "_law_one", "_law_part"]) (sc := defScope s_law_is_yard) (by decide +kernel)) (fun _ _ _ _ _ => (pg_name (i := 7) sc_law_is_yard.nd rfl (.inl rfl))) (fun _ _ _ _ _ => pts_nil) (fun _ _ _ _ _ => (pe_call G_law_is_frame (hr.mono (by omega)) (by rfl) D_law_is_frame.g D_law_is_frame.F.kp D_law_is_frame.b .nil pass0 (pa_cons (pv 7) pa_nil)))) pa_nil)))))))) (pss_one (ps_ret pe_bl)) pss_nil)
      (pss_cons (ps_if (PW.pt (pw_or (pt_not (pt_val (pe_call G_law_are_walks (hr.mono (by omega)) (by rfl) D_law_are_walks.g D_law_are_walks.F.kp D_law_are_walks.b .nil pass0 (pa_cons (pv 2) (pa_cons (pe_callB (r := rLenS K) call_len_seq (by rfl) T.len PySem.boot_len (pa_cons (pv 1) pa_nil)) pa_nil))))) (pw_or (pt_not (pt_val (pe_callB (r := rIsi K) call_isi (by rfl) T.isinstance boot_isinstance (pa_cons (pv 4) (pa_cons (pe_bltn (by rfl) T.str boot_str (v := .ty "str") rfl) pa_nil))))) (pw_or1 (pt_cmpR (r := rIn K true) op_notIn_seq (pv 4) (pe_lst (pa_cons pe_str (pa_cons pe_str (pa_cons pe_str pa_nil)))) rfl))))) (pss_one (ps_ret pe_bl)) pss_nil)
      (pss_cons (ps_if (PW.pt (pw_or (pt_not (pt_val (pe_callB (r := rIsi K) call_isi (by rfl) T.isinstance boot_isinstance (pa_cons (pv 3) (pa_cons (pe_bltn (by rfl) T.tuple boot_tuple (v := .ty "tuple") rfl) pa_nil))))) (pw_or (pt_cmpR op_ne (pe_callB (r := rLenS K) call_len_seq (by rfl) T.len PySem.boot_len (pa_cons (pv 3) pa_nil)) pe_int (nomark _)) (pw_or1 (pt_not (pt_val (pe_callB (r := rAll K) (cr_all rfl) (by rfl) T.all boot_all (pa_cons (pe_lc (own := [("_law_part", 8)]) (g := (gName 8)) rfl sc_law_is_yard.nd (pi_tup (pv 3)) (blkOk_by (N := ["_law_thing", "_law_frames", "_law_walks", "_law_pieces", "_law_rule", "_law_hands", "_law_strays_here", "_law_one", "_law_part"]) (sc := defScope s_law_is_yard) (by decide +kernel)) (fun _ _ _ _ _ => (pg_name (i := 8) sc_law_is_yard.nd rfl (.inl rfl))) (fun _ _ _ _ _ => pts_nil) (fun _ _ _ _ _ => (pe_call G_law_whole (hr.mono (by omega)) (by rfl) D_law_whole.g D_law_whole.F.kp D_law_whole.b .nil pass0 (pa_cons (pv 8) (pa_cons pe_int (pa_cons pe_int pa_nil)))))) pa_nil)))))))) (pss_one (ps_ret pe_bl)) pss_nil)
      (pss_cons (ps_if (PW.pt (pw_or (pt_not (pt_val (pe_callB (r := rIsi K) call_isi (by rfl) T.isinstance boot_isinstance (pa_cons (pv 5) (pa_cons (pe_bltn (by rfl) T.tuple boot_tuple (v := .ty "tuple") rfl) pa_nil))))) (pw_or (pt_cmpR op_gt (pe_callB (r := rLenS K) call_len_seq (by rfl) T.len PySem.boot_len (pa_cons (pv 5) pa_nil)) pe_int (nomark _)) (pw_or (pt_not (pt_val (pe_callB (r := rIsi K) call_isi (by rfl) T.isinstance boot_isinstance (pa_cons (pv 6) (pa_cons (pe_bltn (by rfl) T.tuple boot_tuple (v := .ty "tuple") rfl) pa_nil))))) (pw_or1 (pt_cmpR op_gt (pe_callB (r := rLenS K) call_len_seq (by rfl) T.len PySem.boot_len (pa_cons (pv 6) pa_nil)) pe_int (nomark _))))))) (pss_one (ps_ret pe_bl)) pss_nil)
      (pss_cons (ps_if (pt_not (pt_val (pe_callB (r := rAll K) (cr_all rfl) (by rfl) T.all boot_all (pa_cons (pe_lc (own := [("_law_one", 7)]) (g := (gName 7)) rfl sc_law_is_yard.nd (pi_tup (pv 5)) (blkOk_by (N := ["_law_thing", "_law_frames", "_law_walks", "_law_pieces", "_law_rule", "_law_hands", "_law_strays_here", "_law_one", "_law_part"]) (sc := defScope s_law_is_yard) (by decide +kernel)) (fun _ _ _ _ _ => (pg_name (i := 7) sc_law_is_yard.nd rfl (.inl rfl))) (fun _ _ _ _ _ => pts_nil) (fun _ _ _ _ _ => (pe_call G_law_is_hand (hr.mono (by omega)) (by rfl) D_law_is_hand.g D_law_is_hand.F.kp D_law_is_hand.b .nil pass0 (pa_cons (pv 7) (pa_cons (pe_callB (r := rLenS K) call_len_seq (by rfl) T.len PySem.boot_len (pa_cons (pv 1) pa_nil)) pa_nil))))) pa_nil)))) (pss_one (ps_ret pe_bl)) pss_nil)
      (pss_one (ps_ret (pe_and (pe_callB (r := rAll K) (cr_all rfl) (by rfl) T.all boot_all (pa_cons (pe_lc (own := [("_law_one", 7)]) (g := (gName 7)) rfl sc_law_is_yard.nd (pi_tup (pv 6)) (blkOk_by (N := ["_law_thing", "_law_frames", "_law_walks", "_law_pieces", "_law_rule", "_law_hands", "_law_strays_here", "_law_one", "_law_part"]) (sc := defScope s_law_is_yard) (by decide +kernel)) (fun _ _ _ _ _ => (pg_name (i := 7) sc_law_is_yard.nd rfl (.inl rfl))) (fun _ _ _ _ _ => pts_nil) (fun _ _ _ _ _ => (pe_call G_law_is_stray (hr.mono (by omega)) (by rfl) D_law_is_stray.g D_law_is_stray.F.kp D_law_is_stray.b .nil pass0 (pa_cons (pv 7) (pa_cons (pv 1) pa_nil))))) pa_nil)) (pe_one (pe_call G_law_rising (hr.mono (by omega)) (by rfl) D_law_rising.g D_law_rising.F.kp D_law_rising.b .nil pass0 (pa_cons (pv 6) pa_nil))))))))))))), ?_⟩
  refine q_when (b := !isTup t || !decide (((parts t).length : Int) = 6)) (et_or (et_not (et_B (ev_isi (ev_var rfl) hr1 (by decide)))) fun h => et_test (ev_is (ev_op (ev_lenP (ev_var rfl) hr1 (not_no h)) ev_c (rv_ne rfl)) (by rw [dec_i]))) (fun hb H1 e1 => ?_) (fun hb H1 e1 => ?_)
  · have hz : isYard t = false := by
      unfold isYard
      rw [tupOf_eq, b2n hb]
      rfl
    rw [hz] at q
    exact q H1 e1
  · obtain ⟨h1, h2⟩ := b2 hb
    obtain ⟨us, rfl⟩ := tup_of h1
    obtain ⟨k1, k2, k3, k4, k5, k6, rfl⟩ := six_len (us := us) (by have := of_decide_eq_true h2; have : (us.length : Int) = 6 := this; omega)
    obtain ⟨a, xs, rfl, hs, ha⟩ := rp_tup (rp_mono e1 hr1)
    obtain ⟨v1, v2, v3, v4, v5, v6, rfl, r1, r2, r3, r4, r5, r6⟩ := ra6 ha
    have th5 : thin k5 = true := (thin_tup hthin).2 k5 (by simp)
    refine ⟨.ref a, rfl, a, [v1, v2, v3, v4, v5, v6], rfl, hs, rfl, _, _, rfl, _, _, rfl, _, _, rfl, _, _, rfl, _, _, rfl, _, _, rfl, rfl, ?_⟩
    dsimp only
    have hq : ∀ H', Ex H1 H' → Q (.bl (isFrames k1 && (isWalks k2 ((parts k1).length : Int) && (isPieces k3 && (isRule k4 && (isHands k5 ((parts k1).length : Int) && isStrays k6 (parts k1))))))) H' := fun H' e' => q H' (e1.trans e')
    -- frames
    refine q_when (b := !isTup k1 || (!(decide (1 ≤ ((parts k1).length : Int)) && decide (((parts k1).length : Int) ≤ 4)) || !(parts k1).all isFrame)) (et_or (et_not (et_B (ev_isi (ev_var rfl) r1 (by decide)))) fun h => et_or (et_not (et_test ?_)) fun h2 => et_not (et_B ?_)) (fun hb H2 e2 => ?_) (fun hb H2 e2 => ?_)
    · exact ev_chain ev_c (ev_lenP (ev_var rfl) r1 (not_no h)) ev_c rv_I0 rv_I0
    · obtain ⟨fs, rfl⟩ := tup_of (not_no h)
      have hfl : (fs.length : Int) ≤ 4 := of_decide_eq_true (Bool.and_eq_true_iff.mp (not_no h2)).2
      exact ev_allL isFrame (ewr_tup (ev_var rfl) r1) (by show fs.length ≤ 40000; omega) fun j d' x' H6 e6 hd' hx' => ⟨_, tg_name, rfl, ev_callF (F := fn1 isFrame) (ea_cons (ev_var rfl) ea_nil) (.cons hx' .nil) rfl tb_nil⟩
    · have z := hq H2 e2
      have zz : isFrames k1 = false := by
        unfold isFrames isTupleOf
        have k := b3n hb
        rw [Bool.and_assoc]
        exact k
      rw [zz] at z
      exact z
    · obtain ⟨f1', f2', f3'⟩ := b3 hb
      obtain ⟨fs, rfl⟩ := tup_of f1'
      have hfl : 1 ≤ (fs.length : Int) ∧ (fs.length : Int) ≤ 4 := ⟨of_decide_eq_true (Bool.and_eq_true_iff.mp f2').1, of_decide_eq_true (Bool.and_eq_true_iff.mp f2').2⟩
      have hall : fs.all isFrame = true := f3'
      have hF1 : isFrames (.tup fs) = true := by
        unfold isFrames
        rw [tupOf_of hfl.1 hfl.2, Bool.true_and]
        exact hall
      have hq2 : ∀ H', Ex H2 H' → Q (.bl (isWalks k2 (fs.length : Int) && (isPieces k3 && (isRule k4 && (isHands k5 (fs.length : Int) && isStrays k6 fs))))) H' := fun H' e' => by
        have z := hq H' (e2.trans e')
        rw [hF1, Bool.true_and] at z
        exact z
      have r1' := rp_mono e2 r1
      have r2' := rp_mono e2 r2
      have r3' := rp_mono e2 r3
      have r4' := rp_mono e2 r4
      have r5' := rp_mono e2 r5
      have r6' := rp_mono e2 r6
      -- walks and the rule
      refine q_when (b := !isWalks k2 (fs.length : Int) || (!isIn k4 "str" || !inV (strV k4) RUL)) (et_or (et_not (et_B (ev_callF (F := fWalks) (ea_cons (ev_var rfl) (ea_cons (ev_lenR (ev_var rfl) r1') ea_nil)) (.cons r2' (.cons (.int _) .nil)) (by
          show (if 0 ≤ (fs.length : Int) ∧ (fs.length : Int) ≤ 1000 then _ else _) = _
          rw [if_pos ⟨by omega, by omega⟩]) tb_nil))) fun _ => et_or (et_not (et_B (ev_isi (ev_var rfl) r4' (by decide)))) fun hs => et_test ?_) (fun hb H3 e3 => ?_) (fun hb H3 e3 => ?_)
      · obtain ⟨sx, rfl⟩ := str_of (not_no hs)
        cases r4'
        exact ev_opL (ev_var rfl) (el_lst (ea_cons ev_c (ea_cons ev_c (ea_cons ev_c ea_nil))) (by decide)) fun p H4 hp e4 => rv_niL (sq_of hp) rfl rfl
      · have z := hq2 H3 e3
        have zz : (isWalks k2 (fs.length : Int) && (isPieces k3 && (isRule k4 && (isHands k5 (fs.length : Int) && isStrays k6 fs)))) = false := by
          have k := b3n hb
          have e : isRule k4 = (isIn k4 "str" && inV (strV k4) RUL) := rfl
          rw [e]
          generalize isWalks k2 (fs.length : Int) = x1 at k ⊢
          generalize isIn k4 "str" = x2 at k ⊢
          generalize inV (strV k4) RUL = x3 at k ⊢
          generalize isPieces k3 = x4
          cases x1 <;> cases x2 <;> cases x3 <;> cases x4 <;> simp_all
        rw [zz] at z
        exact z
      · obtain ⟨w1, w2, w3⟩ := b3 hb
        have hR : isRule k4 = true := by
          show (isIn k4 "str" && inV (strV k4) RUL) = true
          rw [w2, w3]
          rfl
        have hq3 : ∀ H', Ex H3 H' → Q (.bl (isPieces k3 && (isHands k5 (fs.length : Int) && isStrays k6 fs))) H' := fun H' e' => by
          have z := hq2 H' (e3.trans e')
          rw [w1, hR, Bool.true_and, Bool.true_and] at z
          exact z
        have r3'' := rp_mono e3 r3'
        -- pieces
        refine q_when (b := !isTup k3 || (!decide (((parts k3).length : Int) = 2) || !(parts k3).all fun x => isWithin x 1 9)) (et_or (et_not (et_B (ev_isi (ev_var rfl) r3'' (by decide)))) fun h => et_or (et_test (ev_is (ev_op (ev_lenP (ev_var rfl) r3'' (not_no h)) ev_c (rv_ne rfl)) (by rw [dec_i]))) fun h2 => et_not (et_B ?_)) (fun hb H4 e4 => ?_) (fun hb H4 e4 => ?_)
        · obtain ⟨ws, rfl⟩ := tup_of (not_no h)
          have hwl : (ws.length : Int) = 2 := of_decide_eq_true (not_no h2)
          exact ev_allL (fun x => isWithin x 1 9) (ewr_tup (ev_var rfl) r3'') (by show ws.length ≤ 40000; omega) fun j d' x' H6 e6 hd' hx' => ⟨_, tg_name, rfl, ev_num (ev_var rfl) hx' ev_c ev_c⟩
        · have z := hq3 H4 e4
          have zz : isPieces k3 = false := by
            unfold isPieces
            rw [tupOf_eq, Bool.and_assoc]
            exact b3n hb
          rw [zz] at z
          exact z
        · obtain ⟨p1, p2, p3⟩ := b3 hb
          have hP : isPieces k3 = true := by
            unfold isPieces
            rw [tupOf_eq, p1, p2]
            exact p3
          have hq4 : ∀ H', Ex H4 H' → Q (.bl (isHands k5 (fs.length : Int) && isStrays k6 fs)) H' := fun H' e' => by
            have z := hq3 H' (e4.trans e')
            rw [hP, Bool.true_and] at z
            exact z
          have e24 := e3.trans e4
          have r1'' := rp_mono e24 r1'
          have r5'' := rp_mono e24 r5'
          have r6'' := rp_mono e24 r6'
          -- how many hands and strays
          refine q_when (b := !isTup k5 || (decide (((parts k5).length : Int) > 16) || (!isTup k6 || decide (((parts k6).length : Int) > 16)))) (et_or (et_not (et_B (ev_isi (ev_var rfl) r5'' (by decide)))) fun h => et_or (et_test (ev_op (ev_lenP (ev_var rfl) r5'' (not_no h)) ev_c rv_I0)) fun _ => et_or (et_not (et_B (ev_isi (ev_var rfl) r6'' (by decide)))) fun h => et_test (ev_op (ev_lenP (ev_var rfl) r6'' (not_no h)) ev_c rv_I0)) (fun hb H5 e5 => ?_) (fun hb H5 e5 => ?_)
          · have z := hq4 H5 e5
            have zz : (isHands k5 (fs.length : Int) && isStrays k6 fs) = false := by
              unfold isHands isStrays isTupleOf
              have d1 : decide (((parts k5).length : Int) > 16) = !decide (((parts k5).length : Int) ≤ 16) := by
                by_cases h : ((parts k5).length : Int) ≤ 16
                · rw [decide_eq_true h, decide_eq_false (by omega)]; rfl
                · rw [decide_eq_false h, decide_eq_true (by omega)]; rfl
              have d2 : decide (((parts k6).length : Int) > 16) = !decide (((parts k6).length : Int) ≤ 16) := by
                by_cases h : ((parts k6).length : Int) ≤ 16
                · rw [decide_eq_true h, decide_eq_false (by omega)]; rfl
                · rw [decide_eq_false h, decide_eq_true (by omega)]; rfl
              rw [d1, d2] at hb
              generalize isTup k5 = x1 at hb ⊢
              generalize isTup k6 = x2 at hb ⊢
              generalize decide (((parts k5).length : Int) ≤ 16) = x3 at hb ⊢
              generalize decide (((parts k6).length : Int) ≤ 16) = x4 at hb ⊢
              cases x1 <;> cases x2 <;> cases x3 <;> cases x4 <;> simp_all
            rw [zz] at z
            exact z
          · obtain ⟨c1, c2, c3, c4⟩ := b4 hb
            obtain ⟨hs5, rfl⟩ := tup_of c1
            obtain ⟨ss, rfl⟩ := tup_of c3
            have l5 : (hs5.length : Int) ≤ 16 := by have := of_decide_eq_false c2; have : ¬ (hs5.length : Int) > 16 := this; omega
            have l6 : (ss.length : Int) ≤ 16 := by have := of_decide_eq_false c4; have : ¬ (ss.length : Int) > 16 := this; omega
            have hq5 : ∀ H', Ex H5 H' → Q (.bl ((hs5.all fun p => isHand p (fs.length : Int)) && ((ss.all fun p => isStray p fs) && rising ss))) H' := fun H' e' => by
              have z := hq4 H' (e5.trans e')
              unfold isHands isStrays at z
              rw [tupOf_of (by omega) l5, tupOf_of (by omega) l6, Bool.true_and, Bool.true_and] at z
              exact z
            have r1a := rp_mono e5 r1''
            have r5a := rp_mono e5 r5''
            have r6a := rp_mono e5 r6''
            refine q_when (b := !(hs5.all fun p => isHand p (fs.length : Int))) (et_not (et_B (ev_allL (fun p => isHand p (fs.length : Int)) (ewr_tup (ev_var rfl) r5a) (by omega) fun j d' x' H6 e6 hd' hx' => ⟨_, tg_name, rfl, ev_callF (F := fHand) (ea_cons (ev_var rfl) (ea_cons (ev_lenR (ev_var rfl) (rp_mono e6 r1a)) ea_nil)) (.cons hx' (.cons (.int _) .nil)) ?_ tb_nil⟩))) (fun hb H6 e6 => ?_) (fun hb H6 e6 => ?_)
            · show (if (fs.length : Int) ≤ 1000 ∧ thin d' = true then _ else _) = _
              rw [if_pos ⟨by omega, (thin_tup th5).2 d' (List.mem_of_getElem? hd')⟩]
            · have z := hq5 H6 e6
              rw [show (hs5.all fun p => isHand p (fs.length : Int)) = false by simpa using hb] at z
              exact z
            · have hh := not_no hb
              have hq6 : ∀ H', Ex H6 H' → Q (.bl ((ss.all fun p => isStray p fs) && rising ss)) H' := fun H' e' => by
                have z := hq5 H' (e6.trans e')
                rw [hh, Bool.true_and] at z
                exact z
              have r6b := rp_mono e6 r6a
              have r1b := rp_mono e6 r1a
              refine sr_ret (ev_andV (ev_allL (fun p => isStray p fs) (ewr_tup (ev_var rfl) r6b) (by omega) fun j d' x' H7 e7 hd' hx' => ⟨_, tg_name, rfl, ev_callF (F := fSt) (ea_cons (ev_var rfl) (ea_cons (ev_var rfl) ea_nil)) (.cons hx' (.cons (rp_mono e7 r1b) .nil)) ?_ tb_nil⟩) fun hst => ev_callF (F := fRising) (ea_cons (ev_var rfl) ea_nil) (.cons r6b .nil) ?_ tb_nil) hq6
              · show (if fs.all isFrame = true then some (isStray d' fs) else none) = _
                rw [if_pos hall]
              · show (if cmpOk ss = true then some (rising ss) else none) = _
                rw [if_pos (strays_cmp (by omega) hst)]
end
end K01

set_option Elab.async false
set_option linter.all false
set_option maxRecDepth 100000
set_option maxHeartbeats 4000000
namespace K01
open PySem PySem.Spec PyProof.Rows L2 Evl DL GX YA EX TH TV YT DS
abbrev s_law_odd : Stmt := topS 67
theorem sc_law_odd : FnScope ["_law_pool_here", "_law_thing", "_law_some"] ["_law_pool_here", "_law_thing"] (defScope s_law_odd) := ⟨rfl, rfl, rfl, by decide +kernel, rfl, by decide +kernel, by decide +kernel⟩
mutual
/-- no truth in it, no great number, no tuple of more than four hundred parts -/
def tame : Th → Bool
  | .tup ts => decide (ts.length ≤ 400) && tames ts
  | .bool _ => false
  | .int i => decide (-(10 ^ 31) ≤ i) && decide (i ≤ 10 ^ 31)
  | _ => true
def tames : List Th → Bool
  | [] => true
  | t :: ts => tame t && tames ts
end
theorem tames_all : ∀ {ts : List Th}, tames ts = true ↔ ∀ t ∈ ts, tame t = true
  | [] => ⟨fun _ t h => (nomatch h), fun _ => rfl⟩
  | t :: ts => by
    show (tame t && tames ts) = true ↔ _
    rw [Bool.and_eq_true, tames_all]
    constructor
    · rintro ⟨a, b⟩ u hu
      rcases List.mem_cons.mp hu with z | z
      · rw [z]
        exact a
      · exact b u z
    · intro h
      exact ⟨h t List.mem_cons_self, fun u hu => h u (List.mem_cons_of_mem _ hu)⟩
theorem tame_tup {ts : List Th} (h : tame (.tup ts) = true) : ts.length ≤ 400 ∧ ∀ t ∈ ts, tame t = true := by
  have z : (decide (ts.length ≤ 400) && tames ts) = true := h
  rw [Bool.and_eq_true] at z
  exact ⟨of_decide_eq_true z.1, tames_all.mp z.2⟩
theorem tame_of {ts : List Th} (h1 : ts.length ≤ 400) (h2 : ∀ t ∈ ts, tame t = true) : tame (.tup ts) = true := by
  show (decide (ts.length ≤ 400) && tames ts) = true
  rw [decide_eq_true h1, tames_all.mpr h2]
  rfl
mutual
theorem tame_thin : ∀ {t : Th}, tame t = true → thin t = true
  | .none, _ => rfl
  | .bool _, _ => rfl
  | .int _, _ => rfl
  | .str _, _ => rfl
  | .odd _, _ => rfl
  | .tup ts, h => by
    have z : (decide (ts.length ≤ 400) && tames ts) = true := h
    rw [Bool.and_eq_true] at z
    show (decide (ts.length ≤ 1000) && thins ts) = true
    have := of_decide_eq_true z.1
    rw [decide_eq_true (show ts.length ≤ 1000 by omega), tames_thins z.2]
    rfl
theorem tames_thins : ∀ {ts : List Th}, tames ts = true → thins ts = true
  | [], _ => rfl
  | t :: ts, h => by
    have z : (tame t && tames ts) = true := h
    rw [Bool.and_eq_true] at z
    show (thin t && thins ts) = true
    rw [tame_thin z.1, tames_thins z.2]
    rfl
end
def ThinP (t : Th) : Prop := thin t = true
theorem log_small {i : Int} (h : -(10 ^ 31) ≤ i ∧ i ≤ 10 ^ 31) : i.natAbs.log2 < 1920 := by
  refine Nat.lt_of_lt_of_le (PySem.Flt.log2_lt_of (show 0 < 200 by decide) ?_) (show 200 ≤ 1920 by decide)
  have h2 : i.natAbs ≤ 10 ^ 31 := by omega
  exact Nat.lt_of_le_of_lt h2 (by decide)
section
variable {P : Program} {w : World} {K : PySem.W.Frag} {mg : Str → Option Value} {base : Heap}
section
variable {G : Hp → Hp → Prop} {Ok : Addr → Prop} (W : Way G Ok) {σ : L2.St} {H : Hp} {ta tb : TE} {Pt : Th → Prop}
include W
theorem p_neg {n : Int} (hp : Pt (.int (-n))) : EvP G K (tUn (fun x H Q => ∃ i, x = .int i ∧ Q (.int (-i)) H) (tC (.int n))) σ H Pt := fun H1 g Q q => ⟨n, rfl, q _ _ H1 (W.refl H1) (.int _) hp⟩
theorem p_strI {i : Int} (h : EvP G K ta σ H fun t => t = .int i) (hi : -(10 ^ 31) ≤ i ∧ i ≤ 10 ^ 31) (hp : ∀ s, Pt (.str s)) : EvP G K (tCB (fun xs H Q => ∃ i, xs = [.int i] ∧ i.natAbs.log2 < 1920 ∧ Q (.str (toString i)) H) (tCons ta tNil)) σ H Pt := fun H1 g Q q => h H1 g _ fun v t H2 g2 hr ht => by
  subst ht
  cases rp_int hr
  exact ⟨i, rfl, log_small hi, q _ _ H2 g2 (.str _) (hp _)⟩
theorem pl_catK {k m : Nat} (fr : Fr G Ok H) (h1 : EvPL G Ok K ta σ H (fun ts => ts.length = k ∧ ∀ t ∈ ts, Pt t)) (h2 : EvPL G Ok K tb σ H (fun ts => ts.length = m ∧ ∀ t ∈ ts, Pt t)) (hk : k + m ≤ 100) : EvPL G Ok K (tOp rCat ta tb) σ H (fun ts => ts.length = k + m ∧ ∀ t ∈ ts, Pt t) :=
  pl_cat W fr h1 h2 (fun ts us a b => by rw [a.1, b.1]; omega) (fun ts us a b => ⟨by rw [List.length_append, a.1, b.1], fun t ht => (List.mem_append.mp ht).elim (a.2 t) (b.2 t)⟩)
end
def spOdd (K : PySem.W.Frag) : Sp := fun vs H Q _ => ∃ (p : Addr) (v : V) (t : Th), vs = [.ref p, v] ∧ PoolAt H p ∧ Rp K H v t ∧ tame t = true ∧ ∀ v' t' H', GP p H H' → Rp K H' v' t' → thin t' = true → Q v' H'
theorem int_tame {t : Th} (h : tame t = true) (hi : isIn t "int" = true) : ∃ i, t = .int i ∧ -(10 ^ 31) ≤ i ∧ i ≤ 10 ^ 31 := by
  cases t with
  | int i =>
    have z : (decide (-(10 ^ 31) ≤ i) && decide (i ≤ 10 ^ 31)) = true := h
    rw [Bool.and_eq_true] at z
    exact ⟨i, rfl, of_decide_eq_true z.1, of_decide_eq_true z.2⟩
  | bool b => cases h
  | odd o => cases o <;> cases hi
  | _ => cases hi
theorem ok_odd {f f1 : Addr} {fd fd1 : FuncData} {k : Nat} (T : Bi mg) (D : Df K mg "_law_odd" s_law_odd ["_law_pool_here", "_law_thing"] f fd) (D_law_take : Df K mg "_law_take" s_law_take ["_law_pool_here", "_law_many"] f1 fd1) : FnOk P w K mg base CX0 (k + 2) f fd ["_law_pool_here", "_law_thing"] (spOdd K) := by
  have G_law_take : FnOk P w K mg base CX0 1 f1 fd1 ["_law_pool_here", "_law_many"] spTake := ok_take T D_law_take
  refine D.F.ok sc_law_odd (fun vs H Q E h => by obtain ⟨_, _, _, rfl, _⟩ := h; rfl) (fun cdv A outer s H vs Q E hr h => ?_)
  obtain ⟨p, v, t, rfl, hp, hrt, hta, q⟩ := h
  have W := way_pool p
  refine ⟨_, (pss_cons (ps_if (pt_val (pe_callB (r := rIsi K) call_isi (by rfl) T.isinstance boot_isinstance (pa_cons (pv 1) (pa_cons (pe_bltn (by rfl) T.int boot_int (v := .ty "int") rfl) pa_nil)))) (pss_cons (ps_set (i := 2) sc_law_odd.nd rfl (.inl rfl) (pe_lst (pa_cons (pe_op op_add (pv 1) pe_int) (pa_cons (pe_op op_sub (pv 1) pe_int) (pa_cons pe_int (pa_cons pe_int (pa_cons (pe_un un_neg pe_int) (pa_cons (pe_op op_sub pe_int (pv 1)) (pa_cons (pe_cmpR op_eq (pv 1) pe_int (nomark _)) (pa_cons pe_non (pa_cons (pe_callTy call_str_int (by rfl) T.str boot_str (pa_cons (pv 1) pa_nil)) (pa_cons (pe_tup (pa_cons (pv 1) pa_nil)) (pa_cons (pe_lst (pa_cons (pv 1) pa_nil)) (pa_cons pe_dnewK pa_nil))))))))))))))
      (pss_one (ps_ret (pe_ix (r := rIxL K) ix_list (pe_op op_cat (pv 2) (pe_lst (pa_cons (pe_lst (pa_cons (pe_lst pa_nil) pa_nil)) (pa_cons (pe_op op_add (pe_op op_pow pe_int pe_int) pe_int) (pa_cons pe_int (pa_cons pe_int pa_nil)))))) (pe_call G_law_take (hr.mono (by omega)) (by rfl) D_law_take.g D_law_take.F.kp D_law_take.b .nil pass0 (pa_cons (pv 0) (pa_cons pe_int pa_nil))) (fun _ _ => rfl))))) pss_nil)
      (pss_cons (ps_if (pt_val (pe_callB (r := rIsi K) call_isi (by rfl) T.isinstance boot_isinstance (pa_cons (pv 1) (pa_cons (pe_bltn (by rfl) T.tuple boot_tuple (v := .ty "tuple") rfl) pa_nil)))) (pss_cons (ps_set (i := 2) sc_law_odd.nd rfl (.inl rfl) (pe_lst (pa_cons (pe_callTy call_list_of (by rfl) T.list boot_list (pa_cons (pv 1) pa_nil)) (pa_cons (pe_op op_catA (pv 1) (pe_tup (pa_cons pe_int pa_nil))) (pa_cons (pe_op op_catA (pv 1) (pe_tup (pa_cons (pe_tup pa_nil) pa_nil))) (pa_cons (pe_op op_catA (pv 1) (pe_tup (pa_cons pe_non pa_nil))) (pa_cons (pe_tup pa_nil) (pa_cons pe_non (pa_cons pe_int (pa_cons pe_str (pa_cons pe_dnewK (pa_cons (pe_lst pa_nil) (pa_cons pe_bl (pa_cons (pe_tup (pa_cons (pv 1) pa_nil)) pa_nil))))))))))))))
      (pss_one (ps_ret (pe_ix (r := rIxL K) ix_list (pe_op op_cat (pv 2) (pe_lst (pa_cons (pe_revT (pv 1)) (pa_cons (pe_op op_catA (pv 1) (pe_slice sl_tupA (pv 1) (po_some (pe_un un_neg pe_int)) po_none)) pa_nil)))) (pe_call G_law_take (hr.mono (by omega)) (by rfl) D_law_take.g D_law_take.F.kp D_law_take.b .nil pass0 (pa_cons (pv 0) (pa_cons pe_int pa_nil))) (fun _ _ => rfl))))) pss_nil)
      (pss_one (ps_ret (pe_ix (r := rIxL K) ix_list (pe_lst (pa_cons pe_int (pa_cons pe_int (pa_cons pe_bl (pa_cons pe_str (pa_cons pe_str (pa_cons pe_str (pa_cons pe_str (pa_cons pe_str (pa_cons pe_str (pa_cons (pe_tup pa_nil) (pa_cons (pe_lst pa_nil) (pa_cons pe_dnewK (pa_cons (pe_tup (pa_cons pe_str pa_nil)) (pa_cons (pe_op op_pow pe_int pe_int) pa_nil))))))))))))))) (pe_call G_law_take (hr.mono (by omega)) (by rfl) D_law_take.g D_law_take.F.kp D_law_take.b .nil pass0 (pa_cons (pv 0) (pa_cons pe_int pa_nil))) (fun _ _ => rfl)))))), ?_⟩
  have nil' : ∀ {σ : L2.St} {H' : Hp}, EvP (GP p) K (tTup tNil) σ H' ThinP := p_tup W (Ps := fun ts => ts = []) (pa_nilP W rfl) (fun ts h => by rw [h]; exact Nat.zero_le _) (fun ts h => by rw [h]; rfl)
  have lst0 : ∀ {σ : L2.St} {H' : Hp}, EvP (GP p) K (tLst tNil) σ H' ThinP := p_lst W (pa_nilP W (Ps := fun ts => ts = []) rfl) (fun ts h => by rw [h]; exact Nat.zero_le _) rfl
  have big : ∀ {σ : L2.St} {H' : Hp}, EvP (GP p) K (tOp (rI (fun i j => CPow i j) fun i j => .int (i ^ j.toNat)) (tC (.int 10)) (tC (.int 30))) σ H' (fun t => t = .int (10 ^ 30)) := p_op W (P := fun x => x = .int 10) (P' := fun y => y = .int 30) (p_ci W rfl) (p_ci W rfl) (fun x y hx hy => by rw [hx, hy]; exact rp_I ⟨by decide, by decide, by decide⟩ rfl)
  refine q_whenG W (Pa := fun b => b = isIn t "int") (tg_B (p_isi W (p_var W rfl hrt ⟨_, rfl, rfl⟩) (by decide))) (fun H1 g1 hb => ?_) (fun H1 g1 hb => ?_)
  · -- a number
    obtain ⟨i, rfl, hi⟩ := int_tame hta hb.symm
    cases rp_int hrt
    have hp1 := g1.p hp
    have iv : ∀ {σ : L2.St} {H' : Hp}, σ[1]? = some (some (.int i)) → EvP (GP p) K (tVar 1) σ H' (fun t => t = .int i) := fun h => p_var W h (.int _) rfl
    have i1 : ∀ {σ : L2.St} {H' : Hp}, σ[1]? = some (some (.int i)) → EvPA (GP p) K (tCons (tVar 1) tNil) σ H' (fun ts => ts = [.int i]) := fun h => pa_consP W (iv h) (pa_nilP W (Ps := fun ts => ts = []) rfl) (fun t ts h1 h2 => by rw [h1, h2])
    refine q_asgPL W (Ps := fun ts => ts.length = 12 ∧ ∀ t ∈ ts, ThinP t) (pl_lst W (fr_pool hp1)
      (addP W 11 (p_op W (P' := fun y => y = .int 1) (iv rfl) (p_ci W rfl) (fun x y hx hy => by rw [hx, hy]; exact rp_I0 rfl))
      (addP W 10 (p_op W (P' := fun y => y = .int 1) (iv rfl) (p_ci W rfl) (fun x y hx hy => by rw [hx, hy]; exact rp_I0 rfl))
      (addP W 9 (p_ci W rfl) (addP W 8 (p_ci W rfl) (addP W 7 (p_neg W rfl)
      (addP W 6 (p_op W (P := fun x => x = .int 0) (p_ci W rfl) (iv rfl) (fun x y hx hy => by rw [hx, hy]; exact rp_I0 rfl))
      (addP W 5 (p_op W (P' := fun y => y = .int 1) (iv rfl) (p_ci W rfl) (fun x y hx hy => by rw [hx, hy]; exact rp_eqI rfl))
      (addP W 4 (p_cn W rfl) (addP W 3 (p_strI W (iv rfl) hi fun _ => rfl)
      (addP W 2 (p_tup W (i1 rfl) (fun ts h => by rw [h]; show 1 ≤ 100000; decide) (fun ts h => by rw [h]; rfl))
      (addP W 1 (p_lst W (i1 rfl) (fun ts h => by rw [h]; show 1 ≤ 100000; decide) rfl)
      (addP W 0 (p_dict W rfl) (nilP W))))))))))))) (fun ts h => by rw [h.1]; decide)) fun l xs us H2 g2 ol hl hx hus => ?_
    have hp2 := g2.p hp1
    exact s_retP W (P := ThinP) (p_pick (k := 16) rfl hp2 (by decide) (pl_catK W (k := 12) (m := 4) (fr_pool hp2) (pl_var W rfl ol hl hx hus) (pl_lst W (fr_pool hp2)
      (addP W 3 (p_lst W (pa_consP W (P := ThinP) (Ps' := fun ts => ts.length = 1) lst0 (pa_nilP W (Ps := fun ts => ts = []) rfl) (fun t ts _ h => by rw [h]; rfl)) (fun ts h => by rw [h]; decide) rfl)
      (addP W 2 (p_op W (P' := fun y => y = .int 1) big (p_ci W rfl) (fun x y hx hy => by rw [hx, hy]; exact rp_I0 rfl)) (addP W 1 (p_ci W rfl) (addP W 0 (p_ci W rfl) (nilP W))))) (fun ts h => by rw [h.1]; decide)) (by decide)) (p_ci W rfl)) fun v' t' H3 g3 hr3 ht3 => q v' t' H3 (W.trans g1 (W.trans g2 g3)) hr3 ht3
  · have hp1 := g1.p hp
    have hr1 := rp_r g1.r hrt
    refine q_whenG W (Pa := fun b => b = isTup t) (tg_B (p_isi W (p_var W rfl hr1 ⟨_, rfl, rfl⟩) (by decide))) (fun H2 g2 ht => ?_) (fun H2 g2 ht => ?_)
    · -- a tuple
      obtain ⟨ts, rfl⟩ := tup_of ht.symm
      obtain ⟨hl, hall⟩ := tame_tup hta
      have hth : ∀ t ∈ ts, thin t = true := fun t ht => tame_thin (hall t ht)
      have hp2 := g2.p hp1
      have hr2 := rp_r g2.r hr1
      have tv : ∀ {σ : L2.St} {H' : Hp}, σ[1]? = some (some v) → Rp K H' v (.tup ts) → EvP (GP p) K (tVar 1) σ H' (fun t => t = .tup ts) := fun h hh => p_var W h hh rfl
      have plus : ∀ {te : TE} {u : Th} {σ : L2.St} {H' : Hp}, σ[1]? = some (some v) → Rp K H' v (.tup ts) → thin u = true → EvP (GP p) K te σ H' (fun t => t = u) → EvP (GP p) K (tOp (rCatA K) (tVar 1) (tTup (tCons te tNil))) σ H' ThinP := fun {te u σ H'} h hh hu he =>
        p_op W (P' := fun y => y = .tup [u]) (tv h hh) (p_tup W (Ps := fun ts => ts = [u]) (pa_consP W he (pa_nilP W (Ps := fun ts => ts = []) rfl) (fun t ts h1 h2 => by rw [h1, h2])) (fun ts h => by rw [h]; show 1 ≤ 100000; decide) (fun ts h => by rw [h])) (fun x y hx hy => by
          rw [hx, hy]
          refine rp_catT (by show ts.length + 1 ≤ 100000; omega) (thin_of (by rw [List.length_append]; show ts.length + 1 ≤ 1000; omega) fun t ht => ?_)
          rcases List.mem_append.mp ht with z | z
          · exact hth t z
          · rw [List.mem_singleton.mp z]
            exact hu)
      refine q_asgPL W (Ps := fun ts => ts.length = 12 ∧ ∀ t ∈ ts, ThinP t) (pl_lst W (fr_pool hp2)
        (addP W 11 (p_lstT W (p_var W rfl hr2 ⟨ts, rfl⟩) rfl)
        (addP W 10 (plus rfl hr2 rfl (p_ci W rfl))
        (addP W 9 (plus (u := .tup []) rfl hr2 rfl (p_tup W (Ps := fun ts => ts = []) (pa_nilP W rfl) (fun ts h => by rw [h]; exact Nat.zero_le _) (fun ts h => by rw [h])))
        (addP W 8 (plus rfl hr2 rfl (p_cn W rfl)) (addP W 7 nil' (addP W 6 (p_cn W rfl) (addP W 5 (p_ci W rfl) (addP W 4 (p_cs W rfl) (addP W 3 (p_dict W rfl) (addP W 2 lst0 (addP W 1 (p_cb W rfl)
        (addP W 0 (p_tup W (Ps := fun us => us = [.tup ts]) (pa_consP W (tv rfl hr2) (pa_nilP W (Ps := fun ts => ts = []) rfl) (fun t ts h1 h2 => by rw [h1, h2])) (fun us h => by rw [h]; show 1 ≤ 100000; decide) (fun us h => by
          rw [h]
          exact thin_of (by show 1 ≤ 1000; decide) fun t ht => by rw [List.mem_singleton.mp ht]; exact tame_thin hta)) (nilP W))))))))))))) (fun ts h => by rw [h.1]; decide)) fun l xs us H3 g3 ol hll hx hus => ?_
      have hp3 := g3.p hp2
      have hr3 := rp_r g3.r hr2
      refine s_retP W (P := ThinP) (p_pick (k := 14) rfl hp3 (by decide) (pl_catK W (k := 12) (m := 2) (fr_pool hp3) (pl_var W rfl ol hll hx hus) (pl_lst W (fr_pool hp3)
        (addP W 1 (p_rev W (p_var W rfl hr3 ⟨ts, rfl, thin_of (by rw [List.length_reverse]; omega) fun t ht => hth t (List.mem_reverse.mp ht)⟩))
        (addP W 0 (p_op W (P' := fun y => ∃ zs, y = .tup zs ∧ zs.length ≤ 400 ∧ ∀ z ∈ zs, thin z = true) (tv rfl hr3) (p_cut W (lo := some (-1)) (hi := none) (p_var W rfl hr3 ⟨ts, rfl, _, rfl, Nat.le_trans (cut_len _ _ _) hl, fun z hz => hth z (List.mem_of_mem_drop (List.mem_of_mem_take hz))⟩) (po_cut fun H => ev_un ev_c ru_neg) po_none') (fun x y hx hy => by
          obtain ⟨zs, rfl, z1, z2⟩ := hy
          rw [hx]
          refine rp_catT (by omega) (thin_of (by rw [List.length_append]; omega) fun t ht => ?_)
          rcases List.mem_append.mp ht with z | z
          · exact hth t z
          · exact z2 t z)) (nilP W))) (fun ts h => by rw [h.1]; decide)) (by decide)) (p_ci W rfl)) fun v' t' H4 g4 hr4 ht4 => q v' t' H4 (W.trans g1 (W.trans g2 (W.trans g3 g4))) hr4 ht4
    · -- any other
      have hp2 := g2.p hp1
      exact s_retP W (P := ThinP) (p_pick (k := 14) rfl hp2 (by decide) (pl_lst W (fr_pool hp2)
        (addP W 13 (p_ci W rfl) (addP W 12 (p_ci W rfl) (addP W 11 (p_cb W rfl) (addP W 10 (p_cs W rfl) (addP W 9 (p_cs W rfl) (addP W 8 (p_cs W rfl) (addP W 7 (p_cs W rfl) (addP W 6 (p_cs W rfl) (addP W 5 (p_cs W rfl) (addP W 4 nil' (addP W 3 lst0 (addP W 2 (p_dict W rfl)
        (addP W 1 (p_tup W (Ps := fun us => us = [.str "old"]) (pa_consP W (P := fun t => t = .str "old") (p_cs W rfl) (pa_nilP W (Ps := fun ts => ts = []) rfl) (fun t ts h1 h2 => by rw [h1, h2])) (fun us h => by rw [h]; show 1 ≤ 100000; decide) (fun us h => by rw [h]; rfl))
        (addP W 0 (p_imp W big fun t h => by rw [h]; rfl) (nilP W))))))))))))))) (fun ts h => by rw [h.1]; decide)) (p_ci W rfl)) fun v' t' H4 g4 hr4 ht4 => q v' t' H4 (W.trans g1 (W.trans g2 g4)) hr4 ht4
end
end K01

set_option Elab.async false
set_option linter.all false
set_option maxRecDepth 100000
set_option maxHeartbeats 4000000
namespace K01
open PySem PySem.Spec PyProof.Rows L2 Evl DL GX YA EX TH TV YT DS
abbrev s_law_bent : Stmt := topS 68
theorem sc_law_bent : FnScope ["_law_pool_here", "_law_thing", "_law_deep", "_law_at", "_law_to", "_law_way"] ["_law_pool_here", "_law_thing", "_law_deep"] (defScope s_law_bent) := ⟨rfl, rfl, rfl, by decide +kernel, rfl, by decide +kernel, by decide +kernel⟩
def tupT (k : Nat) : Th → Prop := fun t => ∃ ts, t = .tup ts ∧ ts.length ≤ k ∧ ∀ x ∈ ts, thin x = true
theorem cut_one {n : Nat} {r : Int} (h0 : 0 ≤ r) : HT.sIx n n (some (r + 1)) - HT.sIx n 0 (some r) ≤ 1 := by
  obtain ⟨k, rfl⟩ : ∃ k : Nat, r = (k : Int) := ⟨r.toNat, by omega⟩
  rw [show (k : Int) + 1 = ((k + 1 : Nat) : Int) by omega, HT.sIx_nat, HT.sIx_nat]
  omega
section
variable {P : Program} {w : World} {K : PySem.W.Frag} {mg : Str → Option Value} {base : Heap}
section
variable {G : Hp → Hp → Prop} {Ok : Addr → Prop} (W : Way G Ok) {σ : L2.St} {H : Hp} {t u : TT} {Pa Pb Pc : Bool → Prop}
theorem tg_notG (h : EvTG G t σ H Pa) : EvTG G (tNot t) σ H (fun b => Pa (!b)) := fun H1 g Q q => h H1 g _ fun b H2 g2 hb => q (!b) H2 g2 (show Pa (!(!b)) by rw [Bool.not_not]; exact hb)
include W
theorem tg_or (h1 : EvTG G t σ H Pa) (h2 : Pa false → EvTG G u σ H Pb) (k1 : Pa true → Pc true) (k2 : ∀ b, Pa false → Pb b → Pc b) : EvTG G (tOr t u) σ H Pc := fun H1 g Q q => h1 H1 g _ fun b H2 g2 hb => by
  cases b with
  | false =>
    show u σ H2 Q
    exact h2 hb H2 (W.trans g g2) Q fun b H3 g3 hb3 => q b H3 (W.trans g2 g3) (k2 b hb hb3)
  | true => exact q true H2 g2 (k1 hb)
end
theorem rp_eqT0 {ts : List Th} {Pt : Th → Prop} (hp : Pt (.bool ts.isEmpty)) : RP K (rEqT0 K) (.tup ts) (.tup []) Pt := fun v w H hv hw Q q => by
  obtain ⟨a, xs, rfl, hs, ha⟩ := rp_tup hv
  obtain ⟨b, ys, rfl, ks, hb⟩ := rp_tup hw
  cases hb
  refine ⟨a, b, xs, rfl, rfl, hs, ks, ?_⟩
  have : xs.isEmpty = ts.isEmpty := by
    cases ha with
    | nil => rfl
    | cons _ _ => rfl
  rw [this]
  exact q _ _ H (Ex.refl H) (.bl _) hp
theorem cat_thin {a b c : Nat} (e : a + b ≤ c) (hc : c ≤ 1000) {x y : Th} (hx : tupT a x) (hy : tupT b y) : RP K (rCatA K) x y (tupT c) := by
  obtain ⟨xs, rfl, x1, x2⟩ := hx
  obtain ⟨ys, rfl, y1, y2⟩ := hy
  refine rp_catT (by omega) ⟨_, rfl, by rw [List.length_append]; omega, fun t ht => ?_⟩
  rcases List.mem_append.mp ht with z | z
  · exact x2 t z
  · exact y2 t z
theorem tupT_thin {k : Nat} (hk : k ≤ 1000) {t : Th} (h : tupT k t) : thin t = true := by
  obtain ⟨ts, rfl, h1, h2⟩ := h
  exact thin_of (by omega) h2
def spBent (K : PySem.W.Frag) (d : Nat) : Sp := fun vs H Q _ => ∃ (p : Addr) (v : V) (t : Th), vs = [.ref p, v, .int (d : Int)] ∧ PoolAt H p ∧ Rp K H v t ∧ tame t = true ∧ ∀ v' t' H', GP p H H' → Rp K H' v' t' → thin t' = true → Q v' H'
theorem ok_bent {f f1 f2 : Addr} {fd fd1 fd2 : FuncData} (T : Bi mg) (D_law_bent : Df K mg "_law_bent" s_law_bent ["_law_pool_here", "_law_thing", "_law_deep"] f fd) (D_law_take : Df K mg "_law_take" s_law_take ["_law_pool_here", "_law_many"] f1 fd1) (D_law_odd : Df K mg "_law_odd" s_law_odd ["_law_pool_here", "_law_thing"] f2 fd2) :
    ∀ d : Nat, d ≤ 60 → FnOk P w K mg base CX0 (d + 3) f fd ["_law_pool_here", "_law_thing", "_law_deep"] (spBent K d) := by
  intro d
  have G_law_take : FnOk P w K mg base CX0 1 f1 fd1 ["_law_pool_here", "_law_many"] spTake := ok_take T D_law_take
  have G_law_odd : FnOk P w K mg base CX0 2 f2 fd2 ["_law_pool_here", "_law_thing"] (spOdd K) := ok_odd T D_law_odd D_law_take
  -- the def's own promise, below
  have step : ∀ (d : Nat) (sp : Sp), d ≤ 60 → (d ≠ 0 → sp = spBent K (d - 1)) → FnOk P w K mg base CX0 (d + 2) f fd ["_law_pool_here", "_law_thing", "_law_deep"] sp → FnOk P w K mg base CX0 (d + 3) f fd ["_law_pool_here", "_law_thing", "_law_deep"] (spBent K d) := by
    intro d sp hd60 hsp G_law_bent
    refine D_law_bent.F.ok sc_law_bent (fun vs H Q E h => by obtain ⟨_, _, _, rfl, _⟩ := h; rfl) (fun cdv A outer s H vs Q E hr h => ?_)
    obtain ⟨p, v, t, rfl, hp, hrt, hta, q⟩ := h
    have W := way_pool p
    refine ⟨_, (pss_cons (ps_if (PW.pt (pw_or (pt_not (pt_val (pe_callB (r := rIsi K) call_isi (by rfl) T.isinstance boot_isinstance (pa_cons (pv 1) (pa_cons (pe_bltn (by rfl) T.tuple boot_tuple (v := .ty "tuple") rfl) pa_nil))))) (pw_or (pt_cmpR (r := rEqT0 K) (op_eqT0 hr.units) (pv 1) (pe_tup pa_nil) (nomark _)) (pw_or (pt_cmpR op_eq (pv 2) pe_int (nomark _)) (pw_or1 (pt_cmpR op_eq (pe_call G_law_take (hr.mono (by omega)) (by rfl) D_law_take.g D_law_take.F.kp D_law_take.b .nil pass0 (pa_cons (pv 0) (pa_cons pe_int pa_nil))) pe_int (nomark _))))))) (pss_one (ps_ret (pe_call G_law_odd (hr.mono (by omega)) (by rfl) D_law_odd.g D_law_odd.F.kp D_law_odd.b .nil pass0 (pa_cons (pv 0) (pa_cons (pv 1) pa_nil))))) pss_nil)
      (pss_cons (ps_par (i := 3) (j := 4) (by rfl) sc_law_bent.nd rfl rfl (by decide) rfl rfl (pa_cons (pe_call G_law_take (hr.mono (by omega)) (by rfl) D_law_take.g D_law_take.F.kp D_law_take.b .nil pass0 (pa_cons (pv 0) (pa_cons (pe_callB (r := rLenS K) call_len_seq (by rfl) T.len PySem.boot_len (pa_cons (pv 1) pa_nil)) pa_nil))) (pa_cons (pe_call G_law_take (hr.mono (by omega)) (by rfl) D_law_take.g D_law_take.F.kp D_law_take.b .nil pass0 (pa_cons (pv 0) (pa_cons (pe_callB (r := rLenS K) call_len_seq (by rfl) T.len PySem.boot_len (pa_cons (pv 1) pa_nil)) pa_nil))) pa_nil)) (by rfl))
      (pss_cons (ps_set (i := 5) sc_law_bent.nd rfl (.inl rfl) (pe_call G_law_take (hr.mono (by omega)) (by rfl) D_law_take.g D_law_take.F.kp D_law_take.b .nil pass0 (pa_cons (pv 0) (pa_cons pe_int pa_nil))))
      (pss_cons (ps_if (pt_cmpR op_eq (pv 5) pe_int (nomark _)) (pss_one (ps_ret (pe_op op_catA (pe_slice sl_tupA (pv 1) po_none (po_some (pv 3))) (pe_slice sl_tupA (pv 1) (po_some (pe_op op_add (pv 3) pe_int)) po_none)))) pss_nil)
      (pss_cons (ps_if (pt_cmpR op_eq (pv 5) pe_int (nomark _)) (pss_one (ps_ret (pe_op op_catA (pe_op op_catA (pe_slice sl_tupA (pv 1) po_none (po_some (pv 3))) (pe_slice sl_tupA (pv 1) (po_some (pv 3)) (po_some (pe_op op_add (pv 3) pe_int)))) (pe_slice sl_tupA (pv 1) (po_some (pv 3)) po_none)))) pss_nil)
      (pss_cons (ps_if (pt_cmpR op_eq (pv 5) pe_int (nomark _)) (pss_one (ps_ret (pe_op op_catA (pe_op op_catA (pe_slice sl_tupA (pv 1) po_none (po_some (pv 3))) (pe_slice sl_tupA (pv 1) (po_some (pv 4)) (po_some (pe_op op_add (pv 4) pe_int)))) (pe_slice sl_tupA (pv 1) (po_some (pe_op op_add (pv 3) pe_int)) po_none)))) pss_nil)
      (pss_one (ps_ret (pe_op op_catA (pe_op op_catA (pe_slice sl_tupA (pv 1) po_none (po_some (pv 3))) (pe_tup (pa_cons (pe_call G_law_bent (hr.mono (by omega)) (by rfl) D_law_bent.g D_law_bent.F.kp D_law_bent.b .nil pass0 (pa_cons (pv 0) (pa_cons (pe_ix (r := rIxT K) ix_tup (pv 1) (pv 3) (fun _ _ => rfl)) (pa_cons (pe_op op_sub (pv 2) pe_int) pa_nil)))) pa_nil))) (pe_slice sl_tupA (pv 1) (po_some (pe_op op_add (pv 3) pe_int)) po_none)))))))))), ?_⟩
    refine q_whenG W (Pa := fun b => b = false → ∃ ts, t = .tup ts ∧ ts ≠ [] ∧ d ≠ 0) (tg_or W (Pa := fun b => (!b) = isTup t) (Pb := fun b => b = false → t ≠ .tup [] ∧ d ≠ 0) (tg_notG (Pa := fun b => b = isTup t) (tg_B (p_isi (C := "tuple") W (p_var W rfl hrt ⟨_, rfl, rfl⟩) (by decide)))) (fun ht => ?_) (fun _ h => nomatch h) (fun b ht hb h => ?_)) (fun H1 g1 _ => ?_) (fun H1 g1 hb => ?_)
    · obtain ⟨ts, rfl⟩ := tup_of ht.symm
      refine tg_or W (Pa := fun b => b = ts.isEmpty) (Pb := fun b => b = false → d ≠ 0) (tg_T (K := K) (p_op W (P := fun x => x = .tup ts) (P' := fun y => y = .tup []) (p_var W rfl hrt rfl) (p_tup W (pa_nilP W (Ps := fun ts => ts = []) rfl) (fun ts h => by rw [h]; exact Nat.zero_le _) (fun ts h => by rw [h])) (fun x y hx hy => by rw [hx, hy]; exact rp_eqT0 ⟨_, rfl, rfl⟩))) (fun he => ?_) (fun _ h => nomatch h) (fun b he hb h => ⟨fun z => (by rw [Th.tup.inj z] at he; cases he), hb h⟩)
      exact tg_or W (Pa := fun b => b = decide ((d : Int) = 0)) (Pb := fun _ => True) (tg_T (K := K) (p_op W (P := fun x => x = .int (d : Int)) (P' := fun y => y = .int 0) (p_var W rfl (.int _) rfl) (p_ci W rfl) (fun x y hx hy => by rw [hx, hy]; exact rp_eqI ⟨_, rfl, rfl⟩)))
        (fun _ => tg_T (K := K) (p_op W (p_take (m := 9) rfl hp ⟨by decide, by decide⟩ (p_ci W rfl)) (P' := fun y => y = .int 0) (p_ci W rfl) (fun x y hx hy => by obtain ⟨r, rfl, _⟩ := hx; rw [hy]; exact rp_eqI ⟨_, rfl, trivial⟩)))
        (fun _ h => nomatch h) (fun b hz _ _ => by have := of_decide_eq_false hz.symm; omega)
    · obtain ⟨ts, rfl⟩ := tup_of ht.symm
      obtain ⟨h1, h2⟩ := hb h
      exact ⟨ts, rfl, fun z => h1 (by rw [z]), h2⟩
    · -- put otherwise
      exact ⟨.ref p, rfl, v, rfl, p, v, t, rfl, g1.p hp, rp_r g1.r hrt, hta, fun v' t' H' g' hr' ht' => q v' t' H' (W.trans g1 g') hr' ht'⟩
    · obtain ⟨ts, rfl, hne, hd0⟩ := hb rfl
      obtain ⟨hl, hall⟩ := tame_tup hta
      have hth : ∀ t ∈ ts, thin t = true := fun t ht => tame_thin (hall t ht)
      have hl1 : 0 < ts.length := List.length_pos_iff.mpr hne
      have hp1 := g1.p hp
      have hr1 := rp_r g1.r hrt
      refine p_take (K := K) (m := (ts.length : Int)) rfl hp1 ⟨by omega, by omega⟩ (p_len W (p_var W rfl hr1 ⟨ts, rfl, rfl⟩)) H1 (W.refl H1) _ fun v2 t2 H2 g2 hr2 ht2 => ?_
      obtain ⟨r2, rfl, r20, r21⟩ := ht2
      cases rp_int hr2
      refine p_take (K := K) (m := (ts.length : Int)) rfl (g2.p hp1) ⟨by omega, by omega⟩ (p_len W (p_var W rfl (rp_r g2.r hr1) ⟨ts, rfl, rfl⟩)) H2 (W.refl H2) _ fun v3 t3 H3 g3 hr3 ht3 => ?_
      obtain ⟨r3, rfl, r30, r31⟩ := ht3
      cases rp_int hr3
      obtain ⟨i, rfl⟩ : ∃ i : Nat, r2 = (i : Int) := ⟨r2.toNat, by omega⟩
      have hi : i < ts.length := by omega
      refine ⟨_, _, rfl, ?_⟩
      have g13 : GP p H1 H3 := W.trans g2 g3
      have hp4 := g13.p hp1
      have hr4 := rp_r g13.r hr1
      -- way
      refine q_asgP (K := K) W (p_take (m := 14) rfl hp4 ⟨by decide, by decide⟩ (p_ci W rfl)) fun v5 t5 H5 g5 hr5 ht5 => ?_
      obtain ⟨wy, rfl, _, _⟩ := ht5
      cases rp_int hr5
      have hp5 := g5.p hp4
      have hr5 := rp_r g5.r hr4
      have g05 := W.trans g1 (W.trans g13 g5)
      have cutT : ∀ {lo hi : Option Int} {tl th : TO} {σ : L2.St} {H' : Hp}, σ[1]? = some (some v) → Rp K H' v (.tup ts) → (∀ H1, GP p H' H1 → ∀ Q : Option Int → Hp → Prop, (∀ H2, Ex H1 H2 → Q lo H2) → tl σ H1 Q) → (∀ H1, GP p H' H1 → ∀ Q : Option Int → Hp → Prop, (∀ H2, Ex H1 H2 → Q hi H2) → th σ H1 Q) →
          EvP (GP p) K (tSl (rSlA K) (tVar 1) tl th) σ H' (tupT 400) := fun hs hr h1 h2 => p_cut W (p_var W hs hr ⟨ts, rfl, _, rfl, Nat.le_trans (cut_len _ _ _) hl, fun z hz => hth z (List.mem_of_mem_drop (List.mem_of_mem_take hz))⟩) h1 h2
      refine q_whenG W (Pa := fun _ => True) (tg_T (K := K) (p_op W (P := fun x => x = .int wy) (P' := fun y => y = .int 0) (p_var W rfl (.int _) rfl) (p_ci W rfl) (fun x y hx hy => by rw [hx, hy]; exact rp_eqI ⟨_, rfl, trivial⟩))) (fun H6 g6 _ => ?_) (fun H6 g6 _ => ?_)
      · exact s_retP W (P := tupT 800) (p_op W (cutT rfl (rp_r g6.r hr5) po_none' (po_cut fun H => ev_var rfl)) (cutT rfl (rp_r g6.r hr5) (po_cut fun H => ev_op (ev_var rfl) ev_c rv_I0) po_none') (fun x y hx hy => cat_thin (by decide) (by decide) hx hy)) fun v' t' H7 g7 hr7 ht7 => q v' t' H7 (W.trans g05 (W.trans g6 g7)) hr7 (tupT_thin (by decide) ht7)
      have hr6 := rp_r g6.r hr5
      have oneT : ∀ {σ : L2.St} {H' : Hp} {j : Nat} {r : Int}, σ[1]? = some (some v) → Rp K H' v (.tup ts) → σ[j]? = some (some (.int r)) → EvP (GP p) K (tSl (rSlA K) (tVar 1) (tPart (tVar j)) (tPart (tOp (rI0 fun i j => .int (i + j)) (tVar j) (tC (.int 1))))) σ H' (tupT 400) := fun h1 h2 h3 => cutT h1 h2 (po_cut fun H => ev_var h3) (po_cut fun H => ev_op (ev_var h3) ev_c rv_I0)
      have short : ∀ {r : Int} {σ : L2.St} {H' : Hp} {j : Nat}, 0 ≤ r → σ[1]? = some (some v) → Rp K H' v (.tup ts) → σ[j]? = some (some (.int r)) → EvP (GP p) K (tSl (rSlA K) (tVar 1) (tPart (tVar j)) (tPart (tOp (rI0 fun i j => .int (i + j)) (tVar j) (tC (.int 1))))) σ H' (tupT 1) := fun {r σ H' j} h0 h1 h2 h3 => p_cut W (lo := some r) (hi := some (r + 1)) (p_var W h1 h2 ⟨ts, rfl, _, rfl, by
          rw [List.length_take]
          refine Nat.le_trans (Nat.min_le_left _ _) ?_
          exact cut_one h0, fun z hz => hth z (List.mem_of_mem_drop (List.mem_of_mem_take hz))⟩) (po_cut fun H => ev_var h3) (po_cut fun H => ev_op (ev_var h3) ev_c rv_I0)
      have hp6 := g6.p hp5
      refine q_whenG W (Pa := fun _ => True) (tg_T (K := K) (p_op W (P := fun x => x = .int wy) (P' := fun y => y = .int 1) (p_var W rfl (.int _) rfl) (p_ci W rfl) (fun x y hx hy => by rw [hx, hy]; exact rp_eqI ⟨_, rfl, trivial⟩))) (fun H7 g7 _ => ?_) (fun H7 g7 _ => ?_)
      · exact s_retP W (P := tupT 801) (p_op W (p_op W (P'' := tupT 401) (cutT rfl (rp_r g7.r hr6) po_none' (po_cut fun H => ev_var rfl)) (short (r := (i : Int)) (by omega) rfl (rp_r g7.r hr6) rfl) (fun x y hx hy => cat_thin (by decide) (by decide) hx hy)) (cutT rfl (rp_r g7.r hr6) (po_cut fun H => ev_var rfl) po_none') (fun x y hx hy => cat_thin (by decide) (by decide) hx hy)) fun v' t' H8 g8 hr8 ht8 => q v' t' H8 (W.trans g05 (W.trans g6 (W.trans g7 g8))) hr8 (tupT_thin (by decide) ht8)
      have hr7 := rp_r g7.r hr6
      have hp7 := g7.p hp6
      refine q_whenG W (Pa := fun _ => True) (tg_T (K := K) (p_op W (P := fun x => x = .int wy) (P' := fun y => y = .int 2) (p_var W rfl (.int _) rfl) (p_ci W rfl) (fun x y hx hy => by rw [hx, hy]; exact rp_eqI ⟨_, rfl, trivial⟩))) (fun H8 g8 _ => ?_) (fun H8 g8 _ => ?_)
      · exact s_retP W (P := tupT 801) (p_op W (p_op W (P'' := tupT 401) (cutT rfl (rp_r g8.r hr7) po_none' (po_cut fun H => ev_var rfl)) (short (r := r3) r30 rfl (rp_r g8.r hr7) rfl) (fun x y hx hy => cat_thin (by decide) (by decide) hx hy)) (cutT rfl (rp_r g8.r hr7) (po_cut fun H => ev_op (ev_var rfl) ev_c rv_I0) po_none') (fun x y hx hy => cat_thin (by decide) (by decide) hx hy)) fun v' t' H9 g9 hr9 ht9 => q v' t' H9 (W.trans g05 (W.trans g6 (W.trans g7 (W.trans g8 g9)))) hr9 (tupT_thin (by decide) ht9)
      have hr8 := rp_r g8.r hr7
      have hp8 := g8.p hp7
      refine s_retP W (P := tupT 801) (p_op W (p_op W (P'' := tupT 401) (cutT rfl hr8 po_none' (po_cut fun H => ev_var rfl)) (P' := tupT 1) (p_tup W (Ps := fun us => ∃ u, us = [u] ∧ thin u = true) (pa_consP W (P := ThinP) (fun H9 g9 Q9 q9 => ?_) (pa_nilP W (Ps := fun ts => ts = []) rfl) (fun t ts h1 h2 => ⟨t, by rw [h2], h1⟩)) (fun us h => by obtain ⟨u, rfl, _⟩ := h; show 1 ≤ 100000; decide) (fun us h => by obtain ⟨u, rfl, hu⟩ := h; exact ⟨_, rfl, Nat.le_refl _, fun x hx => by rw [List.mem_singleton.mp hx]; exact hu⟩)) (fun x y hx hy => cat_thin (by decide) (by decide) hx hy)) (cutT rfl hr8 (po_cut fun H => ev_op (ev_var rfl) ev_c rv_I0) po_none') (fun x y hx hy => cat_thin (by decide) (by decide) hx hy)) fun v' t' H9 g9 hr9 ht9 => q v' t' H9 (W.trans g05 (W.trans g6 (W.trans g7 (W.trans g8 g9)))) hr9 (tupT_thin (by decide) ht9)
      obtain ⟨a, xs, rfl, hs, ha⟩ := rp_tup (rp_r g9.r hr8)
      obtain ⟨u, hu, hdd⟩ := ra_at ha (List.getElem?_eq_getElem hi)
      have e : sp = spBent K (d - 1) := hsp hd0
      subst e
      refine ⟨.ref p, rfl, .ref a, rfl, .int (i : Int), rfl, a, xs, i, u, rfl, rfl, hs, atI_nat hu, .int (d : Int), rfl, (d : Int), 1, rfl, rfl, p, u, _, ?_, g9.p hp8, hdd, hall _ (List.getElem_mem hi), fun v' t' H10 g10 hr10 ht10 => q9 v' t' H10 g10 hr10 ht10⟩
      rw [show ((d - 1 : Nat) : Int) = (d : Int) - 1 by omega]
      rfl
  induction d with
  | zero => exact fun h => step 0 (fun _ _ _ _ => False) h (fun z => absurd rfl z) ⟨fun vs H Q E h => h.elim, fun A outer s H args us vs Q E _ _ _ _ h => h.elim⟩
  | succ d ih => exact fun h => step (d + 1) (spBent K d) h (fun _ => rfl) (ih (by omega))
end
end K01

set_option Elab.async false
set_option linter.all false
set_option maxRecDepth 100000
set_option maxHeartbeats 4000000
namespace K01
open PySem PySem.Spec PyProof.Rows L2 Evl DL GX YA EX TH TV YT DS
abbrev s_law_refused : Stmt := topS 69
theorem sc_law_refused : FnScope ["_law_thing", "_law_caught", "e"] ["_law_thing"] (defScope s_law_refused) := ⟨rfl, rfl, rfl, by decide +kernel, rfl, by decide +kernel, by decide +kernel⟩
def errs : List Str := ["NoCalls", "NoDoffs", "NoFrame", "NoHand", "NoMany", "NoMinds", "NoMoment", "NoPlain", "NoRow", "NoSmall", "NoSpun", "NoStory", "NoStray", "NoStrike", "NoText", "NoThread", "NoWait", "NoYard", "TooMany"]
theorem bootVE : bootBuiltins "ValueError" = some (.type "ValueError") := by decide +kernel
/-- where the classes of errors stand -/
structure Ec (mg : Str → Option Value) (C : Str → Addr) : Prop where
  g : ∀ n ∈ ("DoffError" :: errs : List Str), mg n = some (.ref (C n))
/-- what is asked of one of them -/
structure E1 (K : PySem.W.Frag) (C : Str → Addr) (nm : Str) : Prop where
  is : ExcC K (C nm)
  kit : ∀ n ∈ errs, PySem.W.kitOne K (.ref (C nm)) (.ref (C n)) = some (n == nm)
  ve : PySem.W.kitOne K (.ref (C nm)) (.type "ValueError") = some true
  ex : PySem.W.exmOne K (.ref (C nm)) (.ref (C "DoffError")) = some true
/-- isinstance(e, (C1, C2, ..)), the tuple just laid -/
def rIsGT (K : PySem.W.Frag) (D : Addr) : List V → Hp → VK → Prop := fun xs H Q => ∃ (a tp : Addr) (cs : List V) (us : List Value) (b : Bool), xs = [.ref a, .ref tp] ∧ H a = some (ExG (.ref D) none a) ∧ H tp = some (.tup cs) ∧ Paired ClsV cs us ∧ PySem.W.kitAny K (.ref D) us = some b ∧ Q (.bl b) H
theorem call_isGT {X : Cx} {D : Addr} (C : ExcC X.K D) : CallR X (.builtin "isinstance") (rIsGT X.K D) := by
  intro pins s σ H xs us Q I rel h
  obtain ⟨a, tp, cs, ws, b, rfl, ha, hT, k, hk, q⟩ := h
  obtain ⟨u1, u2, rfl, r1, r2⟩ := vals2 rel
  cases (show u1 = Value.ref a from r1)
  cases (show u2 = Value.ref tp from r2)
  obtain ⟨⟨o, r, hget, hz, hd⟩, _, _⟩ := I.hok a _ ha
  have inst : PySem.W.InstAt s.heap a o D none := by
    obtain ⟨oc, od, oda, osl⟩ := o
    obtain ⟨h1, h2⟩ := hz
    dsimp only at h1 h2 hd
    subst h1 h2 hd
    exact ⟨hget, rfl, rfl, trivial⟩
  obtain ⟨_, its, rv, o2, g1, g2, n, g3⟩ := (show ObjOk X.prog X.w H s.heap tp (.tup cs) from I.hok tp _ hT)
  have e3 := ClsV.all k rv
  subst e3
  obtain ⟨oc, od, dt, sl⟩ := o2
  simp only at g2 g3
  subst g2 g3
  exact PySem.W.kia_tup (PySem.W.handS_kitx_exc C.hg C.hk C.hs C.hd C.ha C.hn C.ht C.hm) I.kIn inst g1 hk (fun z => nomatch z) fun tk => ⟨.bl b, H, I.tok tk, rfl, q⟩
section
variable {K : PySem.W.Frag} {σ : L2.St} {H : Hp} {ta tb te : TE}
theorem ev_isG {D a : Addr} {c : V} {cv : Value} {b : Bool} (h : Ev te σ H (.ref a)) (ha : H a = some (ExG (.ref D) none a)) (hc : ClsV c cv) (hk : PySem.W.kitOne K (.ref D) cv = some b) : Ev (tCB (rIsG K D) (tCons te (tCons (tC c) tNil))) σ H (.bl b) := fun H1 e Q q =>
  h H1 e _ fun H2 e2 => ⟨a, c, cv, b, rfl, e2 _ _ (e _ _ ha), hc, hk, q H2 e2⟩
theorem ev_isGT {D a : Addr} {cs : List V} {us : List Value} {b : Bool} {tr : TA} (h : Ev te σ H (.ref a)) (ha : H a = some (ExG (.ref D) none a)) (ht : EvA tr σ H cs) (hl : cs.length ≤ 100000) (hp : Paired ClsV cs us) (hk : PySem.W.kitAny K (.ref D) us = some b) : Ev (tCB (rIsGT K D) (tCons te (tCons (tTup tr) tNil))) σ H (.bl b) := fun H1 e Q q =>
  h H1 e _ fun H2 e2 => eu_tup ht hl H2 (e.trans e2) _ fun p H3 _ e3 hp3 => ⟨a, p, cs, us, b, rfl, e3 _ _ (e2 _ _ (e _ _ ha)), hp3, hp, hk, q H3 (e2.trans e3)⟩
end
/-- a def that refuses such things with the class at C -/
def spNo (K : PySem.W.Frag) (Ps : List Addr) (C : Addr) (F : List Th → Prop) : Sp := fun vs H _ E => ∃ ts, RpAll K H vs ts ∧ F ts ∧ Tb Ps H ∧ ∀ H', Ex H H' → E (.ref C) none H'
def noYard1 (ts : List Th) : Prop := ∃ t, ts = [t] ∧ isYard t = false
def spRefused (K : PySem.W.Frag) (Ps : List Addr) : Sp := fun vs H Q _ => ∃ t, RpAll K H vs [t] ∧ isYard t = false ∧ Tb Ps H ∧ ∀ H', Ex H H' → Q (.bl true) H'
section
variable {P : Program} {w : World} {K : PySem.W.Frag} {mg : Str → Option Value} {base : Heap} {C : Str → Addr} {Ps : List Addr}
theorem ok_refused {f f1 : Addr} {fd fd1 : FuncData} {j : Nat} {st1 : Stmt} {nm : Str} (T : Bi mg) (hC : Ec mg C) (hE : E1 K C "NoYard") (D : Df K mg "_law_refused" s_law_refused ["_law_thing"] f fd)
    (D_show_yard : Df K mg "show_yard" st1 [nm] f1 fd1) (G_show_yard : FnOk P w K mg base (L2.CX P w) j f1 fd1 [nm] (spNo K Ps (C "NoYard") noYard1)) :
    FnOk P w K mg base CX0 (j + 1) f fd ["_law_thing"] (spRefused K Ps) := by
  refine D.F.ok sc_law_refused (fun vs H Q E h => by obtain ⟨t, hr, _⟩ := h; rw [ra_len hr]; rfl) (fun cdv A outer s H vs Q E hr h => ?_)
  obtain ⟨t, hv, hno, hT, q⟩ := h
  obtain ⟨v, rfl, r1⟩ := ra1 hv
  refine ⟨_, (pss_cons (ps_set (i := 1) sc_law_refused.nd rfl (.inl rfl) pe_non)
      (pss_cons (ps_try_tr (i := 2) rfl rfl sc_law_refused.nd rfl rfl ⟨rfl, by decide, .inl (hC.g "DoffError" (by decide))⟩ (fun W pn xe tk _ => (pss_one (ps_expr (pe_callS G_show_yard (hr.mono (by omega)) (by rfl) D_show_yard.g D_show_yard.F.kp D_show_yard.b (fun σ => passAt tk σ) (pa_cons (pv 0) pa_nil))))) (fun a cls d pn => (pss_one (ps_set (i := 1) sc_law_refused.nd rfl (.inl rfl) (pv 2)))))
      (pss_cons (ps_if (pt_val (pe_callB (r := rIsGT K (C "NoYard")) (call_isGT hE.is) (by rfl) T.isinstance boot_isinstance (pa_cons (pv 1) (pa_cons (pe_tup (pa_cons (pe_glob (v := .ref (C "NoCalls")) (by rfl) (hC.g "NoCalls" (by decide)) rfl) (pa_cons (pe_glob (v := .ref (C "NoDoffs")) (by rfl) (hC.g "NoDoffs" (by decide)) rfl) (pa_cons (pe_glob (v := .ref (C "NoFrame")) (by rfl) (hC.g "NoFrame" (by decide)) rfl) (pa_cons (pe_glob (v := .ref (C "NoHand")) (by rfl) (hC.g "NoHand" (by decide)) rfl) (pa_cons (pe_glob (v := .ref (C "NoMany")) (by rfl) (hC.g "NoMany" (by decide)) rfl) (pa_cons (pe_glob (v := .ref (C "NoMinds")) (by rfl) (hC.g "NoMinds" (by decide)) rfl) (pa_cons (pe_glob (v := .ref (C "NoMoment")) (by rfl) (hC.g "NoMoment" (by decide)) rfl) (pa_cons (pe_glob (v := .ref (C "NoPlain")) (by rfl) (hC.g "NoPlain" (by decide)) rfl) (pa_cons (pe_glob (v := .ref (C "NoRow")) (by rfl) (hC.g "NoRow" (by decide)) rfl) (pa_cons (pe_glob (v := .ref (C "NoSmall")) (by rfl) (hC.g "NoSmall" (by decide)) rfl) pa_nil))))))))))) pa_nil)))) (pss_one (ps_ret pe_bl)) pss_nil)
      (pss_cons (ps_if (pt_val (pe_callB (r := rIsGT K (C "NoYard")) (call_isGT hE.is) (by rfl) T.isinstance boot_isinstance (pa_cons (pv 1) (pa_cons (pe_tup (pa_cons (pe_glob (v := .ref (C "NoSpun")) (by rfl) (hC.g "NoSpun" (by decide)) rfl) (pa_cons (pe_glob (v := .ref (C "NoStory")) (by rfl) (hC.g "NoStory" (by decide)) rfl) (pa_cons (pe_glob (v := .ref (C "NoStray")) (by rfl) (hC.g "NoStray" (by decide)) rfl) (pa_cons (pe_glob (v := .ref (C "NoStrike")) (by rfl) (hC.g "NoStrike" (by decide)) rfl) (pa_cons (pe_glob (v := .ref (C "NoText")) (by rfl) (hC.g "NoText" (by decide)) rfl) (pa_cons (pe_glob (v := .ref (C "NoThread")) (by rfl) (hC.g "NoThread" (by decide)) rfl) (pa_cons (pe_glob (v := .ref (C "NoWait")) (by rfl) (hC.g "NoWait" (by decide)) rfl) (pa_cons (pe_glob (v := .ref (C "TooMany")) (by rfl) (hC.g "TooMany" (by decide)) rfl) pa_nil))))))))) pa_nil)))) (pss_one (ps_ret pe_bl)) pss_nil)
      (pss_one (ps_ret (pe_and (pe_callB (r := rIsG K (C "NoYard")) (call_isG hE.is) (by rfl) T.isinstance boot_isinstance (pa_cons (pv 1) (pa_cons (pe_glob (v := .ref (C "NoYard")) (by rfl) (hC.g "NoYard" (by decide)) rfl) pa_nil))) (pe_one (pe_callB (r := rIsG K (C "NoYard")) (call_isG hE.is) (by rfl) T.isinstance boot_isinstance (pa_cons (pv 1) (pa_cons (pe_bltn (by rfl) T.ValueError bootVE (v := .ty "ValueError") rfl) pa_nil))))))))))), ?_⟩
  refine q_asg (v := .non) ev_c fun H1 e1 => ?_
  refine ⟨v, rfl, [t], .cons (rp_mono e1 r1) .nil, ⟨t, rfl, hno⟩, hT.ex e1, fun H2 e2 => ⟨hE.ex, fun a ha => ?_⟩⟩
  have ea : upd H2 a (ExG (.ref (C "NoYard")) none a) a = some (ExG (.ref (C "NoYard")) none a) := upd_same
  refine s_asg (v := .ref a) (ev_var rfl) fun H3 e3 => ?_
  have hh := e3 _ _ ea
  have e03 : Ex H H3 := e1.trans (e2.trans ((Ex.new ha).trans e3))
  refine q_when (b := false) (et_B (ev_isGT (cs := [.ref (C "NoCalls"), .ref (C "NoDoffs"), .ref (C "NoFrame"), .ref (C "NoHand"), .ref (C "NoMany"), .ref (C "NoMinds"), .ref (C "NoMoment"), .ref (C "NoPlain"), .ref (C "NoRow"), .ref (C "NoSmall")]) (ev_var rfl) hh (ea_cons ev_c (ea_cons ev_c (ea_cons ev_c (ea_cons ev_c (ea_cons ev_c (ea_cons ev_c (ea_cons ev_c (ea_cons ev_c (ea_cons ev_c (ea_cons ev_c ea_nil)))))))))) (by show 10 ≤ 100000; decide) (.cons (.own _) (.cons (.own _) (.cons (.own _) (.cons (.own _) (.cons (.own _) (.cons (.own _) (.cons (.own _) (.cons (.own _) (.cons (.own _) (.cons (.own _) .nil)))))))))) (kitAny_cons (b := false) (hE.kit "NoCalls" (by decide)) (fun _ => (kitAny_cons (b := false) (hE.kit "NoDoffs" (by decide)) (fun _ => (kitAny_cons (b := false) (hE.kit "NoFrame" (by decide)) (fun _ => (kitAny_cons (b := false) (hE.kit "NoHand" (by decide)) (fun _ => (kitAny_cons (b := false) (hE.kit "NoMany" (by decide)) (fun _ => (kitAny_cons (b := false) (hE.kit "NoMinds" (by decide)) (fun _ => (kitAny_cons (b := false) (hE.kit "NoMoment" (by decide)) (fun _ => (kitAny_cons (b := false) (hE.kit "NoPlain" (by decide)) (fun _ => (kitAny_cons (b := false) (hE.kit "NoRow" (by decide)) (fun _ => (kitAny_cons (b := false) (hE.kit "NoSmall" (by decide)) (fun _ => kitAny_nil) (fun z => nomatch z))) (fun z => nomatch z))) (fun z => nomatch z))) (fun z => nomatch z))) (fun z => nomatch z))) (fun z => nomatch z))) (fun z => nomatch z))) (fun z => nomatch z))) (fun z => nomatch z))) (fun z => nomatch z)))) (fun h => nomatch h) (fun _ H4 e4 => ?_)
  refine q_when (b := false) (et_B (ev_isGT (cs := [.ref (C "NoSpun"), .ref (C "NoStory"), .ref (C "NoStray"), .ref (C "NoStrike"), .ref (C "NoText"), .ref (C "NoThread"), .ref (C "NoWait"), .ref (C "TooMany")]) (ev_var rfl) (e4 _ _ hh) (ea_cons ev_c (ea_cons ev_c (ea_cons ev_c (ea_cons ev_c (ea_cons ev_c (ea_cons ev_c (ea_cons ev_c (ea_cons ev_c ea_nil)))))))) (by show 8 ≤ 100000; decide) (.cons (.own _) (.cons (.own _) (.cons (.own _) (.cons (.own _) (.cons (.own _) (.cons (.own _) (.cons (.own _) (.cons (.own _) .nil)))))))) (kitAny_cons (b := false) (hE.kit "NoSpun" (by decide)) (fun _ => (kitAny_cons (b := false) (hE.kit "NoStory" (by decide)) (fun _ => (kitAny_cons (b := false) (hE.kit "NoStray" (by decide)) (fun _ => (kitAny_cons (b := false) (hE.kit "NoStrike" (by decide)) (fun _ => (kitAny_cons (b := false) (hE.kit "NoText" (by decide)) (fun _ => (kitAny_cons (b := false) (hE.kit "NoThread" (by decide)) (fun _ => (kitAny_cons (b := false) (hE.kit "NoWait" (by decide)) (fun _ => (kitAny_cons (b := false) (hE.kit "TooMany" (by decide)) (fun _ => kitAny_nil) (fun z => nomatch z))) (fun z => nomatch z))) (fun z => nomatch z))) (fun z => nomatch z))) (fun z => nomatch z))) (fun z => nomatch z))) (fun z => nomatch z))) (fun z => nomatch z)))) (fun h => nomatch h) (fun _ H5 e5 => ?_)
  have hh5 := e5 _ _ (e4 _ _ hh)
  exact sr_ret (ev_is (ev_andV (a := true) (b := true) (ev_isG (ev_var rfl) hh5 (.own _) (hE.kit "NoYard" (by decide))) fun _ => ev_isG (ev_var rfl) hh5 (.ty _) hE.ve) rfl) fun H6 e6 => q H6 (e03.trans (e4.trans (e5.trans e6)))
end
end K01

set_option Elab.async false
set_option linter.all false
set_option maxRecDepth 100000
set_option maxHeartbeats 4000000
namespace K01
open PySem PySem.Spec PyProof.Rows L2 Evl DL GX YA EX TH TV YT DS
abbrev s_law_right : Stmt := topS 70
theorem sc_law_right : FnScope ["_law_thing", "_law_due", "_law_found"] ["_law_thing"] (defScope s_law_right) := ⟨rfl, rfl, rfl, by decide +kernel, rfl, by decide +kernel, by decide +kernel⟩
theorem within_tame {t : Th} {lo hi : Int} (h : isWithin t lo hi = true) (h1 : -(10 ^ 31) ≤ lo) (h2 : hi ≤ 10 ^ 31) : tame t = true := by
  obtain ⟨i, rfl, a, b⟩ := int_within h
  show (decide (-(10 ^ 31) ≤ i) && decide (i ≤ 10 ^ 31)) = true
  rw [decide_eq_true (Int.le_trans h1 a), decide_eq_true (Int.le_trans b h2)]
  rfl
theorem near_tame {t : Th} {lo hi : Int} (h : isWithin t lo hi = true) (h1 : 0 ≤ lo) (h2 : hi ≤ 1000) : tame t = true := within_tame h (Int.le_trans (by decide) h1) (Int.le_trans h2 (by decide))
theorem far_tame {t : Th} {lo : Int} (h : isWithin t lo (10 ^ 30) = true) (h1 : 0 ≤ lo) : tame t = true := within_tame h (Int.le_trans (by decide) h1) (by decide)
theorem row_tame {t : Th} {a b : Int} (h : isRow t a b = true) (ha : a ≤ 1000) (hb : b ≤ 1000) : tame t = true := by
  unfold isRow at h
  rw [Bool.and_eq_true, Bool.and_eq_true] at h
  obtain ⟨us, rfl, l1, l2⟩ := tup_len h.1
  obtain ⟨x, y, rfl⟩ := two_of (us := us) (by omega)
  refine tame_of (by show 2 ≤ 400; decide) fun t ht => ?_
  rcases List.mem_cons.mp ht with rfl | ht
  · exact near_tame h.2.1 (by decide) ha
  · rw [List.mem_singleton.mp ht]
    exact near_tame h.2.2 (by decide) (by omega)
theorem frame_tame {t : Th} (h : isFrame t = true) : tame t = true := by
  unfold isFrame at h
  rw [Bool.and_eq_true] at h
  obtain ⟨us, rfl, l1, l2⟩ := tup_len h.1
  obtain ⟨k1, k2, k3, k4, k5, k6, rfl⟩ := six_of l1 l2
  have h2 : (isWithin k1 0 1 && (isWithin k2 1 4 && (isWithin k3 0 (asInt k2 - 1) && (isWithin k4 1 30 && (isWithin k5 0 9 && isRows k6 (asInt k4) (asInt k2)))))) = true := h.2
  simp only [Bool.and_eq_true] at h2
  obtain ⟨a1, a2, a3, a4, a5, a6⟩ := h2
  have t2 := near_tame a2 (by decide) (by decide)
  have t4 := near_tame a4 (by decide) (by decide)
  obtain ⟨th, rfl, b1, b2⟩ := int_within a2
  obtain ⟨fu, rfl, c1, c2⟩ := int_within a4
  have t3 : tame k3 = true := near_tame a3 (by decide) (by show th - 1 ≤ 1000; omega)
  have t6 : tame k6 = true := by
    unfold isRows at a6
    rw [Bool.and_eq_true, Bool.and_eq_true] at a6
    obtain ⟨rs, rfl, m1, m2⟩ := tup_len a6.1
    exact tame_of (by omega) fun r hr => row_tame (List.all_eq_true.mp a6.2.1 r hr) (by show fu ≤ 1000; omega) (by show th ≤ 1000; omega)
  refine tame_of (by show 6 ≤ 400; decide) fun t ht => ?_
  simp only [List.mem_cons, List.mem_nil_iff, or_false] at ht
  rcases ht with rfl | rfl | rfl | rfl | rfl | rfl
  · exact near_tame a1 (by decide) (by decide)
  · exact t2
  · exact t3
  · exact t4
  · exact near_tame a5 (by decide) (by decide)
  · exact t6
theorem minds_tame {t : Th} {m : Int} (hm : m ≤ 100) (h : isMinds t m = true) : tame t = true := by
  unfold isMinds at h
  rw [Bool.and_eq_true, Bool.and_eq_true] at h
  obtain ⟨us, rfl, l1, l2⟩ := tup_len h.1
  exact tame_of (by omega) fun t ht => near_tame (List.all_eq_true.mp h.2.1 t ht) (by decide) (by omega)
theorem hand_tame {t : Th} {m : Int} (hm : m ≤ 100) (h : isHand t m = true) : tame t = true := by
  unfold isHand at h
  rw [Bool.and_eq_true] at h
  obtain ⟨us, rfl, l1, l2⟩ := tup_len h.1
  obtain ⟨k1, k2, k3, k4, rfl⟩ := four_of (us := us) (by omega)
  have h2 : ((isWithin k1 0 (m - 1) && (isMinds k2 m && isWithin k3 0 (10 ^ 30))) && (isNone k4 || isWithin k4 (asInt k3 + 1) (10 ^ 30))) = true := h.2
  simp only [Bool.and_eq_true] at h2
  obtain ⟨⟨a1, a2, a3⟩, a4⟩ := h2
  have t3 := far_tame a3 (by decide)
  obtain ⟨st, rfl, b1, b2⟩ := int_within a3
  have t4 : tame k4 = true := by
    rw [Bool.or_eq_true] at a4
    rcases a4 with z | z
    · cases k4 <;> first
        | rfl
        | cases z
    · exact far_tame z (by show 0 ≤ st + 1; omega)
  refine tame_of (by show 4 ≤ 400; decide) fun t ht => ?_
  simp only [List.mem_cons, List.mem_nil_iff, or_false] at ht
  rcases ht with rfl | rfl | rfl | rfl
  · exact near_tame a1 (by decide) (by omega)
  · exact minds_tame hm a2
  · exact t3
  · exact t4
theorem stray_tame {t : Th} {fs : List Th} (hf : fs.length ≤ 100) (hfs : fs.all isFrame = true) (h : isStray t fs = true) : tame t = true := by
  unfold isStray at h
  rw [Bool.and_eq_true] at h
  obtain ⟨us, rfl, l1, l2⟩ := tup_len h.1
  obtain ⟨k1, k2, k3, rfl⟩ := three_of (us := us) (by omega)
  have h2 : ((isWithin k1 0 ((fs.length : Int) - 1) && isWithin k2 1 (10 ^ 30)) && isWithin k3 0 (threadsOf fs k1 - 1)) = true := h.2
  simp only [Bool.and_eq_true] at h2
  obtain ⟨⟨a1, a2⟩, a3⟩ := h2
  have t1 : tame k1 = true := near_tame a1 (by decide) (by omega)
  obtain ⟨fr, rfl, b1, b2⟩ := int_within a1
  have hk : fr.toNat < fs.length := by omega
  obtain ⟨ws, th, ew, hth, c1, c2⟩ := frame_th (List.all_eq_true.mp hfs _ (List.getElem_mem hk))
  have et : threadsOf fs (.int fr) = th := by
    unfold threadsOf
    have eg : fs.getD fr.toNat .none = .tup ws := by
      rw [List.getD_eq_getElem?_getD, List.getElem?_eq_getElem hk, ew]
      rfl
    show asInt ((parts (fs.getD fr.toNat .none)).getD 1 .none) = th
    rw [eg]
    show asInt (ws.getD 1 .none) = th
    rw [List.getD_eq_getElem?_getD, hth]
    rfl
  rw [et] at a3
  refine tame_of (by show 3 ≤ 400; decide) fun t ht => ?_
  simp only [List.mem_cons, List.mem_nil_iff, or_false] at ht
  rcases ht with rfl | rfl | rfl
  · exact t1
  · exact far_tame a2 (by decide)
  · exact near_tame a3 (by decide) (by omega)
theorem rule_tame {t : Th} (h : isRule t = true) : tame t = true := by
  unfold isRule at h
  rw [Bool.and_eq_true] at h
  obtain ⟨s, rfl⟩ := str_of h.1
  rfl
theorem walks_tame {t : Th} {m : Int} (hm : m ≤ 100) (h : isWalks t m = true) : tame t = true := by
  unfold isWalks at h
  rw [Bool.and_eq_true] at h
  obtain ⟨us, rfl, l1, l2⟩ := tup_len h.1
  refine tame_of (by omega) fun t ht => ?_
  obtain ⟨i, hi, e⟩ := List.getElem_of_mem ht
  have hm' : (i, t) ∈ nums us := by
    have : (nums us)[i]? = some (i, t) := by
      show ((List.range us.length).zip us)[i]? = _
      rw [List.getElem?_zip_eq_some]
      exact ⟨by rw [List.getElem?_range hi], by rw [List.getElem?_eq_getElem hi, e]⟩
    exact List.mem_of_getElem? this
  have z : isWalk t (i : Int) m = true := List.all_eq_true.mp h.2 _ hm'
  unfold isWalk at z
  rw [Bool.and_eq_true, Bool.and_eq_true] at z
  obtain ⟨ws, rfl, n1, n2⟩ := tup_len z.1
  exact tame_of (by omega) fun x hx => near_tame (List.all_eq_true.mp z.2.1 x hx) (by decide) (by decide)
theorem pieces_tame {t : Th} (h : isPieces t = true) : tame t = true := by
  unfold isPieces at h
  rw [Bool.and_eq_true] at h
  obtain ⟨us, rfl, l1, l2⟩ := tup_len h.1
  exact tame_of (by omega) fun x hx => near_tame (List.all_eq_true.mp h.2 x hx) (by decide) (by decide)
theorem yard_tame {t : Th} (h : isYard t = true) : tame t = true := by
  unfold isYard at h
  rw [Bool.and_eq_true] at h
  obtain ⟨us, rfl, l1, l2⟩ := tup_len h.1
  obtain ⟨k1, k2, k3, k4, k5, k6, rfl⟩ := six_of l1 l2
  have h2 : (isFrames k1 && (isWalks k2 ((parts k1).length : Int) && (isPieces k3 && (isRule k4 && (isHands k5 ((parts k1).length : Int) && isStrays k6 (parts k1)))))) = true := h.2
  simp only [Bool.and_eq_true] at h2
  obtain ⟨a1, a2, a3, a4, a5, a6⟩ := h2
  unfold isFrames at a1
  rw [Bool.and_eq_true] at a1
  obtain ⟨fs, rfl, m1, m2⟩ := tup_len a1.1
  have hf : fs.all isFrame = true := a1.2
  have hl : ((parts (.tup fs)).length : Int) ≤ 100 := by show (fs.length : Int) ≤ 100; omega
  refine tame_of (by show 6 ≤ 400; decide) fun t ht => ?_
  simp only [List.mem_cons, List.mem_nil_iff, or_false] at ht
  rcases ht with rfl | rfl | rfl | rfl | rfl | rfl
  · exact tame_of (by omega) fun x hx => frame_tame (List.all_eq_true.mp hf x hx)
  · exact walks_tame hl a2
  · exact pieces_tame a3
  · exact rule_tame a4
  · unfold isHands at a5
    rw [Bool.and_eq_true] at a5
    obtain ⟨hs, rfl, n1, n2⟩ := tup_len a5.1
    exact tame_of (by omega) fun x hx => hand_tame hl (List.all_eq_true.mp a5.2 x hx)
  · unfold isStrays at a6
    rw [Bool.and_eq_true, Bool.and_eq_true] at a6
    obtain ⟨ss, rfl, n1, n2⟩ := tup_len a6.1
    exact tame_of (by omega) fun x hx => stray_tame (show fs.length ≤ 100 by omega) hf (List.all_eq_true.mp a6.2.1 x hx)
def spRight (K : PySem.W.Frag) (Ps : List Addr) : Sp := fun vs H Q _ => ∃ t, RpAll K H vs [t] ∧ thin t = true ∧ Tb Ps H ∧ ∀ H', Ex H H' → Q (.bl true) H'
theorem q_par {i j : Nat} {ta : TA} {tz : TS} {D : Ends} {σ : L2.St} {H : Hp} {u v : V} (h : EvA ta σ H [u, v]) (k : ∀ H1, Ex H H1 → tz D ((σ.set i (some u)).set j (some v)) H1) : tSeq (tPar i j ta) tz D σ H := h H (Ex.refl H) _ fun H1 e => ⟨u, v, rfl, k H1 e⟩
section
variable {P : Program} {w : World} {K : PySem.W.Frag} {mg : Str → Option Value} {base : Heap} {C : Str → Addr} {Ps : List Addr}
theorem ok_right {f f0 f1 f2 : Addr} {fd fd0 fd1 fd2 : FuncData} {j : Nat} {st1 : Stmt} (hj : 3 ≤ j) (T : Bi mg) (D : Df K mg "_law_right" s_law_right ["_law_thing"] f fd) (D_law_is_yard : Df K mg "_law_is_yard" s_law_is_yard ["_law_thing"] f0 fd0) (G_law_is_yard : FnOk P w K mg base CX0 3 f0 fd0 ["_law_thing"] (spF K [] (fThin isYard)))
    (D_is_yard : Df K mg "is_yard" st1 ["thing"] f1 fd1) (G_is_yard : FnOk P w K mg base CX0 j f1 fd1 ["thing"] (spF K Ps (fn1 isYard)))
    (D_law_refused : Df K mg "_law_refused" s_law_refused ["_law_thing"] f2 fd2) (G_law_refused : FnOk P w K mg base CX0 (j + 3) f2 fd2 ["_law_thing"] (spRefused K Ps)) :
    FnOk P w K mg base CX0 (j + 4) f fd ["_law_thing"] (spRight K Ps) := by
  refine D.F.ok sc_law_right (fun vs H Q E h => by obtain ⟨t, hr, _⟩ := h; rw [ra_len hr]; rfl) (fun cdv A outer s H vs Q E hr h => ?_)
  obtain ⟨t, hv, hth, hT, q⟩ := h
  obtain ⟨v, rfl, r1⟩ := ra1 hv
  refine ⟨_, (pss_cons (ps_par (i := 1) (j := 2) (by rfl) sc_law_right.nd rfl rfl (by decide) rfl rfl (pa_cons (pe_call G_law_is_yard (hr.mono (by omega)) (by rfl) D_law_is_yard.g D_law_is_yard.F.kp D_law_is_yard.b .nil pass0 (pa_cons (pv 0) pa_nil)) (pa_cons (pe_call G_is_yard (hr.mono (by omega)) (by rfl) D_is_yard.g D_is_yard.F.kp D_is_yard.b .nil pass0 (pa_cons (pv 0) pa_nil)) pa_nil)) (by rfl))
      (pss_cons (ps_if (PW.pt (pw_or (pt_not (pt_val (pe_callB (r := rIsi K) call_isi (by rfl) T.isinstance boot_isinstance (pa_cons (pv 2) (pa_cons (pe_bltn (by rfl) T.bool boot_bool (v := .ty "bool") rfl) pa_nil))))) (pw_or1 (pt_cmpR op_ne (pv 2) (pv 1) (nomark _))))) (pss_one (ps_ret pe_bl)) pss_nil)
      (pss_one (ps_ret (pe_or (pv 1) (pe_one (pe_call G_law_refused (hr.mono (by omega)) (by rfl) D_law_refused.g D_law_refused.F.kp D_law_refused.b .nil pass0 (pa_cons (pv 0) pa_nil)))))))), ?_⟩
  refine q_par (ea_cons (ev_callF (F := fThin isYard) (b := isYard t) (ea_cons (ev_var rfl) ea_nil) (.cons r1 .nil) (if_pos hth) tb_nil) (ea_cons (ev_callF (F := fn1 isYard) (ea_cons (ev_var rfl) ea_nil) (.cons r1 .nil) rfl hT) ea_nil)) fun H1 e1 => ?_
  refine q_when (b := false) (et_is (et_or (et_not (et_B (ev_isi (K := K) (t := .bool (isYard t)) (ev_var rfl) (.bl _) (by decide)))) fun _ => et_test (ev_is (ev_op (ev_var rfl) (ev_var rfl) (rv_ne rfl)) (by rw [dec_bl]))) (by
      rw [beq_self_eq_true]
      rfl)) (fun h => nomatch h) (fun _ H3 e3 => ?_)
  have e13 := e1.trans e3
  refine sr_ret (ev_is (ev_orV (b := true) (ev_var rfl) fun hs => fun H4 e4 Q4 q4 => ?_) (by rw [Bool.or_true])) fun H4 e4 => q H4 (e13.trans e4)
  exact ⟨v, rfl, t, .cons (rp_mono (e13.trans e4) r1) .nil, hs, hT.ex (e13.trans e4), fun H5 e5 => q4 H5 e5⟩
end
end K01

set_option Elab.async false
set_option linter.all false
set_option maxRecDepth 100000
set_option maxHeartbeats 4000000
namespace K01
open PySem PySem.Spec PyProof.Rows L2 Evl DL GX YA EX TH TV YT DS
abbrev s_law : Stmt := topS 71
theorem sc_law : FnScope ["_law_script", "_law_k", "_law_pool_here", "_law_spoils", "_law_yard_here", "_law_spoil", "_law_more", "_law_frame_here", "_law_plain", "_law_some", "_law_at", "_law_thing", "_law_turn"] ["_law_script"] (defScope s_law) := ⟨rfl, rfl, rfl, by decide +kernel, rfl, by decide +kernel, by decide +kernel⟩
theorem tb_gp {Ps : List Addr} {p : Addr} {H H' : Hp} (g : GP p H H') (hp : PoolAt H p) (h : Tb Ps H) : Tb Ps H' := fun P hP => g.b _ _ (fun z => by
  obtain ⟨n, q⟩ := hp
  have k := h P hP
  rw [z, q] at k
  cases k) (h P hP)
theorem rv_notB {H : Hp} {a b : Bool} : RV rNotB (.bl a) (.bl b) H (.bl (!decide (a = b))) := fun H1 _ _ q => ⟨a, b, rfl, rfl, q H1 (Ex.refl H1)⟩
theorem rv_isB {H : Hp} {a b : Bool} : RV rIsB (.bl a) (.bl b) H (.bl (decide (a = b))) := fun H1 _ _ q => ⟨a, b, rfl, rfl, q H1 (Ex.refl H1)⟩
def spLaw (K : PySem.W.Frag) (Ps : List Addr) : Sp := fun vs H Q _ => ∃ (a : Addr) (ns : List Int), vs = [.ref a] ∧ SqL K H a (ns.map V.int) ∧ ns.length ≤ 63 ∧ Tb Ps H ∧ ∀ H', Tb Ps H' → Q (.bl true) H'
def fT : Th := .tup [.int 0, .int 1, .int 0, .int 1, .int 0, .tup []]
def plTs : List Th := [.tup [fT], .tup [.tup [.int 0]], .tup [.int 1, .int 1], .str "old", .tup [], .tup []]
theorem pl_yard : isYard (.tup plTs) = true := by decide +kernel
theorem pl_thin : ∀ z ∈ plTs, thin z = true := by decide +kernel
section
variable {G : Hp → Hp → Prop} {Ok : Addr → Prop} {K : PySem.W.Frag} (W : Way G Ok) {σ : L2.St} {H : Hp} {ta : TE} {tr : TA} {tl th : TO} {lo hi : Option Int}
include W
theorem x_cons {t : Th} {ts : List Th} (h1 : EvP G K ta σ H (fun x => x = t)) (h2 : EvPA G K tr σ H (fun xs => xs = ts)) : EvPA G K (tCons ta tr) σ H (fun xs => xs = t :: ts) := pa_consP W h1 h2 fun a b ha hb => by rw [ha, hb]
theorem x_nil : EvPA G K tNil σ H (fun xs => xs = ([] : List Th)) := pa_nilP W rfl
theorem x_tup {ts : List Th} (h : EvPA G K tr σ H (fun xs => xs = ts)) (hl : ts.length ≤ 100000) : EvP G K (tTup tr) σ H (fun x => x = .tup ts) := p_tup W h (fun _ e => by rw [e]; exact hl) fun _ e => by rw [e]
theorem p_cutT {i : Nat} {v : V} {ts : List Th} (hs : σ[i]? = some (some v)) (hr : Rp K H v (.tup ts)) (hl : ts.length ≤ 400) (hth : ∀ z ∈ ts, thin z = true) (h1 : ∀ H1, G H H1 → ∀ Q : Option Int → Hp → Prop, (∀ H2, Ex H1 H2 → Q lo H2) → tl σ H1 Q) (h2 : ∀ H1, G H H1 → ∀ Q : Option Int → Hp → Prop, (∀ H2, Ex H1 H2 → Q hi H2) → th σ H1 Q) : EvP G K (tSl (rSlA K) (tVar i) tl th) σ H (tupT 400) :=
  p_cut W (p_var W hs hr ⟨ts, rfl, _, rfl, Nat.le_trans (cut_len _ _ _) hl, fun z hz => hth z (List.mem_of_mem_drop (List.mem_of_mem_take hz))⟩) h1 h2
/-- a literal whose parts are thin -/
theorem t_tup {k : Nat} (h : EvPA G K tr σ H (fun ts => ts.length = k ∧ ∀ t ∈ ts, ThinP t)) (hk : k ≤ 1000) : EvP G K (tTup tr) σ H ThinP := p_tup W h (fun ts h => by rw [h.1]; omega) fun ts h => thin_of (by rw [h.1]; exact hk) h.2
theorem t_lst {k : Nat} (h : EvPA G K tr σ H (fun ts => ts.length = k ∧ ∀ t ∈ ts, ThinP t)) (hk : k ≤ 1000) : EvP G K (tLst tr) σ H ThinP := p_lst W h (fun ts h => by rw [h.1]; omega) rfl
end
/-- the list at l has grown, all else stays -/
structure Grown (K : PySem.W.Frag) (l : Addr) (H : Hp) (n : Nat) (H' : Hp) : Prop where
  r : ExR H H'
  b : ExB l H H'
  l : ∃ xs ts, H' l = some (.lst xs) ∧ RpAll K H' xs ts ∧ ts.length = n ∧ ∀ t ∈ ts, thin t = true
theorem app_step {K : PySem.W.Frag} {σ : L2.St} {te : TE} {D : Ends} {l : Addr} {H H2 : Hp} {n jl : Nat} (hσ : σ[jl]? = some (some (.ref l))) (g : Grown K l H n H2) (hn : n ≤ 900) (he : EvP Ex K te σ H2 ThinP) (k : ∀ H', Grown K l H (n + 1) H' → D.nx σ H') : tDrop (tBM K "list" rAppend (tVar jl) (tCons te tNil)) D σ H2 := by
  obtain ⟨xs, ts, hl, hx, hlen, hth⟩ := g.l
  refine ⟨.ref l, hσ, .inl ⟨rfl, _, sq_of hl⟩, ?_⟩
  refine he H2 (Ex.refl H2) _ fun v t H4 e4 hv ht => ?_
  have hl4 : H4 l = some (.lst xs) := e4 _ _ hl
  refine ⟨l, xs, v, rfl, rfl, hl4, sz_lt (by rw [ra_len hx]; omega), k _ ⟨(g.r.trans (exr_of e4)).trans (exr_upd hl4), fun b o nb hb => ?_, xs ++ [v], ts ++ [t], upd_same, ra_r (exr_upd hl4) (ra_app (ra_mono e4 hx) (.cons hv .nil)), by rw [List.length_append, hlen]; rfl, fun u hu => ?_⟩⟩
  · rw [upd_ne nb]
    exact e4 _ _ (g.b b o nb hb)
  · rcases List.mem_append.mp hu with z | z
    · exact hth u z
    · rw [List.mem_singleton.mp z]
      exact ht
theorem way_l (l : Addr) : Way Ex (fun p => p ≠ l) := ⟨Ex.refl, fun a b => a.trans b, fun e => e, exr_of, fun e hn _ => Ex.mut e hn, fun e _ h => e _ _ h⟩
theorem fr_l {H : Hp} {l : Addr} {o : HO} (h : H l = some o) : Fr Ex (fun p => p ≠ l) H := fun H1 p e hn z => by
  rw [z, e _ _ h] at hn
  cases hn
theorem tb_grown {K : PySem.W.Frag} {Ps : List Addr} {l : Addr} {xs : List V} {H H' : Hp} {n : Nat} (g : Grown K l H n H') (hl : H l = some (.lst xs)) (h : Tb Ps H) : Tb Ps H' := fun P hP => g.b _ _ (fun z => by
  have k := h P hP
  rw [z, hl] at k
  cases k) (h P hP)
theorem ewr_var {K : PySem.W.Frag} {σ : L2.St} {H : Hp} {l : Addr} {i : Nat} {xs : List V} {ts : List Th} (hσ : σ[i]? = some (some (.ref l))) (hl : H l = some (.lst xs)) (hx : RpAll K H xs ts) : EvWR (Rp K) (iList K (tVar i)) σ H ts := fun H1 e R q =>
  ⟨.ref l, hσ, l, rfl, ⟨xs, sq_of (e _ _ hl)⟩, q _ H1 (Ex.refl H1) ⟨fun H3 => SqL K H3 l xs, YAt xs, by rw [← ra_len hx]; exact walk_list (xs := xs), fun H3 e3 => sq_of (e3 _ _ (e _ _ hl)), fun i H3 x H4 e3 y => by
    obtain ⟨rfl, hxi⟩ := y
    exact ⟨Ex.refl _, ra_get (ra_mono (e.trans e3) hx) hxi⟩⟩⟩
section
variable {G : Hp → Hp → Prop} {Ok : Addr → Prop} {K : PySem.W.Frag} (W : Way G Ok) {σ : L2.St} {H : Hp} {tl : TE} {g : TG} {tb tz : TS} {D : Ends} {Ps : List Th → Prop}
include W
theorem q_enumL (h : EvPL G Ok K tl σ H Ps) (k : ∀ m xs ts H1, G H H1 → Ok m → H1 m = some (.lst xs) → RpAll K H1 xs ts → Ps ts → tFor (fun _ H' R => R (Ite K m) H') g tb { D with nx := tz D } σ H1) : tSeq (tFor (iEnum K (tCons tl tNil)) g tb) tz D σ H := h H (W.refl H) _ fun m xs ts H1 g1 o hm hx hp => ⟨m, xs, rfl, sq_of hm, k m xs ts H1 g1 o hm hx hp⟩
theorem q_listL (h : EvPL G Ok K tl σ H Ps) (k : ∀ m xs ts H1, G H H1 → Ok m → H1 m = some (.lst xs) → RpAll K H1 xs ts → Ps ts → tFor (fun _ H' R => R (Itl K m) H') g tb { D with nx := tz D } σ H1) : tSeq (tFor (iList K tl) g tb) tz D σ H := h H (W.refl H) _ fun m xs ts H1 g1 o hm hx hp => ⟨m, rfl, ⟨xs, sq_of hm⟩, k m xs ts H1 g1 o hm hx hp⟩
end
section
variable {P : Program} {w : World} {K : PySem.W.Frag} {mg : Str → Option Value} {base : Heap} {Ps : List Addr}
theorem ok_law {f f1 f2 f3 f4 f5 f6 : Addr} {fd fd1 fd2 fd3 fd4 fd5 fd6 : FuncData} {j : Nat} {st5 : Stmt} (hj : 9 ≤ j) (T : Bi mg) (D : Df K mg "law" s_law ["_law_script"] f fd) (D_law_pool : Df K mg "_law_pool" s_law_pool ["_law_script", "_law_k"] f1 fd1) (D_law_take : Df K mg "_law_take" s_law_take ["_law_pool_here", "_law_many"] f2 fd2)
    (D_law_yard : Df K mg "_law_yard" s_law_yard ["_law_pool_here", "_law_most_frames", "_law_most_full", "_law_most_hands", "_law_most_strays", "_law_far"] f3 fd3) (D_law_bent : Df K mg "_law_bent" s_law_bent ["_law_pool_here", "_law_thing", "_law_deep"] f4 fd4)
    (G_law_pool : FnOk P w K mg base CX0 1 f1 fd1 ["_law_script", "_law_k"] (spPool K)) (G_law_take : FnOk P w K mg base CX0 1 f2 fd2 ["_law_pool_here", "_law_many"] spTake) (G_law_yard : FnOk P w K mg base CX0 3 f3 fd3 ["_law_pool_here", "_law_most_frames", "_law_most_full", "_law_most_hands", "_law_most_strays", "_law_far"] (spYard K)) (G_law_bent : FnOk P w K mg base CX0 9 f4 fd4 ["_law_pool_here", "_law_thing", "_law_deep"] (spBent K 6))
    (D_is_yard : Df K mg "is_yard" st5 ["thing"] f5 fd5) (G_is_yard : FnOk P w K mg base CX0 j f5 fd5 ["thing"] (spF K Ps (fn1 isYard)))
    (D_law_right : Df K mg "_law_right" s_law_right ["_law_thing"] f6 fd6) (G_law_right : FnOk P w K mg base CX0 (j + 4) f6 fd6 ["_law_thing"] (spRight K Ps)) : FnOk P w K mg base CX0 (j + 5) f fd ["_law_script"] (spLaw K Ps) := by
  refine D.F.ok sc_law (fun vs H Q E h => by obtain ⟨_, _, rfl, _⟩ := h; rfl) (fun cdv A outer s H vs Q E hr h => ?_)
  obtain ⟨a, ns, rfl, hS, h63, hT, q⟩ := h
  refine ⟨_, (pss_cons (ps_for PassesOwn.never rfl (pi_range1 rfl T.range (pa_cons (pe_callB (call_max2 rfl) (by rfl) T.max boot_max (pa_cons pe_int (pa_cons (pe_callB (call_min2 rfl) (by rfl) T.min boot_min (pa_cons (pe_callB (r := rLenS K) call_len_seq (by rfl) T.len PySem.boot_len (pa_cons (pv 0) pa_nil)) (pa_cons pe_int pa_nil))) pa_nil))) pa_nil)) (pg_name (i := 1) sc_law.nd rfl (.inl rfl)) (pss_cons (ps_set (i := 2) sc_law.nd rfl (.inr rfl) (pe_call G_law_pool (hr.mono (by omega)) (by rfl) D_law_pool.g D_law_pool.F.kp D_law_pool.b .nil pass0 (pa_cons (pv 0) (pa_cons (pv 1) pa_nil))))
      (pss_cons (ps_setLc (i := 3) (own := [("_law_turn", 12)]) (g := (gName 12)) rfl sc_law.nd rfl rfl (sw_true rfl rfl rfl (by decide +kernel)) (pi_range1 rfl T.range (pa_cons pe_int pa_nil)) (blkOk_by (N := ["_law_script", "_law_k", "_law_pool_here", "_law_spoils", "_law_yard_here", "_law_spoil", "_law_more", "_law_frame_here", "_law_plain", "_law_some", "_law_at", "_law_thing", "_law_turn"]) (sc := defScope s_law) (by decide +kernel)) (fun _ _ _ _ _ => (pg_name (i := 12) sc_law.nd rfl (.inl rfl))) (fun _ _ _ _ _ => pts_nil) (fun _ _ _ _ _ => (pe_call G_law_take (hr.mono (by omega)) (by rfl) D_law_take.g D_law_take.F.kp D_law_take.b .nil pass0 (pa_cons (pv 2) (pa_cons (pe_op op_pow pe_int pe_int) pa_nil)))))
      (pss_cons (ps_set (i := 4) sc_law.nd rfl (.inl rfl) (pe_call G_law_yard (hr.mono (by omega)) (by rfl) D_law_yard.g D_law_yard.F.kp D_law_yard.b .nil pass0 (pa_cons (pv 2) (pa_cons pe_int (pa_cons pe_int (pa_cons (pe_ix (r := rIxL K) ix_list (pe_lst (pa_cons pe_int (pa_cons pe_int pa_nil))) (pe_call G_law_take (hr.mono (by omega)) (by rfl) D_law_take.g D_law_take.F.kp D_law_take.b .nil pass0 (pa_cons (pv 2) (pa_cons pe_int pa_nil))) (fun _ _ => rfl)) (pa_cons (pe_ix (r := rIxL K) ix_list (pe_lst (pa_cons pe_int (pa_cons pe_int pa_nil))) (pe_call G_law_take (hr.mono (by omega)) (by rfl) D_law_take.g D_law_take.F.kp D_law_take.b .nil pass0 (pa_cons (pv 2) (pa_cons pe_int pa_nil))) (fun _ _ => rfl)) (pa_cons (pe_op op_pow pe_int pe_int) pa_nil))))))))
      (pss_cons (ps_if (PW.pt (pw_or (pt_cmpR (r := rNotB) op_notBl (pe_call G_is_yard (hr.mono (by omega)) (by rfl) D_is_yard.g D_is_yard.F.kp D_is_yard.b .nil pass0 (pa_cons (pv 4) pa_nil)) pe_bl (nomark _)) (pw_or1 (pt_not (pt_val (pe_call G_law_right (hr.mono (by omega)) (by rfl) D_law_right.g D_law_right.F.kp D_law_right.b .nil pass0 (pa_cons (pv 4) pa_nil))))))) (pss_one (ps_ret pe_bl)) pss_nil)
      (pss_one (ps_for PassesOwn.never rfl (pi_list (pv 3)) (pg_name (i := 5) sc_law.nd rfl (.inl rfl)) (pss_cons (ps_set (i := 6) sc_law.nd rfl (.inl rfl) (pe_op op_add (pe_op op_mod (pe_op op_mulW (pv 5) pe_int) pe_int) (pe_op op_mulW (pe_op op_pow pe_int pe_int) (pe_op op_add (pe_op op_mod (pe_op op_mulW (pv 5) pe_int) pe_int) pe_int))))
      (pss_one (ps_if (pt_not (pt_val (pe_call G_law_right (hr.mono (by omega)) (by rfl) D_law_right.g D_law_right.F.kp D_law_right.b .nil pass0 (pa_cons (pe_call G_law_bent (hr.mono (by omega)) (by rfl) D_law_bent.g D_law_bent.F.kp D_law_bent.b .nil pass0 (pa_cons (pe_lst (pa_cons (pv 6) pa_nil)) (pa_cons (pv 4) (pa_cons pe_int pa_nil)))) pa_nil)))) (pss_one (ps_ret pe_bl)) pss_nil))))))))))
      (pss_cons (ps_set (i := 7) sc_law.nd rfl (.inl rfl) (pe_tup (pa_cons pe_int (pa_cons pe_int (pa_cons pe_int (pa_cons pe_int (pa_cons pe_int (pa_cons (pe_tup pa_nil) pa_nil))))))))
      (pss_cons (ps_set (i := 8) sc_law.nd rfl (.inl rfl) (pe_tup (pa_cons (pe_tup (pa_cons (pv 7) pa_nil)) (pa_cons (pe_tup (pa_cons (pe_tup (pa_cons pe_int pa_nil)) pa_nil)) (pa_cons (pe_tup (pa_cons pe_int (pa_cons pe_int pa_nil))) (pa_cons pe_str (pa_cons (pe_tup pa_nil) (pa_cons (pe_tup pa_nil) pa_nil))))))))
      (pss_cons (ps_set (i := 9) sc_law.nd rfl (.inl rfl) (pe_lst (pa_cons pe_non (pa_cons pe_int (pa_cons pe_str (pa_cons pe_str (pa_cons (pe_tup pa_nil) (pa_cons (pe_lst pa_nil) (pa_cons pe_dnewK (pa_cons pe_bl (pa_cons (pe_callTy call_list_of (by rfl) T.list boot_list (pa_cons (pv 8) pa_nil)) (pa_cons (pe_slice sl_tupA (pv 8) po_none (po_some pe_int)) (pa_cons (pe_op op_catA (pv 8) (pe_tup (pa_cons (pe_tup pa_nil) pa_nil))) (pa_cons (pe_tup (pa_cons (pv 8) pa_nil)) (pa_cons (pe_revT (pv 8)) pa_nil)))))))))))))))
      (pss_cons (ps_for PassesOwn.never rfl (pi_enum (by rfl) T.enumerate (pa_cons (pe_lst (pa_cons (pe_lst (pa_cons (pv 7) pa_nil)) (pa_cons (pe_lst (pa_cons (pe_tup (pa_cons pe_int pa_nil)) pa_nil)) (pa_cons (pe_lst (pa_cons pe_int (pa_cons pe_int pa_nil))) (pa_cons (pe_lst (pa_cons pe_str pa_nil)) (pa_cons (pe_lst pa_nil) (pa_cons (pe_lst pa_nil) pa_nil))))))) pa_nil)) (pg_tup rfl (pgs_cons (pg_name (i := 10) sc_law.nd rfl (.inl rfl)) (pgs_cons (pg_name (i := 11) sc_law.nd rfl (.inl rfl)) pgs_nil))) (pss_one (ps_expr (pe_bm PySem.F.plainAttrs_list PySem.F.slot_list_append PySem.F.type_list_append mt_append (pv 9) (pa_cons (pe_op op_catA (pe_op op_catA (pe_slice sl_tupA (pv 8) po_none (po_some (pv 10))) (pe_tup (pa_cons (pv 11) pa_nil))) (pe_slice sl_tupA (pv 8) (po_some (pe_op op_add (pv 10) pe_int)) po_none)) pa_nil)))))
      (pss_cons (ps_for PassesOwn.never rfl (pi_list (pe_lst (pa_cons (pe_tup (pa_cons (pe_lst (pa_cons pe_int pa_nil)) pa_nil)) (pa_cons (pe_tup (pa_cons (pe_tup (pa_cons pe_int (pa_cons (pe_lst (pa_cons pe_int pa_nil)) pa_nil))) pa_nil)) (pa_cons (pe_tup (pa_cons (pe_tup (pa_cons pe_int (pa_cons (pe_tup (pa_cons pe_int pa_nil)) (pa_cons pe_int (pa_cons (pe_lst (pa_cons pe_non pa_nil)) pa_nil))))) pa_nil)) (pa_cons (pe_tup (pa_cons (pe_tup (pa_cons pe_int (pa_cons (pe_lst (pa_cons pe_int pa_nil)) (pa_cons pe_int (pa_cons pe_non pa_nil))))) pa_nil)) (pa_cons (pe_tup (pa_cons (pe_lst (pa_cons pe_int (pa_cons (pe_tup (pa_cons pe_int pa_nil)) (pa_cons pe_int (pa_cons pe_non pa_nil))))) pa_nil)) pa_nil))))))) (pg_name (i := 11) sc_law.nd rfl (.inl rfl)) (pss_one (ps_expr (pe_bm PySem.F.plainAttrs_list PySem.F.slot_list_append PySem.F.type_list_append mt_append (pv 9) (pa_cons (pe_op op_catA (pe_slice sl_tupA (pv 8) po_none (po_some pe_int)) (pe_tup (pa_cons (pv 11) (pa_cons (pe_tup pa_nil) pa_nil)))) pa_nil)))))
      (pss_one (ps_ret (pe_and (pe_callB (r := rAll K) (cr_all rfl) (by rfl) T.all boot_all (pa_cons (pe_lc (own := [("_law_thing", 11)]) (g := (gName 11)) rfl sc_law.nd (pi_list (pv 9)) (blkOk_by (N := ["_law_script", "_law_k", "_law_pool_here", "_law_spoils", "_law_yard_here", "_law_spoil", "_law_more", "_law_frame_here", "_law_plain", "_law_some", "_law_at", "_law_thing", "_law_turn"]) (sc := defScope s_law) (by decide +kernel)) (fun _ _ _ _ _ => (pg_name (i := 11) sc_law.nd rfl (.inl rfl))) (fun _ _ _ _ _ => pts_nil) (fun _ _ _ _ _ => (pe_call G_law_right (hr.mono (by omega)) (by rfl) D_law_right.g D_law_right.F.kp D_law_right.b .nil pass0 (pa_cons (pv 11) pa_nil)))) pa_nil)) (pe_one (pe_cmpR (r := rIsB) op_isBl (pe_call G_is_yard (hr.mono (by omega)) (by rfl) D_is_yard.g D_is_yard.F.kp D_is_yard.b .nil pass0 (pa_cons (pv 8) pa_nil)) pe_bl (nomark _)))))))))))), ?_⟩
  have hn : ∃ n : Int, (1 ≤ n ∧ n ≤ 12) ∧ ∀ {σ : L2.St} {H1 : Hp}, Ex H H1 → σ[0]? = some (some (.ref a)) → EvA (tCons (tCB (fun xs H Q => ∃ i j, xs = [V.int i, V.int j] ∧ Q (V.int (if j > i then j else i)) H) (tCons (tC (V.int 2)) (tCons (tCB (fun xs H Q => ∃ i j, xs = [V.int i, V.int j] ∧ Q (V.int (if j < i then j else i)) H) (tCons (tCB (rLenS K) (tCons (tVar 0) tNil)) (tCons (tC (V.int 12)) tNil))) tNil))) tNil) σ H1 [.int n] := by
    refine ⟨max 2 (min ((ns.map V.int).length : Int) 12), by omega, fun e h => ?_⟩
    refine ea_cons (ev_int (K := K) (ed_cbt (eda_cons ed_ci (eda_cons (ed_cbt (eda_cons (ed_int (ev_len (ev_var h) (ex_l e hS))) (eda_cons ed_ci eda_nil)) rdc_min2) eda_nil)) rdc_max2)) ea_nil
  obtain ⟨n, hn1, hn2⟩ := hn
  refine q_forR1 (hn2 (Ex.refl H) rfl) ⟨by omega, by omega⟩ (fun i σ' H' => Ex H H' ∧ ∃ y1 y2 y3 y4 y5 y6 y7 y8 y9 y10 y11 y12 : Option V, σ' = [some (.ref a), y1, y2, y3, y4, y5, y6, y7, y8, y9, y10, y11, y12]) (fun H3 e3 => ⟨e3, _, _, _, _, _, _, _, _, _, _, _, _, rfl⟩) (fun i σ' H' hi p => ?_) (fun σ' H' p => ?_)
  · obtain ⟨ex, y1, y2, y3, y4, y5, y6, y7, y8, y9, y10, y11, y12, rfl⟩ := p
    -- the pool
    refine ⟨.ref a, rfl, .int (i : Int), rfl, a, ns, (i : Int), rfl, ex_l ex hS, ⟨by omega, by omega⟩, fun p H3 n3 e3 hp h3 _ => ?_⟩
    dsimp only [gName]
    have hp3 : PoolAt H3 p := ⟨n3, h3⟩
    have W := way_pool p
    have hT3 : Tb Ps H3 := hT.ex (ex.trans e3)
    -- what is to be spoilt
    refine q_asgPL (K := K) W (pl_lc W (as := List.range 8) (Pe := fun _ t => ∃ r : Int, t = .int r ∧ 0 ≤ r ∧ r < 10 ^ 9) (fr_pool hp3) (wg_rng (K := K) W (n := 8) (by decide) (p_ci W rfl)) (by rw [List.length_range]; decide) fun k d x H4 g4 hd hx => ⟨_, tg_name, rfl, p_take (m := 10 ^ 9) rfl (g4.p hp3) ⟨by decide, by decide⟩ (p_op W (P := fun x => x = .int 10) (P' := fun y => y = .int 9) (p_ci W rfl) (p_ci W rfl) (fun x y hx hy => by rw [hx, hy]; exact rp_I ⟨by decide, by decide, by decide⟩ rfl))⟩) fun l xs ts H4 g4 ol hl hx4 hts => ?_
    have hts8 : ts.length = 8 := by rw [hts.1, List.length_range]
    have hp4 := g4.p hp3
    -- the yard
    have pk : ∀ {σ : L2.St} {H' : Hp}, σ[2]? = some (some (.ref p)) → PoolAt H' p → EvP (GP p) K (tOp (rIxL K) (tLst (tCons (tC (.int 3)) (tCons (tC (.int 16)) tNil))) (tCall spTake [] E0 (tCons (tVar 2) (tCons (tC (.int 2)) tNil)))) σ H' (fun t => ∃ i : Int, t = .int i ∧ 0 ≤ i ∧ i ≤ 16) := fun hs hp => p_pick (k := 2) hs hp (by decide) (pl_lst W (fr_pool hp) (addP W 1 (p_ci W ⟨3, rfl, by decide, by decide⟩) (addP W 0 (p_ci W ⟨16, rfl, by decide, by decide⟩) (nilP W))) (fun ts h => by rw [h.1]; decide)) (p_ci W rfl)
    refine ⟨.ref p, rfl, ?_⟩
    refine pk rfl hp4 H4 (W.refl H4) _ fun v5 t5 H5 g5 hr5 ht5 => ?_
    obtain ⟨mh, rfl, mh0, mh1⟩ := ht5
    cases rp_int hr5
    refine pk rfl (g5.p hp4) H5 (W.refl H5) _ fun v6 t6 H6 g6 hr6 ht6 => ?_
    obtain ⟨ms, rfl, ms0, ms1⟩ := ht6
    cases rp_int hr6
    have g46 := W.trans g5 g6
    refine ⟨10, 30, rfl, rfl, ⟨by decide, by decide, by decide⟩, p, 4, 30, mh, ms, 10 ^ 30, rfl, by decide, by decide, ⟨mh0, mh1⟩, ⟨ms0, ms1⟩, by decide, g46.p hp4, fun v t H7 g7 hr7 hy => ?_⟩
    dsimp only [gName]
    have g47 := W.trans g46 g7
    have g37 := W.trans g4 g47
    have hT7 := tb_gp g37 hp3 hT3
    have hl7 : H7 l = some (.lst xs) := g47.b l _ ol hl
    have hx7 := ra_r g47.r hx4
    refine q_when (b := false) (et_is (et_or (a := false) (b := false) (et_test (ev_is (ev_op (ev_callF (F := fn1 isYard) (b := isYard t) (ea_cons (ev_var rfl) ea_nil) (.cons hr7 .nil) rfl hT7) ev_c rv_notB) (by rw [hy]; rfl))) fun _ => et_is (et_not (et_B (b := true) (fun H8 e8 Q8 q8 => ⟨v, rfl, t, .cons (rp_mono e8 hr7) .nil, tame_thin (yard_tame hy), hT7.ex e8, fun H9 e9 => q8 H9 e9⟩))) rfl) rfl) (fun h => nomatch h) (fun _ H8 e8 => ?_)
    have g38 := W.trans g37 (W.ex e8)
    have back : ∀ H', Ex H8 H' → Ex H H' := fun H'' e b o hb => e _ _ (g38.b b o (ne_of_none (ex b o hb) hp) (e3 _ _ (ex b o hb)))
    have hT8 := hT7.ex e8
    have hl8 := e8 _ _ hl7
    have hx8 := ra_mono e8 hx7
    have hr8 := rp_mono e8 hr7
    refine ⟨.ref l, rfl, l, rfl, ⟨xs, sq_of hl8⟩, ?_⟩
    refine for_it (walk_list (K := K) (a := l) (xs := xs)) (fun m σ' H' => Ex H8 H' ∧ ∃ y5 y6 : Option V, σ' = [some (.ref a), some (.int (i : Int)), some (.ref p), some (.ref l), some v, y5, y6, y7, y8, y9, y10, y11, y12]) ⟨Ex.refl H8, _, _, rfl⟩ (fun m σ' H' _ pp => sq_of (pp.1 _ _ hl8)) (fun m x σ' H9 H10 hm pp y => ?_) (fun σ' H' pp => ?_)
    · obtain ⟨e9, y5', y6', rfl⟩ := pp
      obtain ⟨rfl, hxi⟩ := y
      obtain ⟨d, hd, hxd⟩ := ra_get (ra_mono e9 hx8) hxi
      have hm8 : m < 8 := by
        rw [← hts8]
        exact (List.getElem?_eq_some_iff.mp hd).1
      obtain ⟨r, rfl, r0, r1⟩ := hts.2 m d m hd (List.getElem?_range hm8)
      cases rp_int hxd
      show tSeq _ _ _ _ H10
      refine q_asg (ev_op (ev_op (ev_op (ev_var rfl) ev_c (rv_I (mulW (by omega) (by show -(10 ^ 500) ≤ (48271 : Int) ∧ (48271 : Int) ≤ 10 ^ 500; decide +kernel)))) ev_c (rv_I (by decide))) (ev_op (ev_op ev_c ev_c (rv_I ⟨by decide, by decide, by decide⟩)) (ev_op (ev_op (ev_op (ev_var rfl) ev_c (rv_I (mulW (by omega) (by show -(10 ^ 500) ≤ (69621 : Int) ∧ (69621 : Int) ≤ 10 ^ 500; decide +kernel)))) ev_c (rv_I (by decide))) ev_c rv_I0) (rv_I ?_)) rv_I0) fun H11 e11 => ?_
      · have z1 := Int.emod_nonneg (r * 69621) (show (999999999961 : Int) ≠ 0 by decide)
        have z2 := Int.emod_lt_of_pos (r * 69621) (show (0 : Int) < 999999999961 by decide)
        exact mulW (by show -(10 ^ 500) ≤ (10 : Int) ^ 12 ∧ (10 : Int) ^ 12 ≤ 10 ^ 500; decide +kernel) (by show -(10 ^ 500) ≤ r * 69621 % 999999999961 + 1 ∧ r * 69621 % 999999999961 + 1 ≤ 10 ^ 500; omega)
      have e811 := e9.trans e11
      refine s_if (et_not (et_B (b := true) (fun H12 e12 Q12 q12 => ⟨_, rfl, by show 1 ≤ sizeLine; decide +kernel, fun p2 n2 => ?_⟩))) (fun hb H12 e12 => nomatch hb) (fun _ H12 e12 => ⟨e811.trans e12, _, _, rfl⟩)
      have e812 := e811.trans e12
      refine ⟨v, rfl, p2, v, t, rfl, ⟨_, upd_same⟩, rp_mono (e812.trans (Ex.new n2)) hr8, yard_tame hy, fun v' t' H13 g13 hr13 hth => ?_⟩
      have e13 : Ex H12 H13 := fun b o hb => g13.b b o (ne_of_none hb n2) (Ex.new n2 _ _ hb)
      exact ⟨t', .cons hr13 .nil, hth, hT8.ex (e812.trans e13), fun H14 e14 => q12 H14 (e13.trans e14)⟩
    · obtain ⟨e9, y5', y6', rfl⟩ := pp
      exact ⟨back H' e9, _, _, _, _, _, _, _, _, _, _, _, _, rfl⟩
  · obtain ⟨ex, y1, y2, y3, y4, y5, y6, y7, y8, y9, y10, y11, y12, rfl⟩ := p
    have hT0 := hT.ex ex
    have W := way_ex
    refine q_asgP (K := K) W (P := fun t => t = fT) (x_tup W (x_cons W (p_ci W rfl) (x_cons W (p_ci W rfl) (x_cons W (p_ci W rfl) (x_cons W (p_ci W rfl) (x_cons W (p_ci W rfl) (x_cons W (x_tup W (x_nil W) (by decide)) (x_nil W))))))) (by decide)) fun v7 t7 H1 e1 hr1 ht1 => ?_
    subst ht1
    refine q_asgP (K := K) W (P := fun t => t = .tup plTs) (x_tup W (x_cons W (x_tup W (x_cons W (p_var W rfl hr1 rfl) (x_nil W)) (by decide)) (x_cons W (x_tup W (x_cons W (x_tup W (x_cons W (p_ci W rfl) (x_nil W)) (by decide)) (x_nil W)) (by decide)) (x_cons W (x_tup W (x_cons W (p_ci W rfl) (x_cons W (p_ci W rfl) (x_nil W))) (by decide)) (x_cons W (p_cs W rfl) (x_cons W (x_tup W (x_nil W) (by decide)) (x_cons W (x_tup W (x_nil W) (by decide)) (x_nil W))))))) (by decide)) fun v8 t8 H2 e2 hr2 ht2 => ?_
    subst ht2
    have hr12 := rp_mono e2 hr1
    have e02 : Ex H' H2 := e1.trans e2
    have nilT : ∀ {σ : L2.St} {H3 : Hp}, EvP Ex K (tTup tNil) σ H3 ThinP := t_tup W (k := 0) (nilP W) (by decide)
    have nilL : ∀ {σ : L2.St} {H3 : Hp}, EvP Ex K (tLst tNil) σ H3 ThinP := t_lst W (k := 0) (nilP W) (by decide)
    have plain : ∀ {σ : L2.St} {H3 : Hp}, σ[8]? = some (some v8) → Rp K H3 v8 (.tup plTs) → EvP Ex K (tVar 8) σ H3 (fun t => t = .tup plTs) := fun hs hr => p_var W hs hr rfl
    have cut : ∀ {σ : L2.St} {H3 : Hp} {tl th : TO} {lo hi : Option Int}, σ[8]? = some (some v8) → Rp K H3 v8 (.tup plTs) → (∀ H1, Ex H3 H1 → ∀ Q : Option Int → Hp → Prop, (∀ H2, Ex H1 H2 → Q lo H2) → tl σ H1 Q) → (∀ H1, Ex H3 H1 → ∀ Q : Option Int → Hp → Prop, (∀ H2, Ex H1 H2 → Q hi H2) → th σ H1 Q) → EvP Ex K (tSl (rSlA K) (tVar 8) tl th) σ H3 (tupT 400) := fun hs hr h1 h2 => p_cutT W hs hr (by decide) pl_thin h1 h2
    have plT : thin (.tup plTs) = true := by decide +kernel
    have fth : ThinP fT := (by decide +kernel : thin fT = true)
    have rth : ThinP (.tup plTs.reverse) := (by decide +kernel : thin (.tup plTs.reverse) = true)
    -- some
    refine q_asgPL (K := K) W (Ps := fun ts => ts.length = 13 ∧ ∀ t ∈ ts, ThinP t) (pl_lst W (fun _ _ _ _ => trivial)
      (addP W (Pt := ThinP) 12 (p_cn W rfl) (addP W 11 (p_ci W rfl) (addP W 10 (p_cs W rfl) (addP W 9 (p_cs W rfl) (addP W 8 nilT (addP W 7 nilL (addP W 6 (p_dict W rfl) (addP W 5 (p_cb W rfl)
      (addP W 4 (p_lstT W (p_imp W (plain rfl hr2) (fun t h => ⟨_, h⟩)) rfl)
      (addP W 3 (p_imp W (cut rfl hr2 po_none' (po_cut fun H => ev_c)) (fun t h => tupT_thin (by decide) h))
      (addP W 2 (p_imp W (p_op W (P := tupT 400) (P' := tupT 1) (P'' := tupT 401) (p_imp W (plain rfl hr2) (fun t h => ⟨plTs, h, by decide, pl_thin⟩)) (p_imp W (x_tup W (x_cons W (x_tup W (x_nil W) (by decide)) (x_nil W)) (by decide)) (fun t h => ⟨_, h, by decide, fun z hz => by rw [List.mem_singleton.mp hz]; rfl⟩)) (fun x y hx hy => cat_thin (by decide) (by decide) hx hy)) (fun t h => tupT_thin (by decide) h))
      (addP W 1 (t_tup W (k := 1) (addP W 0 (p_imp W (plain rfl hr2) (fun t h => by rw [h]; exact plT)) (nilP W)) (by decide))
      (addP W 0 (p_rev W (p_var W rfl hr2 ⟨plTs, rfl, rth⟩)) (nilP W)))))))))))))) (fun ts h => by rw [h.1]; decide)) fun l xs ts H3 e3 _ hl hx hts => ?_
    have hr3 := rp_mono e3 hr2
    have hf3 := rp_mono e3 hr12
    have hT3 : Tb Ps H3 := hT0.ex (e02.trans e3)
    -- lists for tuples
    have Wl := way_l l
    refine q_enumL Wl (pl_lst (K := K) Wl (Ps := fun ts => ts.length = 6 ∧ ∀ t ∈ ts, ThinP t) (fr_l hl)
      (addP Wl (Pt := ThinP) 5 (t_lst Wl (k := 1) (addP Wl 0 (p_var (i := 7) Wl rfl hf3 fth) (nilP Wl)) (by decide))
      (addP Wl 4 (t_lst Wl (k := 1) (addP Wl 0 (t_tup Wl (k := 1) (addP Wl 0 (p_ci Wl rfl) (nilP Wl)) (by decide)) (nilP Wl)) (by decide))
      (addP Wl 3 (t_lst Wl (k := 2) (addP Wl 1 (p_ci Wl rfl) (addP Wl 0 (p_ci Wl rfl) (nilP Wl))) (by decide))
      (addP Wl 2 (t_lst Wl (k := 1) (addP Wl 0 (p_cs Wl rfl) (nilP Wl)) (by decide))
      (addP Wl 1 (t_lst Wl (k := 0) (nilP Wl) (by decide)) (addP Wl 0 (t_lst Wl (k := 0) (nilP Wl) (by decide)) (nilP Wl))))))) (fun ts h => by rw [h.1]; decide)) fun m xs6 ts6 H4 e4 om hm hx6 hts6 => ?_
    have hl4 := e4 _ _ hl
    have hr4 := rp_mono e4 hr3
    have hT4 := hT3.ex e4
    have g4 : Grown K l H4 13 H4 := ⟨exr_of (Ex.refl H4), fun _ _ _ h => h, xs, ts, hl4, ra_mono e4 hx, hts.1, hts.2⟩
    refine for_it (walk_enum (K := K) (a := m) (xs := xs6)) (fun i σ' H' => Grown K l H4 (13 + i) H' ∧ ∃ y10 y11 : Option V, σ' = [some (.ref a), y1, y2, y3, y4, y5, y6, some v7, some v8, some (.ref l), y10, y11, y12]) ⟨g4, _, _, rfl⟩ (fun i σ' H' _ pp => sq_of (pp.1.b _ _ om hm)) (fun i x σ' H5 H6 hi pp y => ?_) (fun σ' H5 pp => ?_)
    · obtain ⟨g5, y10', y11', rfl⟩ := pp
      obtain ⟨T', x1, x2, rfl, hn', rfl, ei, ex2⟩ := y
      cases ei
      have e56 := Ex.new (o := .tup [.int (i : Nat), x2]) hn'
      have hl6 : xs6.length = 6 := by rw [ra_len hx6]; exact hts6.1
      obtain ⟨d, hd, hxd⟩ := ra_get (ra_r g5.r hx6) ex2
      have hdt : thin d = true := hts6.2 d (List.mem_of_getElem? hd)
      refine ⟨T', _, rfl, st_of upd_same, rfl, _, _, rfl, _, _, rfl, rfl, ?_⟩
      dsimp only [gName]
      have g6 : Grown K l H4 (13 + i) (upd H5 T' (.tup [.int (i : Nat), x2])) := by
        obtain ⟨xs', ts', q1, q2, q3, q4⟩ := g5.l
        exact ⟨g5.r.trans (exr_of e56), fun b o nb hb => e56 _ _ (g5.b b o nb hb), xs', ts', e56 _ _ q1, ra_mono e56 q2, q3, q4⟩
      have hr6 := rp_r g6.r hr4
      have hx6' := rp_mono e56 hxd
      refine app_step (jl := 9) rfl g6 (by omega) (p_imp W (p_op W (P'' := tupT 801) (p_op W (P'' := tupT 401) (cut rfl hr6 po_none' (po_cut fun H => ev_var rfl)) (p_imp W (x_tup W (x_cons W (p_var W rfl hx6' rfl) (x_nil W)) (by show 1 ≤ 100000; decide)) (fun t h => ⟨[d], h, by show 1 ≤ 1; decide, fun z hz => by rw [List.mem_singleton.mp hz]; exact hdt⟩)) (fun x y hx hy => cat_thin (b := 1) (by decide) (by decide) hx hy)) (cut rfl hr6 (po_cut fun H => ev_op (ev_var rfl) ev_c rv_I0) po_none') (fun x y hx hy => cat_thin (by decide) (by decide) hx hy)) (fun t h => tupT_thin (by decide) h)) fun H7 g7 => ⟨g7, _, _, rfl⟩
    obtain ⟨g5, y10', y11', rfl⟩ := pp
    obtain ⟨xsa, tsa, hla, hxa, hna, hta⟩ := g5.l
    have hr5 := rp_r g5.r hr4
    have hT5 := tb_grown g5 hl4 hT4
    have hl6 : xs6.length = 6 := by rw [ra_len hx6]; exact hts6.1
    refine q_listL Wl (pl_lst (K := K) Wl (Ps := fun ts => ts.length = 5 ∧ ∀ t ∈ ts, ThinP t) (fr_l hla) (addP Wl (Pt := ThinP) 4 (t_tup Wl (k := 1) (addP Wl 0 (t_lst Wl (k := 1) (addP Wl 0 (p_ci Wl rfl) (nilP Wl)) (by decide)) (nilP Wl)) (by decide)) (addP Wl 3 (t_tup Wl (k := 1) (addP Wl 0 (t_tup Wl (k := 2) (addP Wl 1 (p_ci Wl rfl) (addP Wl 0 (t_lst Wl (k := 1) (addP Wl 0 (p_ci Wl rfl) (nilP Wl)) (by decide)) (nilP Wl))) (by decide)) (nilP Wl)) (by decide)) (addP Wl 2 (t_tup Wl (k := 1) (addP Wl 0 (t_tup Wl (k := 4) (addP Wl 3 (p_ci Wl rfl) (addP Wl 2 (t_tup Wl (k := 1) (addP Wl 0 (p_ci Wl rfl) (nilP Wl)) (by decide)) (addP Wl 1 (p_ci Wl rfl) (addP Wl 0 (t_lst Wl (k := 1) (addP Wl 0 (p_cn Wl rfl) (nilP Wl)) (by decide)) (nilP Wl))))) (by decide)) (nilP Wl)) (by decide)) (addP Wl 1 (t_tup Wl (k := 1) (addP Wl 0 (t_tup Wl (k := 4) (addP Wl 3 (p_ci Wl rfl) (addP Wl 2 (t_lst Wl (k := 1) (addP Wl 0 (p_ci Wl rfl) (nilP Wl)) (by decide)) (addP Wl 1 (p_ci Wl rfl) (addP Wl 0 (p_cn Wl rfl) (nilP Wl))))) (by decide)) (nilP Wl)) (by decide)) (addP Wl 0 (t_tup Wl (k := 1) (addP Wl 0 (t_lst Wl (k := 4) (addP Wl 3 (p_ci Wl rfl) (addP Wl 2 (t_tup Wl (k := 1) (addP Wl 0 (p_ci Wl rfl) (nilP Wl)) (by decide)) (addP Wl 1 (p_ci Wl rfl) (addP Wl 0 (p_cn Wl rfl) (nilP Wl))))) (by decide)) (nilP Wl)) (by decide)) (nilP Wl)))))) (fun ts h => by rw [h.1]; decide)) fun m2 xs2 ts2 H6 e6 om2 hm2 hx2 hts2 => ?_
    have hla6 := e6 _ _ hla
    have hr6 := rp_mono e6 hr5
    have hT6 := hT5.ex e6
    have g6 : Grown K l H6 (13 + xs6.length) H6 := ⟨exr_of (Ex.refl H6), fun _ _ _ h => h, xsa, tsa, hla6, ra_mono e6 hxa, hna, hta⟩
    have hl2 : xs2.length = 5 := by rw [ra_len hx2]; exact hts2.1
    refine for_it (walk_list (K := K) (a := m2) (xs := xs2)) (fun i σ' H' => Grown K l H6 (13 + xs6.length + i) H' ∧ ∃ y11 : Option V, σ' = [some (.ref a), y1, y2, y3, y4, y5, y6, some v7, some v8, some (.ref l), y10', y11, y12]) ⟨g6, _, rfl⟩ (fun i σ' H' _ pp => sq_of (pp.1.b _ _ om2 hm2)) (fun i x σ' H7 H8 hi pp y => ?_) (fun σ' H7 pp => ?_)
    · obtain ⟨g7, y11'', rfl⟩ := pp
      obtain ⟨rfl, hxi⟩ := y
      obtain ⟨d, hd, hxd⟩ := ra_get (ra_r g7.r hx2) hxi
      have hdt : thin d = true := hts2.2 d (List.mem_of_getElem? hd)
      have hr7 := rp_r g7.r hr6
      show tDrop _ _ _ H8
      refine app_step (jl := 9) rfl g7 (by omega) (p_imp W (p_op W (P'' := tupT 402) (cut rfl hr7 po_none' (po_cut fun H => ev_c)) (p_imp W (x_tup W (x_cons W (p_var W rfl hxd rfl) (x_cons W (x_tup W (x_nil W) (by decide)) (x_nil W))) (by show 2 ≤ 100000; decide)) (fun t h => ⟨[d, .tup []], h, by show 2 ≤ 2; decide, fun z hz => by
        rcases List.mem_cons.mp hz with e | hz
        · rw [e]
          exact hdt
        · rw [List.mem_singleton.mp hz]
          rfl⟩)) (fun x y hx hy => cat_thin (b := 2) (by decide) (by decide) hx hy)) (fun t h => tupT_thin (by decide) h)) fun H9 g9 => ⟨g9, _, rfl⟩
    obtain ⟨g7, y11'', rfl⟩ := pp
    obtain ⟨xsb, tsb, hlb, hxb, hnb, htb⟩ := g7.l
    have hr7 := rp_r g7.r hr6
    have hT7 := tb_grown g7 hla6 hT6
    have z := ev_allL (K := K) (g := gName 11) (vs := [11]) (σ := [some (.ref a), y1, y2, y3, y4, y5, y6, some v7, some v8, some (.ref l), y10', y11'', y12]) (te := tCall (spRight K Ps) [] E0 (tCons (tVar 11) tNil)) (fun _ => true) (ewr_var (i := 9) rfl hlb hxb) (by rw [hnb]; omega) fun i d x H8 e8 hd hx8 => ⟨_, tg_name, rfl, fun H9 e9 Q9 q9 => ⟨x, rfl, d, .cons (rp_mono e9 hx8) .nil, htb d (List.mem_of_getElem? hd), hT7.ex (e8.trans e9), fun H10 e10 => q9 H10 e10⟩⟩
    rw [List.all_eq_true.mpr (fun _ _ => rfl)] at z
    exact sr_ret (ev_is (ev_andV (a := true) (b := true) z fun _ => ev_is (ev_op (ev_callF (F := fn1 isYard) (b := isYard (.tup plTs)) (ea_cons (ev_var rfl) ea_nil) (.cons hr7 .nil) rfl hT7) ev_c rv_isB) (by rw [pl_yard]; rfl)) rfl) fun H8 e8 => q H8 (hT7.ex e8)
end
end K01

set_option Elab.async false
set_option linter.all false
set_option maxRecDepth 100000
set_option maxHeartbeats 4000000
namespace K01.Y
open PySem PySem.Spec PyProof.Rows L2 Evl DL GX YA EX TH TV YT DS
abbrev s_is_whole : Stmt := topS 2
theorem sc_is_whole : FnScope ["thing"] ["thing"] (defScope s_is_whole) := ⟨rfl, rfl, rfl, by decide +kernel, rfl, by decide +kernel, by decide +kernel⟩
abbrev s_is_within : Stmt := topS 3
theorem sc_is_within : FnScope ["thing", "low", "high"] ["thing", "low", "high"] (defScope s_is_within) := ⟨rfl, rfl, rfl, by decide +kernel, rfl, by decide +kernel, by decide +kernel⟩
abbrev s_is_tuple_of : Stmt := topS 4
theorem sc_is_tuple_of : FnScope ["thing", "least", "most"] ["thing", "least", "most"] (defScope s_is_tuple_of) := ⟨rfl, rfl, rfl, by decide +kernel, rfl, by decide +kernel, by decide +kernel⟩
abbrev s_is_rising : Stmt := topS 5
theorem sc_is_rising : FnScope ["parts", "at"] ["parts"] (defScope s_is_rising) := ⟨rfl, rfl, rfl, by decide +kernel, rfl, by decide +kernel, by decide +kernel⟩
abbrev s_is_row : Stmt := topS 14
theorem sc_is_row : FnScope ["thing", "full", "threads"] ["thing", "full", "threads"] (defScope s_is_row) := ⟨rfl, rfl, rfl, by decide +kernel, rfl, by decide +kernel, by decide +kernel⟩
abbrev s_is_walk : Stmt := topS 16
theorem sc_is_walk : FnScope ["thing", "at", "many", "part"] ["thing", "at", "many"] (defScope s_is_walk) := ⟨rfl, rfl, rfl, by decide +kernel, rfl, by decide +kernel, by decide +kernel⟩
abbrev s_are_walks : Stmt := topS 15
theorem sc_are_walks : FnScope ["thing", "many", "at", "part"] ["thing", "many"] (defScope s_are_walks) := ⟨rfl, rfl, rfl, by decide +kernel, rfl, by decide +kernel, by decide +kernel⟩
abbrev s_are_pieces : Stmt := topS 17
theorem sc_are_pieces : FnScope ["thing", "part"] ["thing"] (defScope s_are_pieces) := ⟨rfl, rfl, rfl, by decide +kernel, rfl, by decide +kernel, by decide +kernel⟩
abbrev s_is_rule : Stmt := topS 18
theorem sc_is_rule : FnScope ["thing"] ["thing"] (defScope s_is_rule) := ⟨rfl, rfl, rfl, by decide +kernel, rfl, by decide +kernel, by decide +kernel⟩
structure DfC (K : PySem.W.Frag) (mg : Str → Option Value) (x : Str) (st : Stmt) (ps : List Str) (f : Addr) (fd : FuncData) (c : Addr) : Prop where
  C : FunC K x x st f fd c
  b : Binds K fd ps []
  g : mg x = some (.ref f)
section
variable {K : PySem.W.Frag} {mg : Str → Option Value} {x : Str} {st : Stmt} {ps : List Str} {f : Addr} {fd : FuncData} {c : Addr}
theorem DfC.F (D : DfC K mg x st ps f fd c) : Fun K x x st f fd := D.C.fn
theorem DfC.d (D : DfC K mg x st ps f fd c) : Df K mg x st ps f fd := ⟨D.F, D.b, D.g⟩
end
/-- a def that keeps its promise; a def; one with a table -/
def Pr (P : Program) (w : World) (K : PySem.W.Frag) (mg : Str → Option Value) (base : Heap) (k : Nat) (x : Str) (st : Stmt) (ps : List Str) (sp : Sp) : Prop := ∃ f fd, Df K mg x st ps f fd ∧ FnOk P w K mg base CX0 k f fd ps sp
def Dn (K : PySem.W.Frag) (mg : Str → Option Value) (x : Str) (st : Stmt) (ps : List Str) : Prop := ∃ f fd, Df K mg x st ps f fd
def Dt (K : PySem.W.Frag) (mg : Str → Option Value) (base : Heap) (Ps : List Addr) (x : Str) (st : Stmt) (ps : List Str) : Prop := ∃ f fd c PT, DfC K mg x st ps f fd c ∧ GxR.TabB base mg c PT ∧ PT ∈ Ps
def fWalk : List Th → Option Bool
  | [t, .int a, .int m] => if 0 ≤ a ∧ a < m then some (isWalk t a m) else none
  | _ => none
theorem fWalk_is {ts : List Th} {b : Bool} (h : fWalk ts = some b) : ∃ t a m, ts = [t, .int a, .int m] ∧ (0 ≤ a ∧ a < m) ∧ b = isWalk t a m := by
  unfold fWalk at h
  split at h
  · split at h
    · rename_i hc
      exact ⟨_, _, _, rfl, hc, (Option.some.inj h).symm⟩
    · cases h
  · cases h
theorem dec_eq {i j : Int} : decide (V.int i = V.int j) = decide (i = j) := by
  by_cases h : i = j
  · subst h
    simp
  · rw [decide_eq_false h, decide_eq_false fun q => h (V.int.inj q)]
section
variable {P : Program} {w : World} {K : PySem.W.Frag} {mg : Str → Option Value} {base : Heap} {Ps : List Addr}
theorem pr_whole (T : Bi mg) (D : Dn K mg "is_whole" s_is_whole ["thing"]) : Pr P w K mg base 1 "is_whole" s_is_whole ["thing"] (spF K Ps (fn1 isWhole)) := by
  obtain ⟨f, fd, D⟩ := D
  refine ⟨f, fd, D, D.F.ok sc_is_whole (len_spF fun ts b h => by obtain ⟨_, rfl, _⟩ := fn1_is h; rfl) (fun cdv A outer s H vs Q E hr h => ?_)⟩
  obtain ⟨ts, b, hv, hF, hT, q⟩ := h
  obtain ⟨t, rfl, rfl⟩ := fn1_is hF
  obtain ⟨v, rfl, hr1⟩ := ra1 hv
  refine ⟨_, (pss_one (ps_ret (pe_and (pe_callB (r := rIsi K) call_isi (by rfl) T.isinstance boot_isinstance (pa_cons (pv 0) (pa_cons (pe_bltn (by rfl) T.int boot_int (v := .ty "int") rfl) pa_nil))) (pe_one (pe_not (pe_callB (r := rIsi K) call_isi (by rfl) T.isinstance boot_isinstance (pa_cons (pv 0) (pa_cons (pe_bltn (by rfl) T.bool boot_bool (v := .ty "bool") rfl) pa_nil)))))))), ?_⟩
  refine sr_ret (ev_andV (ev_isi (ev_var rfl) hr1 (by decide)) fun _ => ev_notV (ev_isi (ev_var rfl) hr1 (by decide))) fun H1 e1 => ?_
  rw [whole_in]
  exact q H1 e1
theorem pr_within (T : Bi mg) (D : Dn K mg "is_within" s_is_within ["thing", "low", "high"]) (g1 : Pr P w K mg base 1 "is_whole" s_is_whole ["thing"] (spF K Ps (fn1 isWhole))) : Pr P w K mg base 2 "is_within" s_is_within ["thing", "low", "high"] (spF K Ps (fn3 isWithin)) := by
  obtain ⟨f, fd, D⟩ := D
  obtain ⟨f1, fd1, D_is_whole, G_is_whole⟩ := g1
  refine ⟨f, fd, D, D.F.ok sc_is_within (len_spF fun ts b h => by obtain ⟨_, _, _, rfl, _⟩ := fn3_is h; rfl) (fun cdv A outer s H vs Q E hr h => ?_)⟩
  obtain ⟨ts, b, hv, hF, hT, q⟩ := h
  obtain ⟨t, lo, hi, rfl, rfl⟩ := fn3_is hF
  obtain ⟨v, v2, v3, rfl, hr1, hr2, hr3⟩ := ra3 hv
  cases rp_int hr2
  cases rp_int hr3
  refine ⟨_, (pss_one (ps_ret (pe_and (pe_call G_is_whole (hr.mono (by omega)) (by rfl) D_is_whole.g D_is_whole.F.kp D_is_whole.b .nil pass0 (pa_cons (pv 0) pa_nil)) (pe_one (pe_chain op_le op_le (pv 1) (pv 0) (pv 2)))))), ?_⟩
  refine sr_ret (ev_andV (b := decide (lo ≤ asInt t) && decide (asInt t ≤ hi)) (ev_callF (F := fn1 isWhole) (ea_cons (ev_var rfl) ea_nil) (.cons hr1 .nil) rfl hT) fun hw => ?_) q
  obtain ⟨i, rfl⟩ := int_of hw
  cases rp_int hr1
  exact ev_chain (ev_var rfl) (ev_var rfl) (ev_var rfl) rv_I0 rv_I0
theorem pr_tuple_of (T : Bi mg) (D : Dn K mg "is_tuple_of" s_is_tuple_of ["thing", "least", "most"]) : Pr P w K mg base 1 "is_tuple_of" s_is_tuple_of ["thing", "least", "most"] (spF K Ps (fn3 isTupleOf)) := by
  obtain ⟨f, fd, D⟩ := D
  refine ⟨f, fd, D, D.F.ok sc_is_tuple_of (len_spF fun ts b h => by obtain ⟨_, _, _, rfl, _⟩ := fn3_is h; rfl) (fun cdv A outer s H vs Q E hr h => ?_)⟩
  obtain ⟨ts, b, hv, hF, hT, q⟩ := h
  obtain ⟨t, lo, hi, rfl, rfl⟩ := fn3_is hF
  obtain ⟨v, v2, v3, rfl, hr1, hr2, hr3⟩ := ra3 hv
  cases rp_int hr2
  cases rp_int hr3
  refine ⟨_, (pss_one (ps_ret (pe_and (pe_callB (r := rIsi K) call_isi (by rfl) T.isinstance boot_isinstance (pa_cons (pv 0) (pa_cons (pe_bltn (by rfl) T.tuple boot_tuple (v := .ty "tuple") rfl) pa_nil))) (pe_one (pe_chain op_le op_le (pv 1) (pe_callB (r := rLenS K) call_len_seq (by rfl) T.len PySem.boot_len (pa_cons (pv 0) pa_nil)) (pv 2)))))), ?_⟩
  refine sr_ret (ev_andV (b := decide (lo ≤ ((parts t).length : Int)) && decide (((parts t).length : Int) ≤ hi)) (ev_isi (ev_var rfl) hr1 (by decide)) fun hw => ?_) q
  obtain ⟨us, rfl⟩ := tup_of hw
  exact ev_chain (ev_var rfl) (ev_lenR (ev_var rfl) hr1) (ev_var rfl) rv_I0 rv_I0
theorem ev_tup {σ : L2.St} {H : Hp} {ta tb tc : TE} {E : XK} {v : V} {t : Th} {lo hi : Int} (h : Ev ta σ H v) (hr : Rp K H v t) (hl : Ev tb σ H (.int lo)) (hh : Ev tc σ H (.int hi)) (hT : Tb Ps H) : Ev (tCall (spF K Ps (fn3 isTupleOf)) [] E (tCons ta (tCons tb (tCons tc tNil)))) σ H (.bl (isTupleOf t lo hi)) :=
  ev_callF (F := fn3 isTupleOf) (ea_cons h (ea_cons hl (ea_cons hh ea_nil))) (.cons hr (.cons (.int lo) (.cons (.int hi) .nil))) rfl hT
theorem ev_win {σ : L2.St} {H : Hp} {ta tb tc : TE} {E : XK} {v : V} {t : Th} {lo hi : Int} (h : Ev ta σ H v) (hr : Rp K H v t) (hl : Ev tb σ H (.int lo)) (hh : Ev tc σ H (.int hi)) (hT : Tb Ps H) : Ev (tCall (spF K Ps (fn3 isWithin)) [] E (tCons ta (tCons tb (tCons tc tNil)))) σ H (.bl (isWithin t lo hi)) :=
  ev_callF (F := fn3 isWithin) (ea_cons h (ea_cons hl (ea_cons hh ea_nil))) (.cons hr (.cons (.int lo) (.cons (.int hi) .nil))) rfl hT
theorem pr_pieces (T : Bi mg) (D : Dt K mg base Ps "are_pieces" s_are_pieces ["thing"]) (g1 : Pr P w K mg base 1 "is_tuple_of" s_is_tuple_of ["thing", "least", "most"] (spF K Ps (fn3 isTupleOf))) (g2 : Pr P w K mg base 2 "is_within" s_is_within ["thing", "low", "high"] (spF K Ps (fn3 isWithin))) :
    Pr P w K mg base 4 "are_pieces" s_are_pieces ["thing"] (spF K Ps (fn1 isPieces)) := by
  obtain ⟨f, fd, c, PT, D, TB_are_pieces, hPT⟩ := D
  obtain ⟨f1, fd1, D_is_tuple_of, G_is_tuple_of⟩ := g1
  obtain ⟨f2, fd2, D_is_within, G_is_within⟩ := g2
  refine ⟨f, fd, D.d, D.C.ok sc_are_pieces (len_spF fun ts b h => by obtain ⟨_, rfl, _⟩ := fn1_is h; rfl) (fun A outer s H vs Q E hr h => ?_)⟩
  obtain ⟨ts, b, hv, hF, hT, q⟩ := h
  obtain ⟨t, rfl, rfl⟩ := fn1_is hF
  obtain ⟨v, rfl, hr1⟩ := ra1 hv
  refine ⟨_, (pss_one (ps_ret (pe_and (pe_call G_is_tuple_of (hr.mono (by omega)) (by rfl) D_is_tuple_of.g D_is_tuple_of.F.kp D_is_tuple_of.b .nil pass0 (pa_cons (pv 0) (pa_cons pe_int (pa_cons pe_int pa_nil)))) (pe_one (pe_allG (k := 2) (own := [("part", 1)]) (g := (gName 1)) (hr.mono (by omega)) (by rfl) T.all rfl sc_are_pieces.nd TB_are_pieces rfl ⟨blkOk_by (N := ["thing", "part"]) (sc := defScope s_are_pieces) (by decide +kernel), rfl, by decide +kernel, rfl⟩ (pi_tup (pv 0)) (fun _ _ _ _ _ _ _ => (pg_name (i := 1) sc_are_pieces.nd rfl (.inl rfl))) (fun _ _ _ _ _ _ _ hr => (pe_call G_is_within (hr.mono (by omega)) (by rfl) D_is_within.g D_is_within.F.kp D_is_within.b .nil pass0 (pa_cons (pv 1) (pa_cons pe_int (pa_cons pe_int pa_nil)))))))))), ?_⟩
  refine sr_ret (ev_andV (b := (parts t).all fun p => isWithin p 1 9) (ev_tup (ev_var rfl) hr1 ev_c ev_c hT) fun hw => ?_) q
  obtain ⟨us, rfl, _, l2⟩ := tup_len hw
  exact ev_all (fun p => isWithin p 1 9) (ewr_tup (ev_var rfl) hr1) (hT PT hPT) fun i d x H1 e1 hd hx => ⟨_, tg_name, rfl, ev_win (ev_var rfl) hx ev_c ev_c (hT.ex e1)⟩
theorem pr_walk (T : Bi mg) (D : Dt K mg base Ps "is_walk" s_is_walk ["thing", "at", "many"]) (g1 : Pr P w K mg base 1 "is_tuple_of" s_is_tuple_of ["thing", "least", "most"] (spF K Ps (fn3 isTupleOf))) (g2 : Pr P w K mg base 2 "is_within" s_is_within ["thing", "low", "high"] (spF K Ps (fn3 isWithin))) :
    Pr P w K mg base 4 "is_walk" s_is_walk ["thing", "at", "many"] (spF K Ps fWalk) := by
  obtain ⟨f, fd, c, PT, D, TB_is_walk, hPT⟩ := D
  obtain ⟨f1, fd1, D_is_tuple_of, G_is_tuple_of⟩ := g1
  obtain ⟨f2, fd2, D_is_within, G_is_within⟩ := g2
  refine ⟨f, fd, D.d, D.C.ok sc_is_walk (len_spF fun ts b h => by obtain ⟨_, _, _, rfl, _⟩ := fWalk_is h; rfl) (fun A outer s H vs Q E hr h => ?_)⟩
  obtain ⟨ts, b, hv, hF, hT, q⟩ := h
  obtain ⟨t, at', many, rfl, hat, rfl⟩ := fWalk_is hF
  obtain ⟨v, v2, v3, rfl, hr1, hr2, hr3⟩ := ra3 hv
  cases rp_int hr2
  cases rp_int hr3
  refine ⟨_, (pss_one (ps_ret (pe_and (pe_call G_is_tuple_of (hr.mono (by omega)) (by rfl) D_is_tuple_of.g D_is_tuple_of.F.kp D_is_tuple_of.b .nil pass0 (pa_cons (pv 0) (pa_cons (pv 2) (pa_cons (pv 2) pa_nil)))) (pe_and (pe_allG (k := 2) (own := [("part", 3)]) (g := (gName 3)) (hr.mono (by omega)) (by rfl) T.all rfl sc_is_walk.nd TB_is_walk rfl ⟨blkOk_by (N := ["thing", "at", "many", "part"]) (sc := defScope s_is_walk) (by decide +kernel), rfl, by decide +kernel, rfl⟩ (pi_tup (pv 0)) (fun _ _ _ _ _ _ _ => (pg_name (i := 3) sc_is_walk.nd rfl (.inl rfl))) (fun _ _ _ _ _ _ _ hr => (pe_call G_is_within (hr.mono (by omega)) (by rfl) D_is_within.g D_is_within.F.kp D_is_within.b .nil pass0 (pa_cons (pv 3) (pa_cons pe_int (pa_cons pe_int pa_nil)))))) (pe_one (pe_cmpR op_eq (pe_ix (r := rIxT K) ix_tup (pv 0) (pv 1) (fun _ _ => rfl)) pe_int (nomark _))))))), ?_⟩
  refine sr_ret (ev_andV (b := (parts t).all (fun p => isWithin p 0 9) && decide (asInt ((parts t).getD at'.toNat .none) = 0)) (ev_tup (ev_var rfl) hr1 (ev_var rfl) (ev_var rfl) hT) fun hw => ?_) q
  obtain ⟨us, rfl, l1, l2⟩ := tup_len hw
  refine ev_andV (ev_all (fun p => isWithin p 0 9) (ewr_tup (ev_var rfl) hr1) (hT PT hPT) fun i d x H1 e1 hd hx => ⟨_, tg_name, rfl, ev_win (ev_var rfl) hx ev_c ev_c (hT.ex e1)⟩) fun hall => ?_
  have hk : at'.toNat < us.length := by omega
  have g1 : us[at'.toNat]? = some us[at'.toNat] := List.getElem?_eq_getElem hk
  have e1' : us.getD at'.toNat .none = us[at'.toNat] := by rw [List.getD_eq_getElem?_getD, g1]; rfl
  obtain ⟨i, ei, _⟩ := int_within (List.all_eq_true.mp hall _ (List.getElem_mem hk))
  obtain ⟨u1, r1, k1⟩ := ev_at (i := at'.toNat) hr1 g1
  show Ev _ _ _ (.bl (decide (asInt (us.getD at'.toNat .none) = 0)))
  rw [e1', ei]
  rw [ei] at r1
  cases rp_int r1
  rw [show decide (asInt (.int i) = 0) = decide (V.int i = V.int 0) from dec_i.symm]
  exact ev_op (k1 (ev_var rfl) (by rw [show ((at'.toNat : Nat) : Int) = at' by omega]; exact ev_var rfl)) ev_c (rv_eq rfl)
theorem pr_walks (T : Bi mg) (D : Dt K mg base Ps "are_walks" s_are_walks ["thing", "many"]) (g1 : Pr P w K mg base 1 "is_tuple_of" s_is_tuple_of ["thing", "least", "most"] (spF K Ps (fn3 isTupleOf))) (g2 : Pr P w K mg base 4 "is_walk" s_is_walk ["thing", "at", "many"] (spF K Ps fWalk)) :
    Pr P w K mg base 6 "are_walks" s_are_walks ["thing", "many"] (spF K Ps (fn2 isWalks)) := by
  obtain ⟨f, fd, c, PT, D, TB_are_walks, hPT⟩ := D
  obtain ⟨f1, fd1, D_is_tuple_of, G_is_tuple_of⟩ := g1
  obtain ⟨f2, fd2, D_is_walk, G_is_walk⟩ := g2
  refine ⟨f, fd, D.d, D.C.ok sc_are_walks (len_spF fun ts b h => by obtain ⟨_, _, rfl, _⟩ := fn2_is h; rfl) (fun A outer s H vs Q E hr h => ?_)⟩
  obtain ⟨ts, b, hv, hF, hT, q⟩ := h
  obtain ⟨t, many, rfl, rfl⟩ := fn2_is hF
  obtain ⟨v, v2, rfl, hr1, hr2⟩ := ra2 hv
  cases rp_int hr2
  refine ⟨_, (pss_cons (ps_if (pt_not (pt_val (pe_call G_is_tuple_of (hr.mono (by omega)) (by rfl) D_is_tuple_of.g D_is_tuple_of.F.kp D_is_tuple_of.b .nil pass0 (pa_cons (pv 0) (pa_cons (pv 1) (pa_cons (pv 1) pa_nil)))))) (pss_one (ps_ret pe_bl)) pss_nil)
      (pss_one (ps_ret (pe_allG (k := 4) (own := [("at", 2), ("part", 3)]) (g := (gTup K 2 (gCons (gName 2) (gCons (gName 3) gNil)))) (hr.mono (by omega)) (by rfl) T.all rfl sc_are_walks.nd TB_are_walks rfl ⟨blkOk_by (N := ["thing", "many", "at", "part"]) (sc := defScope s_are_walks) (by decide +kernel), rfl, by decide +kernel, rfl⟩ (pi_enumT (by rfl) T.enumerate (pa_cons (pv 0) pa_nil)) (fun _ _ _ _ _ _ _ => (by exact (pg_tup rfl (pgs_cons (pg_name (i := 2) sc_are_walks.nd rfl (.inl rfl)) (pgs_cons (pg_name (i := 3) sc_are_walks.nd rfl (.inl rfl)) pgs_nil))))) (fun _ _ _ _ _ _ _ hr => (pe_call G_is_walk (hr.mono (by omega)) (by rfl) D_is_walk.g D_is_walk.F.kp D_is_walk.b .nil pass0 (pa_cons (pv 3) (pa_cons (pv 2) (pa_cons (pv 1) pa_nil))))))))), ?_⟩
  refine q_when (et_not (et_B (ev_tup (ev_var rfl) hr1 (ev_var rfl) (ev_var rfl) hT))) (fun hb H1 e1 => ?_) (fun hb H1 e1 => ?_)
  · have hz : isWalks t many = false := by
      unfold isWalks
      have : isTupleOf t many many = false := by simpa using hb
      rw [this]
      rfl
    rw [hz] at q
    exact q H1 e1
  · have hw : isTupleOf t many many = true := by simpa using hb
    obtain ⟨us, rfl, l1, l2⟩ := tup_len hw
    have hq : ∀ H', Ex H1 H' → Q (.bl ((nums us).all fun p => isWalk p.2 (p.1 : Int) many)) H' := fun H' e' => by
      have z := q H' (e1.trans e')
      unfold isWalks at z
      rw [hw, Bool.true_and] at z
      exact z
    refine sr_ret (ev_all (fun (p : Nat × Th) => isWalk p.2 (p.1 : Int) many) (ewr_enum (ev_var rfl) (rp_mono e1 hr1)) ((hT.ex e1) PT hPT) fun i d x H2 e2 hd hx => ?_) hq
    obtain ⟨a, u, rfl, hs, hu⟩ := hx
    refine ⟨_, tg_pair hs, rfl, ev_callF (F := fWalk) (ea_cons (ev_var rfl) (ea_cons (ev_var rfl) (ea_cons (ev_var rfl) ea_nil))) (.cons hu (.cons (.int _) (.cons (.int many) .nil))) ?_ (hT.ex (e1.trans e2))⟩
    have hm := List.mem_of_getElem? hd
    have hm1 : d.1 < us.length := by
      have := (List.of_mem_zip (show (d.1, d.2) ∈ (List.range us.length).zip us from hm)).1
      simpa using this
    show (if 0 ≤ (d.1 : Int) ∧ (d.1 : Int) < many then some (isWalk d.2 (d.1 : Int) many) else none) = _
    rw [if_pos ⟨by omega, by omega⟩]
theorem pr_rule {aR : Addr} (T : Bi mg) (hRul : mg "RULES" = some (.ref aR)) (hK : ∀ H : Hp, SqT K H aR RUL) (D : Dn K mg "is_rule" s_is_rule ["thing"]) : Pr P w K mg base 1 "is_rule" s_is_rule ["thing"] (spF K Ps (fn1 isRule)) := by
  obtain ⟨f, fd, D⟩ := D
  refine ⟨f, fd, D, D.F.ok sc_is_rule (len_spF fun ts b h => by obtain ⟨_, rfl, _⟩ := fn1_is h; rfl) (fun cdv A outer s H vs Q E hr h => ?_)⟩
  obtain ⟨ts, b, hv, hF, hT, q⟩ := h
  obtain ⟨t, rfl, rfl⟩ := fn1_is hF
  obtain ⟨v, rfl, hr1⟩ := ra1 hv
  refine ⟨_, (pss_one (ps_ret (pe_and (pe_callB (r := rIsi K) call_isi (by rfl) T.isinstance boot_isinstance (pa_cons (pv 0) (pa_cons (pe_bltn (by rfl) T.str boot_str (v := .ty "str") rfl) pa_nil))) (pe_one (pe_cmpR (r := rIn K false) op_in_seq (pv 0) (pe_glob rfl hRul (v := .ref aR) rfl) rfl))))), ?_⟩
  refine sr_ret (ev_andV (b := inV (strV t) RUL) (ev_isi (ev_var rfl) hr1 (by decide)) fun hw => ?_) q
  obtain ⟨s, rfl⟩ := str_of hw
  cases hr1
  exact ev_op (ev_var rfl) ev_c (rv_isT (hK H) rfl rfl)
theorem pr_rising (T : Bi mg) (D : Dt K mg base Ps "is_rising" s_is_rising ["parts"]) : Pr P w K mg base 2 "is_rising" s_is_rising ["parts"] (spF K Ps fRising) := by
  obtain ⟨f, fd, c, PT, D, TB_is_rising, hPT⟩ := D
  refine ⟨f, fd, D.d, D.C.ok sc_is_rising (len_spF fun ts b h => by obtain ⟨_, rfl, _⟩ := fRising_is h; rfl) (fun A outer s H vs Q E hr h => ?_)⟩
  obtain ⟨ts, b, hv, hF, hT, q⟩ := h
  obtain ⟨us, rfl, hc, rfl⟩ := fRising_is hF
  obtain ⟨v, rfl, hr1⟩ := ra1 hv
  unfold cmpOk at hc
  rw [Bool.and_eq_true] at hc
  have hlen : us.length ≤ 1000 := of_decide_eq_true hc.2
  refine ⟨_, (pss_one (ps_ret (pe_allG (k := 0) (own := [("at", 1)]) (g := (gName 1)) (hr.mono (by omega)) (by rfl) T.all rfl sc_is_rising.nd TB_is_rising rfl ⟨blkOk_by (N := ["parts", "at"]) (sc := defScope s_is_rising) (by decide +kernel), rfl, by decide +kernel, rfl⟩ (pi_range1 rfl T.range (pa_cons (pe_op op_sub (pe_callB (r := rLenS K) call_len_seq (by rfl) T.len PySem.boot_len (pa_cons (pv 0) pa_nil)) pe_int) pa_nil)) (fun _ _ _ _ _ _ _ => (pg_name (i := 1) sc_is_rising.nd rfl (.inl rfl))) (fun _ _ _ _ _ _ _ hr => (pe_cmpR (r := rLtB K) (op_ltB (Nat.lt_of_le_of_lt (Nat.le_add_right _ 64) hr.units)) (pe_ix (r := rIxT K) ix_tup (pv 0) (pv 1) (fun _ _ => rfl)) (pe_ix (r := rIxT K) ix_tup (pv 0) (pe_op op_add (pv 1) pe_int) (fun _ _ => rfl)) (nomark _)))))), ?_⟩
  refine sr_ret (ev_all (fun (i : Nat) => thLt (us.getD i .none) (us.getD (i + 1) .none)) (ewr_rng (n := (us.length : Int) - 1) (ea_cons (ev_op (ev_lenR (ev_var rfl) hr1) ev_c rv_I0) ea_nil) ⟨by omega, by omega⟩) (hT PT hPT) fun i d x H1 e1 hd hx => ?_) q
  subst hx
  have hd2 : d < ((us.length : Int) - 1).toNat := by
    have := List.mem_of_getElem? hd
    simpa using this
  have h1 : d < us.length := by omega
  have h2 : d + 1 < us.length := by omega
  have g1 : us[d]? = some us[d] := List.getElem?_eq_getElem h1
  have g2 : us[d + 1]? = some us[d + 1] := List.getElem?_eq_getElem h2
  have e1' : us.getD d .none = us[d] := by rw [List.getD_eq_getElem?_getD, g1]; rfl
  have e2' : us.getD (d + 1) .none = us[d + 1] := by rw [List.getD_eq_getElem?_getD, g2]; rfl
  obtain ⟨u1, r1, k1⟩ := ix_of (i := (d : Int)) (rp_mono e1 hr1) g1 rfl
  obtain ⟨u2, r2, k2⟩ := ix_of (i := (d : Int) + 1) (rp_mono e1 hr1) g2 (by omega)
  refine ⟨_, tg_name, rfl, ?_⟩
  rw [e1', e2']
  refine ev_op (ev_op (ev_var rfl) (ev_var rfl) k1) (ev_op (ev_var rfl) (ev_op (ev_var rfl) ev_c rv_I0) k2) (rv_ltB r1 r2 ?_)
  rw [Bool.or_eq_true, List.all_eq_true, List.all_eq_true] at hc
  rcases hc.1 with hz | hz
  · exact .inl ⟨hz _ (List.getElem_mem h1), hz _ (List.getElem_mem h2)⟩
  · exact .inr ⟨hz _ (List.getElem_mem h1), hz _ (List.getElem_mem h2)⟩
theorem pr_row (T : Bi mg) (D : Dn K mg "is_row" s_is_row ["thing", "full", "threads"]) (g1 : Pr P w K mg base 1 "is_tuple_of" s_is_tuple_of ["thing", "least", "most"] (spF K Ps (fn3 isTupleOf))) (g2 : Pr P w K mg base 2 "is_within" s_is_within ["thing", "low", "high"] (spF K Ps (fn3 isWithin))) : Pr P w K mg base 3 "is_row" s_is_row ["thing", "full", "threads"] (spF K Ps (fn3 isRow)) := by
  obtain ⟨f, fd, D⟩ := D
  obtain ⟨f1, fd1, D_is_tuple_of, G_is_tuple_of⟩ := g1
  obtain ⟨f2, fd2, D_is_within, G_is_within⟩ := g2
  refine ⟨f, fd, D, D.F.ok sc_is_row (len_spF fun ts b h => by obtain ⟨_, _, _, rfl, _⟩ := fn3_is h; rfl) (fun cdv A outer s H vs Q E hr h => ?_)⟩
  obtain ⟨ts, b, hv, hF, hT, q⟩ := h
  obtain ⟨t, lo, hi, rfl, rfl⟩ := fn3_is hF
  obtain ⟨v, v2, v3, rfl, hr1, hr2, hr3⟩ := ra3 hv
  cases rp_int hr2
  cases rp_int hr3
  refine ⟨_, (pss_one (ps_ret (pe_and (pe_call G_is_tuple_of (hr.mono (by omega)) (by rfl) D_is_tuple_of.g D_is_tuple_of.F.kp D_is_tuple_of.b .nil pass0 (pa_cons (pv 0) (pa_cons pe_int (pa_cons pe_int pa_nil)))) (pe_and (pe_call G_is_within (hr.mono (by omega)) (by rfl) D_is_within.g D_is_within.F.kp D_is_within.b .nil pass0 (pa_cons (pe_ix (r := rIxT K) ix_tup (pv 0) pe_int (fun _ _ => rfl)) (pa_cons pe_int (pa_cons (pv 1) pa_nil)))) (pe_one (pe_call G_is_within (hr.mono (by omega)) (by rfl) D_is_within.g D_is_within.F.kp D_is_within.b .nil pass0 (pa_cons (pe_ix (r := rIxT K) ix_tup (pv 0) pe_int (fun _ _ => rfl)) (pa_cons pe_int (pa_cons (pe_op op_sub (pv 2) pe_int) pa_nil))))))))), ?_⟩
  refine sr_ret (ev_andV (b := isWithin ((parts t).getD 0 .none) 1 lo && isWithin ((parts t).getD 1 .none) 0 (hi - 1)) (ev_callF (F := (fn3 isTupleOf)) (ea_cons (ev_var rfl) (ea_cons ev_c (ea_cons ev_c ea_nil))) (.cons hr1 (.cons (.int 2) (.cons (.int 2) .nil))) rfl hT) fun hw => ?_) q
  obtain ⟨us, rfl, l1, l2⟩ := tup_len hw
  obtain ⟨x, y, rfl⟩ : ∃ x y, us = [x, y] := by
    match us, l1, l2 with
    | [x, y], _, _ => exact ⟨x, y, rfl⟩
    | [], h, _ => simp at h
    | [_], h, _ => simp at h
    | _ :: _ :: _ :: _, _, h => simp at h; omega
  obtain ⟨u1, r1, k1⟩ := ix_of (i := 0) (j := 0) hr1 rfl rfl
  obtain ⟨u2, r2, k2⟩ := ix_of (i := 1) (j := 1) hr1 rfl rfl
  exact ev_andV (ev_callF (F := (fn3 isWithin)) (ea_cons (ev_op (ev_var rfl) ev_c k1) (ea_cons ev_c (ea_cons (ev_var rfl) ea_nil))) (.cons r1 (.cons (.int 1) (.cons (.int lo) .nil))) rfl hT) fun _ =>
    ev_callF (F := (fn3 isWithin)) (ea_cons (ev_op (ev_var rfl) ev_c k2) (ea_cons ev_c (ea_cons (ev_op (ev_var rfl) ev_c rv_I0) ea_nil))) (.cons r2 (.cons (.int 0) (.cons (.int (hi - 1)) .nil))) rfl hT
end
end K01.Y

set_option Elab.async false
set_option linter.all false
set_option maxRecDepth 100000
set_option maxHeartbeats 4000000
namespace K01.Y
open PySem PySem.Spec PyProof.Rows L2 Evl DL GX YA EX TH TV YT DS
abbrev s_are_rows : Stmt := topS 13
theorem sc_are_rows : FnScope ["thing", "full", "threads", "part"] ["thing", "full", "threads"] (defScope s_are_rows) := ⟨rfl, rfl, rfl, by decide +kernel, rfl, by decide +kernel, by decide +kernel⟩
abbrev s_is_frame : Stmt := topS 12
theorem sc_is_frame : FnScope ["thing", "kind", "threads", "most", "full", "doff", "rows"] ["thing"] (defScope s_is_frame) := ⟨rfl, rfl, rfl, by decide +kernel, rfl, by decide +kernel, by decide +kernel⟩
abbrev s_are_frames : Stmt := topS 11
theorem sc_are_frames : FnScope ["thing", "part"] ["thing"] (defScope s_are_frames) := ⟨rfl, rfl, rfl, by decide +kernel, rfl, by decide +kernel, by decide +kernel⟩
section
variable {P : Program} {w : World} {K : PySem.W.Frag} {mg : Str → Option Value} {base : Heap} {Ps : List Addr}
theorem pr_rows (T : Bi mg) (D : Dt K mg base Ps "are_rows" s_are_rows ["thing", "full", "threads"]) (g1 : Pr P w K mg base 1 "is_tuple_of" s_is_tuple_of ["thing", "least", "most"] (spF K Ps (fn3 isTupleOf))) (g2 : Pr P w K mg base 3 "is_row" s_is_row ["thing", "full", "threads"] (spF K Ps (fn3 isRow)))
    (g3 : Pr P w K mg base 2 "is_rising" s_is_rising ["parts"] (spF K Ps fRising)) : Pr P w K mg base 5 "are_rows" s_are_rows ["thing", "full", "threads"] (spF K Ps (fn3 isRows)) := by
  obtain ⟨f, fd, c, PT, D, TB_are_rows, hPT⟩ := D
  obtain ⟨f1, fd1, D_is_tuple_of, G_is_tuple_of⟩ := g1
  obtain ⟨f2, fd2, D_is_row, G_is_row⟩ := g2
  obtain ⟨f3, fd3, D_is_rising, G_is_rising⟩ := g3
  refine ⟨f, fd, D.d, D.C.ok sc_are_rows (len_spF fun ts b h => by obtain ⟨_, _, _, rfl, _⟩ := fn3_is h; rfl) (fun A outer s H vs Q E hr h => ?_)⟩
  obtain ⟨ts, b, hv, hF, hT, q⟩ := h
  obtain ⟨t, lo, hi, rfl, rfl⟩ := fn3_is hF
  obtain ⟨v, v2, v3, rfl, hr1, hr2, hr3⟩ := ra3 hv
  cases rp_int hr2
  cases rp_int hr3
  refine ⟨_, (pss_one (ps_ret (pe_and (pe_call G_is_tuple_of (hr.mono (by omega)) (by rfl) D_is_tuple_of.g D_is_tuple_of.F.kp D_is_tuple_of.b .nil pass0 (pa_cons (pv 0) (pa_cons pe_int (pa_cons pe_int pa_nil)))) (pe_and (pe_allG (k := 3) (own := [("part", 3)]) (g := (gName 3)) (hr.mono (by omega)) (by rfl) T.all rfl sc_are_rows.nd TB_are_rows rfl ⟨blkOk_by (N := ["thing", "full", "threads", "part"]) (sc := defScope s_are_rows) (by decide +kernel), rfl, by decide +kernel, rfl⟩ (pi_tup (pv 0)) (fun _ _ _ _ _ _ _ => (pg_name (i := 3) sc_are_rows.nd rfl (.inl rfl))) (fun _ _ _ _ _ _ _ hr => (pe_call G_is_row (hr.mono (by omega)) (by rfl) D_is_row.g D_is_row.F.kp D_is_row.b .nil pass0 (pa_cons (pv 3) (pa_cons (pv 1) (pa_cons (pv 2) pa_nil)))))) (pe_one (pe_call G_is_rising (hr.mono (by omega)) (by rfl) D_is_rising.g D_is_rising.F.kp D_is_rising.b .nil pass0 (pa_cons (pv 0) pa_nil))))))), ?_⟩
  refine sr_ret (ev_andV (b := (parts t).all (fun p => isRow p lo hi) && rising (parts t)) (ev_tup (ev_var rfl) hr1 ev_c ev_c hT) fun hw => ?_) q
  obtain ⟨us, rfl, _, l2⟩ := tup_len hw
  refine ev_andV (ev_all (fun p => isRow p lo hi) (ewr_tup (ev_var rfl) hr1) (hT PT hPT) fun i d x H1 e1 hd hx => ⟨_, tg_name, rfl, ev_callF (F := (fn3 isRow)) (ea_cons (ev_var rfl) (ea_cons (ev_var rfl) (ea_cons (ev_var rfl) ea_nil))) (.cons hx (.cons (.int lo) (.cons (.int hi) .nil))) rfl (hT.ex e1)⟩) fun hall => ?_
  refine ev_callF (F := fRising) (ea_cons (ev_var rfl) ea_nil) (.cons hr1 .nil) ?_ hT
  show (if cmpOk us = true then some (rising us) else none) = _
  rw [if_pos]
  · rfl
  · unfold cmpOk
    have h1 : us.all intTup = true := List.all_eq_true.mpr fun t ht => row_tup (List.all_eq_true.mp hall t ht)
    have h2 : us.length ≤ 1000 := by omega
    rw [h1, decide_eq_true h2, Bool.or_true]
    rfl
theorem ra6 {H : Hp} {vs : List V} {t1 t2 t3 t4 t5 t6 : Th} (h : RpAll K H vs [t1, t2, t3, t4, t5, t6]) : ∃ v1 v2 v3 v4 v5 v6, vs = [v1, v2, v3, v4, v5, v6] ∧ Rp K H v1 t1 ∧ Rp K H v2 t2 ∧ Rp K H v3 t3 ∧ Rp K H v4 t4 ∧ Rp K H v5 t5 ∧ Rp K H v6 t6 := by
  cases h with
  | cons h1 h =>
    cases h with
    | cons h2 h =>
      cases h with
      | cons h3 h =>
        obtain ⟨a, b, d, rfl, r1, r2, r3⟩ := ra3 h
        exact ⟨_, _, _, a, b, d, rfl, h1, h2, h3, r1, r2, r3⟩
theorem pr_frame (T : Bi mg) (D : Dn K mg "is_frame" s_is_frame ["thing"]) (g1 : Pr P w K mg base 1 "is_tuple_of" s_is_tuple_of ["thing", "least", "most"] (spF K Ps (fn3 isTupleOf))) (g2 : Pr P w K mg base 2 "is_within" s_is_within ["thing", "low", "high"] (spF K Ps (fn3 isWithin)))
    (g3 : Pr P w K mg base 5 "are_rows" s_are_rows ["thing", "full", "threads"] (spF K Ps (fn3 isRows))) : Pr P w K mg base 6 "is_frame" s_is_frame ["thing"] (spF K Ps (fn1 isFrame)) := by
  obtain ⟨f, fd, D⟩ := D
  obtain ⟨f1, fd1, D_is_tuple_of, G_is_tuple_of⟩ := g1
  obtain ⟨f2, fd2, D_is_within, G_is_within⟩ := g2
  obtain ⟨f3, fd3, D_are_rows, G_are_rows⟩ := g3
  refine ⟨f, fd, D, D.F.ok sc_is_frame (len_spF fun ts b h => by obtain ⟨_, rfl, _⟩ := fn1_is h; rfl) (fun cdv A outer s H vs Q E hr h => ?_)⟩
  obtain ⟨ts, b, hv, hF, hT, q⟩ := h
  obtain ⟨t, rfl, rfl⟩ := fn1_is hF
  obtain ⟨v, rfl, hr1⟩ := ra1 hv
  refine ⟨_, (pss_cons (ps_if (pt_not (pt_val (pe_call G_is_tuple_of (hr.mono (by omega)) (by rfl) D_is_tuple_of.g D_is_tuple_of.F.kp D_is_tuple_of.b .nil pass0 (pa_cons (pv 0) (pa_cons pe_int (pa_cons pe_int pa_nil)))))) (pss_one (ps_ret pe_bl)) pss_nil)
      (pss_cons (ps_asg (pv 0) (pg_tup rfl (pgs_cons (pg_name (i := 1) sc_is_frame.nd rfl (.inl rfl)) (pgs_cons (pg_name (i := 2) sc_is_frame.nd rfl (.inl rfl)) (pgs_cons (pg_name (i := 3) sc_is_frame.nd rfl (.inl rfl)) (pgs_cons (pg_name (i := 4) sc_is_frame.nd rfl (.inl rfl)) (pgs_cons (pg_name (i := 5) sc_is_frame.nd rfl (.inl rfl)) (pgs_cons (pg_name (i := 6) sc_is_frame.nd rfl (.inl rfl)) pgs_nil))))))))
      (pss_one (ps_ret (pe_and (pe_call G_is_within (hr.mono (by omega)) (by rfl) D_is_within.g D_is_within.F.kp D_is_within.b .nil pass0 (pa_cons (pv 1) (pa_cons pe_int (pa_cons pe_int pa_nil)))) (pe_and (pe_call G_is_within (hr.mono (by omega)) (by rfl) D_is_within.g D_is_within.F.kp D_is_within.b .nil pass0 (pa_cons (pv 2) (pa_cons pe_int (pa_cons pe_int pa_nil)))) (pe_and (pe_call G_is_within (hr.mono (by omega)) (by rfl) D_is_within.g D_is_within.F.kp D_is_within.b .nil pass0 (pa_cons (pv 3) (pa_cons pe_int (pa_cons (pe_op op_sub (pv 2) pe_int) pa_nil)))) (pe_and (pe_call G_is_within (hr.mono (by omega)) (by rfl) D_is_within.g D_is_within.F.kp D_is_within.b .nil pass0 (pa_cons (pv 4) (pa_cons pe_int (pa_cons pe_int pa_nil)))) (pe_and (pe_call G_is_within (hr.mono (by omega)) (by rfl) D_is_within.g D_is_within.F.kp D_is_within.b .nil pass0 (pa_cons (pv 5) (pa_cons pe_int (pa_cons pe_int pa_nil)))) (pe_one (pe_call G_are_rows (hr.mono (by omega)) (by rfl) D_are_rows.g D_are_rows.F.kp D_are_rows.b .nil pass0 (pa_cons (pv 6) (pa_cons (pv 4) (pa_cons (pv 2) pa_nil)))))))))))))), ?_⟩
  refine q_when (et_not (et_B (ev_tup (ev_var rfl) hr1 ev_c ev_c hT))) (fun hb H1 e1 => ?_) (fun hb H1 e1 => ?_)
  · have hz : isFrame t = false := by
      unfold isFrame
      have : isTupleOf t 6 6 = false := by simpa using hb
      rw [this]
      rfl
    rw [hz] at q
    exact q H1 e1
  · have hw : isTupleOf t 6 6 = true := by simpa using hb
    obtain ⟨us, rfl, l1, l2⟩ := tup_len hw
    obtain ⟨k1, k2, k3, k4, k5, k6, rfl⟩ := six_of l1 l2
    obtain ⟨a, xs, rfl, hs, ha⟩ := rp_tup (rp_mono e1 hr1)
    obtain ⟨v1, v2, v3, v4, v5, v6, rfl, r1, r2, r3, r4, r5, r6⟩ := ra6 ha
    have hT1 := hT.ex e1
    refine ⟨.ref a, rfl, a, [v1, v2, v3, v4, v5, v6], rfl, hs, rfl, _, _, rfl, _, _, rfl, _, _, rfl, _, _, rfl, _, _, rfl, _, _, rfl, rfl, ?_⟩
    dsimp only
    have hq : ∀ H', Ex H1 H' → Q (.bl (isWithin k1 0 1 && (isWithin k2 1 4 && (isWithin k3 0 (asInt k2 - 1) && (isWithin k4 1 30 && (isWithin k5 0 9 && isRows k6 (asInt k4) (asInt k2))))))) H' := fun H' e' => by
      have z := q H' (e1.trans e')
      unfold isFrame at z
      rw [hw, Bool.true_and] at z
      exact z
    refine sr_ret (ev_andV (ev_win (ev_var rfl) r1 ev_c ev_c hT1) fun _ => ev_andV (ev_win (ev_var rfl) r2 ev_c ev_c hT1) fun h2 => ?_) hq
    obtain ⟨th, rfl, _, _⟩ := int_within h2
    cases rp_int r2
    refine ev_andV (ev_win (ev_var rfl) r3 ev_c (ev_op (ev_var rfl) ev_c rv_I0) hT1) fun _ => ev_andV (ev_win (ev_var rfl) r4 ev_c ev_c hT1) fun h4 => ?_
    obtain ⟨fu, rfl, _, _⟩ := int_within h4
    cases rp_int r4
    exact ev_andV (ev_win (ev_var rfl) r5 ev_c ev_c hT1) fun _ => ev_callF (F := fn3 isRows) (ea_cons (ev_var rfl) (ea_cons (ev_var rfl) (ea_cons (ev_var rfl) ea_nil))) (.cons r6 (.cons (.int fu) (.cons (.int th) .nil))) rfl hT1
theorem pr_frames (T : Bi mg) (D : Dt K mg base Ps "are_frames" s_are_frames ["thing"]) (g1 : Pr P w K mg base 1 "is_tuple_of" s_is_tuple_of ["thing", "least", "most"] (spF K Ps (fn3 isTupleOf))) (g2 : Pr P w K mg base 6 "is_frame" s_is_frame ["thing"] (spF K Ps (fn1 isFrame))) :
    Pr P w K mg base 8 "are_frames" s_are_frames ["thing"] (spF K Ps (fn1 isFrames)) := by
  obtain ⟨f, fd, c, PT, D, TB_are_frames, hPT⟩ := D
  obtain ⟨f1, fd1, D_is_tuple_of, G_is_tuple_of⟩ := g1
  obtain ⟨f2, fd2, D_is_frame, G_is_frame⟩ := g2
  refine ⟨f, fd, D.d, D.C.ok sc_are_frames (len_spF fun ts b h => by obtain ⟨_, rfl, _⟩ := fn1_is h; rfl) (fun A outer s H vs Q E hr h => ?_)⟩
  obtain ⟨ts, b, hv, hF, hT, q⟩ := h
  obtain ⟨t, rfl, rfl⟩ := fn1_is hF
  obtain ⟨v, rfl, hr1⟩ := ra1 hv
  refine ⟨_, (pss_one (ps_ret (pe_and (pe_call G_is_tuple_of (hr.mono (by omega)) (by rfl) D_is_tuple_of.g D_is_tuple_of.F.kp D_is_tuple_of.b .nil pass0 (pa_cons (pv 0) (pa_cons pe_int (pa_cons pe_int pa_nil)))) (pe_one (pe_allG (k := 6) (own := [("part", 1)]) (g := (gName 1)) (hr.mono (by omega)) (by rfl) T.all rfl sc_are_frames.nd TB_are_frames rfl ⟨blkOk_by (N := ["thing", "part"]) (sc := defScope s_are_frames) (by decide +kernel), rfl, by decide +kernel, rfl⟩ (pi_tup (pv 0)) (fun _ _ _ _ _ _ _ => (pg_name (i := 1) sc_are_frames.nd rfl (.inl rfl))) (fun _ _ _ _ _ _ _ hr => (pe_call G_is_frame (hr.mono (by omega)) (by rfl) D_is_frame.g D_is_frame.F.kp D_is_frame.b .nil pass0 (pa_cons (pv 1) pa_nil)))))))), ?_⟩
  refine sr_ret (ev_andV (b := (parts t).all isFrame) (ev_tup (ev_var rfl) hr1 ev_c ev_c hT) fun hw => ?_) q
  obtain ⟨us, rfl, _, l2⟩ := tup_len hw
  exact ev_all isFrame (ewr_tup (ev_var rfl) hr1) (hT PT hPT) fun i d x H1 e1 hd hx => ⟨_, tg_name, rfl, ev_callF (F := fn1 isFrame) (ea_cons (ev_var rfl) ea_nil) (.cons hx .nil) rfl (hT.ex e1)⟩
end
end K01.Y

set_option Elab.async false
set_option linter.all false
set_option maxRecDepth 100000
set_option maxHeartbeats 4000000
namespace K01.Y
open PySem PySem.Spec PyProof.Rows L2 Evl DL GX YA EX TH TV YT DS
abbrev s_are_minds : Stmt := topS 21
theorem sc_are_minds : FnScope ["thing", "many", "part"] ["thing", "many"] (defScope s_are_minds) := ⟨rfl, rfl, rfl, by decide +kernel, rfl, by decide +kernel, by decide +kernel⟩
abbrev s_is_hand : Stmt := topS 20
theorem sc_is_hand : FnScope ["thing", "many", "frame", "minds", "start", "end"] ["thing", "many"] (defScope s_is_hand) := ⟨rfl, rfl, rfl, by decide +kernel, rfl, by decide +kernel, by decide +kernel⟩
abbrev s_are_hands : Stmt := topS 19
theorem sc_are_hands : FnScope ["thing", "many", "part"] ["thing", "many"] (defScope s_are_hands) := ⟨rfl, rfl, rfl, by decide +kernel, rfl, by decide +kernel, by decide +kernel⟩
abbrev s_is_stray : Stmt := topS 23
theorem sc_is_stray : FnScope ["thing", "frames", "frame", "spun", "thread"] ["thing", "frames"] (defScope s_is_stray) := ⟨rfl, rfl, rfl, by decide +kernel, rfl, by decide +kernel, by decide +kernel⟩
abbrev s_are_strays : Stmt := topS 22
theorem sc_are_strays : FnScope ["thing", "frames", "part"] ["thing", "frames"] (defScope s_are_strays) := ⟨rfl, rfl, rfl, by decide +kernel, rfl, by decide +kernel, by decide +kernel⟩
abbrev s_is_yard : Stmt := topS 10
theorem sc_is_yard : FnScope ["thing", "frames", "walks", "pieces", "rule", "hands", "strays"] ["thing"] (defScope s_is_yard) := ⟨rfl, rfl, rfl, by decide +kernel, rfl, by decide +kernel, by decide +kernel⟩
abbrev s_need_yard : Stmt := topS 46
theorem sc_need_yard : FnScope ["thing"] ["thing"] (defScope s_need_yard) := ⟨rfl, rfl, rfl, by decide +kernel, rfl, by decide +kernel, by decide +kernel⟩
abbrev s_show_yard : Stmt := topS 49
theorem sc_show_yard : FnScope ["yard", "frames", "walks", "pieces", "rule", "hands", "strays", "rows", "frame", "walk", "hand", "stray"] ["yard"] (defScope s_show_yard) := ⟨rfl, rfl, rfl, by decide +kernel, rfl, by decide +kernel, by decide +kernel⟩
theorem not_t {b : Bool} (h : (!b) = true) : b = false := by
  cases b with
  | true => cases h
  | false => rfl
theorem not_f {b : Bool} (h : (!b) = false) : b = true := by
  cases b with
  | true => rfl
  | false => cases h
def fMinds : List Th → Option Bool
  | [t, .int m] => if m ≤ 1000 then some (isMinds t m) else none
  | _ => none
theorem fMinds_is {ts : List Th} {b : Bool} (h : fMinds ts = some b) : ∃ t m, ts = [t, .int m] ∧ m ≤ 1000 ∧ b = isMinds t m := by
  unfold fMinds at h
  split at h
  · split at h
    · rename_i hc
      exact ⟨_, _, rfl, hc, (Option.some.inj h).symm⟩
    · cases h
  · cases h
def fHand : List Th → Option Bool
  | [t, .int m] => if m ≤ 1000 then some (isHand t m) else none
  | _ => none
theorem fHand_is {ts : List Th} {b : Bool} (h : fHand ts = some b) : ∃ t m, ts = [t, .int m] ∧ m ≤ 1000 ∧ b = isHand t m := by
  unfold fHand at h
  split at h
  · split at h
    · rename_i hc
      exact ⟨_, _, rfl, hc, (Option.some.inj h).symm⟩
    · cases h
  · cases h
def fHands : List Th → Option Bool
  | [t, .int m] => if m ≤ 1000 then some (isHands t m) else none
  | _ => none
theorem fHands_is {ts : List Th} {b : Bool} (h : fHands ts = some b) : ∃ t m, ts = [t, .int m] ∧ m ≤ 1000 ∧ b = isHands t m := by
  unfold fHands at h
  split at h
  · split at h
    · rename_i hc
      exact ⟨_, _, rfl, hc, (Option.some.inj h).symm⟩
    · cases h
  · cases h
def fSt (g : Th → List Th → Bool) : List Th → Option Bool
  | [t, .tup fs] => if fs.all isFrame = true then some (g t fs) else none
  | _ => none
theorem fSt_is {g : Th → List Th → Bool} {ts : List Th} {b : Bool} (h : fSt g ts = some b) : ∃ t fs, ts = [t, .tup fs] ∧ fs.all isFrame = true ∧ b = g t fs := by
  unfold fSt at h
  split at h
  · split at h
    · rename_i hc
      exact ⟨_, _, rfl, hc, (Option.some.inj h).symm⟩
    · cases h
  · cases h
section
variable {P : Program} {w : World} {K : PySem.W.Frag} {mg : Str → Option Value} {base : Heap} {Ps : List Addr}
theorem pr_minds (T : Bi mg) (D : Dt K mg base Ps "are_minds" s_are_minds ["thing", "many"]) (g1 : Pr P w K mg base 1 "is_tuple_of" s_is_tuple_of ["thing", "least", "most"] (spF K Ps (fn3 isTupleOf))) (g2 : Pr P w K mg base 2 "is_within" s_is_within ["thing", "low", "high"] (spF K Ps (fn3 isWithin)))
    (g3 : Pr P w K mg base 2 "is_rising" s_is_rising ["parts"] (spF K Ps fRising)) : Pr P w K mg base 4 "are_minds" s_are_minds ["thing", "many"] (spF K Ps fMinds) := by
  obtain ⟨f, fd, c, PT, D, TB_are_minds, hPT⟩ := D
  obtain ⟨f1, fd1, D_is_tuple_of, G_is_tuple_of⟩ := g1
  obtain ⟨f2, fd2, D_is_within, G_is_within⟩ := g2
  obtain ⟨f3, fd3, D_is_rising, G_is_rising⟩ := g3
  refine ⟨f, fd, D.d, D.C.ok sc_are_minds (len_spF fun ts b h => by obtain ⟨_, _, rfl, _⟩ := fMinds_is h; rfl) (fun A outer s H vs Q E hr h => ?_)⟩
  obtain ⟨ts, b, hv, hF, hT, q⟩ := h
  obtain ⟨t, many, rfl, hm, rfl⟩ := fMinds_is hF
  obtain ⟨v, v2, rfl, hr1, hr2⟩ := ra2 hv
  cases rp_int hr2
  refine ⟨_, (pss_one (ps_ret (pe_and (pe_call G_is_tuple_of (hr.mono (by omega)) (by rfl) D_is_tuple_of.g D_is_tuple_of.F.kp D_is_tuple_of.b .nil pass0 (pa_cons (pv 0) (pa_cons pe_int (pa_cons (pv 1) pa_nil)))) (pe_and (pe_allG (k := 2) (own := [("part", 2)]) (g := (gName 2)) (hr.mono (by omega)) (by rfl) T.all rfl sc_are_minds.nd TB_are_minds rfl ⟨blkOk_by (N := ["thing", "many", "part"]) (sc := defScope s_are_minds) (by decide +kernel), rfl, by decide +kernel, rfl⟩ (pi_tup (pv 0)) (fun _ _ _ _ _ _ _ => (pg_name (i := 2) sc_are_minds.nd rfl (.inl rfl))) (fun _ _ _ _ _ _ _ hr => (pe_call G_is_within (hr.mono (by omega)) (by rfl) D_is_within.g D_is_within.F.kp D_is_within.b .nil pass0 (pa_cons (pv 2) (pa_cons pe_int (pa_cons (pe_op op_sub (pv 1) pe_int) pa_nil)))))) (pe_one (pe_call G_is_rising (hr.mono (by omega)) (by rfl) D_is_rising.g D_is_rising.F.kp D_is_rising.b .nil pass0 (pa_cons (pv 0) pa_nil))))))), ?_⟩
  refine sr_ret (ev_andV (b := (parts t).all (fun p => isWithin p 0 (many - 1)) && rising (parts t)) (ev_tup (ev_var rfl) hr1 ev_c (ev_var rfl) hT) fun hw => ?_) q
  obtain ⟨us, rfl, _, l2⟩ := tup_len hw
  refine ev_andV (ev_all (fun p => isWithin p 0 (many - 1)) (ewr_tup (ev_var rfl) hr1) (hT PT hPT) fun i d x H1 e1 hd hx => ⟨_, tg_name, rfl, ev_win (ev_var rfl) hx ev_c (ev_op (ev_var rfl) ev_c rv_I0) (hT.ex e1)⟩) fun hall => ?_
  refine ev_callF (F := fRising) (ea_cons (ev_var rfl) ea_nil) (.cons hr1 .nil) ?_ hT
  show (if cmpOk us = true then some (rising us) else none) = _
  rw [if_pos]
  · rfl
  · unfold cmpOk
    have h1 : us.all isWhole = true := List.all_eq_true.mpr fun t ht => by
      obtain ⟨i, rfl, _⟩ := int_within (List.all_eq_true.mp hall t ht)
      rfl
    have h2 : us.length ≤ 1000 := by omega
    rw [h1, decide_eq_true h2]
    rfl
theorem ra4 {H : Hp} {vs : List V} {t1 t2 t3 t4 : Th} (h : RpAll K H vs [t1, t2, t3, t4]) : ∃ v1 v2 v3 v4, vs = [v1, v2, v3, v4] ∧ Rp K H v1 t1 ∧ Rp K H v2 t2 ∧ Rp K H v3 t3 ∧ Rp K H v4 t4 := by
  cases h with
  | cons h1 h =>
    obtain ⟨a, b, d, rfl, r1, r2, r3⟩ := ra3 h
    exact ⟨_, a, b, d, rfl, h1, r1, r2, r3⟩
theorem none_dec {H : Hp} {v : V} {t : Th} (h : Rp K H v t) : decide (v = .non) = isNone t := by
  cases h with
  | non => rfl
  | _ => exact decide_eq_false (fun z => by cases z)
theorem pr_hand (T : Bi mg) (hB : ∃ t, mg "BIG" = some (.int (10 ^ 30) t)) (D : Dn K mg "is_hand" s_is_hand ["thing", "many"]) (g1 : Pr P w K mg base 1 "is_tuple_of" s_is_tuple_of ["thing", "least", "most"] (spF K Ps (fn3 isTupleOf))) (g2 : Pr P w K mg base 2 "is_within" s_is_within ["thing", "low", "high"] (spF K Ps (fn3 isWithin)))
    (g3 : Pr P w K mg base 4 "are_minds" s_are_minds ["thing", "many"] (spF K Ps fMinds)) : Pr P w K mg base 5 "is_hand" s_is_hand ["thing", "many"] (spF K Ps fHand) := by
  obtain ⟨f, fd, D⟩ := D
  obtain ⟨f1, fd1, D_is_tuple_of, G_is_tuple_of⟩ := g1
  obtain ⟨f2, fd2, D_is_within, G_is_within⟩ := g2
  obtain ⟨f3, fd3, D_are_minds, G_are_minds⟩ := g3
  obtain ⟨tb, hbig⟩ := hB
  refine ⟨f, fd, D, D.F.ok sc_is_hand (len_spF fun ts b h => by obtain ⟨_, _, rfl, _⟩ := fHand_is h; rfl) (fun cdv A outer s H vs Q E hr h => ?_)⟩
  obtain ⟨ts, b, hv, hF, hT, q⟩ := h
  obtain ⟨t, many, rfl, hm, rfl⟩ := fHand_is hF
  obtain ⟨v, vm, rfl, hr1, hr2⟩ := ra2 hv
  cases rp_int hr2
  refine ⟨_, (pss_cons (ps_if (pt_not (pt_val (pe_call G_is_tuple_of (hr.mono (by omega)) (by rfl) D_is_tuple_of.g D_is_tuple_of.F.kp D_is_tuple_of.b .nil pass0 (pa_cons (pv 0) (pa_cons pe_int (pa_cons pe_int pa_nil)))))) (pss_one (ps_ret pe_bl)) pss_nil)
      (pss_cons (ps_asg (pv 0) (pg_tup rfl (pgs_cons (pg_name (i := 2) sc_is_hand.nd rfl (.inl rfl)) (pgs_cons (pg_name (i := 3) sc_is_hand.nd rfl (.inl rfl)) (pgs_cons (pg_name (i := 4) sc_is_hand.nd rfl (.inl rfl)) (pgs_cons (pg_name (i := 5) sc_is_hand.nd rfl (.inl rfl)) pgs_nil))))))
      (pss_cons (ps_if (pt_not (PW.pt (pw_and (pt_val (pe_call G_is_within (hr.mono (by omega)) (by rfl) D_is_within.g D_is_within.F.kp D_is_within.b .nil pass0 (pa_cons (pv 2) (pa_cons pe_int (pa_cons (pe_op op_sub (pv 1) pe_int) pa_nil))))) (pw_and (pt_val (pe_call G_are_minds (hr.mono (by omega)) (by rfl) D_are_minds.g D_are_minds.F.kp D_are_minds.b .nil pass0 (pa_cons (pv 3) (pa_cons (pv 1) pa_nil)))) (pw_and1 (pt_val (pe_call G_is_within (hr.mono (by omega)) (by rfl) D_is_within.g D_is_within.F.kp D_is_within.b .nil pass0 (pa_cons (pv 4) (pa_cons pe_int (pa_cons (pe_glob rfl hbig (v := .int (10 ^ 30)) ⟨_, rfl⟩) pa_nil)))))))))) (pss_one (ps_ret pe_bl)) pss_nil)
      (pss_one (ps_ret (pe_or (pe_cmpR op_isN (pv 5) pe_non (nomark _)) (pe_one (pe_call G_is_within (hr.mono (by omega)) (by rfl) D_is_within.g D_is_within.F.kp D_is_within.b .nil pass0 (pa_cons (pv 5) (pa_cons (pe_op op_add (pv 4) pe_int) (pa_cons (pe_glob rfl hbig (v := .int (10 ^ 30)) ⟨_, rfl⟩) pa_nil))))))))))), ?_⟩
  refine q_when (et_not (et_B (ev_tup (ev_var rfl) hr1 ev_c ev_c hT))) (fun hb H1 e1 => ?_) (fun hb H1 e1 => ?_)
  · have hz : isHand t many = false := by
      unfold isHand
      have : isTupleOf t 4 4 = false := by simpa using hb
      rw [this]
      rfl
    rw [hz] at q
    exact q H1 e1
  · have hw : isTupleOf t 4 4 = true := by simpa using hb
    obtain ⟨us, rfl, l1, l2⟩ := tup_len hw
    obtain ⟨k1, k2, k3, k4, rfl⟩ : ∃ k1 k2 k3 k4, us = [k1, k2, k3, k4] := by
      match us, l1, l2 with
      | [x, y, z, u], _, _ => exact ⟨x, y, z, u, rfl⟩
      | [], h, _ => simp at h
      | [_], h, _ => simp at h
      | [_, _], h, _ => simp at h
      | [_, _, _], h, _ => simp at h
      | _ :: _ :: _ :: _ :: _ :: _, _, h => simp at h; omega
    obtain ⟨a, xs, rfl, hs, ha⟩ := rp_tup (rp_mono e1 hr1)
    obtain ⟨v1, v2, v3, v4, rfl, r1, r2, r3, r4⟩ := ra4 ha
    have hT1 := hT.ex e1
    refine ⟨.ref a, rfl, a, [v1, v2, v3, v4], rfl, hs, rfl, _, _, rfl, _, _, rfl, _, _, rfl, _, _, rfl, rfl, ?_⟩
    dsimp only
    have hq : ∀ H', Ex H1 H' → Q (.bl ((isWithin k1 0 (many - 1) && (isMinds k2 many && isWithin k3 0 (10 ^ 30))) && (isNone k4 || isWithin k4 (asInt k3 + 1) (10 ^ 30)))) H' := fun H' e' => by
      have z := q H' (e1.trans e')
      unfold isHand at z
      rw [hw, Bool.true_and] at z
      exact z
    refine q_when (et_not (et_and (et_B (ev_win (ev_var rfl) r1 ev_c (ev_op (ev_var rfl) ev_c rv_I0) hT1)) fun _ => et_and (et_B (ev_callF (F := fMinds) (b := isMinds k2 many) (ea_cons (ev_var rfl) (ea_cons (ev_var rfl) ea_nil)) (.cons r2 (.cons (.int many) .nil)) (if_pos hm) hT1)) fun _ => et_B (ev_win (ev_var rfl) r3 ev_c ev_c hT1))) (fun hb2 H2 e2 => ?_) (fun hb2 H2 e2 => ?_)
    · have hz : (isWithin k1 0 (many - 1) && (isMinds k2 many && isWithin k3 0 (10 ^ 30))) = false := not_t hb2
      have z := hq H2 e2
      rw [hz, Bool.false_and] at z
      exact z
    · have hz : (isWithin k1 0 (many - 1) && (isMinds k2 many && isWithin k3 0 (10 ^ 30))) = true := not_f hb2
      have hq2 : ∀ H', Ex H2 H' → Q (.bl (isNone k4 || isWithin k4 (asInt k3 + 1) (10 ^ 30))) H' := fun H' e' => by
        have z := hq H' (e2.trans e')
        rw [hz, Bool.true_and] at z
        exact z
      rw [Bool.and_eq_true, Bool.and_eq_true] at hz
      obtain ⟨st, rfl, _⟩ := int_within hz.2.2
      cases rp_int r3
      refine sr_ret (ev_orV (ev_op (ev_var rfl) ev_c ?_) fun _ => ev_win (ev_var rfl) (rp_mono e2 r4) (ev_op (ev_var rfl) ev_c rv_I0) ev_c (hT1.ex e2)) hq2
      intro H3 e3 Q' q'
      refine ⟨rfl, ?_⟩
      rw [none_dec r4]
      exact q' H3 (Ex.refl H3)
theorem pr_hands (T : Bi mg) (hM : ∃ t, mg "MOST_HANDS" = some (.int 16 t)) (D : Dt K mg base Ps "are_hands" s_are_hands ["thing", "many"]) (g1 : Pr P w K mg base 1 "is_tuple_of" s_is_tuple_of ["thing", "least", "most"] (spF K Ps (fn3 isTupleOf))) (g2 : Pr P w K mg base 5 "is_hand" s_is_hand ["thing", "many"] (spF K Ps fHand)) :
    Pr P w K mg base 7 "are_hands" s_are_hands ["thing", "many"] (spF K Ps fHands) := by
  obtain ⟨tm, hmo⟩ := hM
  obtain ⟨f, fd, c, PT, D, TB_are_hands, hPT⟩ := D
  obtain ⟨f1, fd1, D_is_tuple_of, G_is_tuple_of⟩ := g1
  obtain ⟨f2, fd2, D_is_hand, G_is_hand⟩ := g2
  refine ⟨f, fd, D.d, D.C.ok sc_are_hands (len_spF fun ts b h => by obtain ⟨_, _, rfl, _⟩ := fHands_is h; rfl) (fun A outer s H vs Q E hr h => ?_)⟩
  obtain ⟨ts, b, hv, hF, hT, q⟩ := h
  obtain ⟨t, many, rfl, hm, rfl⟩ := fHands_is hF
  obtain ⟨v, vm, rfl, hr1, hr2⟩ := ra2 hv
  cases rp_int hr2
  refine ⟨_, (pss_one (ps_ret (pe_and (pe_call G_is_tuple_of (hr.mono (by omega)) (by rfl) D_is_tuple_of.g D_is_tuple_of.F.kp D_is_tuple_of.b .nil pass0 (pa_cons (pv 0) (pa_cons pe_int (pa_cons (pe_glob rfl hmo (v := .int 16) ⟨_, rfl⟩) pa_nil)))) (pe_one (pe_allG (k := 5) (own := [("part", 2)]) (g := (gName 2)) (hr.mono (by omega)) (by rfl) T.all rfl sc_are_hands.nd TB_are_hands rfl ⟨blkOk_by (N := ["thing", "many", "part"]) (sc := defScope s_are_hands) (by decide +kernel), rfl, by decide +kernel, rfl⟩ (pi_tup (pv 0)) (fun _ _ _ _ _ _ _ => (pg_name (i := 2) sc_are_hands.nd rfl (.inl rfl))) (fun _ _ _ _ _ _ _ hr => (pe_call G_is_hand (hr.mono (by omega)) (by rfl) D_is_hand.g D_is_hand.F.kp D_is_hand.b .nil pass0 (pa_cons (pv 2) (pa_cons (pv 1) pa_nil))))))))), ?_⟩
  refine sr_ret (ev_andV (b := (parts t).all fun p => isHand p many) (ev_tup (ev_var rfl) hr1 ev_c ev_c hT) fun hw => ?_) q
  obtain ⟨us, rfl, _, l2⟩ := tup_len hw
  exact ev_all (fun p => isHand p many) (ewr_tup (ev_var rfl) hr1) (hT PT hPT) fun i d x H1 e1 hd hx => ⟨_, tg_name, rfl, ev_callF (F := fHand) (ea_cons (ev_var rfl) (ea_cons (ev_var rfl) ea_nil)) (.cons hx (.cons (.int many) .nil)) (if_pos hm) (hT.ex e1)⟩
theorem pr_stray (T : Bi mg) (hB : ∃ t, mg "BIG" = some (.int (10 ^ 30) t)) (D : Dn K mg "is_stray" s_is_stray ["thing", "frames"]) (g1 : Pr P w K mg base 1 "is_tuple_of" s_is_tuple_of ["thing", "least", "most"] (spF K Ps (fn3 isTupleOf))) (g2 : Pr P w K mg base 2 "is_within" s_is_within ["thing", "low", "high"] (spF K Ps (fn3 isWithin))) :
    Pr P w K mg base 3 "is_stray" s_is_stray ["thing", "frames"] (spF K Ps (fSt isStray)) := by
  obtain ⟨f, fd, D⟩ := D
  obtain ⟨f1, fd1, D_is_tuple_of, G_is_tuple_of⟩ := g1
  obtain ⟨f2, fd2, D_is_within, G_is_within⟩ := g2
  obtain ⟨tb, hbig⟩ := hB
  refine ⟨f, fd, D, D.F.ok sc_is_stray (len_spF fun ts b h => by obtain ⟨_, _, rfl, _⟩ := fSt_is h; rfl) (fun cdv A outer s H vs Q E hr h => ?_)⟩
  obtain ⟨ts, b, hv, hF, hT, q⟩ := h
  obtain ⟨t, fs, rfl, hfs, rfl⟩ := fSt_is hF
  obtain ⟨v, vf, rfl, hr1, hr2⟩ := ra2 hv
  refine ⟨_, (pss_cons (ps_if (pt_not (pt_val (pe_call G_is_tuple_of (hr.mono (by omega)) (by rfl) D_is_tuple_of.g D_is_tuple_of.F.kp D_is_tuple_of.b .nil pass0 (pa_cons (pv 0) (pa_cons pe_int (pa_cons pe_int pa_nil)))))) (pss_one (ps_ret pe_bl)) pss_nil)
      (pss_cons (ps_asg (pv 0) (pg_tup rfl (pgs_cons (pg_name (i := 2) sc_is_stray.nd rfl (.inl rfl)) (pgs_cons (pg_name (i := 3) sc_is_stray.nd rfl (.inl rfl)) (pgs_cons (pg_name (i := 4) sc_is_stray.nd rfl (.inl rfl)) pgs_nil)))))
      (pss_cons (ps_if (pt_not (PW.pt (pw_and (pt_val (pe_call G_is_within (hr.mono (by omega)) (by rfl) D_is_within.g D_is_within.F.kp D_is_within.b .nil pass0 (pa_cons (pv 2) (pa_cons pe_int (pa_cons (pe_op op_sub (pe_callB (r := rLenS K) call_len_seq (by rfl) T.len PySem.boot_len (pa_cons (pv 1) pa_nil)) pe_int) pa_nil))))) (pw_and1 (pt_val (pe_call G_is_within (hr.mono (by omega)) (by rfl) D_is_within.g D_is_within.F.kp D_is_within.b .nil pass0 (pa_cons (pv 3) (pa_cons pe_int (pa_cons (pe_glob rfl hbig (v := .int (10 ^ 30)) ⟨_, rfl⟩) pa_nil))))))))) (pss_one (ps_ret pe_bl)) pss_nil)
      (pss_one (ps_ret (pe_call G_is_within (hr.mono (by omega)) (by rfl) D_is_within.g D_is_within.F.kp D_is_within.b .nil pass0 (pa_cons (pv 4) (pa_cons pe_int (pa_cons (pe_op op_sub (pe_ix (r := rIxT K) ix_tup (pe_ix (r := rIxT K) ix_tup (pv 1) (pv 2) (fun _ _ => rfl)) pe_int (fun _ _ => rfl)) pe_int) pa_nil))))))))), ?_⟩
  refine q_when (et_not (et_B (ev_tup (ev_var rfl) hr1 ev_c ev_c hT))) (fun hb H1 e1 => ?_) (fun hb H1 e1 => ?_)
  · have hz : isStray t fs = false := by
      unfold isStray
      have : isTupleOf t 3 3 = false := by simpa using hb
      rw [this]
      rfl
    rw [hz] at q
    exact q H1 e1
  · have hw : isTupleOf t 3 3 = true := by simpa using hb
    obtain ⟨us, rfl, l1, l2⟩ := tup_len hw
    obtain ⟨k1, k2, k3, rfl⟩ : ∃ x y z, us = [x, y, z] := by
      match us, l1, l2 with
      | [x, y, z], _, _ => exact ⟨x, y, z, rfl⟩
      | [], h, _ => simp at h
      | [_], h, _ => simp at h
      | [_, _], h, _ => simp at h
      | _ :: _ :: _ :: _ :: _, _, h => simp at h; omega
    obtain ⟨a, xs, rfl, hs, ha⟩ := rp_tup (rp_mono e1 hr1)
    obtain ⟨v1, v2, v3, rfl, r1, r2, r3⟩ := ra3 ha
    have hT1 := hT.ex e1
    have hf1 := rp_mono e1 hr2
    refine ⟨.ref a, rfl, a, [v1, v2, v3], rfl, hs, rfl, _, _, rfl, _, _, rfl, _, _, rfl, rfl, ?_⟩
    dsimp only
    have hq : ∀ H', Ex H1 H' → Q (.bl ((isWithin k1 0 ((fs.length : Int) - 1) && isWithin k2 1 (10 ^ 30)) && isWithin k3 0 (threadsOf fs k1 - 1))) H' := fun H' e' => by
      have z := q H' (e1.trans e')
      unfold isStray at z
      rw [hw, Bool.true_and] at z
      exact z
    refine q_when (et_not (et_and (et_B (ev_win (ev_var rfl) r1 ev_c (ev_op (ev_lenR (ev_var rfl) hf1) ev_c rv_I0) hT1)) fun _ => et_B (ev_win (ev_var rfl) r2 ev_c ev_c hT1))) (fun hb2 H2 e2 => ?_) (fun hb2 H2 e2 => ?_)
    · have hz : (isWithin k1 0 ((fs.length : Int) - 1) && isWithin k2 1 (10 ^ 30)) = false := not_t hb2
      have z := hq H2 e2
      rw [hz, Bool.false_and] at z
      exact z
    · have hz : (isWithin k1 0 ((fs.length : Int) - 1) && isWithin k2 1 (10 ^ 30)) = true := not_f hb2
      have hq2 : ∀ H', Ex H2 H' → Q (.bl (isWithin k3 0 (threadsOf fs k1 - 1))) H' := fun H' e' => by
        have z := hq H' (e2.trans e')
        rw [hz, Bool.true_and] at z
        exact z
      rw [Bool.and_eq_true] at hz
      obtain ⟨fr, rfl, f0, f1⟩ := int_within hz.1
      cases rp_int r1
      have hk : fr.toNat < fs.length := by omega
      have g1 : fs[fr.toNat]? = some fs[fr.toNat] := List.getElem?_eq_getElem hk
      obtain ⟨ws, th, ew, hth⟩ := frame_threads (List.all_eq_true.mp hfs _ (List.getElem_mem hk))
      obtain ⟨u1, ru1, kk1⟩ := ix_of (i := fr) (rp_mono e2 hf1) g1 (by omega)
      rw [ew] at ru1
      obtain ⟨u2, ru2, kk2⟩ := ix_of (i := 1) (j := 1) ru1 hth rfl
      cases rp_int ru2
      have et : threadsOf fs (.int fr) = th := by
        unfold threadsOf
        have eg : fs.getD fr.toNat .none = .tup ws := by
          rw [List.getD_eq_getElem?_getD, g1, ew]
          rfl
        show asInt ((parts (fs.getD fr.toNat .none)).getD 1 .none) = th
        rw [eg]
        show asInt (ws.getD 1 .none) = th
        rw [List.getD_eq_getElem?_getD, hth]
        rfl
      rw [et] at hq2
      exact sr_ret (ev_win (ev_var rfl) (rp_mono e2 r3) ev_c (ev_op (ev_op (ev_op (ev_var rfl) (ev_var rfl) kk1) ev_c kk2) ev_c rv_I0) (hT1.ex e2)) hq2
theorem pr_strays (T : Bi mg) (hM : ∃ t, mg "MOST_STRAYS" = some (.int 16 t)) (D : Dt K mg base Ps "are_strays" s_are_strays ["thing", "frames"]) (g1 : Pr P w K mg base 1 "is_tuple_of" s_is_tuple_of ["thing", "least", "most"] (spF K Ps (fn3 isTupleOf))) (g2 : Pr P w K mg base 3 "is_stray" s_is_stray ["thing", "frames"] (spF K Ps (fSt isStray)))
    (g3 : Pr P w K mg base 2 "is_rising" s_is_rising ["parts"] (spF K Ps fRising)) : Pr P w K mg base 5 "are_strays" s_are_strays ["thing", "frames"] (spF K Ps (fSt isStrays)) := by
  obtain ⟨tm, hmo⟩ := hM
  obtain ⟨f, fd, c, PT, D, TB_are_strays, hPT⟩ := D
  obtain ⟨f1, fd1, D_is_tuple_of, G_is_tuple_of⟩ := g1
  obtain ⟨f2, fd2, D_is_stray, G_is_stray⟩ := g2
  obtain ⟨f3, fd3, D_is_rising, G_is_rising⟩ := g3
  refine ⟨f, fd, D.d, D.C.ok sc_are_strays (len_spF fun ts b h => by obtain ⟨_, _, rfl, _⟩ := fSt_is h; rfl) (fun A outer s H vs Q E hr h => ?_)⟩
  obtain ⟨ts, b, hv, hF, hT, q⟩ := h
  obtain ⟨t, fs, rfl, hfs, rfl⟩ := fSt_is hF
  obtain ⟨v, vf, rfl, hr1, hr2⟩ := ra2 hv
  refine ⟨_, (pss_one (ps_ret (pe_and (pe_call G_is_tuple_of (hr.mono (by omega)) (by rfl) D_is_tuple_of.g D_is_tuple_of.F.kp D_is_tuple_of.b .nil pass0 (pa_cons (pv 0) (pa_cons pe_int (pa_cons (pe_glob rfl hmo (v := .int 16) ⟨_, rfl⟩) pa_nil)))) (pe_and (pe_allG (k := 3) (own := [("part", 2)]) (g := (gName 2)) (hr.mono (by omega)) (by rfl) T.all rfl sc_are_strays.nd TB_are_strays rfl ⟨blkOk_by (N := ["thing", "frames", "part"]) (sc := defScope s_are_strays) (by decide +kernel), rfl, by decide +kernel, rfl⟩ (pi_tup (pv 0)) (fun _ _ _ _ _ _ _ => (pg_name (i := 2) sc_are_strays.nd rfl (.inl rfl))) (fun _ _ _ _ _ _ _ hr => (pe_call G_is_stray (hr.mono (by omega)) (by rfl) D_is_stray.g D_is_stray.F.kp D_is_stray.b .nil pass0 (pa_cons (pv 2) (pa_cons (pv 1) pa_nil))))) (pe_one (pe_call G_is_rising (hr.mono (by omega)) (by rfl) D_is_rising.g D_is_rising.F.kp D_is_rising.b .nil pass0 (pa_cons (pv 0) pa_nil))))))), ?_⟩
  refine sr_ret (ev_andV (b := (parts t).all (fun p => isStray p fs) && rising (parts t)) (ev_tup (ev_var rfl) hr1 ev_c ev_c hT) fun hw => ?_) q
  obtain ⟨us, rfl, _, l2⟩ := tup_len hw
  refine ev_andV (ev_all (fun p => isStray p fs) (ewr_tup (ev_var rfl) hr1) (hT PT hPT) fun i d x H1 e1 hd hx => ⟨_, tg_name, rfl, ev_callF (F := fSt isStray) (ea_cons (ev_var rfl) (ea_cons (ev_var rfl) ea_nil)) (.cons hx (.cons (rp_mono e1 hr2) .nil)) (if_pos hfs) (hT.ex e1)⟩) fun hall => ?_
  refine ev_callF (F := fRising) (ea_cons (ev_var rfl) ea_nil) (.cons hr1 .nil) ?_ hT
  show (if cmpOk us = true then some (rising us) else none) = _
  rw [if_pos]
  · rfl
  · unfold cmpOk
    have h1 : us.all intTup = true := List.all_eq_true.mpr fun t ht => stray_tup (List.all_eq_true.mp hall t ht)
    have h2 : us.length ≤ 1000 := by omega
    rw [h1, decide_eq_true h2, Bool.or_true]
    rfl
theorem pr_yard (T : Bi mg) (D : Dn K mg "is_yard" s_is_yard ["thing"]) (g1 : Pr P w K mg base 1 "is_tuple_of" s_is_tuple_of ["thing", "least", "most"] (spF K Ps (fn3 isTupleOf))) (g2 : Pr P w K mg base 8 "are_frames" s_are_frames ["thing"] (spF K Ps (fn1 isFrames)))
    (g3 : Pr P w K mg base 6 "are_walks" s_are_walks ["thing", "many"] (spF K Ps (fn2 isWalks))) (g4 : Pr P w K mg base 4 "are_pieces" s_are_pieces ["thing"] (spF K Ps (fn1 isPieces))) (g5 : Pr P w K mg base 1 "is_rule" s_is_rule ["thing"] (spF K Ps (fn1 isRule)))
    (g6 : Pr P w K mg base 7 "are_hands" s_are_hands ["thing", "many"] (spF K Ps fHands)) (g7 : Pr P w K mg base 5 "are_strays" s_are_strays ["thing", "frames"] (spF K Ps (fSt isStrays))) : Pr P w K mg base 9 "is_yard" s_is_yard ["thing"] (spF K Ps (fn1 isYard)) := by
  obtain ⟨f, fd, D⟩ := D
  obtain ⟨f1, fd1, D_is_tuple_of, G_is_tuple_of⟩ := g1
  obtain ⟨f2, fd2, D_are_frames, G_are_frames⟩ := g2
  obtain ⟨f3, fd3, D_are_walks, G_are_walks⟩ := g3
  obtain ⟨f4, fd4, D_are_pieces, G_are_pieces⟩ := g4
  obtain ⟨f5, fd5, D_is_rule, G_is_rule⟩ := g5
  obtain ⟨f6, fd6, D_are_hands, G_are_hands⟩ := g6
  obtain ⟨f7, fd7, D_are_strays, G_are_strays⟩ := g7
  refine ⟨f, fd, D, D.F.ok sc_is_yard (len_spF fun ts b h => by obtain ⟨_, rfl, _⟩ := fn1_is h; rfl) (fun cdv A outer s H vs Q E hr h => ?_)⟩
  obtain ⟨ts, b, hv, hF, hT, q⟩ := h
  obtain ⟨t, rfl, rfl⟩ := fn1_is hF
  obtain ⟨v, rfl, hr1⟩ := ra1 hv
  refine ⟨_, (pss_cons (ps_if (pt_not (pt_val (pe_call G_is_tuple_of (hr.mono (by omega)) (by rfl) D_is_tuple_of.g D_is_tuple_of.F.kp D_is_tuple_of.b .nil pass0 (pa_cons (pv 0) (pa_cons pe_int (pa_cons pe_int pa_nil)))))) (pss_one (ps_ret pe_bl)) pss_nil)
      (pss_cons (ps_asg (pv 0) (pg_tup rfl (pgs_cons (pg_name (i := 1) sc_is_yard.nd rfl (.inl rfl)) (pgs_cons (pg_name (i := 2) sc_is_yard.nd rfl (.inl rfl)) (pgs_cons (pg_name (i := 3) sc_is_yard.nd rfl (.inl rfl)) (pgs_cons (pg_name (i := 4) sc_is_yard.nd rfl (.inl rfl)) (pgs_cons (pg_name (i := 5) sc_is_yard.nd rfl (.inl rfl)) (pgs_cons (pg_name (i := 6) sc_is_yard.nd rfl (.inl rfl)) pgs_nil))))))))
      (pss_cons (ps_if (pt_not (pt_val (pe_call G_are_frames (hr.mono (by omega)) (by rfl) D_are_frames.g D_are_frames.F.kp D_are_frames.b .nil pass0 (pa_cons (pv 1) pa_nil)))) (pss_one (ps_ret pe_bl)) pss_nil)
      (pss_one (ps_ret (pe_and (pe_call G_are_walks (hr.mono (by omega)) (by rfl) D_are_walks.g D_are_walks.F.kp D_are_walks.b .nil pass0 (pa_cons (pv 2) (pa_cons (pe_callB (r := rLenS K) call_len_seq (by rfl) T.len PySem.boot_len (pa_cons (pv 1) pa_nil)) pa_nil))) (pe_and (pe_call G_are_pieces (hr.mono (by omega)) (by rfl) D_are_pieces.g D_are_pieces.F.kp D_are_pieces.b .nil pass0 (pa_cons (pv 3) pa_nil)) (pe_and (pe_call G_is_rule (hr.mono (by omega)) (by rfl) D_is_rule.g D_is_rule.F.kp D_is_rule.b .nil pass0 (pa_cons (pv 4) pa_nil)) (pe_and (pe_call G_are_hands (hr.mono (by omega)) (by rfl) D_are_hands.g D_are_hands.F.kp D_are_hands.b .nil pass0 (pa_cons (pv 5) (pa_cons (pe_callB (r := rLenS K) call_len_seq (by rfl) T.len PySem.boot_len (pa_cons (pv 1) pa_nil)) pa_nil))) (pe_one (pe_call G_are_strays (hr.mono (by omega)) (by rfl) D_are_strays.g D_are_strays.F.kp D_are_strays.b .nil pass0 (pa_cons (pv 6) (pa_cons (pv 1) pa_nil))))))))))))), ?_⟩
  refine q_when (et_not (et_B (ev_tup (ev_var rfl) hr1 ev_c ev_c hT))) (fun hb H1 e1 => ?_) (fun hb H1 e1 => ?_)
  · have hz : isYard t = false := by
      unfold isYard
      have : isTupleOf t 6 6 = false := by simpa using hb
      rw [this]
      rfl
    rw [hz] at q
    exact q H1 e1
  · have hw : isTupleOf t 6 6 = true := by simpa using hb
    obtain ⟨us, rfl, l1, l2⟩ := tup_len hw
    obtain ⟨k1, k2, k3, k4, k5, k6, rfl⟩ := six_of l1 l2
    obtain ⟨a, xs, rfl, hs, ha⟩ := rp_tup (rp_mono e1 hr1)
    obtain ⟨v1, v2, v3, v4, v5, v6, rfl, r1, r2, r3, r4, r5, r6⟩ := ra6 ha
    have hT1 := hT.ex e1
    refine ⟨.ref a, rfl, a, [v1, v2, v3, v4, v5, v6], rfl, hs, rfl, _, _, rfl, _, _, rfl, _, _, rfl, _, _, rfl, _, _, rfl, _, _, rfl, rfl, ?_⟩
    dsimp only
    have hq : ∀ H', Ex H1 H' → Q (.bl (isFrames k1 && (isWalks k2 ((parts k1).length : Int) && (isPieces k3 && (isRule k4 && (isHands k5 ((parts k1).length : Int) && isStrays k6 (parts k1))))))) H' := fun H' e' => by
      have z := q H' (e1.trans e')
      unfold isYard at z
      rw [hw, Bool.true_and] at z
      exact z
    refine q_when (et_not (et_B (ev_callF (F := fn1 isFrames) (ea_cons (ev_var rfl) ea_nil) (.cons r1 .nil) rfl hT1))) (fun hb2 H2 e2 => ?_) (fun hb2 H2 e2 => ?_)
    · have hz : isFrames k1 = false := by simpa using hb2
      have z := hq H2 e2
      rw [hz, Bool.false_and] at z
      exact z
    · have hz : isFrames k1 = true := by simpa using hb2
      have hq2 : ∀ H', Ex H2 H' → Q (.bl (isWalks k2 ((parts k1).length : Int) && (isPieces k3 && (isRule k4 && (isHands k5 ((parts k1).length : Int) && isStrays k6 (parts k1)))))) H' := fun H' e' => by
        have z := hq H' (e2.trans e')
        rw [hz, Bool.true_and] at z
        exact z
      unfold isFrames at hz
      rw [Bool.and_eq_true] at hz
      obtain ⟨fs, rfl, m1, m2⟩ := tup_len hz.1
      have hT2 := hT1.ex e2
      have rf := rp_mono e2 r1
      have hle : ((fs.length : Nat) : Int) ≤ 1000 := by omega
      exact sr_ret (ev_andV (ev_callF (F := fn2 isWalks) (ea_cons (ev_var rfl) (ea_cons (ev_lenR (ev_var rfl) rf) ea_nil)) (.cons (rp_mono e2 r2) (.cons (.int _) .nil)) rfl hT2) fun _ =>
        ev_andV (ev_callF (F := fn1 isPieces) (ea_cons (ev_var rfl) ea_nil) (.cons (rp_mono e2 r3) .nil) rfl hT2) fun _ =>
        ev_andV (ev_callF (F := fn1 isRule) (ea_cons (ev_var rfl) ea_nil) (.cons (rp_mono e2 r4) .nil) rfl hT2) fun _ =>
        ev_andV (ev_callF (F := fHands) (ea_cons (ev_var rfl) (ea_cons (ev_lenR (ev_var rfl) rf) ea_nil)) (.cons (rp_mono e2 r5) (.cons (.int _) .nil)) (if_pos hle) hT2) fun _ =>
        ev_callF (F := fSt isStrays) (ea_cons (ev_var rfl) (ea_cons (ev_var rfl) ea_nil)) (.cons (rp_mono e2 r6) (.cons rf .nil)) (if_pos hz.2) hT2) hq2
/-- what is never come to -/
theorem pss_never {X : Cx} {st : List Stmt} : PSs X st (fun _ _ _ => False) := ⟨fun _ _ _ _ _ _ h => h.elim⟩
end
/-- a class of errors that may be raised -/
structure Rz (K : PySem.W.Frag) (mg : Str → Option Value) (nm : Str) (C : Addr) : Prop where
  g : mg nm = some (.ref C)
  x : PySem.W.excIn K C [.type "ValueError", .type "Exception", .type "BaseException", .type "object"] "ValueError.__new__" = true
  k : PySem.W.keepIn K (.ref C) = true
  b : PySem.W.subIn K (.ref C) (.type "BaseException") = some true
  t : PySem.W.typeIn K (.ref C) = some (.type "type")
/-- a def that refuses with the class at C what isn't such, and else does nothing -/
def spNeed (K : PySem.W.Frag) (Ps : List Addr) (C : Addr) (F : Th → Bool) : Sp := fun vs H Q E => ∃ t, RpAll K H vs [t] ∧ Tb Ps H ∧ (F t = true → ∀ H', Ex H H' → Q .non H') ∧ (F t = false → ∀ H', Ex H H' → E (.ref C) none H')
section
variable {P : Program} {w : World} {K : PySem.W.Frag} {mg : Str → Option Value} {base : Heap} {Ps : List Addr}
theorem ok_need {f f1 C : Addr} {fd fd1 : FuncData} {k : Nat} {st1 : Stmt} (T : Bi mg) (R : Rz K mg "NoYard" C) (D : Df K mg "need_yard" s_need_yard ["thing"] f fd) (D_is_yard : Df K mg "is_yard" st1 ["thing"] f1 fd1) (G_is_yard : FnOk P w K mg base CX0 k f1 fd1 ["thing"] (spF K Ps (fn1 isYard))) :
    FnOk P w K mg base (L2.CX P w) (k + 1) f fd ["thing"] (spNeed K Ps C isYard) := by
  refine D.F.okX sc_need_yard (fun vs H Q E h => by obtain ⟨t, hr, _⟩ := h; rw [ra_len hr]; rfl) (fun cdv A outer s H vs Q E hr h => ?_)
  obtain ⟨t, hv, hT, hyes, hno⟩ := h
  obtain ⟨v, rfl, hr1⟩ := ra1 hv
  refine ⟨_, (pss_one (ps_if (pt_not (pt_val (pe_call G_is_yard (hr.mono (by omega)) (by rfl) D_is_yard.g D_is_yard.F.kp D_is_yard.b .nil pass0 (pa_cons (pv 0) pa_nil)))) (pss_one (ps_raise rfl (takes_of rfl rfl rfl rfl) (pmk_own PySem.F.excBase_ValueError R.x R.g R.k (raises_own R.b R.t) rfl))) pss_nil)), ?_⟩
  refine s_if (et_not (et_B (ev_callF (F := fn1 isYard) (ea_cons (ev_var rfl) ea_nil) (.cons hr1 .nil) rfl hT))) (fun hb H1 e1 => ?_) (fun hb H1 e1 => ?_)
  · exact hno (by simpa using hb) H1 e1
  · exact hyes (not_no hb) H1 e1
theorem ok_show {f f1 C : Addr} {fd fd1 : FuncData} {k : Nat} {st1 : Stmt} (D : Df K mg "show_yard" s_show_yard ["yard"] f fd) (D_need_yard : Df K mg "need_yard" st1 ["thing"] f1 fd1) (G_need_yard : FnOk P w K mg base (L2.CX P w) k f1 fd1 ["thing"] (spNeed K Ps C isYard)) :
    FnOk P w K mg base (L2.CX P w) (k + 1) f fd ["yard"] (spNo K Ps C noYard1) := by
  refine D.F.okX sc_show_yard (fun vs H Q E h => by obtain ⟨ts, hr, ⟨t, rfl, _⟩, _⟩ := h; rw [ra_len hr]; rfl) (fun cdv A outer s H vs Q E hr h => ?_)
  obtain ⟨ts, hv, ⟨t, rfl, hz⟩, hT, hno⟩ := h
  obtain ⟨v1, rfl, r1⟩ := ra1 hv
  refine ⟨_, (pss_cons (ps_expr (pe_callS G_need_yard (hr.mono (by omega)) (by rfl) D_need_yard.g D_need_yard.F.kp D_need_yard.b (fun σ => passAt (takes_of rfl rfl rfl rfl) σ) (pa_cons (pv 0) pa_nil))) pss_never), ?_⟩
  exact ⟨v1, rfl, t, .cons r1 .nil, hT, fun h => by (rw [hz] at h; cases h), fun _ H1 e1 => hno H1 e1⟩
end
end K01.Y

set_option Elab.async false
set_option linter.all false
set_option maxRecDepth 100000
set_option maxHeartbeats 4000000
namespace K01.Y
open PySem PySem.Spec PyProof.Rows L2 Evl DL GX YA EX TH TV YT DS
def tblC (cs : List Addr) : List (Str × Addr) := (("DoffError" :: errs : List Str)).zip cs
def atC (cs : List Addr) (n : Str) : Addr := ((tblC cs).lookup n).getD 0
theorem kit_cl {K : PySem.W.Frag} {D C : Addr} {b : Bool} (ht : PySem.W.typeIn K (.ref C) = some (.type "type")) (hd : PySem.W.hasDictIn K C = true) (hs : PySem.W.subIn K (.ref D) (.ref C) = some b) (hD : PySem.W.subIn K (.ref D) (.ref D) = some true) : PySem.W.kitOne K (.ref D) (.ref C) = some b := by
  unfold PySem.W.kitOne
  split
  · rename_i e
    have e : D = C := Value.ref.inj (beq_iff_eq.mp e)
    subst e
    rw [← hs, hD]
  · obtain ⟨cd, hc, _⟩ := PySem.W.any_some hd
    have e2 : ((PySem.W.clsIn K C).isSome && PySem.W.typeIn K (.ref C) == some (.type "type")) = true := by rw [hc, ht] <;> rfl
    show (if ((PySem.W.clsIn K C).isSome && PySem.W.typeIn K (.ref C) == some (.type "type")) = true then PySem.W.subIn K (.ref D) (.ref C) else none) = some b
    rw [if_pos e2]
    exact hs
theorem kit_ve {K : PySem.W.Frag} {D : Addr} {T : String} {b : Bool} (hs : PySem.W.subIn K (.ref D) (.type T) = some b) (hk : PySem.W.kitMeta T = true := by decide +kernel) : PySem.W.kitOne K (.ref D) (.type T) = some b := by
  unfold PySem.W.kitOne
  rw [if_neg (by intro h; exact absurd (beq_iff_eq.mp h) (by intro z; cases z))]
  show (if PySem.W.kitMeta T = true then PySem.W.subIn K (.ref D) (.type T) else none) = some b
  rw [if_pos hk]
  exact hs
theorem tab_mk {K : PySem.W.Frag} {x : Str} {st : Stmt} {f c P : Addr} {fd : FuncData} {oc : Value} {od : Option Addr} {vs : Array Value} {sl : Array (Option Value)} (b : PySem.W.nsIn K mainGlobals x = some (some (.ref f))) (F : FunC K x x st f fd c)
    (q : K.lookup c = some ⟨oc, od, .fields vs, sl⟩) (u : vs[11]? = some (.ref P)) : PySem.W.tabIn K x = some (c, P) := by
  obtain ⟨oc', od', kV, doc, pm, an, ct, osl, rfl, lk, _⟩ := F.ex
  unfold PySem.W.tabIn
  rw [b]
  dsimp only
  rw [lk]
  dsimp only [PySem.W.fnOf]
  rw [q]
  dsimp only
  rw [u]
theorem all_mk {l : PySem.W.OpenLaw} {qq : Program} {w : World} {K : PySem.W.Frag} {h : Heap} {mg : Str → Option Value} {fa f0 f1 f2 f3 f4 f5 f6 f7 f8 f9 f10 f11 f12 f13 f14 f15 f16 f17 f18 f19 f20 f21 f22 f23 f24 f25 f26 f27 f28 g0 g1 g2 g3 g4 g5 g6 g7 g8 k0 k1 k2 k3 k4 k5 k6 k7 k8 p0 p1 p2 p3 p4 p5 p6 p7 p8 c0 c1 c2 c3 c4 c5 c6 c7 c8 c9 c10 c11 c12 c13 c14 c15 c16 c17 c18 c19 aR : Addr} {d0 d1 d2 d3 d4 d5 d6 d7 d8 d9 d10 d11 d12 d13 d14 d15 d16 d17 d18 d19 d20 d21 d22 d23 d24 d25 d26 d27 d28 e0 e1 e2 e3 e4 e5 e6 e7 e8 : FuncData} {dR : Option Addr} {i1 i2 i3 tk1 tk2 : Tok} {nR : Nat} {xR sl0 sl1 sl2 sl3 sl4 sl5 sl6 sl7 sl8 : Array (Option Value)} {oc0 oc1 oc2 oc3 oc4 oc5 oc6 oc7 oc8 : Value} {od0 od1 od2 od3 od4 od5 od6 od7 od8 : Option Addr} {vv0 vv1 vv2 vv3 vv4 vv5 vv6 vv7 vv8 : Array Value} (X : K.In h) (G : h.Ns mainGlobals mg) (hfa : mg "law" = some (.ref fa))
    (a0 : PySem.W.nsIn K mainGlobals "law" = some (some (.ref f0))) (F0 : Fun K "law" "law" s_law f0 d0)
    (a1 : PySem.W.nsIn K mainGlobals "_law_pool" = some (some (.ref f1))) (F1 : Fun K "_law_pool" "_law_pool" s_law_pool f1 d1)
    (a2 : PySem.W.nsIn K mainGlobals "_law_take" = some (some (.ref f2))) (F2 : Fun K "_law_take" "_law_take" s_law_take f2 d2)
    (a3 : PySem.W.nsIn K mainGlobals "_law_frame" = some (some (.ref f3))) (F3 : Fun K "_law_frame" "_law_frame" s_law_frame f3 d3)
    (a4 : PySem.W.nsIn K mainGlobals "_law_hand" = some (some (.ref f4))) (F4 : Fun K "_law_hand" "_law_hand" s_law_hand f4 d4)
    (a5 : PySem.W.nsIn K mainGlobals "_law_strays" = some (some (.ref f5))) (F5 : Fun K "_law_strays" "_law_strays" s_law_strays f5 d5)
    (a6 : PySem.W.nsIn K mainGlobals "_law_yard" = some (some (.ref f6))) (F6 : Fun K "_law_yard" "_law_yard" s_law_yard f6 d6)
    (a7 : PySem.W.nsIn K mainGlobals "_law_whole" = some (some (.ref f7))) (F7 : Fun K "_law_whole" "_law_whole" s_law_whole f7 d7)
    (a8 : PySem.W.nsIn K mainGlobals "_law_rising" = some (some (.ref f8))) (F8 : Fun K "_law_rising" "_law_rising" s_law_rising f8 d8)
    (a9 : PySem.W.nsIn K mainGlobals "_law_is_frame" = some (some (.ref f9))) (F9 : Fun K "_law_is_frame" "_law_is_frame" s_law_is_frame f9 d9)
    (a10 : PySem.W.nsIn K mainGlobals "_law_are_walks" = some (some (.ref f10))) (F10 : Fun K "_law_are_walks" "_law_are_walks" s_law_are_walks f10 d10)
    (a11 : PySem.W.nsIn K mainGlobals "_law_is_hand" = some (some (.ref f11))) (F11 : Fun K "_law_is_hand" "_law_is_hand" s_law_is_hand f11 d11)
    (a12 : PySem.W.nsIn K mainGlobals "_law_is_stray" = some (some (.ref f12))) (F12 : Fun K "_law_is_stray" "_law_is_stray" s_law_is_stray f12 d12)
    (a13 : PySem.W.nsIn K mainGlobals "_law_is_yard" = some (some (.ref f13))) (F13 : Fun K "_law_is_yard" "_law_is_yard" s_law_is_yard f13 d13)
    (a14 : PySem.W.nsIn K mainGlobals "_law_odd" = some (some (.ref f14))) (F14 : Fun K "_law_odd" "_law_odd" s_law_odd f14 d14)
    (a15 : PySem.W.nsIn K mainGlobals "_law_bent" = some (some (.ref f15))) (F15 : Fun K "_law_bent" "_law_bent" s_law_bent f15 d15)
    (a16 : PySem.W.nsIn K mainGlobals "_law_refused" = some (some (.ref f16))) (F16 : Fun K "_law_refused" "_law_refused" s_law_refused f16 d16)
    (a17 : PySem.W.nsIn K mainGlobals "_law_right" = some (some (.ref f17))) (F17 : Fun K "_law_right" "_law_right" s_law_right f17 d17)
    (a18 : PySem.W.nsIn K mainGlobals "is_yard" = some (some (.ref f18))) (F18 : Fun K "is_yard" "is_yard" s_is_yard f18 d18)
    (a19 : PySem.W.nsIn K mainGlobals "is_whole" = some (some (.ref f19))) (F19 : Fun K "is_whole" "is_whole" s_is_whole f19 d19)
    (a20 : PySem.W.nsIn K mainGlobals "is_within" = some (some (.ref f20))) (F20 : Fun K "is_within" "is_within" s_is_within f20 d20)
    (a21 : PySem.W.nsIn K mainGlobals "is_tuple_of" = some (some (.ref f21))) (F21 : Fun K "is_tuple_of" "is_tuple_of" s_is_tuple_of f21 d21)
    (a22 : PySem.W.nsIn K mainGlobals "is_frame" = some (some (.ref f22))) (F22 : Fun K "is_frame" "is_frame" s_is_frame f22 d22)
    (a23 : PySem.W.nsIn K mainGlobals "is_row" = some (some (.ref f23))) (F23 : Fun K "is_row" "is_row" s_is_row f23 d23)
    (a24 : PySem.W.nsIn K mainGlobals "is_rule" = some (some (.ref f24))) (F24 : Fun K "is_rule" "is_rule" s_is_rule f24 d24)
    (a25 : PySem.W.nsIn K mainGlobals "is_hand" = some (some (.ref f25))) (F25 : Fun K "is_hand" "is_hand" s_is_hand f25 d25)
    (a26 : PySem.W.nsIn K mainGlobals "is_stray" = some (some (.ref f26))) (F26 : Fun K "is_stray" "is_stray" s_is_stray f26 d26)
    (a27 : PySem.W.nsIn K mainGlobals "need_yard" = some (some (.ref f27))) (F27 : Fun K "need_yard" "need_yard" s_need_yard f27 d27)
    (a28 : PySem.W.nsIn K mainGlobals "show_yard" = some (some (.ref f28))) (F28 : Fun K "show_yard" "show_yard" s_show_yard f28 d28)
    (b0 : PySem.W.nsIn K mainGlobals "is_rising" = some (some (.ref g0))) (G0 : FunC K "is_rising" "is_rising" s_is_rising g0 e0 k0)
    (b1 : PySem.W.nsIn K mainGlobals "are_rows" = some (some (.ref g1))) (G1 : FunC K "are_rows" "are_rows" s_are_rows g1 e1 k1)
    (b2 : PySem.W.nsIn K mainGlobals "are_frames" = some (some (.ref g2))) (G2 : FunC K "are_frames" "are_frames" s_are_frames g2 e2 k2)
    (b3 : PySem.W.nsIn K mainGlobals "is_walk" = some (some (.ref g3))) (G3 : FunC K "is_walk" "is_walk" s_is_walk g3 e3 k3)
    (b4 : PySem.W.nsIn K mainGlobals "are_walks" = some (some (.ref g4))) (G4 : FunC K "are_walks" "are_walks" s_are_walks g4 e4 k4)
    (b5 : PySem.W.nsIn K mainGlobals "are_pieces" = some (some (.ref g5))) (G5 : FunC K "are_pieces" "are_pieces" s_are_pieces g5 e5 k5)
    (b6 : PySem.W.nsIn K mainGlobals "are_hands" = some (some (.ref g6))) (G6 : FunC K "are_hands" "are_hands" s_are_hands g6 e6 k6)
    (b7 : PySem.W.nsIn K mainGlobals "are_minds" = some (some (.ref g7))) (G7 : FunC K "are_minds" "are_minds" s_are_minds g7 e7 k7)
    (b8 : PySem.W.nsIn K mainGlobals "are_strays" = some (some (.ref g8))) (G8 : FunC K "are_strays" "are_strays" s_are_strays g8 e8 k8)
    (r0 : ((recsOf qq).any fun e => e.name == ("is_rising" : Str)) = true) (q0 : K.lookup k0 = some ⟨oc0, od0, .fields vv0, sl0⟩) (u0 : vv0[11]? = some (.ref p0)) (l0 : K.lookup p0 = none)
    (r1 : ((recsOf qq).any fun e => e.name == ("are_rows" : Str)) = true) (q1 : K.lookup k1 = some ⟨oc1, od1, .fields vv1, sl1⟩) (u1 : vv1[11]? = some (.ref p1)) (l1 : K.lookup p1 = none)
    (r2 : ((recsOf qq).any fun e => e.name == ("are_frames" : Str)) = true) (q2 : K.lookup k2 = some ⟨oc2, od2, .fields vv2, sl2⟩) (u2 : vv2[11]? = some (.ref p2)) (l2 : K.lookup p2 = none)
    (r3 : ((recsOf qq).any fun e => e.name == ("is_walk" : Str)) = true) (q3 : K.lookup k3 = some ⟨oc3, od3, .fields vv3, sl3⟩) (u3 : vv3[11]? = some (.ref p3)) (l3 : K.lookup p3 = none)
    (r4 : ((recsOf qq).any fun e => e.name == ("are_walks" : Str)) = true) (q4 : K.lookup k4 = some ⟨oc4, od4, .fields vv4, sl4⟩) (u4 : vv4[11]? = some (.ref p4)) (l4 : K.lookup p4 = none)
    (r5 : ((recsOf qq).any fun e => e.name == ("are_pieces" : Str)) = true) (q5 : K.lookup k5 = some ⟨oc5, od5, .fields vv5, sl5⟩) (u5 : vv5[11]? = some (.ref p5)) (l5 : K.lookup p5 = none)
    (r6 : ((recsOf qq).any fun e => e.name == ("are_hands" : Str)) = true) (q6 : K.lookup k6 = some ⟨oc6, od6, .fields vv6, sl6⟩) (u6 : vv6[11]? = some (.ref p6)) (l6 : K.lookup p6 = none)
    (r7 : ((recsOf qq).any fun e => e.name == ("are_minds" : Str)) = true) (q7 : K.lookup k7 = some ⟨oc7, od7, .fields vv7, sl7⟩) (u7 : vv7[11]? = some (.ref p7)) (l7 : K.lookup p7 = none)
    (r8 : ((recsOf qq).any fun e => e.name == ("are_strays" : Str)) = true) (q8 : K.lookup k8 = some ⟨oc8, od8, .fields vv8, sl8⟩) (u8 : vv8[11]? = some (.ref p8)) (l8 : K.lookup p8 = none)
    (n0 : PySem.W.nsIn K mainGlobals "DoffError" = some (some (.ref c0))) (t0 : PySem.W.typeIn K (.ref c0) = some (.type "type")) (h0 : PySem.W.hasDictIn K c0 = true) (s0 : PySem.W.subIn K (.ref c18) (.ref c0) = some true)
    (n1 : PySem.W.nsIn K mainGlobals "NoCalls" = some (some (.ref c1))) (t1 : PySem.W.typeIn K (.ref c1) = some (.type "type")) (h1 : PySem.W.hasDictIn K c1 = true) (s1 : PySem.W.subIn K (.ref c18) (.ref c1) = some false)
    (n2 : PySem.W.nsIn K mainGlobals "NoDoffs" = some (some (.ref c2))) (t2 : PySem.W.typeIn K (.ref c2) = some (.type "type")) (h2 : PySem.W.hasDictIn K c2 = true) (s2 : PySem.W.subIn K (.ref c18) (.ref c2) = some false)
    (n3 : PySem.W.nsIn K mainGlobals "NoFrame" = some (some (.ref c3))) (t3 : PySem.W.typeIn K (.ref c3) = some (.type "type")) (h3 : PySem.W.hasDictIn K c3 = true) (s3 : PySem.W.subIn K (.ref c18) (.ref c3) = some false)
    (n4 : PySem.W.nsIn K mainGlobals "NoHand" = some (some (.ref c4))) (t4 : PySem.W.typeIn K (.ref c4) = some (.type "type")) (h4 : PySem.W.hasDictIn K c4 = true) (s4 : PySem.W.subIn K (.ref c18) (.ref c4) = some false)
    (n5 : PySem.W.nsIn K mainGlobals "NoMany" = some (some (.ref c5))) (t5 : PySem.W.typeIn K (.ref c5) = some (.type "type")) (h5 : PySem.W.hasDictIn K c5 = true) (s5 : PySem.W.subIn K (.ref c18) (.ref c5) = some false)
    (n6 : PySem.W.nsIn K mainGlobals "NoMinds" = some (some (.ref c6))) (t6 : PySem.W.typeIn K (.ref c6) = some (.type "type")) (h6 : PySem.W.hasDictIn K c6 = true) (s6 : PySem.W.subIn K (.ref c18) (.ref c6) = some false)
    (n7 : PySem.W.nsIn K mainGlobals "NoMoment" = some (some (.ref c7))) (t7 : PySem.W.typeIn K (.ref c7) = some (.type "type")) (h7 : PySem.W.hasDictIn K c7 = true) (s7 : PySem.W.subIn K (.ref c18) (.ref c7) = some false)
    (n8 : PySem.W.nsIn K mainGlobals "NoPlain" = some (some (.ref c8))) (t8 : PySem.W.typeIn K (.ref c8) = some (.type "type")) (h8 : PySem.W.hasDictIn K c8 = true) (s8 : PySem.W.subIn K (.ref c18) (.ref c8) = some false)
    (n9 : PySem.W.nsIn K mainGlobals "NoRow" = some (some (.ref c9))) (t9 : PySem.W.typeIn K (.ref c9) = some (.type "type")) (h9 : PySem.W.hasDictIn K c9 = true) (s9 : PySem.W.subIn K (.ref c18) (.ref c9) = some false)
    (n10 : PySem.W.nsIn K mainGlobals "NoSmall" = some (some (.ref c10))) (t10 : PySem.W.typeIn K (.ref c10) = some (.type "type")) (h10 : PySem.W.hasDictIn K c10 = true) (s10 : PySem.W.subIn K (.ref c18) (.ref c10) = some false)
    (n11 : PySem.W.nsIn K mainGlobals "NoSpun" = some (some (.ref c11))) (t11 : PySem.W.typeIn K (.ref c11) = some (.type "type")) (h11 : PySem.W.hasDictIn K c11 = true) (s11 : PySem.W.subIn K (.ref c18) (.ref c11) = some false)
    (n12 : PySem.W.nsIn K mainGlobals "NoStory" = some (some (.ref c12))) (t12 : PySem.W.typeIn K (.ref c12) = some (.type "type")) (h12 : PySem.W.hasDictIn K c12 = true) (s12 : PySem.W.subIn K (.ref c18) (.ref c12) = some false)
    (n13 : PySem.W.nsIn K mainGlobals "NoStray" = some (some (.ref c13))) (t13 : PySem.W.typeIn K (.ref c13) = some (.type "type")) (h13 : PySem.W.hasDictIn K c13 = true) (s13 : PySem.W.subIn K (.ref c18) (.ref c13) = some false)
    (n14 : PySem.W.nsIn K mainGlobals "NoStrike" = some (some (.ref c14))) (t14 : PySem.W.typeIn K (.ref c14) = some (.type "type")) (h14 : PySem.W.hasDictIn K c14 = true) (s14 : PySem.W.subIn K (.ref c18) (.ref c14) = some false)
    (n15 : PySem.W.nsIn K mainGlobals "NoText" = some (some (.ref c15))) (t15 : PySem.W.typeIn K (.ref c15) = some (.type "type")) (h15 : PySem.W.hasDictIn K c15 = true) (s15 : PySem.W.subIn K (.ref c18) (.ref c15) = some false)
    (n16 : PySem.W.nsIn K mainGlobals "NoThread" = some (some (.ref c16))) (t16 : PySem.W.typeIn K (.ref c16) = some (.type "type")) (h16 : PySem.W.hasDictIn K c16 = true) (s16 : PySem.W.subIn K (.ref c18) (.ref c16) = some false)
    (n17 : PySem.W.nsIn K mainGlobals "NoWait" = some (some (.ref c17))) (t17 : PySem.W.typeIn K (.ref c17) = some (.type "type")) (h17 : PySem.W.hasDictIn K c17 = true) (s17 : PySem.W.subIn K (.ref c18) (.ref c17) = some false)
    (n18 : PySem.W.nsIn K mainGlobals "NoYard" = some (some (.ref c18))) (t18 : PySem.W.typeIn K (.ref c18) = some (.type "type")) (h18 : PySem.W.hasDictIn K c18 = true) (s18 : PySem.W.subIn K (.ref c18) (.ref c18) = some true)
    (n19 : PySem.W.nsIn K mainGlobals "TooMany" = some (some (.ref c19))) (t19 : PySem.W.typeIn K (.ref c19) = some (.type "type")) (h19 : PySem.W.hasDictIn K c19 = true) (s19 : PySem.W.subIn K (.ref c18) (.ref c19) = some false)
    (z0 : PySem.W.nsIn K mainGlobals "len" = some none)
    (z1 : PySem.W.nsIn K mainGlobals "sum" = some none)
    (z2 : PySem.W.nsIn K mainGlobals "abs" = some none)
    (z3 : PySem.W.nsIn K mainGlobals "min" = some none)
    (z4 : PySem.W.nsIn K mainGlobals "max" = some none)
    (z5 : PySem.W.nsIn K mainGlobals "divmod" = some none)
    (z6 : PySem.W.nsIn K mainGlobals "all" = some none)
    (z7 : PySem.W.nsIn K mainGlobals "isinstance" = some none)
    (z8 : PySem.W.nsIn K mainGlobals "tuple" = some none)
    (z9 : PySem.W.nsIn K mainGlobals "int" = some none)
    (z10 : PySem.W.nsIn K mainGlobals "bool" = some none)
    (z11 : PySem.W.nsIn K mainGlobals "range" = some none)
    (z12 : PySem.W.nsIn K mainGlobals "enumerate" = some none)
    (z13 : PySem.W.nsIn K mainGlobals "list" = some none)
    (z14 : PySem.W.nsIn K mainGlobals "str" = some none)
    (z15 : PySem.W.nsIn K mainGlobals "ValueError" = some none)
    (z16 : PySem.W.nsIn K mainGlobals "sorted" = some none)
    (eC : ExcC K c18) (ve : PySem.W.subIn K (.ref c18) (.type "ValueError") = some true) (be : PySem.W.subIn K (.ref c0) (.type "BaseException") = some true)
    (xi : PySem.W.excIn K c18 [.type "ValueError", .type "Exception", .type "BaseException", .type "object"] "ValueError.__new__" = true) (kp : PySem.W.keepIn K (.ref c18) = true) (bx : PySem.W.subIn K (.ref c18) (.type "BaseException") = some true)
    (gR : PySem.W.nsIn K mainGlobals "RULES" = some (some (.ref aR))) (lR : K.lookup aR = some ⟨.type "tuple", dR, .seq #[.str "near" i1, .str "old" i2, .str "sort" i3] nR, xR⟩)
    (gT : PySem.W.nsIn K mainGlobals "MOST_HANDS" = some (some (.int 16 tk1))) (gB : PySem.W.nsIn K mainGlobals "MOST_STRAYS" = some (some (.int 16 tk2))) (gG : ∃ t, mg "BIG" = some (.int 1000000000000000000000000000000 t))
    (hb : ∀ (s : Shared) (v : Value), BindsTo s d0 ⟨[v], []⟩ [("_law_script", v)]) :
    ∃ (xs : List (Str × Addr × Addr)) (fd : FuncData) (sp : Sp), (∀ p ∈ xs, ((recsOf qq).any fun e => e.name == p.1) = true ∧ PySem.W.tabIn K p.1 = some p.2 ∧ K.lookup p.2.2 = none) ∧
      (∀ (s : Shared) (u : Value), BindsTo s fd ⟨[u], []⟩ [("_law_script", u)]) ∧
      (∀ (H : Hp) (a : Addr) (ns : List Int), ns.length ≤ 63 → (∀ p ∈ xs, H p.2.2 = some (TabE p.2.2)) → SqL K H a (ns.map V.int) → sp [.ref a] H (fun v H' => (∀ p ∈ xs, H' p.2.2 = some (TabE p.2.2)) ∧ v = .bl true) fun _ _ _ => False) ∧
      ∀ base : Heap, K.In base → base.Ns mainGlobals mg → (∀ p ∈ xs, GxR.TabB base mg p.2.1 p.2.2) → FnOk l.prog w K mg base CX0 14 fa fd ["_law_script"] sp := by
  have e := hfa.symm.trans (PySem.W.mg_of X G a0)
  cases e
  have T : Bi mg := ⟨PySem.W.mg_none_of X G z0, PySem.W.mg_none_of X G z1, PySem.W.mg_none_of X G z2, PySem.W.mg_none_of X G z3, PySem.W.mg_none_of X G z4, PySem.W.mg_none_of X G z5, PySem.W.mg_none_of X G z6, PySem.W.mg_none_of X G z7, PySem.W.mg_none_of X G z8, PySem.W.mg_none_of X G z9, PySem.W.mg_none_of X G z10, PySem.W.mg_none_of X G z11, PySem.W.mg_none_of X G z12, PySem.W.mg_none_of X G z13, PySem.W.mg_none_of X G z14, PySem.W.mg_none_of X G z15, PySem.W.mg_none_of X G z16⟩
  have D0 : Df K mg "law" s_law ["_law_script"] fa d0 := ⟨F0, F0.binds (ps := ["_law_script"]) fun _ _ _ _ _ _ us hl => match us, hl with | [_], _ => rfl, PySem.W.mg_of X G a0⟩
  have D1 : Df K mg "_law_pool" s_law_pool ["_law_script", "_law_k"] f1 d1 := ⟨F1, F1.binds (ps := ["_law_script", "_law_k"]) fun _ _ _ _ _ _ us hl => match us, hl with | [_, _], _ => rfl, PySem.W.mg_of X G a1⟩
  have D2 : Df K mg "_law_take" s_law_take ["_law_pool_here", "_law_many"] f2 d2 := ⟨F2, F2.binds (ps := ["_law_pool_here", "_law_many"]) fun _ _ _ _ _ _ us hl => match us, hl with | [_, _], _ => rfl, PySem.W.mg_of X G a2⟩
  have D3 : Df K mg "_law_frame" s_law_frame ["_law_pool_here", "_law_most_full"] f3 d3 := ⟨F3, F3.binds (ps := ["_law_pool_here", "_law_most_full"]) fun _ _ _ _ _ _ us hl => match us, hl with | [_, _], _ => rfl, PySem.W.mg_of X G a3⟩
  have D4 : Df K mg "_law_hand" s_law_hand ["_law_pool_here", "_law_many", "_law_far"] f4 d4 := ⟨F4, F4.binds (ps := ["_law_pool_here", "_law_many", "_law_far"]) fun _ _ _ _ _ _ us hl => match us, hl with | [_, _, _], _ => rfl, PySem.W.mg_of X G a4⟩
  have D5 : Df K mg "_law_strays" s_law_strays ["_law_pool_here", "_law_frames", "_law_most", "_law_far"] f5 d5 := ⟨F5, F5.binds (ps := ["_law_pool_here", "_law_frames", "_law_most", "_law_far"]) fun _ _ _ _ _ _ us hl => match us, hl with | [_, _, _, _], _ => rfl, PySem.W.mg_of X G a5⟩
  have D6 : Df K mg "_law_yard" s_law_yard ["_law_pool_here", "_law_most_frames", "_law_most_full", "_law_most_hands", "_law_most_strays", "_law_far"] f6 d6 := ⟨F6, F6.binds (ps := ["_law_pool_here", "_law_most_frames", "_law_most_full", "_law_most_hands", "_law_most_strays", "_law_far"]) fun _ _ _ _ _ _ us hl => match us, hl with | [_, _, _, _, _, _], _ => rfl, PySem.W.mg_of X G a6⟩
  have D7 : Df K mg "_law_whole" s_law_whole ["_law_thing", "_law_least", "_law_most"] f7 d7 := ⟨F7, F7.binds (ps := ["_law_thing", "_law_least", "_law_most"]) fun _ _ _ _ _ _ us hl => match us, hl with | [_, _, _], _ => rfl, PySem.W.mg_of X G a7⟩
  have D8 : Df K mg "_law_rising" s_law_rising ["_law_things"] f8 d8 := ⟨F8, F8.binds (ps := ["_law_things"]) fun _ _ _ _ _ _ us hl => match us, hl with | [_], _ => rfl, PySem.W.mg_of X G a8⟩
  have D9 : Df K mg "_law_is_frame" s_law_is_frame ["_law_thing"] f9 d9 := ⟨F9, F9.binds (ps := ["_law_thing"]) fun _ _ _ _ _ _ us hl => match us, hl with | [_], _ => rfl, PySem.W.mg_of X G a9⟩
  have D10 : Df K mg "_law_are_walks" s_law_are_walks ["_law_thing", "_law_many"] f10 d10 := ⟨F10, F10.binds (ps := ["_law_thing", "_law_many"]) fun _ _ _ _ _ _ us hl => match us, hl with | [_, _], _ => rfl, PySem.W.mg_of X G a10⟩
  have D11 : Df K mg "_law_is_hand" s_law_is_hand ["_law_thing", "_law_many"] f11 d11 := ⟨F11, F11.binds (ps := ["_law_thing", "_law_many"]) fun _ _ _ _ _ _ us hl => match us, hl with | [_, _], _ => rfl, PySem.W.mg_of X G a11⟩
  have D12 : Df K mg "_law_is_stray" s_law_is_stray ["_law_thing", "_law_frames"] f12 d12 := ⟨F12, F12.binds (ps := ["_law_thing", "_law_frames"]) fun _ _ _ _ _ _ us hl => match us, hl with | [_, _], _ => rfl, PySem.W.mg_of X G a12⟩
  have D13 : Df K mg "_law_is_yard" s_law_is_yard ["_law_thing"] f13 d13 := ⟨F13, F13.binds (ps := ["_law_thing"]) fun _ _ _ _ _ _ us hl => match us, hl with | [_], _ => rfl, PySem.W.mg_of X G a13⟩
  have D14 : Df K mg "_law_odd" s_law_odd ["_law_pool_here", "_law_thing"] f14 d14 := ⟨F14, F14.binds (ps := ["_law_pool_here", "_law_thing"]) fun _ _ _ _ _ _ us hl => match us, hl with | [_, _], _ => rfl, PySem.W.mg_of X G a14⟩
  have D15 : Df K mg "_law_bent" s_law_bent ["_law_pool_here", "_law_thing", "_law_deep"] f15 d15 := ⟨F15, F15.binds (ps := ["_law_pool_here", "_law_thing", "_law_deep"]) fun _ _ _ _ _ _ us hl => match us, hl with | [_, _, _], _ => rfl, PySem.W.mg_of X G a15⟩
  have D16 : Df K mg "_law_refused" s_law_refused ["_law_thing"] f16 d16 := ⟨F16, F16.binds (ps := ["_law_thing"]) fun _ _ _ _ _ _ us hl => match us, hl with | [_], _ => rfl, PySem.W.mg_of X G a16⟩
  have D17 : Df K mg "_law_right" s_law_right ["_law_thing"] f17 d17 := ⟨F17, F17.binds (ps := ["_law_thing"]) fun _ _ _ _ _ _ us hl => match us, hl with | [_], _ => rfl, PySem.W.mg_of X G a17⟩
  have D18 : Df K mg "is_yard" s_is_yard ["thing"] f18 d18 := ⟨F18, F18.binds (ps := ["thing"]) fun _ _ _ _ _ _ us hl => match us, hl with | [_], _ => rfl, PySem.W.mg_of X G a18⟩
  have D19 : Df K mg "is_whole" s_is_whole ["thing"] f19 d19 := ⟨F19, F19.binds (ps := ["thing"]) fun _ _ _ _ _ _ us hl => match us, hl with | [_], _ => rfl, PySem.W.mg_of X G a19⟩
  have D20 : Df K mg "is_within" s_is_within ["thing", "low", "high"] f20 d20 := ⟨F20, F20.binds (ps := ["thing", "low", "high"]) fun _ _ _ _ _ _ us hl => match us, hl with | [_, _, _], _ => rfl, PySem.W.mg_of X G a20⟩
  have D21 : Df K mg "is_tuple_of" s_is_tuple_of ["thing", "least", "most"] f21 d21 := ⟨F21, F21.binds (ps := ["thing", "least", "most"]) fun _ _ _ _ _ _ us hl => match us, hl with | [_, _, _], _ => rfl, PySem.W.mg_of X G a21⟩
  have D22 : Df K mg "is_frame" s_is_frame ["thing"] f22 d22 := ⟨F22, F22.binds (ps := ["thing"]) fun _ _ _ _ _ _ us hl => match us, hl with | [_], _ => rfl, PySem.W.mg_of X G a22⟩
  have D23 : Df K mg "is_row" s_is_row ["thing", "full", "threads"] f23 d23 := ⟨F23, F23.binds (ps := ["thing", "full", "threads"]) fun _ _ _ _ _ _ us hl => match us, hl with | [_, _, _], _ => rfl, PySem.W.mg_of X G a23⟩
  have D24 : Df K mg "is_rule" s_is_rule ["thing"] f24 d24 := ⟨F24, F24.binds (ps := ["thing"]) fun _ _ _ _ _ _ us hl => match us, hl with | [_], _ => rfl, PySem.W.mg_of X G a24⟩
  have D25 : Df K mg "is_hand" s_is_hand ["thing", "many"] f25 d25 := ⟨F25, F25.binds (ps := ["thing", "many"]) fun _ _ _ _ _ _ us hl => match us, hl with | [_, _], _ => rfl, PySem.W.mg_of X G a25⟩
  have D26 : Df K mg "is_stray" s_is_stray ["thing", "frames"] f26 d26 := ⟨F26, F26.binds (ps := ["thing", "frames"]) fun _ _ _ _ _ _ us hl => match us, hl with | [_, _], _ => rfl, PySem.W.mg_of X G a26⟩
  have D27 : Df K mg "need_yard" s_need_yard ["thing"] f27 d27 := ⟨F27, F27.binds (ps := ["thing"]) fun _ _ _ _ _ _ us hl => match us, hl with | [_], _ => rfl, PySem.W.mg_of X G a27⟩
  have D28 : Df K mg "show_yard" s_show_yard ["yard"] f28 d28 := ⟨F28, F28.binds (ps := ["yard"]) fun _ _ _ _ _ _ us hl => match us, hl with | [_], _ => rfl, PySem.W.mg_of X G a28⟩
  have Y0 : DfC K mg "is_rising" s_is_rising ["parts"] g0 e0 k0 := ⟨G0, G0.fn.binds (ps := ["parts"]) fun _ _ _ _ _ _ us hl => match us, hl with | [_], _ => rfl, PySem.W.mg_of X G b0⟩
  have Y1 : DfC K mg "are_rows" s_are_rows ["thing", "full", "threads"] g1 e1 k1 := ⟨G1, G1.fn.binds (ps := ["thing", "full", "threads"]) fun _ _ _ _ _ _ us hl => match us, hl with | [_, _, _], _ => rfl, PySem.W.mg_of X G b1⟩
  have Y2 : DfC K mg "are_frames" s_are_frames ["thing"] g2 e2 k2 := ⟨G2, G2.fn.binds (ps := ["thing"]) fun _ _ _ _ _ _ us hl => match us, hl with | [_], _ => rfl, PySem.W.mg_of X G b2⟩
  have Y3 : DfC K mg "is_walk" s_is_walk ["thing", "at", "many"] g3 e3 k3 := ⟨G3, G3.fn.binds (ps := ["thing", "at", "many"]) fun _ _ _ _ _ _ us hl => match us, hl with | [_, _, _], _ => rfl, PySem.W.mg_of X G b3⟩
  have Y4 : DfC K mg "are_walks" s_are_walks ["thing", "many"] g4 e4 k4 := ⟨G4, G4.fn.binds (ps := ["thing", "many"]) fun _ _ _ _ _ _ us hl => match us, hl with | [_, _], _ => rfl, PySem.W.mg_of X G b4⟩
  have Y5 : DfC K mg "are_pieces" s_are_pieces ["thing"] g5 e5 k5 := ⟨G5, G5.fn.binds (ps := ["thing"]) fun _ _ _ _ _ _ us hl => match us, hl with | [_], _ => rfl, PySem.W.mg_of X G b5⟩
  have Y6 : DfC K mg "are_hands" s_are_hands ["thing", "many"] g6 e6 k6 := ⟨G6, G6.fn.binds (ps := ["thing", "many"]) fun _ _ _ _ _ _ us hl => match us, hl with | [_, _], _ => rfl, PySem.W.mg_of X G b6⟩
  have Y7 : DfC K mg "are_minds" s_are_minds ["thing", "many"] g7 e7 k7 := ⟨G7, G7.fn.binds (ps := ["thing", "many"]) fun _ _ _ _ _ _ us hl => match us, hl with | [_, _], _ => rfl, PySem.W.mg_of X G b7⟩
  have Y8 : DfC K mg "are_strays" s_are_strays ["thing", "frames"] g8 e8 k8 := ⟨G8, G8.fn.binds (ps := ["thing", "frames"]) fun _ _ _ _ _ _ us hl => match us, hl with | [_, _], _ => rfl, PySem.W.mg_of X G b8⟩
  have hC : Ec mg (atC [c0, c1, c2, c3, c4, c5, c6, c7, c8, c9, c10, c11, c12, c13, c14, c15, c16, c17, c18, c19]) := by
    refine ⟨fun n hn => ?_⟩
    simp only [errs, List.mem_cons, List.not_mem_nil, or_false] at hn
    rcases hn with rfl | rfl | rfl | rfl | rfl | rfl | rfl | rfl | rfl | rfl | rfl | rfl | rfl | rfl | rfl | rfl | rfl | rfl | rfl | rfl
    · exact PySem.W.mg_of X G n0
    · exact PySem.W.mg_of X G n1
    · exact PySem.W.mg_of X G n2
    · exact PySem.W.mg_of X G n3
    · exact PySem.W.mg_of X G n4
    · exact PySem.W.mg_of X G n5
    · exact PySem.W.mg_of X G n6
    · exact PySem.W.mg_of X G n7
    · exact PySem.W.mg_of X G n8
    · exact PySem.W.mg_of X G n9
    · exact PySem.W.mg_of X G n10
    · exact PySem.W.mg_of X G n11
    · exact PySem.W.mg_of X G n12
    · exact PySem.W.mg_of X G n13
    · exact PySem.W.mg_of X G n14
    · exact PySem.W.mg_of X G n15
    · exact PySem.W.mg_of X G n16
    · exact PySem.W.mg_of X G n17
    · exact PySem.W.mg_of X G n18
    · exact PySem.W.mg_of X G n19
  have hE : E1 K (atC [c0, c1, c2, c3, c4, c5, c6, c7, c8, c9, c10, c11, c12, c13, c14, c15, c16, c17, c18, c19]) "NoYard" := by
    refine ⟨eC, fun n hn => ?_, kit_ve ve, PySem.W.exm_ref be h0 t0 s0⟩
    simp only [errs, List.mem_cons, List.not_mem_nil, or_false] at hn
    rcases hn with rfl | rfl | rfl | rfl | rfl | rfl | rfl | rfl | rfl | rfl | rfl | rfl | rfl | rfl | rfl | rfl | rfl | rfl | rfl
    · exact kit_cl t1 h1 s1 s18
    · exact kit_cl t2 h2 s2 s18
    · exact kit_cl t3 h3 s3 s18
    · exact kit_cl t4 h4 s4 s18
    · exact kit_cl t5 h5 s5 s18
    · exact kit_cl t6 h6 s6 s18
    · exact kit_cl t7 h7 s7 s18
    · exact kit_cl t8 h8 s8 s18
    · exact kit_cl t9 h9 s9 s18
    · exact kit_cl t10 h10 s10 s18
    · exact kit_cl t11 h11 s11 s18
    · exact kit_cl t12 h12 s12 s18
    · exact kit_cl t13 h13 s13 s18
    · exact kit_cl t14 h14 s14 s18
    · exact kit_cl t15 h15 s15 s18
    · exact kit_cl t16 h16 s16 s18
    · exact kit_cl t17 h17 s17 s18
    · exact kit_cl t18 h18 s18 s18
    · exact kit_cl t19 h19 s19 s18
  have hR : Rz K mg "NoYard" c18 := ⟨PySem.W.mg_of X G n18, xi, kp, bx, t18⟩
  have hRul : ∀ H : Hp, SqT K H aR RUL := fun H => .inr ⟨_, _, _, lR, rfl, rfl, (show 3 ≤ sizeLine by decide), .cons ⟨_, rfl⟩ (.cons ⟨_, rfl⟩ (.cons ⟨_, rfl⟩ .nil))⟩
  refine ⟨[("is_rising", k0, p0), ("are_rows", k1, p1), ("are_frames", k2, p2), ("is_walk", k3, p3), ("are_walks", k4, p4), ("are_pieces", k5, p5), ("are_hands", k6, p6), ("are_minds", k7, p7), ("are_strays", k8, p8)], d0, spLaw K [p0, p1, p2, p3, p4, p5, p6, p7, p8], ?_, hb, ?_, fun base _ _ hTB => ?_⟩
  · intro p hp
    simp only [List.mem_cons, List.not_mem_nil, or_false] at hp
    rcases hp with rfl | rfl | rfl | rfl | rfl | rfl | rfl | rfl | rfl
    · exact ⟨r0, tab_mk b0 G0 q0 u0, l0⟩
    · exact ⟨r1, tab_mk b1 G1 q1 u1, l1⟩
    · exact ⟨r2, tab_mk b2 G2 q2 u2, l2⟩
    · exact ⟨r3, tab_mk b3 G3 q3 u3, l3⟩
    · exact ⟨r4, tab_mk b4 G4 q4 u4, l4⟩
    · exact ⟨r5, tab_mk b5 G5 q5 u5, l5⟩
    · exact ⟨r6, tab_mk b6 G6 q6 u6, l6⟩
    · exact ⟨r7, tab_mk b7 G7 q7 u7, l7⟩
    · exact ⟨r8, tab_mk b8 G8 q8 u8, l8⟩
  · intro H a ns hl hH hS
    refine ⟨a, ns, rfl, hS, hl, fun P hP => ?_, fun H' hT => ⟨fun p hp => ?_, rfl⟩⟩
    · simp only [List.mem_cons, List.not_mem_nil, or_false] at hP
      rcases hP with hP | hP | hP | hP | hP | hP | hP | hP | hP
      · rw [hP]
        exact hH ("is_rising", k0, p0) (by simp)
      · rw [hP]
        exact hH ("are_rows", k1, p1) (by simp)
      · rw [hP]
        exact hH ("are_frames", k2, p2) (by simp)
      · rw [hP]
        exact hH ("is_walk", k3, p3) (by simp)
      · rw [hP]
        exact hH ("are_walks", k4, p4) (by simp)
      · rw [hP]
        exact hH ("are_pieces", k5, p5) (by simp)
      · rw [hP]
        exact hH ("are_hands", k6, p6) (by simp)
      · rw [hP]
        exact hH ("are_minds", k7, p7) (by simp)
      · rw [hP]
        exact hH ("are_strays", k8, p8) (by simp)
    · simp only [List.mem_cons, List.not_mem_nil, or_false] at hp
      rcases hp with rfl | rfl | rfl | rfl | rfl | rfl | rfl | rfl | rfl
      · exact hT p0 (by simp)
      · exact hT p1 (by simp)
      · exact hT p2 (by simp)
      · exact hT p3 (by simp)
      · exact hT p4 (by simp)
      · exact hT p5 (by simp)
      · exact hT p6 (by simp)
      · exact hT p7 (by simp)
      · exact hT p8 (by simp)
  · have T0 : GxR.TabB base mg k0 p0 := hTB ("is_rising", k0, p0) (by simp)
    have T1 : GxR.TabB base mg k1 p1 := hTB ("are_rows", k1, p1) (by simp)
    have T2 : GxR.TabB base mg k2 p2 := hTB ("are_frames", k2, p2) (by simp)
    have T3 : GxR.TabB base mg k3 p3 := hTB ("is_walk", k3, p3) (by simp)
    have T4 : GxR.TabB base mg k4 p4 := hTB ("are_walks", k4, p4) (by simp)
    have T5 : GxR.TabB base mg k5 p5 := hTB ("are_pieces", k5, p5) (by simp)
    have T6 : GxR.TabB base mg k6 p6 := hTB ("are_hands", k6, p6) (by simp)
    have T7 : GxR.TabB base mg k7 p7 := hTB ("are_minds", k7, p7) (by simp)
    have T8 : GxR.TabB base mg k8 p8 := hTB ("are_strays", k8, p8) (by simp)
    obtain ⟨tk3, gG⟩ := gG
    have hB : ∃ t, mg "BIG" = some (.int (10 ^ 30) t) := ⟨tk3, gG.trans (congrArg (fun i => some (Value.int i tk3)) (by decide))⟩
    have g1 : Pr l.prog w K mg base 1 "is_whole" s_is_whole ["thing"] (spF K [p0, p1, p2, p3, p4, p5, p6, p7, p8] (fn1 isWhole)) := pr_whole T ⟨_, _, D19⟩
    have g2 : Pr l.prog w K mg base 2 "is_within" s_is_within ["thing", "low", "high"] (spF K [p0, p1, p2, p3, p4, p5, p6, p7, p8] (fn3 isWithin)) := pr_within T ⟨_, _, D20⟩ g1
    have g3 : Pr l.prog w K mg base 1 "is_tuple_of" s_is_tuple_of ["thing", "least", "most"] (spF K [p0, p1, p2, p3, p4, p5, p6, p7, p8] (fn3 isTupleOf)) := pr_tuple_of T ⟨_, _, D21⟩
    have g4 : Pr l.prog w K mg base 4 "are_pieces" s_are_pieces ["thing"] (spF K [p0, p1, p2, p3, p4, p5, p6, p7, p8] (fn1 isPieces)) := pr_pieces T ⟨_, _, _, p5, Y5, T5, by simp⟩ g3 g2
    have g5 : Pr l.prog w K mg base 4 "is_walk" s_is_walk ["thing", "at", "many"] (spF K [p0, p1, p2, p3, p4, p5, p6, p7, p8] fWalk) := pr_walk T ⟨_, _, _, p3, Y3, T3, by simp⟩ g3 g2
    have g6 : Pr l.prog w K mg base 6 "are_walks" s_are_walks ["thing", "many"] (spF K [p0, p1, p2, p3, p4, p5, p6, p7, p8] (fn2 isWalks)) := pr_walks T ⟨_, _, _, p4, Y4, T4, by simp⟩ g3 g5
    have g7 : Pr l.prog w K mg base 1 "is_rule" s_is_rule ["thing"] (spF K [p0, p1, p2, p3, p4, p5, p6, p7, p8] (fn1 isRule)) := pr_rule T (PySem.W.mg_of X G gR) hRul ⟨_, _, D24⟩
    have g8 : Pr l.prog w K mg base 2 "is_rising" s_is_rising ["parts"] (spF K [p0, p1, p2, p3, p4, p5, p6, p7, p8] fRising) := pr_rising T ⟨_, _, _, p0, Y0, T0, by simp⟩
    have g9 : Pr l.prog w K mg base 3 "is_row" s_is_row ["thing", "full", "threads"] (spF K [p0, p1, p2, p3, p4, p5, p6, p7, p8] (fn3 isRow)) := pr_row T ⟨_, _, D23⟩ g3 g2
    have g10 : Pr l.prog w K mg base 5 "are_rows" s_are_rows ["thing", "full", "threads"] (spF K [p0, p1, p2, p3, p4, p5, p6, p7, p8] (fn3 isRows)) := pr_rows T ⟨_, _, _, p1, Y1, T1, by simp⟩ g3 g9 g8
    have g11 : Pr l.prog w K mg base 6 "is_frame" s_is_frame ["thing"] (spF K [p0, p1, p2, p3, p4, p5, p6, p7, p8] (fn1 isFrame)) := pr_frame T ⟨_, _, D22⟩ g3 g2 g10
    have g12 : Pr l.prog w K mg base 8 "are_frames" s_are_frames ["thing"] (spF K [p0, p1, p2, p3, p4, p5, p6, p7, p8] (fn1 isFrames)) := pr_frames T ⟨_, _, _, p2, Y2, T2, by simp⟩ g3 g11
    have g13 : Pr l.prog w K mg base 4 "are_minds" s_are_minds ["thing", "many"] (spF K [p0, p1, p2, p3, p4, p5, p6, p7, p8] fMinds) := pr_minds T ⟨_, _, _, p7, Y7, T7, by simp⟩ g3 g2 g8
    have g14 : Pr l.prog w K mg base 5 "is_hand" s_is_hand ["thing", "many"] (spF K [p0, p1, p2, p3, p4, p5, p6, p7, p8] fHand) := pr_hand T hB ⟨_, _, D25⟩ g3 g2 g13
    have g15 : Pr l.prog w K mg base 7 "are_hands" s_are_hands ["thing", "many"] (spF K [p0, p1, p2, p3, p4, p5, p6, p7, p8] fHands) := pr_hands T ⟨_, PySem.W.mg_of X G gT⟩ ⟨_, _, _, p6, Y6, T6, by simp⟩ g3 g14
    have g16 : Pr l.prog w K mg base 3 "is_stray" s_is_stray ["thing", "frames"] (spF K [p0, p1, p2, p3, p4, p5, p6, p7, p8] (fSt isStray)) := pr_stray T hB ⟨_, _, D26⟩ g3 g2
    have g17 : Pr l.prog w K mg base 5 "are_strays" s_are_strays ["thing", "frames"] (spF K [p0, p1, p2, p3, p4, p5, p6, p7, p8] (fSt isStrays)) := pr_strays T ⟨_, PySem.W.mg_of X G gB⟩ ⟨_, _, _, p8, Y8, T8, by simp⟩ g3 g16 g8
    have g18 : Pr l.prog w K mg base 9 "is_yard" s_is_yard ["thing"] (spF K [p0, p1, p2, p3, p4, p5, p6, p7, p8] (fn1 isYard)) := pr_yard T ⟨_, _, D18⟩ g3 g12 g6 g4 g7 g15 g17
    obtain ⟨_, _, Dy, Gy⟩ := g18
    have m1 := ok_need T hR D27 Dy Gy
    have m2 := ok_show D28 D27 m1
    have m3 := ok_refused (Ps := [p0, p1, p2, p3, p4, p5, p6, p7, p8]) (j := 11) T hC hE D16 D28 m2
    have m4 := ok_right (Ps := [p0, p1, p2, p3, p4, p5, p6, p7, p8]) (j := 9) (by decide) T D17 D13 (ok_is_yard T D13 D7 D8 D9 D10 D11 D12) Dy Gy D16 m3
    exact ok_law (Ps := [p0, p1, p2, p3, p4, p5, p6, p7, p8]) (j := 9) (by decide) T D0 D1 D2 D6 D15 (ok_pool T D1) (ok_take T D2) (ok_yard T D6 D2 D3 D4 D5) (ok_bent T D15 D2 D14 6 (by decide)) Dy Gy D17 m4
end K01.Y

set_option Elab.async false
set_option linter.all false
set_option maxRecDepth 100000
set_option maxHeartbeats 4000000
open PySem PySem.W PyProof.Rows
set_option maxHeartbeats 0 in
theorem PySem.Challenge.cw_doffyard_k01_yards_of_any_kind_holds : PySem.Challenge.rw_doffyard_k01_yards_of_any_kind.Holds := by
  w_on; o_law; k_head; (case hw => w_witness2)
  k_fill
  refine GX.walk_ofXL (l := PySem.Challenge.rw_doffyard_k01_yards_of_any_kind) (n := 63) (k := 14) (x := "_law_script") rfl (by decide) rfl ⟨rfl, by decide, by decide⟩ (fun w h Y => PySem.W.kIn_of Y) ?F
  case F =>
    intro w mg fa h KX G XX hmg
    refine' K01.Y.all_mk KX G hmg ?a0 (L2.fun_mk ?x0 ?v0 ?w0) ?a1 (L2.fun_mk ?x1 ?v1 ?w1) ?a2 (L2.fun_mk ?x2 ?v2 ?w2) ?a3 (L2.fun_mk ?x3 ?v3 ?w3) ?a4 (L2.fun_mk ?x4 ?v4 ?w4) ?a5 (L2.fun_mk ?x5 ?v5 ?w5) ?a6 (L2.fun_mk ?x6 ?v6 ?w6) ?a7 (L2.fun_mk ?x7 ?v7 ?w7) ?a8 (L2.fun_mk ?x8 ?v8 ?w8) ?a9 (L2.fun_mk ?x9 ?v9 ?w9) ?a10 (L2.fun_mk ?x10 ?v10 ?w10) ?a11 (L2.fun_mk ?x11 ?v11 ?w11) ?a12 (L2.fun_mk ?x12 ?v12 ?w12) ?a13 (L2.fun_mk ?x13 ?v13 ?w13) ?a14 (L2.fun_mk ?x14 ?v14 ?w14) ?a15 (L2.fun_mk ?x15 ?v15 ?w15) ?a16 (L2.fun_mk ?x16 ?v16 ?w16) ?a17 (L2.fun_mk ?x17 ?v17 ?w17) ?a18 (L2.fun_mk ?x18 ?v18 ?w18) ?a19 (L2.fun_mk ?x19 ?v19 ?w19) ?a20 (L2.fun_mk ?x20 ?v20 ?w20) ?a21 (L2.fun_mk ?x21 ?v21 ?w21) ?a22 (L2.fun_mk ?x22 ?v22 ?w22) ?a23 (L2.fun_mk ?x23 ?v23 ?w23) ?a24 (L2.fun_mk ?x24 ?v24 ?w24) ?a25 (L2.fun_mk ?x25 ?v25 ?w25) ?a26 (L2.fun_mk ?x26 ?v26 ?w26) ?a27 (L2.fun_mk ?x27 ?v27 ?w27) ?a28 (L2.fun_mk ?x28 ?v28 ?w28) ?b0 (GX.func_mk ?xx0 ?vv0 ?ww0) ?b1 (GX.func_mk ?xx1 ?vv1 ?ww1) ?b2 (GX.func_mk ?xx2 ?vv2 ?ww2) ?b3 (GX.func_mk ?xx3 ?vv3 ?ww3) ?b4 (GX.func_mk ?xx4 ?vv4 ?ww4) ?b5 (GX.func_mk ?xx5 ?vv5 ?ww5) ?b6 (GX.func_mk ?xx6 ?vv6 ?ww6) ?b7 (GX.func_mk ?xx7 ?vv7 ?ww7) ?b8 (GX.func_mk ?xx8 ?vv8 ?ww8) ?r0 ?q0 ?u0 ?l0 ?r1 ?q1 ?u1 ?l1 ?r2 ?q2 ?u2 ?l2 ?r3 ?q3 ?u3 ?l3 ?r4 ?q4 ?u4 ?l4 ?r5 ?q5 ?u5 ?l5 ?r6 ?q6 ?u6 ?l6 ?r7 ?q7 ?u7 ?l7 ?r8 ?q8 ?u8 ?l8 ?n0 ?t0 ?h0 ?s0 ?n1 ?t1 ?h1 ?s1 ?n2 ?t2 ?h2 ?s2 ?n3 ?t3 ?h3 ?s3 ?n4 ?t4 ?h4 ?s4 ?n5 ?t5 ?h5 ?s5 ?n6 ?t6 ?h6 ?s6 ?n7 ?t7 ?h7 ?s7 ?n8 ?t8 ?h8 ?s8 ?n9 ?t9 ?h9 ?s9 ?n10 ?t10 ?h10 ?s10 ?n11 ?t11 ?h11 ?s11 ?n12 ?t12 ?h12 ?s12 ?n13 ?t13 ?h13 ?s13 ?n14 ?t14 ?h14 ?s14 ?n15 ?t15 ?h15 ?s15 ?n16 ?t16 ?h16 ?s16 ?n17 ?t17 ?h17 ?s17 ?n18 ?t18 ?h18 ?s18 ?n19 ?t19 ?h19 ?s19 ?z0 ?z1 ?z2 ?z3 ?z4 ?z5 ?z6 ?z7 ?z8 ?z9 ?z10 ?z11 ?z12 ?z13 ?z14 ?z15 ?z16 ⟨?e0, ?e1, ?e2, ?e3, ?e4, ?e5, ?e6, ?e7⟩ ?ve ?be ?xi ?kp ?bx ?gR ?lR ?gT ?gB (GX.loose_int XX (List.mem_singleton.mpr rfl)) (fun s v => .of_eq rfl)
    (case a0 => k_is); (case x0 => k_is); (case v0 => k_is); (case w0 => k_is); (case a1 => k_is); (case x1 => k_is); (case v1 => k_is); (case w1 => k_is)
    (case a2 => k_is); (case x2 => k_is); (case v2 => k_is); (case w2 => k_is); (case a3 => k_is); (case x3 => k_is); (case v3 => k_is); (case w3 => k_is)
    (case a4 => k_is); (case x4 => k_is); (case v4 => k_is); (case w4 => k_is); (case a5 => k_is); (case x5 => k_is); (case v5 => k_is); (case w5 => k_is)
    (case a6 => k_is); (case x6 => k_is); (case v6 => k_is); (case w6 => k_is); (case a7 => k_is); (case x7 => k_is); (case v7 => k_is); (case w7 => k_is)
    (case a8 => k_is); (case x8 => k_is); (case v8 => k_is); (case w8 => k_is); (case a9 => k_is); (case x9 => k_is); (case v9 => k_is); (case w9 => k_is)
    (case a10 => k_is); (case x10 => k_is); (case v10 => k_is); (case w10 => k_is); (case a11 => k_is); (case x11 => k_is); (case v11 => k_is); (case w11 => k_is)
    (case a12 => k_is); (case x12 => k_is); (case v12 => k_is); (case w12 => k_is); (case a13 => k_is); (case x13 => k_is); (case v13 => k_is); (case w13 => k_is)
    (case a14 => k_is); (case x14 => k_is); (case v14 => k_is); (case w14 => k_is); (case a15 => k_is); (case x15 => k_is); (case v15 => k_is); (case w15 => k_is)
    (case a16 => k_is); (case x16 => k_is); (case v16 => k_is); (case w16 => k_is); (case a17 => k_is); (case x17 => k_is); (case v17 => k_is); (case w17 => k_is)
    (case a18 => k_is); (case x18 => k_is); (case v18 => k_is); (case w18 => k_is); (case a19 => k_is); (case x19 => k_is); (case v19 => k_is); (case w19 => k_is)
    (case a20 => k_is); (case x20 => k_is); (case v20 => k_is); (case w20 => k_is); (case a21 => k_is); (case x21 => k_is); (case v21 => k_is); (case w21 => k_is)
    (case a22 => k_is); (case x22 => k_is); (case v22 => k_is); (case w22 => k_is); (case a23 => k_is); (case x23 => k_is); (case v23 => k_is); (case w23 => k_is)
    (case a24 => k_is); (case x24 => k_is); (case v24 => k_is); (case w24 => k_is); (case a25 => k_is); (case x25 => k_is); (case v25 => k_is); (case w25 => k_is)
    (case a26 => k_is); (case x26 => k_is); (case v26 => k_is); (case w26 => k_is); (case a27 => k_is); (case x27 => k_is); (case v27 => k_is); (case w27 => k_is)
    (case a28 => k_is); (case x28 => k_is); (case v28 => k_is); (case w28 => k_is); (case b0 => k_is); (case xx0 => k_is); (case vv0 => k_is); (case ww0 => k_is)
    (case b1 => k_is); (case xx1 => k_is); (case vv1 => k_is); (case ww1 => k_is); (case b2 => k_is); (case xx2 => k_is); (case vv2 => k_is); (case ww2 => k_is)
    (case b3 => k_is); (case xx3 => k_is); (case vv3 => k_is); (case ww3 => k_is); (case b4 => k_is); (case xx4 => k_is); (case vv4 => k_is); (case ww4 => k_is)
    (case b5 => k_is); (case xx5 => k_is); (case vv5 => k_is); (case ww5 => k_is); (case b6 => k_is); (case xx6 => k_is); (case vv6 => k_is); (case ww6 => k_is)
    (case b7 => k_is); (case xx7 => k_is); (case vv7 => k_is); (case ww7 => k_is); (case b8 => k_is); (case xx8 => k_is); (case vv8 => k_is); (case ww8 => k_is)
    (case r0 => decide +kernel); (case q0 => k_is); (case u0 => exact rfl); (case l0 => exact rfl); (case r1 => decide +kernel); (case q1 => k_is); (case u1 => exact rfl); (case l1 => exact rfl)
    (case r2 => decide +kernel); (case q2 => k_is); (case u2 => exact rfl); (case l2 => exact rfl); (case r3 => decide +kernel); (case q3 => k_is); (case u3 => exact rfl); (case l3 => exact rfl)
    (case r4 => decide +kernel); (case q4 => k_is); (case u4 => exact rfl); (case l4 => exact rfl); (case r5 => decide +kernel); (case q5 => k_is); (case u5 => exact rfl); (case l5 => exact rfl)
    (case r6 => decide +kernel); (case q6 => k_is); (case u6 => exact rfl); (case l6 => exact rfl); (case r7 => decide +kernel); (case q7 => k_is); (case u7 => exact rfl); (case l7 => exact rfl)
    (case r8 => decide +kernel); (case q8 => k_is); (case u8 => exact rfl); (case l8 => exact rfl); (case n0 => k_is); (case n1 => k_is); (case n2 => k_is); (case n3 => k_is)
    (case n4 => k_is); (case n5 => k_is); (case n6 => k_is); (case n7 => k_is); (case n8 => k_is); (case n9 => k_is); (case n10 => k_is); (case n11 => k_is)
    (case n12 => k_is); (case n13 => k_is); (case n14 => k_is); (case n15 => k_is); (case n16 => k_is); (case n17 => k_is); (case n18 => k_is); (case n19 => k_is)
    (case t0 => k_is); (case h0 => k_is); (case s0 => k_is); (case t1 => k_is); (case h1 => k_is); (case s1 => k_is); (case t2 => k_is); (case h2 => k_is)
    (case s2 => k_is); (case t3 => k_is); (case h3 => k_is); (case s3 => k_is); (case t4 => k_is); (case h4 => k_is); (case s4 => k_is); (case t5 => k_is)
    (case h5 => k_is); (case s5 => k_is); (case t6 => k_is); (case h6 => k_is); (case s6 => k_is); (case t7 => k_is); (case h7 => k_is); (case s7 => k_is)
    (case t8 => k_is); (case h8 => k_is); (case s8 => k_is); (case t9 => k_is); (case h9 => k_is); (case s9 => k_is); (case t10 => k_is); (case h10 => k_is)
    (case s10 => k_is); (case t11 => k_is); (case h11 => k_is); (case s11 => k_is); (case t12 => k_is); (case h12 => k_is); (case s12 => k_is); (case t13 => k_is)
    (case h13 => k_is); (case s13 => k_is); (case t14 => k_is); (case h14 => k_is); (case s14 => k_is); (case t15 => k_is); (case h15 => k_is); (case s15 => k_is)
    (case t16 => k_is); (case h16 => k_is); (case s16 => k_is); (case t17 => k_is); (case h17 => k_is); (case s17 => k_is); (case t18 => k_is); (case h18 => k_is)
    (case s18 => k_is); (case t19 => k_is); (case h19 => k_is); (case s19 => k_is); (case z0 => k_is); (case z1 => k_is); (case z2 => k_is); (case z3 => k_is)
    (case z4 => k_is); (case z5 => k_is); (case z6 => k_is); (case z7 => k_is); (case z8 => k_is); (case z9 => k_is); (case z10 => k_is); (case z11 => k_is)
    (case z12 => k_is); (case z13 => k_is); (case z14 => k_is); (case z15 => k_is); (case z16 => k_is); (case e0 => k_is); (case e1 => k_is); (case e2 => k_is)
    (case e3 => k_is); (case e4 => k_is); (case e5 => k_is); (case e6 => k_is); (case e7 => k_is); (case ve => k_is); (case be => k_is); (case xi => k_exc)
    (case kp => k_is); (case bx => k_is); (case gR => k_is); (case lR => k_is); (case gT => k_is); (case gB => k_is)


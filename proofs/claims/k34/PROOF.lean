import PyProof.Rows.All
import Wide.All
import OpenK.AllK
import Wide.FinOn
import HandS.ForMost
import HandS.Evl
import HandS.Zip
import HandS.Exc
import HandS.ExcOwn
import HandS.TryOnly
import HandS.WordsExc
import HandS.TupAny
import HandS.IsInst
import HandS.Style
import HandS.Deep
import HandS.Wide
import HandS.Steps
import HandS.Walk
import HandS.TupSets
import HandS.Conv
import HandS.SortRule
import KE.KDictDisplayH
import KE.SortData
import HandS.TupMul
import KE.KMathGC
import HandS.Gcd
import KE.KSuper
import KE.KExcSuper
import HandS.ExcInit
import HandS.ExcIs
import HandS.ExcField
import KE.KSortTup
import HandS.FStr
import HandS.TryMany
import HandS.Iter
import HandS.GenList
import PyProof.Rows.CallKwBuiltin
import KE.DataMinMax
import KE.DataAny
import HandS.OwnEq
import HandS.RevRange
import PySem.Challenge.RW_weightkeepers_k34_polynomials
set_option Elab.async false
set_option linter.all false
set_option maxRecDepth 100000
set_option maxHeartbeats 4000000
namespace Lq
open PySem PySem.Spec PyProof.Rows L2
open Evl (Ex)

inductive Dt where
  | non | bl (b : Bool) | int (i : Int) | str (x : Str) | lst (xs : List Dt) | tup (xs : List Dt) | obj (C : Addr) (ks : List Str) (xs : List Dt)
  /-- a list (false) or a tuple (true) that is only read: the script, a constant of a module -/
  | scr (t : Bool) (xs : List Dt)

def TupAt (K : PySem.W.Frag) (F : Hp) (a : Addr) (xs : List V) : Prop := F a = some (.tup xs)
theorem TupAt.up {K : PySem.W.Frag} {F F' : Hp} {a : Addr} {xs : List V} (h : TupAt K F a xs) (e : Ex F F') : TupAt K F' a xs := e _ _ h
theorem TupAt.sq {K : PySem.W.Frag} {F : Hp} {a : Addr} {xs : List V} (h : TupAt K F a xs) : SqT K F a xs := .inl (.inl h)

def SqB (K : PySem.W.Frag) (F : Hp) (t : Bool) (a : Addr) (xs : List V) : Prop := if t = true then SqT K F a xs else SqL K F a xs
theorem SqB.up {K : PySem.W.Frag} {F F' : Hp} {t : Bool} {a : Addr} {xs : List V} (h : SqB K F t a xs) (e : Ex F F') : SqB K F' t a xs := by
  unfold SqB at *
  cases t with
  | true => exact Evl.ex_t e h
  | false => exact Evl.ex_l e h
mutual
inductive Rp (K : PySem.W.Frag) (F : Hp) : V → Dt → Prop
  | non : Rp K F .non .non
  | bl (b : Bool) : Rp K F (.bl b) (.bl b)
  | int (i : Int) : Rp K F (.int i) (.int i)
  | str (x : Str) : Rp K F (.str x) (.str x)
  | lst {a : Addr} {xs : List V} {ds : List Dt} : F a = some (.lst xs) → RpA K F xs ds → Rp K F (.ref a) (.lst ds)
  | tup {a : Addr} {xs : List V} {ds : List Dt} : TupAt K F a xs → RpA K F xs ds → Rp K F (.ref a) (.tup ds)
  | obj {a C dx : Addr} {fs : List (Str × V)} {ks : List Str} {ds : List Dt} : F a = some (.ins C dx fs) → fs.map (·.1) = ks → RpA K F (fs.map (·.2)) ds → Rp K F (.ref a) (.obj C ks ds)
  | scr {a : Addr} {xs : List V} {ds : List Dt} (t : Bool) : SqB K F t a xs → RpA K F xs ds → Rp K F (.ref a) (.scr t ds)
inductive RpA (K : PySem.W.Frag) (F : Hp) : List V → List Dt → Prop
  | nil : RpA K F [] []
  | cons {v : V} {vs : List V} {d : Dt} {ds : List Dt} : Rp K F v d → RpA K F vs ds → RpA K F (v :: vs) (d :: ds)
end
mutual
theorem Rp.mono {K : PySem.W.Frag} {F F' : Hp} (e : Ex F F') : ∀ (d : Dt) (v : V), Rp K F v d → Rp K F' v d
  | .non, _, h => by cases h; exact .non
  | .bl b, _, h => by cases h; exact .bl _
  | .int i, _, h => by cases h; exact .int _
  | .str x, _, h => by cases h; exact .str _
  | .lst ds, _, h => by
    cases h with
    | lst hs ha => exact .lst (e _ _ hs) (RpA.mono e ds _ ha)
  | .tup ds, _, h => by
    cases h with
    | tup hs ha => exact .tup (hs.up e) (RpA.mono e ds _ ha)
  | .obj C ks ds, _, h => by
    cases h with
    | obj hs hk ha => exact .obj (e _ _ hs) hk (RpA.mono e ds _ ha)
  | .scr t ds, _, h => by
    cases h with
    | scr _ hs ha => exact .scr t (hs.up e) (RpA.mono e ds _ ha)
theorem RpA.mono {K : PySem.W.Frag} {F F' : Hp} (e : Ex F F') : ∀ (ds : List Dt) (vs : List V), RpA K F vs ds → RpA K F' vs ds
  | [], _, h => by cases h; exact .nil
  | d :: ds, _, h => by
    cases h with
    | cons h1 h2 => exact .cons (Rp.mono e d _ h1) (RpA.mono e ds _ h2)
end
section
variable {K : PySem.W.Frag} {F : Hp} {vs ws : List V} {ds es : List Dt}
theorem Rp.up {F' : Hp} {d : Dt} {v : V} (h : Rp K F v d) (e : Ex F F') : Rp K F' v d := Rp.mono e d v h
theorem RpA.up {F' : Hp} (h : RpA K F vs ds) (e : Ex F F') : RpA K F' vs ds := RpA.mono e ds vs h
theorem RpA.length : ∀ {vs : List V} {ds : List Dt}, RpA K F vs ds → vs.length = ds.length
  | _, _, .nil => rfl
  | _, _, .cons _ t => by simp [RpA.length t]
theorem RpA.get : ∀ {vs : List V} {ds : List Dt} {i : Nat} {d : Dt}, RpA K F vs ds → ds[i]? = some d → ∃ v, vs[i]? = some v ∧ Rp K F v d
  | _, _, i, _, .nil, h => by simp at h
  | _, _, 0, _, .cons h1 _, h => by simp at h; subst h; exact ⟨_, rfl, h1⟩
  | _, _, i + 1, _, .cons _ t, h => by
    obtain ⟨v, q, r⟩ := RpA.get (i := i) t (by simpa using h)
    exact ⟨v, by simpa using q, r⟩
theorem RpA.getv : ∀ {vs : List V} {ds : List Dt} {i : Nat} {v : V}, RpA K F vs ds → vs[i]? = some v → ∃ d, ds[i]? = some d ∧ Rp K F v d
  | _, _, i, _, .nil, h => by simp at h
  | _, _, 0, _, .cons h1 _, h => by simp at h; subst h; exact ⟨_, rfl, h1⟩
  | _, _, i + 1, _, .cons _ t, h => by
    obtain ⟨v, q, r⟩ := RpA.getv (i := i) t (by simpa using h)
    exact ⟨v, by simpa using q, r⟩
theorem RpA.app : ∀ {vs ws : List V} {ds es : List Dt}, RpA K F vs ds → RpA K F ws es → RpA K F (vs ++ ws) (ds ++ es)
  | _, _, _, _, .nil, h => h
  | _, _, _, _, .cons h1 h2, h => .cons h1 (RpA.app h2 h)
theorem RpA.snoc {v : V} {d : Dt} (h : RpA K F vs ds) (h1 : Rp K F v d) : RpA K F (vs ++ [v]) (ds ++ [d]) := h.app (.cons h1 .nil)
theorem RpA.set : ∀ {vs : List V} {ds : List Dt} {v : V} {d : Dt} (i : Nat), RpA K F vs ds → Rp K F v d → RpA K F (vs.set i v) (ds.set i d)
  | _, _, _, _, _, .nil, _ => .nil
  | _, _, _, _, 0, .cons _ t, h => .cons h t
  | _, _, _, _, i + 1, .cons q t, h => .cons q (RpA.set i t h)
theorem RpA.take : ∀ {vs : List V} {ds : List Dt} (n : Nat), RpA K F vs ds → RpA K F (vs.take n) (ds.take n)
  | _, _, 0, _ => .nil
  | _, _, _ + 1, .nil => .nil
  | _, _, n + 1, .cons r t => .cons r (RpA.take n t)
theorem RpA.drop : ∀ {vs : List V} {ds : List Dt} (n : Nat), RpA K F vs ds → RpA K F (vs.drop n) (ds.drop n)
  | _, _, 0, r => r
  | _, _, _ + 1, .nil => .nil
  | _, _, n + 1, .cons _ t => RpA.drop n t
theorem RpA.rev : ∀ {vs : List V} {ds : List Dt}, RpA K F vs ds → RpA K F vs.reverse ds.reverse
  | _, _, .nil => .nil
  | _, _, .cons r t => by
    rw [List.reverse_cons, List.reverse_cons]
    exact (RpA.rev t).snoc r
theorem RpA.ints : ∀ ns : List Int, RpA K F (ns.map V.int) (ns.map Dt.int)
  | [] => .nil
  | n :: ns => .cons (.int n) (RpA.ints ns)
theorem Rp.blv {v : V} {i : Bool} (h : Rp K F v (.bl i)) : v = .bl i := by cases h; rfl
end

inductive Sv where | no | im (d : Dt) | mu (k : Nat)
inductive Ob where | ls (xs : List Dt) | dc (kvs : List (List Int × Dt)) | io (C : Addr) (ks : List Str) (ds : List Dt)
inductive Mo where | ob (c : Ob) | fz (d : Dt)
structure Ms where
  sl : List Sv
  mo : List Mo := []
structure Er where
  C : Addr
  ks : List Str
  ds : List Dt
theorem nrfl0 {α : Type} {a b : α} (h : a = b) : a = b := h
inductive R (α : Type) where | ok (a : α) (s : Ms) | er (e : Er) (s : Ms) | no
def R.bind {α β : Type} : R α → (α → Ms → R β) → R β
  | .ok a s, f => f a s
  | .er e s, _ => .er e s
  | .no, _ => .no
@[simp] theorem R.bind_ok {α β : Type} (a : α) (s : Ms) (f : α → Ms → R β) : (R.ok a s).bind f = f a s := nrfl0 rfl
@[simp] theorem R.bind_er {α β : Type} (e : Er) (s : Ms) (f : α → Ms → R β) : (R.er e s : R α).bind f = .er e s := nrfl0 rfl
@[simp] theorem R.bind_no {α β : Type} (f : α → Ms → R β) : (R.no : R α).bind f = .no := nrfl0 rfl
def R.of {α : Type} (o : Option α) (s : Ms) : R α := match o with | some a => .ok a s | none => .no
@[simp] theorem R.of_some {α : Type} (a : α) (s : Ms) : R.of (some a) s = .ok a s := nrfl0 rfl
@[simp] theorem R.of_none {α : Type} (s : Ms) : R.of (none : Option α) s = .no := nrfl0 rfl

def SvR (K : PySem.W.Frag) (F : Hp) (as : List Addr) : Option V → Sv → Prop
  | _, .no => True
  | some v, .im d => Rp K F v d
  | some v, .mu k => ∃ a, as[k]? = some a ∧ v = .ref a
  | none, .im _ => False
  | none, .mu _ => False
inductive ObR (K : PySem.W.Frag) (F : Hp) : HO → Ob → Prop
  | ls {vs : List V} {ds : List Dt} : RpA K F vs ds → ObR K F (.lst vs) (.ls ds)
  | dc {ws : List (List Key × V)} {kvs : List (List Int × Dt)} : Paired (fun p q => p.1 = q.1.map Sum.inl ∧ Rp K F p.2 q.2) ws kvs → ObR K F (.dT ws) (.dc kvs)
  | io {C dx : Addr} {fs : List (Str × V)} {ks : List Str} {ds : List Dt} : fs.map (·.1) = ks → RpA K F (fs.map (·.2)) ds → ObR K F (.ins C dx fs) (.io C ks ds)
theorem ObR.up {K : PySem.W.Frag} {F F' : Hp} {o : HO} {c : Ob} (h : ObR K F o c) (e : Ex F F') : ObR K F' o c := by
  cases h with
  | ls h => exact .ls (h.up e)
  | dc h => exact .dc (h.mono fun _ _ q => ⟨q.1, q.2.up e⟩)
  | io h1 h2 => exact .io h1 (h2.up e)
def NT : HO → Prop | .tup _ => False | _ => True
theorem ObR.nt {K : PySem.W.Frag} {F : Hp} {o : HO} {c : Ob} (h : ObR K F o c) : NT o := by cases h <;> trivial
def MoR (K : PySem.W.Frag) (B F H : Hp) (a : Addr) : Mo → Prop
  | .ob c => B a = none ∧ F a = none ∧ ∃ o, H a = some o ∧ ObR K F o c
  | .fz d => (∃ o, F a = some o) ∧ Rp K F (.ref a) d
structure Rep (K : PySem.W.Frag) (B F H : Hp) (as : List Addr) (σ : L2.St) (S : Ms) : Prop where
  fh : Ex F H
  bh : ∀ a o, B a = some o → H a = some o ∧ F a = none ∧ NT o
  sl : Paired (SvR K F as) σ S.sl
  mo : Paired (MoR K B F H) as S.mo
  nd : as.Nodup
def Ext (F F' : Hp) (as as' : List Addr) : Prop := Ex F F' ∧ ∃ t, as' = as ++ t
theorem Ext.refl {F : Hp} {as : List Addr} : Ext F F as as := ⟨Ex.refl F, [], by simp⟩
theorem Ext.trans {F F1 F2 : Hp} {as as1 as2 : List Addr} (a : Ext F F1 as as1) (b : Ext F1 F2 as1 as2) : Ext F F2 as as2 := by
  obtain ⟨a1, t, rfl⟩ := a
  obtain ⟨b1, u, rfl⟩ := b
  exact ⟨a1.trans b1, t ++ u, by simp⟩

theorem pairedGet {α β : Type} {G : α → β → Prop} : ∀ {xs : List α} {ys : List β} {i : Nat} {y : β}, Paired G xs ys → ys[i]? = some y → ∃ x, xs[i]? = some x ∧ G x y
  | _, _, i, _, .nil, h => by simp at h
  | _, _, 0, _, .cons r _, h => by simp at h; subst h; exact ⟨_, rfl, r⟩
  | _, _, i + 1, _, .cons _ t, h => by
    obtain ⟨x, q, r⟩ := pairedGet (i := i) t (by simpa using h)
    exact ⟨x, by simpa using q, r⟩
theorem pairedGetL {α β : Type} {G : α → β → Prop} : ∀ {xs : List α} {ys : List β} {i : Nat} {x : α}, Paired G xs ys → xs[i]? = some x → ∃ y, ys[i]? = some y ∧ G x y
  | _, _, i, _, .nil, h => by simp at h
  | _, _, 0, _, .cons r _, h => by simp at h; subst h; exact ⟨_, rfl, r⟩
  | _, _, i + 1, _, .cons _ t, h => by
    obtain ⟨x, q, r⟩ := pairedGetL (i := i) t (by simpa using h)
    exact ⟨x, by simpa using q, r⟩
theorem pairedSet {α β : Type} {G : α → β → Prop} {x : α} {y : β} : ∀ {xs : List α} {ys : List β} (i : Nat), Paired G xs ys → G x y → Paired G (xs.set i x) (ys.set i y)
  | _, _, _, .nil, _ => .nil
  | _, _, 0, .cons _ t, h => .cons h t
  | _, _, i + 1, .cons q t, h => .cons q (pairedSet i t h)
theorem pairedAt {α β : Type} {G G' : α → β → Prop} {y : β} : ∀ {xs : List α} {ys : List β} (i : Nat), Paired G xs ys → (∀ (j : Nat) (x : α) (z : β), j ≠ i → xs[j]? = some x → ys[j]? = some z → G x z → G' x z) → (∀ x, xs[i]? = some x → G' x y) → Paired G' xs (ys.set i y)
  | _, _, _, .nil, _, _ => .nil
  | x :: xs, z :: ys, 0, .cons r t, h, h1 => by
    refine .cons (h1 x rfl) ?_
    have : ∀ {xs : List α} {ys : List β}, Paired G xs ys → (∀ (j : Nat) (x : α) (z : β), xs[j]? = some x → ys[j]? = some z → G x z → G' x z) → Paired G' xs ys := by
      intro xs ys p
      induction p with
      | nil => intro _; exact .nil
      | cons q _ ih => exact fun k => .cons (k 0 _ _ rfl rfl q) (ih fun j x z a b => k (j + 1) x z (by simpa using a) (by simpa using b))
    exact this t fun j x z a b => h (j + 1) x z (by omega) (by simpa using a) (by simpa using b)
  | x :: xs, z :: ys, i + 1, .cons r t, h, h1 => by
    refine .cons (h 0 x z (by omega) rfl rfl r) ?_
    exact pairedAt i t (fun j x z hj a b => h (j + 1) x z (by omega) (by simpa using a) (by simpa using b)) fun x a => h1 x (by simpa using a)

section
variable {K : PySem.W.Frag} {B F H F' H' : Hp} {as as' : List Addr} {σ : L2.St} {S S' : Ms}
theorem SvR.up {o : Option V} {s : Sv} (h : SvR K F as o s) (e : Ext F F' as as') : SvR K F' as' o s := by
  obtain ⟨e1, t, rfl⟩ := e
  cases s with
  | no => trivial
  | im d =>
    cases o with
    | none => exact h
    | some v => exact Rp.up h e1
  | mu k =>
    cases o with
    | none => exact h
    | some v =>
      obtain ⟨a, q, rfl⟩ := h
      exact ⟨a, by rw [List.getElem?_append_left]; exact q; exact (List.getElem?_eq_some_iff.mp q).1, rfl⟩
theorem Rep.live (r : Rep K B F H as σ S) {a : Addr} (h : a ∈ as) : ∃ o, H a = some o := by
  obtain ⟨i, q⟩ := List.mem_iff_getElem?.mp h
  obtain ⟨y, _, z⟩ := pairedGetL r.mo q
  cases y with
  | ob ds =>
    obtain ⟨_, _, vs, z, _⟩ := z
    exact ⟨_, z⟩
  | fz d =>
    obtain ⟨⟨o, z⟩, _⟩ := z
    exact ⟨o, r.fh _ _ z⟩
theorem Rep.fresh (r : Rep K B F H as σ S) {p : Addr} (h : H p = none) : F p = none ∧ B p = none ∧ p ∉ as := by
  refine ⟨?_, ?_, fun z => ?_⟩
  · cases q : F p with
    | none => rfl
    | some o => rw [r.fh _ _ q] at h; cases h
  · cases q : B p with
    | none => rfl
    | some o => rw [(r.bh _ _ q).1] at h; cases h
  · obtain ⟨o, q⟩ := r.live z
    rw [q] at h; cases h
theorem Rep.new (r : Rep K B F H as σ S) {p : Addr} (h : H p = none) (o : HO) : Ext F (upd F p o) as as ∧ Rep K B (upd F p o) (upd H p o) as σ S := by
  obtain ⟨f1, f2, f3⟩ := r.fresh h
  have e : Ex F (upd F p o) := Ex.new f1
  have ee : Ext F (upd F p o) as as := ⟨e, [], by simp⟩
  refine ⟨ee, fun a u hu => ?_, fun a u hu => ?_, r.sl.mono fun _ _ q => SvR.up q ee, ?_, r.nd⟩
  · by_cases q : a = p
    · subst q
      rw [upd_same] at hu ⊢
      exact hu
    · rw [upd_ne q] at hu ⊢
      exact r.fh _ _ hu
  · obtain ⟨q1, q2, q3⟩ := r.bh a u hu
    have n : a ≠ p := by
      rintro rfl
      rw [h] at q1; cases q1
    rw [upd_ne n, upd_ne n]
    exact ⟨q1, q2, q3⟩
  · refine r.mo.mono fun a m q => ?_
    cases m with
    | ob ds =>
      obtain ⟨q1, q2, vs, q3, q4⟩ := q
      have n : a ≠ p := by
        rintro rfl
        rw [h] at q3; cases q3
      exact ⟨q1, by rw [upd_ne n]; exact q2, vs, by rw [upd_ne n]; exact q3, q4.up e⟩
    | fz d =>
      obtain ⟨⟨u, q1⟩, q2⟩ := q
      exact ⟨⟨u, e _ _ q1⟩, q2.up e⟩
theorem Rep.freeze (r : Rep K B F H as σ S) {k : Nat} {ds : List Dt} (h : S.mo[k]? = some (.ob (.ls ds))) : ∃ a F1, as[k]? = some a ∧ Ext F F1 as as ∧ Rep K B F1 H as σ { S with mo := S.mo.set k (.fz (.lst ds)) } ∧ Rp K F1 (.ref a) (.lst ds) := by
  obtain ⟨a, ha, q1, q2, ob, q3, q4⟩ := pairedGet r.mo h
  cases q4
  rename_i vs q4
  have e : Ex F (upd F a (.lst vs)) := Ex.new q2
  have ee : Ext F (upd F a (.lst vs)) as as := ⟨e, [], by simp⟩
  have rr : Rp K (upd F a (.lst vs)) (.ref a) (.lst ds) := .lst upd_same (q4.up e)
  refine ⟨a, _, ha, ee, ⟨fun b u hu => ?_, fun b u hu => ?_, r.sl.mono fun _ _ q => SvR.up q ee, ?_, r.nd⟩, rr⟩
  · by_cases q : b = a
    · subst q
      rw [upd_same] at hu
      rw [q3]; exact hu
    · rw [upd_ne q] at hu
      exact r.fh _ _ hu
  · obtain ⟨z1, z2, z3⟩ := r.bh b u hu
    have n : b ≠ a := by
      rintro rfl
      rw [q1] at hu; cases hu
    rw [upd_ne n]
    exact ⟨z1, z2, z3⟩
  · refine pairedAt k r.mo (fun j b m hj hb hm q => ?_) fun b hb => ?_
    · cases m with
      | ob ds =>
        obtain ⟨z1, z2, ws, z3, z4⟩ := q
        have n : b ≠ a := fun z => by
          subst z
          exact hj (nd_ix r.nd hb ha)
        exact ⟨z1, by rw [upd_ne n]; exact z2, ws, z3, z4.up e⟩
      | fz d =>
        obtain ⟨⟨u, z1⟩, z2⟩ := q
        exact ⟨⟨u, e _ _ z1⟩, z2.up e⟩
    · rw [ha] at hb
      cases hb
      exact ⟨⟨_, upd_same⟩, rr⟩
theorem Rep.newL (r : Rep K B F H as σ S) {p : Addr} {o : HO} {c : Ob} (f1 : F p = none) (f2 : B p = none) (f3 : p ∉ as) (hp : H p = some o) (hv : ObR K F o c) : Ext F F as (as ++ [p]) ∧ Rep K B F H (as ++ [p]) σ { S with mo := S.mo ++ [.ob c] } := by
  have ee : Ext F F as (as ++ [p]) := ⟨Ex.refl F, [p], rfl⟩
  refine ⟨ee, r.fh, r.bh, r.sl.mono fun _ _ q => SvR.up q ee, r.mo.snoc ⟨f2, f1, o, hp, hv⟩, ?_⟩
  rw [List.nodup_append]
  exact ⟨r.nd, by simp, fun a ha b hb => by simp at hb; subst hb; rintro rfl; exact f3 ha⟩
theorem Rep.put (r : Rep K B F H as σ S) {k : Nat} {a : Addr} {o : HO} {c0 c : Ob} (h : S.mo[k]? = some (.ob c0)) (ha : as[k]? = some a) (hv : ObR K F o c) : Rep K B F (upd H a o) as σ { S with mo := S.mo.set k (.ob c) } := by
  obtain ⟨a', ha', q1, q2, ws, q3, q4⟩ := pairedGet r.mo h
  rw [ha] at ha'
  cases ha'
  refine ⟨fun b u hu => ?_, fun b u hu => ?_, r.sl, ?_, r.nd⟩
  · have n : b ≠ a := by
      rintro rfl
      rw [q2] at hu; cases hu
    rw [upd_ne n]
    exact r.fh _ _ hu
  · obtain ⟨z1, z2, z3⟩ := r.bh b u hu
    have n : b ≠ a := by
      rintro rfl
      rw [q1] at hu; cases hu
    rw [upd_ne n]
    exact ⟨z1, z2, z3⟩
  · refine pairedAt k r.mo (fun j b m hj hb hm q => ?_) fun b hb => ?_
    · cases m with
      | ob ds =>
        obtain ⟨z1, z2, ws, z3, z4⟩ := q
        have n : b ≠ a := fun z => by
          subst z
          exact hj (nd_ix r.nd hb ha)
        exact ⟨z1, z2, ws, by rw [upd_ne n]; exact z3, z4⟩
      | fz d => exact q
    · rw [ha] at hb
      cases hb
      exact ⟨q1, q2, o, upd_same, hv⟩
theorem Rep.slot (r : Rep K B F H as σ S) (i : Nat) {v : V} {s : Sv} (h : SvR K F as (some v) s) : Rep K B F H as (σ.set i (some v)) { S with sl := S.sl.set i s } :=
  ⟨r.fh, r.bh, pairedSet i r.sl h, r.mo, r.nd⟩
end

def DictR (H : Hp) (dx : Option Addr) (fs : List (Str × V)) : Prop := match dx with | some d => H d = some (.xd fs) | none => fs = []
theorem DictR.some {H : Hp} {dx : Option Addr} {fs : List (Str × V)} (h : DictR H dx fs) (hf : fs ≠ []) : ∃ d, dx = some d ∧ H d = some (.xd fs) := by
  cases dx with
  | none => exact absurd h hf
  | some d => exact ⟨d, rfl, h⟩
section
variable (K : PySem.W.Frag) (W : WX) (B F : Hp) (as : List Addr) (σ : L2.St)
def OutE (e : Er) (S' : Ms) : Prop := ∀ F' H' as' dx fs, Ext F F' as as' → Rep K B F' H' as' σ S' → DictR H' dx fs → fs.map (·.1) = e.ks → RpA K F' (fs.map (·.2)) e.ds → W (.ref e.C) dx σ H'
def Out {α : Type} (r : R α) (Q : α → Hp → Hp → List Addr → Ms → Prop) : Prop := match r with
  | .ok a S' => ∀ F' H' as', Ext F F' as as' → Rep K B F' H' as' σ S' → Q a F' H' as' S'
  | .er e S' => OutE K W B F as σ e S'
  | .no => False
end
theorem Out.bind {K : PySem.W.Frag} {W : WX} {B F : Hp} {as : List Addr} {σ : L2.St} {α β : Type} {r : R α} {g : α → Ms → R β} {Q : β → Hp → Hp → List Addr → Ms → Prop} (h : Out K W B F as σ (r.bind g) Q) :
    Out K W B F as σ r fun a F1 H1 as1 S1 => Rep K B F1 H1 as1 σ S1 ∧ Ext F F1 as as1 ∧ Out K W B F1 as1 σ (g a S1) Q := by
  cases r with
  | ok a S1 =>
    intro F1 H1 as1 e1 r1
    refine ⟨r1, e1, ?_⟩
    have h : Out K W B F as σ (g a S1) Q := h
    revert h
    cases g a S1 with
    | ok b S2 => exact fun h F2 H2 as2 e2 r2 => h F2 H2 as2 (e1.trans e2) r2
    | er e S2 => exact fun h F2 H2 as2 dx fs e2 r2 => h F2 H2 as2 dx fs (e1.trans e2) r2
    | no => exact fun h => h
  | er e S1 => exact h
  | no => exact h
theorem Out.mono {K : PySem.W.Frag} {W : WX} {B F : Hp} {as : List Addr} {σ : L2.St} {α : Type} {r : R α} {Q Q' : α → Hp → Hp → List Addr → Ms → Prop} (h : Out K W B F as σ r Q) (hq : ∀ a F' H' as' S', Q a F' H' as' S' → Q' a F' H' as' S') : Out K W B F as σ r Q' := by
  cases r with
  | ok a S1 => exact fun F1 H1 as1 e1 r1 => hq _ _ _ _ _ (h F1 H1 as1 e1 r1)
  | er e S1 => exact h
  | no => exact h
theorem Out.now {K : PySem.W.Frag} {W : WX} {B F H : Hp} {as : List Addr} {σ : L2.St} {α : Type} {a : α} {S : Ms} {Q : α → Hp → Hp → List Addr → Ms → Prop} (h : Out K W B F as σ (.ok a S) Q) (r : Rep K B F H as σ S) : Q a F H as S := h F H as Ext.refl r

def tD (K : PySem.W.Frag) (W : WX) (f : Ms → R Dt) : TE := fun σ H Q => ∃ B F as S, Rep K B F H as σ S ∧ Out K W B F as σ (f S) fun d F' H' _ _ => ∀ v, Rp K F' v d → Q v H'
def tN (K : PySem.W.Frag) (W : WX) (f : Ms → R (List Dt)) : TE := fun σ H Q => ∃ B F as S, Rep K B F H as σ S ∧ Out K W B F as σ (f S) fun ds F' H' as' _ => ∀ p vs, F' p = none → B p = none → p ∉ as' → H' p = some (.lst vs) → RpA K F' vs ds → Q (.ref p) H'
def tT (K : PySem.W.Frag) (W : WX) (f : Ms → R Bool) : TT := fun σ H Q => ∃ B F as S, Rep K B F H as σ S ∧ Out K W B F as σ (f S) fun b _ H' _ _ => Q b H'
def tA (K : PySem.W.Frag) (W : WX) (f : Ms → R (List Dt)) : TA := fun σ H Q => ∃ B F as S, Rep K B F H as σ S ∧ Out K W B F as σ (f S) fun ds F' H' _ _ => ∀ vs, RpA K F' vs ds → Q vs H'

inductive O where | nx (s : Ms) | rt (d : Dt) (s : Ms) | bk (s : Ms) | ct (s : Ms) | er (e : Er) (s : Ms) | no
def OutS (K : PySem.W.Frag) (W : WX) (B F : Hp) (as : List Addr) (o : O) (D : Ends) : Prop := match o with
  | .nx S' => ∀ σ' F' H' as', Ext F F' as as' → Rep K B F' H' as' σ' S' → D.nx σ' H'
  | .rt d S' => ∀ σ' F' H' as' v, Ext F F' as as' → Rep K B F' H' as' σ' S' → Rp K F' v d → D.rt v H'
  | .bk S' => ∀ σ' F' H' as', Ext F F' as as' → Rep K B F' H' as' σ' S' → D.bk σ' H'
  | .ct S' => ∀ σ' F' H' as', Ext F F' as as' → Rep K B F' H' as' σ' S' → D.ct σ' H'
  | .er e S' => ∀ σ', OutE K W B F as σ' e S'
  | .no => False
def sD (K : PySem.W.Frag) (W : WX) (m : Ms → O) : TS := fun D σ H => ∃ B F as S, Rep K B F H as σ S ∧ OutS K W B F as (m S) D
theorem OutS.ext {K : PySem.W.Frag} {W : WX} {B F F1 : Hp} {as as1 : List Addr} {o : O} {D : Ends} (h : OutS K W B F as o D) (e : Ext F F1 as as1) : OutS K W B F1 as1 o D := by
  cases o with
  | nx S' => exact fun σ' F' H' as' e' r => h σ' F' H' as' (e.trans e') r
  | rt d S' => exact fun σ' F' H' as' v e' r => h σ' F' H' as' v (e.trans e') r
  | bk S' => exact fun σ' F' H' as' e' r => h σ' F' H' as' (e.trans e') r
  | ct S' => exact fun σ' F' H' as' e' r => h σ' F' H' as' (e.trans e') r
  | er x S' => exact fun σ' F' H' as' dx fs e' r => h σ' F' H' as' dx fs (e.trans e') r
  | no => exact h
def R.stmt {α : Type} : R α → (α → Ms → O) → O
  | .ok a s, f => f a s
  | .er e s, _ => .er e s
  | .no, _ => .no
@[simp] theorem R.stmt_ok {α : Type} (a : α) (s : Ms) (f : α → Ms → O) : (R.ok a s).stmt f = f a s := nrfl0 rfl
@[simp] theorem R.stmt_er {α : Type} (e : Er) (s : Ms) (f : α → Ms → O) : (R.er e s : R α).stmt f = .er e s := nrfl0 rfl
@[simp] theorem R.stmt_no {α : Type} (f : α → Ms → O) : (R.no : R α).stmt f = .no := nrfl0 rfl
def O.seq : O → (Ms → O) → O
  | .nx s, f => f s
  | .rt d s, _ => .rt d s
  | .bk s, _ => .bk s
  | .ct s, _ => .ct s
  | .er e s, _ => .er e s
  | .no, _ => .no
theorem OutS.stmt {K : PySem.W.Frag} {W : WX} {B F : Hp} {as : List Addr} {σ : L2.St} {α : Type} {r : R α} {g : α → Ms → O} {D : Ends} (h : OutS K W B F as (r.stmt g) D) :
    Out K W B F as σ r fun a F1 H1 as1 S1 => Rep K B F1 H1 as1 σ S1 ∧ Ext F F1 as as1 ∧ OutS K W B F1 as1 (g a S1) D := by
  cases r with
  | ok a S1 => exact fun F1 H1 as1 e1 r1 => ⟨r1, e1, OutS.ext h e1⟩
  | er e S1 => exact h σ
  | no => exact h
theorem OutS.seq {K : PySem.W.Frag} {W : WX} {B F : Hp} {as : List Addr} {o : O} {m : Ms → O} {D : Ends} (h : OutS K W B F as (o.seq m) D) : OutS K W B F as o { D with nx := sD K W m D } := by
  cases o with
  | nx S' => exact fun σ' F' H' as' e' r => ⟨B, F', as', S', r, OutS.ext h e'⟩
  | rt d S' => exact h
  | bk S' => exact h
  | ct S' => exact h
  | er e S' => exact h
  | no => exact h
theorem monoE {X : Cx} {e : Expr} {t t' : TE} (h : PE X e t) (m : ∀ σ H Q, t' σ H Q → t σ H Q) : PE X e t' := ⟨fun pins s σ H Q I q => h.run pins s σ H Q I (m σ H Q q)⟩
theorem monoT {X : Cx} {e : Expr} {t t' : TT} (h : PT X e t) (m : ∀ σ H Q, t' σ H Q → t σ H Q) : PT X e t' := ⟨fun pins s σ H Q I q => h.run pins s σ H Q I (m σ H Q q)⟩
theorem monoA {X : Cx} {e : List Expr} {t t' : TA} (h : PA X e t) (m : ∀ σ H Q, t' σ H Q → t σ H Q) : PA X e t' := ⟨fun pos pins s σ H Q I q => h.run pos pins s σ H Q I (m σ H Q q)⟩
theorem monoS {X : Cx} {st : Stmt} {t t' : TS} (h : PS X st t) (m : ∀ D σ H, t' D σ H → t D σ H) : PS X st t' := ⟨fun pins s σ H D I q => h.run pins s σ H D I (m D σ H q)⟩
theorem monoSs {X : Cx} {st : List Stmt} {t t' : TS} (h : PSs X st t) (m : ∀ D σ H, t' D σ H → t D σ H) : PSs X st t' := ⟨fun pins s σ H D I q => h.run pins s σ H D I (m D σ H q)⟩
theorem monoPT {X : Cx} {e : List Expr} {t t' : TT} (h : PTs X e t) (m : ∀ σ H Q, t' σ H Q → t σ H Q) : PTs X e t' := ⟨fun pins s σ H Q I q => h.run pins s σ H Q I (m σ H Q q)⟩
end Lq

namespace Lq
open PySem PySem.Spec PyProof.Rows L2
open Evl (Ex)

def Gv (K : PySem.W.Frag) (F H : Hp) (z : Dt) (Q : VK) : Prop :=
  (∀ u, Rp K F u z → Q u H) ∧ ∀ p o, H p = none → Rp K (upd F p o) (.ref p) z → Q (.ref p) (upd H p o)
def GvL (K : PySem.W.Frag) (F H : Hp) (z : List Dt) (Q : VK) : Prop := ∀ p vs, H p = none → RpA K F vs z → Q (.ref p) (upd H p (.lst vs))
theorem gv_of {K : PySem.W.Frag} {W : WX} {B F H : Hp} {as : List Addr} {σ : L2.St} {S : Ms} {z : Dt} {Q : VK} (h : Out K W B F as σ (.ok z S) fun d F' H' _ _ => ∀ v, Rp K F' v d → Q v H') (r : Rep K B F H as σ S) : Gv K F H z Q :=
  ⟨fun u hu => h F H as Ext.refl r u hu, fun p o hp hu => by
    obtain ⟨e1, r1⟩ := r.new hp o
    exact h _ _ as e1 r1 _ hu⟩
theorem gvl_of {K : PySem.W.Frag} {W : WX} {B F H : Hp} {as : List Addr} {σ : L2.St} {S : Ms} {z : List Dt} {Q : VK}
    (h : Out K W B F as σ (.ok z S) fun ds F' H' as' _ => ∀ p vs, F' p = none → B p = none → p ∉ as' → H' p = some (.lst vs) → RpA K F' vs ds → Q (.ref p) H') (r : Rep K B F H as σ S) : GvL K F H z Q := fun p vs hp hv => by
  obtain ⟨f1, f2, f3⟩ := r.fresh hp
  have r1 : Rep K B F (upd H p (.lst vs)) as σ S := by
    refine ⟨fun a o e => ?_, fun a o e => ?_, r.sl, r.mo.mono fun a m q => ?_, r.nd⟩
    · rw [upd_ne (ne_of_none (r.fh _ _ e) hp)]
      exact r.fh _ _ e
    · obtain ⟨z1, z2, z3⟩ := r.bh a o e
      exact ⟨by rw [upd_ne (ne_of_none z1 hp)]; exact z1, z2, z3⟩
    · cases m with
      | ob ds =>
        obtain ⟨z1, z2, ws, z3, z4⟩ := q
        exact ⟨z1, z2, ws, by rw [upd_ne (ne_of_none z3 hp)]; exact z3, z4⟩
      | fz d => exact q
  exact h F _ as Ext.refl r1 p vs f1 f2 f3 upd_same hv
def frz (f : Ms → R (List Dt)) : Ms → R Dt := fun S => (f S).bind fun ds S1 => .ok (.lst ds) S1
theorem frz_run {K : PySem.W.Frag} {W : WX} {f : Ms → R (List Dt)} {σ : L2.St} {H : Hp} {Q : VK} (q : tD K W (frz f) σ H Q) : tN K W f σ H Q := by
  obtain ⟨B, F, as, S, r, o⟩ := q
  refine ⟨B, F, as, S, r, Out.mono (Out.bind o) fun ds F' H' as' S' ⟨r1, e1, o1⟩ => ?_⟩
  intro p vs f1 f2 f3 hp hv
  have e : Ex F' (upd F' p (.lst vs)) := Ex.new f1
  have ee : Ext F' (upd F' p (.lst vs)) as' as' := ⟨e, [], by simp⟩
  refine o1 (upd F' p (.lst vs)) H' as' ee ⟨fun a u hu => ?_, fun a u hu => ?_, r1.sl.mono fun _ _ q => SvR.up q ee, ?_, r1.nd⟩ _ (.lst upd_same (hv.up e))
  · by_cases q : a = p
    · subst q
      rw [upd_same] at hu
      rw [hp]; exact hu
    · rw [upd_ne q] at hu
      exact r1.fh _ _ hu
  · have n : a ≠ p := by
      rintro rfl
      rw [f2] at hu; cases hu
    rw [upd_ne n]
    exact r1.bh a u hu
  · have : ∀ {xs : List Addr} {ys : List Mo}, (∀ a ∈ xs, a ≠ p) → Paired (MoR K B F' H') xs ys → Paired (MoR K B (upd F' p (.lst vs)) H') xs ys := by
      intro xs ys hn z
      induction z with
      | nil => exact .nil
      | @cons a b l1 l2 z zs ih =>
        refine .cons ?_ (ih fun a ha => hn a (List.mem_cons_of_mem _ ha))
        cases b with
        | ob ds =>
          obtain ⟨z1, z2, ws, z3, z4⟩ := z
          exact ⟨z1, by rw [upd_ne (hn _ List.mem_cons_self)]; exact z2, ws, z3, z4.up e⟩
        | fz d =>
          obtain ⟨⟨u, z1⟩, z2⟩ := z
          exact ⟨⟨u, e _ _ z1⟩, z2.up e⟩
    exact this (fun a ha z => f3 (z ▸ ha)) r1.mo
theorem de_frz {X : Cx} {W : WX} {e : Expr} {f : Ms → R (List Dt)} (h : PE X e (tN X.K W f)) : PE X e (tD X.K W (frz f)) := monoE h fun σ H Q q => frz_run q

def cE (d : Dt) : Ms → R Dt := fun S => .ok d S
def varE (i : Nat) : Ms → R Dt := fun S => match S.sl[i]? with
  | some (.im d) => .ok d S
  | some (.mu k) => match S.mo[k]? with
    | some (.ob (.ls xs)) => .ok (.lst xs) { S with mo := S.mo.set k (.fz (.lst xs)) }
    | some (.fz d) => .ok d S
    | _ => .no
  | _ => .no
section
variable {X : Cx} {W : WX} {a b c e : Expr} {pos : Pos}
theorem de_var {i : Nat} (h : PE X e (tVar i)) : PE X e (tD X.K W (varE i)) := monoE h fun σ H Q q => by
  obtain ⟨B, F, as, S, r, o⟩ := q
  unfold varE at o
  cases hs : S.sl[i]? with
  | none => rw [hs] at o; exact o.elim
  | some s =>
    rw [hs] at o
    cases s with
    | no => exact o.elim
    | im d =>
      obtain ⟨ov, hv, z⟩ := pairedGet r.sl hs
      cases ov with
      | none => exact z.elim
      | some v => exact ⟨v, hv, Out.now o r v z⟩
    | mu k =>
      obtain ⟨ov, hv, z⟩ := pairedGet r.sl hs
      cases ov with
      | none => exact z.elim
      | some v =>
        obtain ⟨x, hx, rfl⟩ := z
        refine ⟨_, hv, ?_⟩
        dsimp only at o
        cases hm : S.mo[k]? with
        | none => rw [hm] at o; exact o.elim
        | some m =>
          rw [hm] at o
          cases m with
          | ob c =>
           cases c with
           | dc kvs => exact o.elim
           | io _ _ _ => exact o.elim
           | ls xs =>
            obtain ⟨y, F1, hy, e1, r1, q1⟩ := r.freeze hm
            rw [hx] at hy
            cases hy
            exact o F1 H as e1 r1 _ q1
          | fz d =>
            obtain ⟨y, hy, _, q1⟩ := pairedGet r.mo hm
            rw [hx] at hy
            cases hy
            exact Out.now o r _ q1
theorem de_c {v : V} {d : Dt} (h : PE X e (tC v)) (hd : ∀ F, Rp X.K F v d) : PE X e (tD X.K W (cE d)) := monoE h fun σ H Q q => by
  obtain ⟨B, F, as, S, r, o⟩ := q
  exact Out.now o r v (hd F)
theorem de_int {i j} : PE X (.Constant (.int i) j pos) (tD X.K W (cE (.int i))) := de_c pe_int fun _ => .int i
theorem de_bl {i j} : PE X (.Constant (.bool i) j pos) (tD X.K W (cE (.bl i))) := de_c pe_bl fun _ => .bl i
def op2 (f g : Ms → R Dt) (h : Dt → Dt → Option Dt) : Ms → R Dt := fun S => (f S).bind fun d S1 => (g S1).bind fun e S2 => R.of (h d e) S2
def RulD (K : PySem.W.Frag) (r : R2) (h : Dt → Dt → Option Dt) : Prop := ∀ F H v w d e z Q, Ex F H → Rp K F v d → Rp K F w e → h d e = some z → Gv K F H z Q → r v w H Q
theorem dt_op {r : R2} {f g : Ms → R Dt} {h : Dt → Dt → Option Dt} {K : PySem.W.Frag} (hr : RulD K r h) (σ : L2.St) (H : Hp) (Q : VK) (q : tD K W (op2 f g h) σ H Q) : tOp r (tD K W f) (tD K W g) σ H Q := by
  obtain ⟨B, F, as, S, r0, o⟩ := q
  refine ⟨B, F, as, S, r0, Out.mono (Out.bind o) fun d F1 H1 as1 S1 ⟨r1, e1, o1⟩ v hv => ?_⟩
  refine ⟨B, F1, as1, S1, r1, ?_⟩
  have o2 := Out.bind o1
  revert o2
  cases g S1 with
  | ok e S2 =>
    intro o2 F2 H2 as2 e2 r2 w hw
    obtain ⟨_, _, o3⟩ := o2 F2 H2 as2 e2 r2
    cases hz : h d e with
    | none => rw [hz] at o3; exact o3.elim
    | some z =>
      rw [hz] at o3
      exact hr F2 H2 v w d e z Q r2.fh (hv.up e2.1) hw hz (gv_of o3 r2)
  | er x S2 => exact fun o2 => o2
  | no => exact fun o2 => o2
theorem de_op {op : Operator} {r : R2} {f g : Ms → R Dt} {h : Dt → Dt → Option Dt} (ho : OpR X (binaryOp op) r) (hr : RulD X.K r h) (ha : PE X a (tD X.K W f)) (hb : PE X b (tD X.K W g)) : PE X (.BinOp a op b pos) (tD X.K W (op2 f g h)) :=
  monoE (pe_op ho ha hb) (dt_op hr)
theorem de_cmp {op : CmpOp} {r : R2} {f g : Ms → R Dt} {h : Dt → Dt → Option Dt} (ho : OpR X (compareOp op) r) (hr : RulD X.K r h) (ha : PE X a (tD X.K W f)) (hb : PE X b (tD X.K W g)) (hm : behindInMarks op b = false) : PE X (.Compare a [op] [b] pos) (tD X.K W (op2 f g h)) :=
  monoE (pe_cmpR ho ha hb hm) (dt_op hr)
theorem de_ix {r : R2} {f g : Ms → R Dt} {h : Dt → Dt → Option Dt} (ho : IxR X r) (hr : RulD X.K r h) (ha : PE X a (tD X.K W f)) (hb : PE X b (tD X.K W g)) (hs : PlainIx b) : PE X (.Subscript a b pos) (tD X.K W (op2 f g h)) :=
  monoE (pe_ix ho ha hb hs) (dt_op hr)
def op1 (f : Ms → R Dt) (h : Dt → Option Dt) : Ms → R Dt := fun S => (f S).bind fun d S1 => R.of (h d) S1
theorem de_un {op : UnaryOp} {r : V → Hp → VK → Prop} {f : Ms → R Dt} {h : Dt → Option Dt} (ho : UnR X (unaryOp op) r) (hr : ∀ F H v d z Q, Ex F H → Rp X.K F v d → h d = some z → Gv X.K F H z Q → r v H Q) (ha : PE X a (tD X.K W f)) :
    PE X (.UnaryOp op a pos) (tD X.K W (op1 f h)) := monoE (pe_un ho ha) fun σ H Q q => by
  obtain ⟨B, F, as, S, r0, o⟩ := q
  refine ⟨B, F, as, S, r0, Out.mono (Out.bind o) fun d F1 H1 as1 S1 ⟨r1, e1, o1⟩ v hv => ?_⟩
  cases hz : h d with
  | none => rw [hz] at o1; exact o1.elim
  | some z =>
    rw [hz] at o1
    exact hr F1 H1 v d z Q r1.fh hv hz (gv_of o1 r1)
def opN (f g : Ms → R Dt) (h : Dt → Dt → Option (List Dt)) : Ms → R (List Dt) := fun S => (f S).bind fun d S1 => (g S1).bind fun e S2 => R.of (h d e) S2
def RulN (K : PySem.W.Frag) (r : R2) (h : Dt → Dt → Option (List Dt)) : Prop := ∀ F H v w d e z Q, Ex F H → Rp K F v d → Rp K F w e → h d e = some z → GvL K F H z Q → r v w H Q
theorem dn_op {op : Operator} {r : R2} {f g : Ms → R Dt} {h : Dt → Dt → Option (List Dt)} (ho : OpR X (binaryOp op) r) (hr : RulN X.K r h) (ha : PE X a (tD X.K W f)) (hb : PE X b (tD X.K W g)) : PE X (.BinOp a op b pos) (tN X.K W (opN f g h)) :=
  monoE (pe_op ho ha hb) fun σ H Q q => by
    obtain ⟨B, F, as, S, r0, o⟩ := q
    refine ⟨B, F, as, S, r0, Out.mono (Out.bind o) fun d F1 H1 as1 S1 ⟨r1, e1, o1⟩ v hv => ?_⟩
    refine ⟨B, F1, as1, S1, r1, ?_⟩
    have o2 := Out.bind o1
    revert o2
    cases g S1 with
    | ok e S2 =>
      intro o2 F2 H2 as2 e2 r2 w hw
      obtain ⟨_, _, o3⟩ := o2 F2 H2 as2 e2 r2
      cases hz : h d e with
      | none => rw [hz] at o3; exact o3.elim
      | some z =>
        rw [hz] at o3
        exact hr F2 H2 v w d e z Q r2.fh (hv.up e2.1) hw hz (gvl_of o3 r2)
    | er x S2 => exact fun o2 => o2
    | no => exact fun o2 => o2

def iOp (g : Int → Int → Int) : Dt → Dt → Option Dt | .int i, .int j => some (.int (g i j)) | _, _ => none
theorem rd_I0 {K : PySem.W.Frag} {g : Int → Int → Int} : RulD K (rI0 fun i j => .int (g i j)) (iOp g) := fun F H v w d e z Q _ hv hw hz q => by
  cases d <;> cases e <;> simp only [iOp] at hz <;> cases hz
  cases hv; cases hw
  exact ⟨_, _, rfl, rfl, q.1 _ (.int _)⟩
def iOpC (C : Int → Int → Prop) [∀ i j, Decidable (C i j)] (g : Int → Int → Int) : Dt → Dt → Option Dt | .int i, .int j => if C i j then some (.int (g i j)) else none | _, _ => none
theorem rd_I {K : PySem.W.Frag} {C : Int → Int → Prop} [∀ i j, Decidable (C i j)] {g : Int → Int → Int} : RulD K (rI C fun i j => .int (g i j)) (iOpC C g) := fun F H v w d e z Q _ hv hw hz q => by
  cases d <;> cases e <;> simp only [iOpC] at hz <;> try cases hz
  split at hz
  · cases hz
    cases hv; cases hw
    exact ⟨_, _, rfl, rfl, by assumption, q.1 _ (.int _)⟩
  · cases hz
def iCmp (g : Int → Int → Bool) : Dt → Dt → Option Dt | .int i, .int j => some (.bl (g i j)) | _, _ => none
theorem rd_C {K : PySem.W.Frag} {g : Int → Int → Bool} : RulD K (rI0 fun i j => .bl (g i j)) (iCmp g) := fun F H v w d e z Q _ hv hw hz q => by
  cases d <;> cases e <;> simp only [iCmp] at hz <;> cases hz
  cases hv; cases hw
  exact ⟨_, _, rfl, rfl, q.1 _ (.bl _)⟩
instance : ∀ i j, Decidable (CMul i j) := fun i j => by unfold CMul; infer_instance
instance : ∀ i j, Decidable (CDiv i j) := fun i j => by unfold CDiv; infer_instance
abbrev addO := iOp fun i j => i + j
abbrev subO := iOp fun i j => i - j
abbrev mulO := iOpC CMul fun i j => i * j
abbrev modO := iOpC (fun _ j => 0 < j) fun i j => i % j
abbrev divO := iOpC CDiv fun i j => i / j
abbrev gtO := iCmp fun i j => decide (j < i)
abbrev geO := iCmp fun i j => decide (j ≤ i)
section
variable {f g : Ms → R Dt}
theorem de_add (ha : PE X a (tD X.K W f)) (hb : PE X b (tD X.K W g)) : PE X (.BinOp a .Add b pos) (tD X.K W (op2 f g addO)) := de_op op_add rd_I0 ha hb
theorem de_sub (ha : PE X a (tD X.K W f)) (hb : PE X b (tD X.K W g)) : PE X (.BinOp a .Sub b pos) (tD X.K W (op2 f g subO)) := de_op op_sub rd_I0 ha hb
theorem de_mul (ha : PE X a (tD X.K W f)) (hb : PE X b (tD X.K W g)) : PE X (.BinOp a .Mult b pos) (tD X.K W (op2 f g mulO)) := de_op op_mul rd_I ha hb
theorem de_mod (ha : PE X a (tD X.K W f)) (hb : PE X b (tD X.K W g)) : PE X (.BinOp a .Mod b pos) (tD X.K W (op2 f g modO)) := de_op op_mod rd_I ha hb
theorem de_div (ha : PE X a (tD X.K W f)) (hb : PE X b (tD X.K W g)) : PE X (.BinOp a .FloorDiv b pos) (tD X.K W (op2 f g divO)) := de_op op_fdiv rd_I ha hb
def negO : Dt → Option Dt | .int i => some (.int (-i)) | _ => none
theorem de_neg (ha : PE X a (tD X.K W f)) : PE X (.UnaryOp .USub a pos) (tD X.K W (op1 f negO)) := de_un un_neg (fun F H v d z Q _ hv hz q => by
  cases d <;> simp only [negO] at hz <;> cases hz
  cases hv
  exact ⟨_, rfl, q.1 _ (.int _)⟩) ha

mutual
def toPy : Dt → PyData
  | .non => .none | .bl b => .bool b | .int i => .int i | .str x => .str x | .lst xs => .list (toPys xs) | .tup xs => .tuple (toPys xs) | .obj _ _ _ => .none | .scr _ _ => .none
def toPys : List Dt → List PyData
  | [] => [] | d :: ds => toPy d :: toPys ds
end
mutual
def plain : Dt → Bool
  | .lst xs => plains xs | .tup xs => plains xs | .obj _ _ _ => false | .scr _ _ => false | _ => true
def plains : List Dt → Bool
  | [] => true | d :: ds => plain d && plains ds
end
mutual
theorem Rp.dp {K : PySem.W.Frag} {F : Hp} : ∀ (d : Dt) (v : V), plain d = true → Rp K F v d → Dp K F v (toPy d)
  | .non, _, _, h => by cases h; exact .non
  | .bl b, _, _, h => by cases h; exact .bl _
  | .int i, _, _, h => by cases h; exact .int _
  | .str x, _, _, h => by cases h; exact .str _
  | .lst ds, _, p, h => by
    cases h with
    | lst hs ha => rw [toPy]; exact .lst (Evl.sq_of hs) (RpA.dp ds _ (by simpa [plain] using p) ha)
  | .tup ds, _, p, h => by
    cases h with
    | tup hs ha => rw [toPy]; exact .tup hs.sq (RpA.dp ds _ (by simpa [plain] using p) ha)
  | .obj C ks ds, _, p, h => by simp [plain] at p
  | .scr t ds, _, p, h => by simp [plain] at p
theorem RpA.dp {K : PySem.W.Frag} {F : Hp} : ∀ (ds : List Dt) (vs : List V), plains ds = true → RpA K F vs ds → DpAll K F vs (toPys ds)
  | [], _, _, h => by cases h; rw [toPys]; exact .nil
  | d :: ds, _, p, h => by
    cases h with
    | cons h1 h2 =>
      rw [plains, Bool.and_eq_true] at p
      rw [toPys]
      exact .cons (Rp.dp d _ p.1 h1) (RpA.dp ds _ p.2 h2)
end
def shp (d : Dt) : Bool := plain d && SeqAt.shaped (toPy d)
def eqO (d e : Dt) : Option Dt := if shp d && shp e then some (.bl (PyData.eqv (toPy d) (toPy e))) else none
def neO (d e : Dt) : Option Dt := if shp d && shp e then some (.bl (!PyData.eqv (toPy d) (toPy e))) else none
theorem Dp.up {K : PySem.W.Frag} {F H : Hp} (e : Ex F H) {v : V} {d : Dt} (p : plain d = true) (h : Rp K F v d) : Dp K H v (toPy d) := Rp.dp d v p (h.up e)
theorem de_eq (hu : X.A.units + 64 < cLine) (ha : PE X a (tD X.K W f)) (hb : PE X b (tD X.K W g)) : PE X (.Compare a [.Eq] [b] pos) (tD X.K W (op2 f g eqO)) := de_cmp (op_eqD hu) (fun F H v w d e z Q ex hv hw hz q => by
  unfold eqO at hz
  split at hz
  · rename_i h
    simp only [Bool.and_eq_true, shp] at h
    cases hz
    exact ⟨_, _, Dp.up ex h.1.1 hv, Dp.up ex h.2.1 hw, h.1.2, h.2.2, q.1 _ (.bl _)⟩
  · cases hz) ha hb (nomark _)
def ixO : Dt → Dt → Option Dt | .lst xs, .int i => atI xs i | .tup xs, .int i => atI xs i | .scr _ xs, .int i => atI xs i | _, _ => none
theorem atI_get' {α : Type} {xs : List α} {i : Int} {z : α} (h : atI xs i = some z) : ∃ j, ixN xs.length i = some j ∧ xs[j]? = some z := by
  unfold atI at h
  cases e : ixN xs.length i with
  | none => rw [e] at h; cases h
  | some j => rw [e] at h; exact ⟨j, rfl, h⟩
theorem atI_rp {K : PySem.W.Frag} {F : Hp} {vs : List V} {ds : List Dt} {i : Int} {z : Dt} (hv : RpA K F vs ds) (h : atI ds i = some z) : ∃ v, atI vs i = some v ∧ Rp K F v z := by
  obtain ⟨j, h1, h2⟩ := atI_get' h
  obtain ⟨v, h3, h4⟩ := hv.get h2
  refine ⟨v, ?_, h4⟩
  unfold atI
  rw [hv.length, h1]
  exact h3
theorem rd_ix {K : PySem.W.Frag} : RulD K (rIx K) ixO := fun F H v w d e z Q ex hv hw hz q => by
  cases d <;> cases e <;> simp only [ixO] at hz <;> try cases hz
  · cases hw
    cases hv with
    | lst hs ha =>
      obtain ⟨u, h1, h2⟩ := atI_rp ha hz
      exact .inl ⟨_, _, _, u, rfl, rfl, Evl.ex_l ex (Evl.sq_of hs), h1, q.1 _ h2⟩
  · cases hw
    cases hv with
    | tup hs ha =>
      obtain ⟨u, h1, h2⟩ := atI_rp ha hz
      exact .inr (.inl ⟨_, _, _, u, rfl, rfl, Evl.ex_t ex hs.sq, h1, q.1 _ h2⟩)
  · cases hw
    rename_i t xs i
    cases hv with
    | scr _ hs ha =>
      obtain ⟨u, h1, h2⟩ := atI_rp ha hz
      have hs' := hs.up ex
      unfold SqB at hs'
      cases t with
      | true => exact .inr (.inl ⟨_, _, _, u, rfl, rfl, hs', h1, q.1 _ h2⟩)
      | false => exact .inl ⟨_, _, _, u, rfl, rfl, hs', h1, q.1 _ h2⟩
theorem de_sub1 (ha : PE X a (tD X.K W f)) (hb : PE X b (tD X.K W g)) (hs : PlainIx b := by exact fun _ _ => rfl) : PE X (.Subscript a b pos) (tD X.K W (op2 f g ixO)) := de_ix ix_seq rd_ix ha hb hs
end
end
end Lq

namespace Lq
open PySem PySem.Spec PyProof.Rows L2
open Evl (Ex)
theorem monoW {X : Cx} {e : Expr} {t t' : TT} (h : PW X e t) (m : ∀ σ H Q, t' σ H Q → t σ H Q) : PW X e t' := ⟨fun wh pins s σ H Q I q => h.run wh pins s σ H Q I (m σ H Q q)⟩
section
variable {X : Cx} {W : WX} {a b c e : Expr} {pos : Pos} {f g : Ms → R Dt} {p q : Ms → R Bool}

def tst (f : Ms → R Dt) : Ms → R Bool := fun S => (f S).bind fun d S1 => match d with | .bl b => .ok b S1 | _ => .no
theorem tst_run {K : PySem.W.Frag} {σ : L2.St} {H : Hp} {Q : Bool → Hp → Prop} (h : tT K W (tst f) σ H Q) : tD K W f σ H fun x H' => ∃ k, x = .bl k ∧ Q k H' := by
  obtain ⟨B, F, as, S, r, o⟩ := h
  refine ⟨B, F, as, S, r, Out.mono (Out.bind o) fun d F1 H1 as1 S1 ⟨r1, e1, o1⟩ v hv => ?_⟩
  cases d with
  | bl b => cases hv; exact ⟨b, rfl, Out.now o1 r1⟩
  | _ => exact o1.elim
theorem dt_cmp {op : CmpOp} {r : R2} {h : Dt → Dt → Option Dt} (ho : OpR X (compareOp op) r) (hr : RulD X.K r h) (ha : PE X a (tD X.K W f)) (hb : PE X b (tD X.K W g)) (hm : behindInMarks op b = false) : PT X (.Compare a [op] [b] pos) (tT X.K W (tst (op2 f g h))) :=
  monoT (pt_cmpR ho ha hb hm) fun σ H Q q => dt_op hr σ H _ (tst_run q)
theorem dt_gt (ha : PE X a (tD X.K W f)) (hb : PE X b (tD X.K W g)) : PT X (.Compare a [.Gt] [b] pos) (tT X.K W (tst (op2 f g gtO))) := dt_cmp op_gt rd_C ha hb (nomark _)
theorem dt_ge (ha : PE X a (tD X.K W f)) (hb : PE X b (tD X.K W g)) : PT X (.Compare a [.GtE] [b] pos) (tT X.K W (tst (op2 f g geO))) := dt_cmp op_ge rd_C ha hb (nomark _)
theorem rd_eq {K : PySem.W.Frag} : RulD K (rEqD K) eqO := fun F H v w d e z Q ex hv hw hz q => by
  unfold eqO at hz
  split at hz
  · rename_i h
    simp only [Bool.and_eq_true, shp] at h
    cases hz
    exact ⟨_, _, Dp.up ex h.1.1 hv, Dp.up ex h.2.1 hw, h.1.2, h.2.2, q.1 _ (.bl _)⟩
  · cases hz
theorem rd_ne {K : PySem.W.Frag} : RulD K (rNeD K) neO := fun F H v w d e z Q ex hv hw hz q => by
  unfold neO at hz
  split at hz
  · rename_i h
    simp only [Bool.and_eq_true, shp] at h
    cases hz
    exact ⟨_, _, Dp.up ex h.1.1 hv, Dp.up ex h.2.1 hw, h.1.2, h.2.2, q.1 _ (.bl _)⟩
  · cases hz
theorem dt_eq (hu : X.A.units + 64 < cLine) (ha : PE X a (tD X.K W f)) (hb : PE X b (tD X.K W g)) : PT X (.Compare a [.Eq] [b] pos) (tT X.K W (tst (op2 f g eqO))) := dt_cmp (op_eqD hu) rd_eq ha hb (nomark _)
theorem dt_ne (hu : X.A.units + 64 < cLine) (ha : PE X a (tD X.K W f)) (hb : PE X b (tD X.K W g)) : PT X (.Compare a [.NotEq] [b] pos) (tT X.K W (tst (op2 f g neO))) := dt_cmp (op_neD hu) rd_ne ha hb (nomark _)
def intsOf : List Dt → Option (List Int)
  | [] => some [] | .int i :: ds => (intsOf ds).map (i :: ·) | _ => none
theorem intsOf_map (ns : List Int) : intsOf (ns.map Dt.int) = some ns := by
  induction ns with
  | nil => rfl
  | cons n ns ih => simp [intsOf, ih]
theorem intsOf_eq : ∀ {ds : List Dt} {ns : List Int}, intsOf ds = some ns → ds = ns.map Dt.int
  | [], ns, h => by simp [intsOf] at h; subst h; rfl
  | d :: ds, ns, h => by
    cases d <;> simp only [intsOf] at h <;> try cases h
    cases hh : intsOf ds with
    | none => rw [hh] at h; cases h
    | some ms =>
      rw [hh] at h
      cases h
      rw [intsOf_eq hh]; rfl
def seqOf : Dt → Option (List Dt) | .lst xs => some xs | .tup xs => some xs | .scr _ xs => some xs | _ => none
def notT (p : Ms → R Bool) : Ms → R Bool := fun S => (p S).bind fun b S1 => .ok (!b) S1
def andT (p q : Ms → R Bool) : Ms → R Bool := fun S => (p S).bind fun b S1 => if b then q S1 else .ok false S1
def orT (p q : Ms → R Bool) : Ms → R Bool := fun S => (p S).bind fun b S1 => if b then .ok true S1 else q S1
theorem dt_not (ha : PT X a (tT X.K W p)) : PT X (.UnaryOp .Not a pos) (tT X.K W (notT p)) := monoT (pt_not ha) fun σ H Q q => by
  obtain ⟨B, F, as, S, r, o⟩ := q
  exact ⟨B, F, as, S, r, Out.mono (Out.bind o) fun d F1 H1 as1 S1 ⟨r1, e1, o1⟩ => Out.now o1 r1⟩
theorem and_run {K : PySem.W.Frag} {σ : L2.St} {H : Hp} {Q : Bool → Hp → Prop} (h : tT K W (andT p q) σ H Q) : tAnd (tT K W p) (tT K W q) σ H Q := by
  obtain ⟨B, F, as, S, r, o⟩ := h
  refine ⟨B, F, as, S, r, Out.mono (Out.bind o) fun b F1 H1 as1 S1 ⟨r1, e1, o1⟩ => ?_⟩
  cases b with
  | true => exact ⟨B, F1, as1, S1, r1, o1⟩
  | false => exact Out.now o1 r1
theorem or_run {K : PySem.W.Frag} {σ : L2.St} {H : Hp} {Q : Bool → Hp → Prop} (h : tT K W (orT p q) σ H Q) : tOr (tT K W p) (tT K W q) σ H Q := by
  obtain ⟨B, F, as, S, r, o⟩ := h
  refine ⟨B, F, as, S, r, Out.mono (Out.bind o) fun b F1 H1 as1 S1 ⟨r1, e1, o1⟩ => ?_⟩
  cases b with
  | true => exact Out.now o1 r1
  | false => exact ⟨B, F1, as1, S1, r1, o1⟩
theorem dw_and1 (ha : PT X a (tT X.K W p)) : PW X (.BoolOp .And [a] pos) (tT X.K W p) := pw_and1 ha
theorem dw_or1 (ha : PT X a (tT X.K W p)) : PW X (.BoolOp .Or [a] pos) (tT X.K W p) := pw_or1 ha
theorem dw_and {rest : List Expr} (ha : PT X a (tT X.K W p)) (hb : PW X (.BoolOp .And (b :: rest) pos) (tT X.K W q)) : PW X (.BoolOp .And (a :: b :: rest) pos) (tT X.K W (andT p q)) := monoW (pw_and ha hb) fun σ H Q h => and_run h
theorem dw_or {rest : List Expr} (ha : PT X a (tT X.K W p)) (hb : PW X (.BoolOp .Or (b :: rest) pos) (tT X.K W q)) : PW X (.BoolOp .Or (a :: b :: rest) pos) (tT X.K W (orT p q)) := monoW (pw_or ha hb) fun σ H Q h => or_run h
def andV (f g : Ms → R Dt) : Ms → R Dt := fun S => (f S).bind fun d S1 => match d with | .bl true => g S1 | .bl false => .ok (.bl false) S1 | _ => .no
def orV (f g : Ms → R Dt) : Ms → R Dt := fun S => (f S).bind fun d S1 => match d with | .bl false => g S1 | .bl true => .ok (.bl true) S1 | _ => .no
def ifE (p : Ms → R Bool) (f g : Ms → R Dt) : Ms → R Dt := fun S => (p S).bind fun b S1 => if b then f S1 else g S1
theorem de_ifx (hp : PT X c (tT X.K W p)) (ha : PE X a (tD X.K W f)) (hb : PE X b (tD X.K W g)) : PE X (.IfExp c a b pos) (tD X.K W (ifE p f g)) := monoE (pe_ifExp hp ha hb) fun σ H Q q => by
  obtain ⟨B, F, as, S, r, o⟩ := q
  refine ⟨B, F, as, S, r, Out.mono (Out.bind o) fun b F1 H1 as1 S1 ⟨r1, e1, o1⟩ => ?_⟩
  cases b with
  | true => exact ⟨B, F1, as1, S1, r1, o1⟩
  | false => exact ⟨B, F1, as1, S1, r1, o1⟩
def truO : Dt → Option Bool | .non => some false | .bl b => some b | .int i => some (i != 0) | .lst xs => some (!xs.isEmpty) | .tup xs => some (!xs.isEmpty) | .str x => if x.length ≤ 100000 then some ((x.length : Int) != 0) else none | .obj _ _ _ => none | .scr _ _ => none
def truT (f : Ms → R Dt) : Ms → R Bool := fun S => (f S).bind fun d S1 => R.of (truO d) S1
theorem emp_rp {K : PySem.W.Frag} {F : Hp} {vs : List V} {ds : List Dt} (h : RpA K F vs ds) : vs.isEmpty = ds.isEmpty := by cases h <;> rfl
theorem dt_tru (ha : PE X a (tD X.K W f)) (he : ∀ whole, isTrue a X.env whole = (do let v ← whole; standAt a.pos; holding [v] (truthy v)) := by exact fun _ => rfl) : PT X a (tT X.K W (truT f)) := monoT (pt_truth ha he) fun σ H Q q => by
  obtain ⟨B, F, as, S, r, o⟩ := q
  refine ⟨B, F, as, S, r, Out.mono (Out.bind o) fun d F1 H1 as1 S1 ⟨r1, e1, o1⟩ v hv => ?_⟩
  cases ht : truO d with
  | none => rw [ht] at o1; exact o1.elim
  | some k =>
    rw [ht] at o1
    refine ⟨k, ?_, Out.now o1 r1⟩
    cases d <;> simp only [truO] at ht <;> try (cases ht; cases hv; rfl)
    · split at ht
      · rename_i hl
        cases ht; cases hv
        exact ⟨Nat.le_trans hl (by decide), rfl⟩
      · cases ht
    · cases ht
      cases hv with
      | lst hs ha => exact .inl ⟨_, Evl.ex_l r1.fh (Evl.sq_of hs), by rw [emp_rp ha]⟩
    · cases ht
      cases hv with
      | tup hs ha => exact .inr (.inl ⟨_, Evl.ex_t r1.fh hs.sq, by rw [emp_rp ha]⟩)
    · cases ht
    · cases ht
end
end Lq

namespace Lq
open PySem PySem.Spec PyProof.Rows L2
open Evl (Ex)
section
variable {X : Cx} {W : WX} {a b c e : Expr} {es : List Expr} {pos : Pos} {f g : Ms → R Dt} {fs : Ms → R (List Dt)}

def aNil : Ms → R (List Dt) := fun S => .ok [] S
def aCons (f : Ms → R Dt) (fs : Ms → R (List Dt)) : Ms → R (List Dt) := fun S => (f S).bind fun d S1 => (fs S1).bind fun ds S2 => .ok (d :: ds) S2
theorem da_nil : PA X [] (tA X.K W aNil) := monoA pa_nil fun σ H Q q => by
  obtain ⟨B, F, as, S, r, o⟩ := q
  exact Out.now o r _ .nil
theorem da_cons (ha : PE X e (tD X.K W f)) (hr : PA X es (tA X.K W fs)) (hs : starEach (e :: es) X.env = (false, eval e X.env) :: starEach es X.env := by rfl) : PA X (e :: es) (tA X.K W (aCons f fs)) := monoA (pa_cons ha hr hs) fun σ H Q q => by
  obtain ⟨B, F, as, S, r, o⟩ := q
  refine ⟨B, F, as, S, r, Out.mono (Out.bind o) fun d F1 H1 as1 S1 ⟨r1, e1, o1⟩ v hv => ?_⟩
  refine ⟨B, F1, as1, S1, r1, ?_⟩
  have o2 := Out.bind o1
  revert o2
  cases fs S1 with
  | ok ds S2 =>
    intro o2 F2 H2 as2 e2 r2 vs hvs
    obtain ⟨_, _, o3⟩ := o2 F2 H2 as2 e2 r2
    exact Out.now o3 r2 _ (.cons (hv.up e2.1) hvs)
  | er x S2 => exact fun o2 => o2
  | no => exact fun o2 => o2
def tupE (fs : Ms → R (List Dt)) : Ms → R Dt := fun S => (fs S).bind fun ds S1 => if ds.length ≤ 100000 then .ok (.tup ds) S1 else .no
def lstE (fs : Ms → R (List Dt)) : Ms → R (List Dt) := fun S => (fs S).bind fun ds S1 => if ds.length ≤ 100000 then .ok ds S1 else .no
theorem de_tup {x1} (h : PA X es (tA X.K W fs)) : PE X (.Tuple es x1 pos) (tD X.K W (tupE fs)) := monoE (pe_tup h) fun σ H Q q => by
  obtain ⟨B, F, as, S, r, o⟩ := q
  refine ⟨B, F, as, S, r, Out.mono (Out.bind o) fun ds F1 H1 as1 S1 ⟨r1, e1, o1⟩ vs hv => ?_⟩
  split at o1
  · rename_i hl
    refine ⟨Evl.sz_of (by rw [hv.length]; exact hl), fun p hp => ?_⟩
    exact (gv_of o1 r1).2 p _ hp (.tup upd_same (hv.up (Ex.new (r1.fresh hp).1)))
  · exact o1.elim
theorem dn_lst (h : PA X es (tA X.K W fs)) : PE X (.List es pos) (tN X.K W (lstE fs)) := monoE (pe_lst h) fun σ H Q q => by
  obtain ⟨B, F, as, S, r, o⟩ := q
  refine ⟨B, F, as, S, r, Out.mono (Out.bind o) fun ds F1 H1 as1 S1 ⟨r1, e1, o1⟩ vs hv => ?_⟩
  split at o1
  · rename_i hl
    refine ⟨Evl.sz_of (by rw [hv.length]; exact hl), fun p hp => ?_⟩
    exact gvl_of o1 r1 p _ hp hv
  · exact o1.elim

def calE (fs : Ms → R (List Dt)) (h : List Dt → Option Dt) : Ms → R Dt := fun S => (fs S).bind fun ds S1 => R.of (h ds) S1
def calN (fs : Ms → R (List Dt)) (h : List Dt → Option (List Dt)) : Ms → R (List Dt) := fun S => (fs S).bind fun ds S1 => R.of (h ds) S1
def RulC (K : PySem.W.Frag) (r : List V → Hp → VK → Prop) (h : List Dt → Option Dt) : Prop := ∀ F H vs ds z Q, Ex F H → RpA K F vs ds → h ds = some z → Gv K F H z Q → r vs H Q
def RulCN (K : PySem.W.Frag) (r : List V → Hp → VK → Prop) (h : List Dt → Option (List Dt)) : Prop := ∀ F H vs ds z Q, Ex F H → RpA K F vs ds → h ds = some z → GvL K F H z Q → r vs H Q
theorem dt_cal {K : PySem.W.Frag} {r : List V → Hp → VK → Prop} {h : List Dt → Option Dt} (hr : RulC K r h) (σ : L2.St) (H : Hp) (Q : VK) (q : tD K W (calE fs h) σ H Q) : tCB r (tA K W fs) σ H Q := by
  obtain ⟨B, F, as, S, r0, o⟩ := q
  refine ⟨B, F, as, S, r0, Out.mono (Out.bind o) fun ds F1 H1 as1 S1 ⟨r1, e1, o1⟩ vs hv => ?_⟩
  cases hz : h ds with
  | none => rw [hz] at o1; exact o1.elim
  | some z =>
    rw [hz] at o1
    exact hr F1 H1 vs ds z Q r1.fh hv hz (gv_of o1 r1)
theorem dt_calN {K : PySem.W.Frag} {r : List V → Hp → VK → Prop} {h : List Dt → Option (List Dt)} (hr : RulCN K r h) (σ : L2.St) (H : Hp) (Q : VK) (q : tN K W (calN fs h) σ H Q) : tCB r (tA K W fs) σ H Q := by
  obtain ⟨B, F, as, S, r0, o⟩ := q
  refine ⟨B, F, as, S, r0, Out.mono (Out.bind o) fun ds F1 H1 as1 S1 ⟨r1, e1, o1⟩ vs hv => ?_⟩
  cases hz : h ds with
  | none => rw [hz] at o1; exact o1.elim
  | some z =>
    rw [hz] at o1
    exact hr F1 H1 vs ds z Q r1.fh hv hz (gvl_of o1 r1)
section
variable {x : Str} {p : Pos} {id T : String} {r : List V → Hp → VK → Prop} {h : List Dt → Option Dt} {hN : List Dt → Option (List Dt)}
theorem de_calB (hr : RulC X.K r h) (hc : CallR X (.builtin id) r) (hg : Gl X x) (hm : X.mg x = none) (hv : bootBuiltins x = some (.builtin id)) (ha : PA X (e :: es) (tA X.K W fs)) (hn : x ≠ "__name__" := by decide) (hdb : (x == ("__debug__" : Str)) = false := by decide)
    (he : starEach (e :: es) X.env = (false, eval e X.env) :: starEach es X.env := by rfl) (hpl : (backTo pos (starEach es X.env)).any (·.1) = false := by rfl) : PE X (.Call (.Name x p) (e :: es) [] pos) (tD X.K W (calE fs h)) :=
  monoE (pe_callB hc hg hm hv ha hn hdb he hpl) (dt_cal hr)
theorem de_calT (hr : RulC X.K r h) (hc : CallR X (.type T) r) (hg : Gl X x) (hm : X.mg x = none) (hv : bootBuiltins x = some (.type T)) (ha : PA X (e :: es) (tA X.K W fs)) (hn : x ≠ "__name__" := by decide) (hdb : (x == ("__debug__" : Str)) = false := by decide)
    (he : starEach (e :: es) X.env = (false, eval e X.env) :: starEach es X.env := by rfl) (hpl : (backTo pos (starEach es X.env)).any (·.1) = false := by rfl) : PE X (.Call (.Name x p) (e :: es) [] pos) (tD X.K W (calE fs h)) :=
  monoE (pe_callTy hc hg hm hv ha hn hdb he hpl) (dt_cal hr)
theorem dn_calT (hr : RulCN X.K r hN) (hc : CallR X (.type T) r) (hg : Gl X x) (hm : X.mg x = none) (hv : bootBuiltins x = some (.type T)) (ha : PA X (e :: es) (tA X.K W fs)) (hn : x ≠ "__name__" := by decide) (hdb : (x == ("__debug__" : Str)) = false := by decide)
    (he : starEach (e :: es) X.env = (false, eval e X.env) :: starEach es X.env := by rfl) (hpl : (backTo pos (starEach es X.env)).any (·.1) = false := by rfl) : PE X (.Call (.Name x p) (e :: es) [] pos) (tN X.K W (calN fs hN)) :=
  monoE (pe_callTy hc hg hm hv ha hn hdb he hpl) (dt_calN hr)
end
theorem rpa1 {K : PySem.W.Frag} {F : Hp} {vs : List V} {d : Dt} (h : RpA K F vs [d]) : ∃ v, vs = [v] ∧ Rp K F v d := by
  cases h with
  | cons h1 h2 => cases h2; exact ⟨_, rfl, h1⟩
theorem rpa2 {K : PySem.W.Frag} {F : Hp} {vs : List V} {d e : Dt} (h : RpA K F vs [d, e]) : ∃ v w, vs = [v, w] ∧ Rp K F v d ∧ Rp K F w e := by
  cases h with
  | cons h1 h2 =>
    obtain ⟨w, rfl, hw⟩ := rpa1 h2
    exact ⟨_, w, rfl, h1, hw⟩
def lenO : List Dt → Option Dt | [.lst xs] => some (.int xs.length) | [.tup xs] => some (.int xs.length) | [.scr _ xs] => some (.int xs.length) | _ => none
section
variable {p p2 pos2 : Pos}
theorem de_len (hg : Gl X "len") (hm : X.mg "len" = none) (ha : PE X a (tD X.K W f)) (hs : starEach [a] X.env = (false, eval a X.env) :: starEach [] X.env := by rfl) : PE X (.Call (.Name "len" p) [a] [] pos) (tD X.K W (calE (aCons f aNil) lenO)) :=
  de_calB (fun F H vs ds z Q ex hv hz q => by
    unfold lenO at hz
    split at hz <;> cases hz
    · obtain ⟨v, rfl, h1⟩ := rpa1 hv
      cases h1 with
      | lst hs ha =>
        refine ⟨_, _, rfl, .inl (Evl.ex_l ex (Evl.sq_of hs)), ?_⟩
        rw [ha.length]; exact q.1 _ (.int _)
    · obtain ⟨v, rfl, h1⟩ := rpa1 hv
      cases h1 with
      | tup hs ha =>
        refine ⟨_, _, rfl, .inr (Evl.ex_t ex hs.sq), ?_⟩
        rw [ha.length]; exact q.1 _ (.int _)
    · obtain ⟨v, rfl, h1⟩ := rpa1 hv
      rename_i t xs
      cases h1 with
      | scr _ hs ha =>
        have hs' := hs.up ex
        unfold SqB at hs'
        rw [← ha.length] at q
        cases t with
        | true => exact ⟨_, _, rfl, .inr hs', q.1 _ (.int _)⟩
        | false => exact ⟨_, _, rfl, .inl hs', q.1 _ (.int _)⟩) call_len_seq hg hm PySem.boot_len (da_cons ha da_nil hs) (by decide) (by decide) hs (by rfl)
def intO : List Dt → Option Dt | [.int i] => some (.int i) | [.bl b] => some (.int (if b then 1 else 0)) | _ => none
theorem de_intc (hg : Gl X "int") (hm : X.mg "int" = none) (ha : PE X a (tD X.K W f)) (hs : starEach [a] X.env = (false, eval a X.env) :: starEach [] X.env := by rfl) : PE X (.Call (.Name "int" p) [a] [] pos) (tD X.K W (calE (aCons f aNil) intO)) :=
  de_calT (fun F H vs ds z Q ex hv hz q => by
    unfold intO at hz
    split at hz <;> cases hz
    · obtain ⟨v, rfl, h1⟩ := rpa1 hv
      cases h1
      exact .inl ⟨_, rfl, q.1 _ (.int _)⟩
    · obtain ⟨v, rfl, h1⟩ := rpa1 hv
      cases h1
      exact .inr ⟨_, rfl, q.1 _ (.int _)⟩) call_int1 hg hm PyProof.Rows.boot_int (da_cons ha da_nil hs) (by decide) (by decide) hs (by rfl)
def absO : List Dt → Option Dt | [.int i] => some (.int (if i < 0 then -i else i)) | _ => none
theorem de_abs (hg : Gl X "abs") (hm : X.mg "abs" = none) (ha : PE X a (tD X.K W f)) (hs : starEach [a] X.env = (false, eval a X.env) :: starEach [] X.env := by rfl) : PE X (.Call (.Name "abs" p) [a] [] pos) (tD X.K W (calE (aCons f aNil) absO)) :=
  de_calB (fun F H vs ds z Q ex hv hz q => by
    unfold absO at hz
    split at hz <;> cases hz
    obtain ⟨v, rfl, h1⟩ := rpa1 hv
    cases h1
    exact ⟨_, rfl, q.1 _ (.int _)⟩) call_abs hg hm (by decide +kernel) (da_cons ha da_nil hs) (by decide) (by decide) hs (by rfl)
def tupO : List Dt → Option Dt | [.lst xs] => some (.tup xs) | [.tup xs] => some (.tup xs) | _ => none
theorem de_tupc (hg : Gl X "tuple") (hm : X.mg "tuple" = none) (ha : PE X a (tD X.K W f)) (hs : starEach [a] X.env = (false, eval a X.env) :: starEach [] X.env := by rfl) : PE X (.Call (.Name "tuple" p) [a] [] pos) (tD X.K W (calE (aCons f aNil) tupO)) :=
  de_calT (fun F H vs ds z Q ex hv hz q => by
    unfold tupO at hz
    split at hz <;> cases hz
    · obtain ⟨v, rfl, h1⟩ := rpa1 hv
      cases h1 with
      | lst hs ha =>
        refine ⟨_, _, rfl, .inl ⟨Evl.ex_l ex (Evl.sq_of hs), fun p hp => q.2 p _ hp ?_⟩⟩
        have hf : F p = none := by
          cases w : F p with
          | none => rfl
          | some o => rw [ex _ _ w] at hp; cases hp
        exact .tup upd_same (ha.up (Ex.new hf))
    · obtain ⟨v, rfl, h1⟩ := rpa1 hv
      cases h1 with
      | tup hs ha => exact ⟨_, _, rfl, .inr ⟨Evl.ex_t ex hs.sq, q.1 _ (.tup hs ha)⟩⟩) call_tuple_of hg hm (by decide +kernel) (da_cons ha da_nil hs) (by decide) (by decide) hs (by rfl)
def lstO : List Dt → Option (List Dt) | [.lst xs] => some xs | [.tup xs] => some xs | _ => none
theorem dn_list (hg : Gl X "list") (hm : X.mg "list" = none) (ha : PE X a (tD X.K W f)) (hs : starEach [a] X.env = (false, eval a X.env) :: starEach [] X.env := by rfl) : PE X (.Call (.Name "list" p) [a] [] pos) (tN X.K W (calN (aCons f aNil) lstO)) :=
  dn_calT (fun F H vs ds z Q ex hv hz q => by
    unfold lstO at hz
    split at hz <;> cases hz
    · obtain ⟨v, rfl, h1⟩ := rpa1 hv
      cases h1 with
      | lst hs ha => exact ⟨_, _, rfl, .inl (Evl.ex_l ex (Evl.sq_of hs)), fun p hp => q p _ hp ha⟩
    · obtain ⟨v, rfl, h1⟩ := rpa1 hv
      cases h1 with
      | tup hs ha => exact ⟨_, _, rfl, .inr (Evl.ex_t ex hs.sq), fun p hp => q p _ hp ha⟩) call_list_of hg hm (by decide +kernel) (da_cons ha da_nil hs) (by decide) (by decide) hs (by rfl)
def tyN : Dt → Option String | .non => some "NoneType" | .bl _ => some "bool" | .int _ => some "int" | .str _ => some "str" | .lst _ => some "list" | .tup _ => some "tuple" | .obj _ _ _ => none | .scr _ _ => none
def isiO (T : String) (d : Dt) : Option Dt := (tyN d).bind fun n => (kitB n T).map .bl
theorem tyx_of {K : PySem.W.Frag} {F H : Hp} {v : V} {d : Dt} {n : String} (ex : Ex F H) (h : Rp K F v d) (hn : tyN d = some n) : TyX K H v (.type n) := by
  cases h with
  | non => cases hn; exact .base .non
  | bl b => cases hn; exact .base (.bl b)
  | int i => cases hn; exact .base (.int i)
  | str x => cases hn; exact .base (.str x)
  | lst hs ha => cases hn; exact .base (.lst (ex _ _ hs))
  | tup hs ha =>
    cases hn
    exact .base (.tup (ex _ _ hs))
  | obj _ _ _ => cases hn
  | scr _ _ _ => cases hn
theorem de_isi {T : String} {y : Str} (hT : bootBuiltins y = some (.type T)) (hg : Gl X "isinstance") (hm : X.mg "isinstance" = none) (hgT : Gl X y) (hmT : X.mg y = none) (hcl : ClsV (.ty T) (.type T)) (ha : PE X a (tD X.K W f)) (hyn : y ≠ "__name__" := by decide) (hyd : (y == ("__debug__" : Str)) = false := by decide)
    (hs : starEach [a, .Name y p2] X.env = (false, eval a X.env) :: starEach [.Name y p2] X.env := by rfl) (hs2 : starEach [.Name y p2] X.env = (false, eval (.Name y p2) X.env) :: starEach [] X.env := by rfl) (hpl : (backTo pos (starEach [.Name y p2] X.env)).any (·.1) = false := by rfl) :
    PE X (.Call (.Name "isinstance" p) [a, .Name y p2] [] pos) (tD X.K W (op1 f (isiO T))) := by
  have hy : PE X (.Name y p2) (tC (.ty T)) := pe_bltn hgT hmT hT rfl hyn hyd
  refine monoE (pe_callB call_isi hg hm (by decide +kernel) (pa_cons ha (pa_cons hy pa_nil hs2) hs) (by decide) (by decide) hs hpl) fun σ H Q q => ?_
  obtain ⟨B, F, as, S, r, o⟩ := q
  refine ⟨B, F, as, S, r, Out.mono (Out.bind o) fun d F1 H1 as1 S1 ⟨r1, e1, o1⟩ v hv => ?_⟩
  show rIsi X.K [v, .ty T] H1 Q
  unfold isiO at o1
  cases hn : tyN d with
  | none => rw [hn] at o1; exact o1.elim
  | some n =>
    rw [hn] at o1
    dsimp only [Option.bind] at o1
    cases hk : kitB n T with
    | none => rw [hk] at o1; exact o1.elim
    | some k =>
      rw [hk] at o1
      exact ⟨v, .ty T, .type n, .type T, k, rfl, hcl, tyx_of r1.fh hv hn, kit_ty hk, Out.now o1 r1 _ (.bl k)⟩
end

def tO (K : PySem.W.Frag) (W : WX) (f : Ms → R (Option Int)) : TO := fun σ H Q => ∃ B F as S, Rep K B F H as σ S ∧ Out K W B F as σ (f S) fun o _ H' _ _ => Q o H'
theorem monoO {X : Cx} {e : Option Expr} {t t' : TO} (h : PO X e t) (m : ∀ σ H Q, t' σ H Q → t σ H Q) : PO X e t' := ⟨fun pins s σ H Q I q => h.run pins s σ H Q I (m σ H Q q)⟩
def oNone : Ms → R (Option Int) := fun S => .ok none S
def oSome (f : Ms → R Dt) : Ms → R (Option Int) := fun S => (f S).bind fun d S1 => match d with | .int i => .ok (some i) S1 | _ => .no
theorem do_none : PO X none (tO X.K W oNone) := monoO po_none fun σ H Q q => by
  obtain ⟨B, F, as, S, r, o⟩ := q
  exact Out.now o r
theorem do_some (h : PE X e (tD X.K W f)) : PO X (some e) (tO X.K W (oSome f)) := monoO (po_some h) fun σ H Q q => by
  obtain ⟨B, F, as, S, r, o⟩ := q
  refine ⟨B, F, as, S, r, Out.mono (Out.bind o) fun d F1 H1 as1 S1 ⟨r1, e1, o1⟩ v hv => ?_⟩
  cases d with
  | int i => cases hv; exact ⟨i, rfl, Out.now o1 r1⟩
  | _ => exact o1.elim
def cut {α : Type} (xs : List α) (lo hi : Option Int) : List α := (xs.drop (HT.sIx xs.length 0 lo)).take (HT.sIx xs.length xs.length hi - HT.sIx xs.length 0 lo)
theorem cut_rp {K : PySem.W.Frag} {F : Hp} {vs : List V} {ds : List Dt} (h : RpA K F vs ds) (lo hi : Option Int) : RpA K F (cutV vs lo hi) (cut ds lo hi) := by
  unfold cutV cut
  rw [h.length]
  exact (h.drop _).take _
def slT (f : Ms → R Dt) (lo hi : Ms → R (Option Int)) : Ms → R Dt := fun S => (f S).bind fun d S1 => (lo S1).bind fun l S2 => (hi S2).bind fun u S3 => match d with | .tup xs => .ok (.tup (cut xs l u)) S3 | _ => .no
def slL (f : Ms → R Dt) (lo hi : Ms → R (Option Int)) : Ms → R (List Dt) := fun S => (f S).bind fun d S1 => (lo S1).bind fun l S2 => (hi S2).bind fun u S3 => match d with | .lst xs => .ok (cut xs l u) S3 | .scr false xs => .ok (cut xs l u) S3 | _ => .no
section
variable {lo hi : Option Expr} {fl fh : Ms → R (Option Int)} {p2 : Pos}
theorem de_sliceT (he : PE X e (tD X.K W f)) (hl : PO X lo (tO X.K W fl)) (hu : PO X hi (tO X.K W fh)) : PE X (.Subscript e (.Slice lo hi none p2) pos) (tD X.K W (slT f fl fh)) := monoE (pe_slice sl_tupA he hl hu) fun σ H Q q => by
  obtain ⟨B, F, as, S, r, o⟩ := q
  refine ⟨B, F, as, S, r, Out.mono (Out.bind o) fun d F1 H1 as1 S1 ⟨r1, e1, o1⟩ v hv => ?_⟩
  refine ⟨B, F1, as1, S1, r1, Out.mono (Out.bind o1) fun l F2 H2 as2 S2 ⟨r2, e2, o2⟩ => ?_⟩
  refine ⟨B, F2, as2, S2, r2, Out.mono (Out.bind o2) fun u F3 H3 as3 S3 ⟨r3, e3, o3⟩ => ?_⟩
  cases d with
  | tup xs =>
    cases (hv.up e2.1).up e3.1 with
    | tup hs ha =>
      have gg := gv_of o3 r3
      refine ⟨_, _, rfl, Evl.ex_t r3.fh hs.sq, fun hw => gg.1 _ ?_, fun hw p hp => gg.2 p _ hp (.tup upd_same ((cut_rp ha l u).up (Ex.new (r3.fresh hp).1)))⟩
      have hc : cut xs l u = xs := by
        unfold cut
        rw [← ha.length, hw.1, hw.2, ha.length]
        simp
      rw [hc]
      exact .tup hs ha
  | _ => exact o3.elim
theorem dn_sliceL (he : PE X e (tD X.K W f)) (hl : PO X lo (tO X.K W fl)) (hu : PO X hi (tO X.K W fh)) : PE X (.Subscript e (.Slice lo hi none p2) pos) (tN X.K W (slL f fl fh)) := monoE (pe_slice sl_list he hl hu) fun σ H Q q => by
  obtain ⟨B, F, as, S, r, o⟩ := q
  refine ⟨B, F, as, S, r, Out.mono (Out.bind o) fun d F1 H1 as1 S1 ⟨r1, e1, o1⟩ v hv => ?_⟩
  refine ⟨B, F1, as1, S1, r1, Out.mono (Out.bind o1) fun l F2 H2 as2 S2 ⟨r2, e2, o2⟩ => ?_⟩
  refine ⟨B, F2, as2, S2, r2, Out.mono (Out.bind o2) fun u F3 H3 as3 S3 ⟨r3, e3, o3⟩ => ?_⟩
  cases d with
  | lst xs =>
    cases (hv.up e2.1).up e3.1 with
    | lst hs ha => exact ⟨_, _, rfl, Evl.ex_l r3.fh (Evl.sq_of hs), fun p hp => gvl_of o3 r3 p _ hp (cut_rp ha l u)⟩
  | scr t xs =>
    cases t with
    | true => exact o3.elim
    | false =>
      cases (hv.up e2.1).up e3.1 with
      | scr _ hs ha => exact ⟨_, _, rfl, hs.up r3.fh, fun p hp => gvl_of o3 r3 p _ hp (cut_rp ha l u)⟩
  | _ => exact o3.elim
end

def catT : Dt → Dt → Option Dt | .tup xs, .tup ys => if xs.length + ys.length ≤ 100000 then some (.tup (xs ++ ys)) else none | _, _ => none
theorem de_catT (ha : PE X a (tD X.K W f)) (hb : PE X b (tD X.K W g)) : PE X (.BinOp a .Add b pos) (tD X.K W (op2 f g catT)) := de_op op_catA (fun F H v w d e z Q ex hv hw hz q => by
  cases d <;> cases e <;> simp only [catT] at hz <;> try cases hz
  split at hz <;> cases hz
  rename_i hl
  cases hv with
  | tup hs ha =>
    cases hw with
    | tup hs2 ha2 =>
      rename_i xs ys _ vs _ ws
      refine ⟨_, _, _, _, rfl, rfl, Evl.ex_t ex hs.sq, Evl.ex_t ex hs2.sq, Nat.le_trans (by rw [ha.length, ha2.length]; exact hl) (by decide), fun hx => q.1 _ ?_, fun hx hy => q.1 _ ?_, fun hx hy p hp => q.2 p _ hp ?_⟩
      · subst hx
        cases ha
        exact .tup hs2 ha2
      · subst hy
        cases ha2
        rw [List.append_nil]
        exact .tup hs ha
      · have hf : F p = none := by
          cases w : F p with
          | none => rfl
          | some o => rw [ex _ _ w] at hp; cases hp
        exact .tup upd_same ((ha.app ha2).up (Ex.new hf))) ha hb
def catL : Dt → Dt → Option (List Dt) | .lst xs, .lst ys => if xs.length + ys.length ≤ 100000 then some (xs ++ ys) else none | _, _ => none
theorem dn_catL (ha : PE X a (tD X.K W f)) (hb : PE X b (tD X.K W g)) : PE X (.BinOp a .Add b pos) (tN X.K W (opN f g catL)) := dn_op op_cat (fun F H v w d e z Q ex hv hw hz q => by
  cases d <;> cases e <;> simp only [catL] at hz <;> try cases hz
  split at hz <;> cases hz
  rename_i hl
  cases hv with
  | lst hs ha =>
    cases hw with
    | lst hs2 ha2 => exact ⟨_, _, _, _, rfl, rfl, ex _ _ hs, ex _ _ hs2, Nat.le_trans (by rw [ha.length, ha2.length]; exact hl) (by decide), fun p hp => q p _ hp (ha.app ha2)⟩) ha hb
def repL : Dt → Dt → Option (List Dt) | .lst xs, .int k => if xs.length ≤ 100 ∧ 0 ≤ k ∧ k ≤ 1000 then some (List.replicate k.toNat xs).flatten else none | _, _ => none
theorem rp_flat {K : PySem.W.Frag} {F : Hp} {vs : List V} {ds : List Dt} (h : RpA K F vs ds) : ∀ n : Nat, RpA K F (List.replicate n vs).flatten (List.replicate n ds).flatten
  | 0 => .nil
  | n + 1 => by
    rw [List.replicate_succ, List.replicate_succ, List.flatten_cons, List.flatten_cons]
    exact h.app (rp_flat h n)
theorem dn_repL (ha : PE X a (tD X.K W f)) (hb : PE X b (tD X.K W g)) : PE X (.BinOp a .Mult b pos) (tN X.K W (opN f g repL)) := dn_op op_rep (fun F H v w d e z Q ex hv hw hz q => by
  cases d <;> cases e <;> simp only [repL] at hz <;> try cases hz
  split at hz <;> cases hz
  rename_i xs ii hl
  cases hw
  cases hv with
  | lst hs ha =>
    refine ⟨_, _, _, rfl, rfl, ex _ _ hs, by omega, by omega, ?_, fun p hp => q p _ hp (rp_flat ha _)⟩
    rw [ha.length]
    have : sizeLine = 16777216 := sizeLine_eq
    rw [this]
    have h2 : ii.toNat ≤ 1000 := by omega
    have h3 := Nat.mul_le_mul hl.1 h2
    omega) ha hb
end
end Lq

namespace Lq
open PySem PySem.Spec PyProof.Rows L2
open Evl (Ex)
open RZ

section
variable {K : PySem.W.Frag} {B F H F' H' : Hp} {as as' : List Addr} {σ : L2.St} {S : Ms}
theorem Rep.hold (r : Rep K B F H as σ S) {D : Addr} {o : HO} (h1 : H D = some o) (h2 : F D = none) (h3 : D ∉ as) (h4 : NT o) : Rep K (upd B D o) F H as σ S := by
  refine ⟨r.fh, fun a u hu => ?_, r.sl, ?_, r.nd⟩
  · by_cases q : a = D
    · subst q
      rw [upd_same] at hu
      cases hu
      exact ⟨h1, h2, h4⟩
    · rw [upd_ne q] at hu
      exact r.bh a u hu
  · have : ∀ {xs : List Addr} {ys : List Mo}, (∀ a ∈ xs, a ≠ D) → Paired (MoR K B F H) xs ys → Paired (MoR K (upd B D o) F H) xs ys := by
      intro xs ys hn z
      induction z with
      | nil => exact .nil
      | @cons a b l1 l2 z zs ih =>
        refine .cons ?_ (ih fun a ha => hn a (List.mem_cons_of_mem _ ha))
        cases b with
        | ob ds =>
          obtain ⟨z1, z2, ws, z3, z4⟩ := z
          exact ⟨by rw [upd_ne (hn _ List.mem_cons_self)]; exact z1, z2, ws, z3, z4⟩
        | fz d => exact z
    exact this (fun a ha z => h3 (z ▸ ha)) r.mo
theorem Rep.unhold {D : Addr} {o : HO} (r : Rep K (upd B D o) F H as σ S) (hB : B D = none) : Rep K B F H as σ S ∧ H D = some o ∧ F D = none ∧ D ∉ as := by
  obtain ⟨q1, q2, _⟩ := r.bh D o upd_same
  refine ⟨⟨r.fh, fun a u hu => ?_, r.sl, r.mo.mono fun a m z => ?_, r.nd⟩, q1, q2, fun z => ?_⟩
  · have n : a ≠ D := by
      rintro rfl
      rw [hB] at hu; cases hu
    exact r.bh a u (by rw [upd_ne n]; exact hu)
  · cases m with
    | ob ds =>
      obtain ⟨z1, z2, ws, z3, z4⟩ := z
      have n : a ≠ D := by
        rintro rfl
        rw [upd_same] at z1; cases z1
      rw [upd_ne n] at z1
      exact ⟨z1, z2, ws, z3, z4⟩
    | fz d => exact z
  · obtain ⟨i, hi⟩ := List.mem_iff_getElem?.mp z
    obtain ⟨m, hm, z⟩ := pairedGetL r.mo hi
    cases m with
    | ob ds =>
      obtain ⟨z1, _⟩ := z
      rw [upd_same] at z1; cases z1
    | fz d =>
      obtain ⟨⟨u, z1⟩, _⟩ := z
      rw [q2] at z1; cases z1
theorem Rep.back {σ0 : L2.St} {S0 : Ms} {F0 : Hp} {as0 : List Addr} (r : Rep K B F H as σ S) (h : Paired (SvR K F0 as0) σ0 S0.sl) (e : Ext F0 F as0 as) : Rep K B F H as σ0 { S0 with mo := S.mo } :=
  ⟨r.fh, r.bh, h.mono fun _ _ q => SvR.up q e, r.mo, r.nd⟩
end
def wipeL (l : List Sv) : List Nat → List Sv
  | [] => l
  | v :: vs => (wipeL l vs).set v .no
theorem wipe_rp {K : PySem.W.Frag} {F : Hp} {as : List Addr} {σ : L2.St} {l : List Sv} (h : Paired (SvR K F as) σ l) : ∀ vs, Paired (SvR K F as) (wipe σ vs) (wipeL l vs)
  | [] => h
  | v :: vs => by
    unfold wipe wipeL
    have ih := wipe_rp h vs
    exact pairedSet v ih (by trivial)
theorem wipeL_rp {K : PySem.W.Frag} {F : Hp} {as : List Addr} {σ : L2.St} {l : List Sv} (h : Paired (SvR K F as) σ l) : ∀ vs, Paired (SvR K F as) σ (wipeL l vs)
  | [] => h
  | v :: vs => by
    unfold wipeL
    have ih := wipeL_rp h vs
    exact pairedAt v ih (fun _ _ _ _ _ _ q => q) fun x _ => by cases x <;> trivial
theorem wipe_get {σ : L2.St} : ∀ (vs : List Nat) (j : Nat), (wipe σ vs)[j]? = if j ∈ vs then (σ[j]?).map fun _ => none else σ[j]?
  | [], j => by simp [wipe]
  | v :: vs, j => by
    have ih := wipe_get (σ := σ) vs j
    unfold wipe
    rw [List.getElem?_set]
    by_cases q : v = j
    · subst q
      simp only [List.mem_cons, true_or, if_true]
      rw [wipe_length]
      by_cases hl : v < σ.length
      · rw [if_pos hl, List.getElem?_eq_getElem hl]; rfl
      · rw [if_neg hl, List.getElem?_eq_none (by omega)]; rfl
    · rw [if_neg q, ih]
      have q2 : ¬ j = v := fun z => q z.symm
      simp only [List.mem_cons, q2, false_or]
theorem wipe_set {σ : L2.St} {i : Nat} {x : Option V} {vs : List Nat} (h : i ∈ vs) : wipe (σ.set i x) vs = wipe σ vs := by
  apply List.ext_getElem?
  intro j
  rw [wipe_get, wipe_get]
  by_cases q : j ∈ vs
  · rw [if_pos q, if_pos q, List.getElem?_set]
    by_cases z : i = j
    · subst z
      rw [if_pos rfl]
      by_cases hl : i < σ.length
      · rw [if_pos hl, List.getElem?_eq_getElem hl]; rfl
      · rw [if_neg hl, List.getElem?_eq_none (by omega)]
    · rw [if_neg z]
  · rw [if_neg q, if_neg q, List.getElem?_set]
    have z : ¬ i = j := fun z => q (z ▸ h)
    rw [if_neg z]
theorem wipe_wipe {σ : L2.St} {vs : List Nat} : wipe (wipe σ vs) vs = wipe σ vs := by
  apply List.ext_getElem?
  intro j
  rw [wipe_get, wipe_get]
  by_cases q : j ∈ vs
  · rw [if_pos q, if_pos q]
    cases σ[j]? <;> rfl
  · rw [if_neg q]

inductive Tk where | nm (i : Nat) | tp (is : List Nat)
def gNames : List Nat → TGs
  | [] => gNil
  | i :: is => gCons (gName i) (gNames is)
def Tk.g (K : PySem.W.Frag) : Tk → TG
  | .nm i => gName i
  | .tp is => gTup K is.length (gNames is)
def kNames : List Nat → List Dt → Ms → Option Ms
  | [], [], S => some S
  | i :: is, d :: ds, S => kNames is ds { S with sl := S.sl.set i (.im d) }
  | _, _, _ => none
def Tk.k : Tk → Dt → Ms → Option Ms
  | .nm i, d, S => some { S with sl := S.sl.set i (.im d) }
  | .tp is, .tup ds, S => kNames is ds S
  | _, _, _ => none
def Tk.is : Tk → List Nat
  | .nm i => [i]
  | .tp is => is
structure DG (X : Cx) (tg : Expr) (T : Tk) : Prop where
  pg : PG X tg (T.g X.K)
theorem kNames_len : ∀ {is : List Nat} {ds : List Dt} {S S' : Ms}, kNames is ds S = some S' → ds.length = is.length
  | [], [], _, _, _ => rfl
  | [], _ :: _, _, _, h => by cases h
  | _ :: _, [], _, _, h => by cases h
  | i :: is, d :: ds, S, S', h => by
    have := kNames_len (is := is) (ds := ds) h
    simp [this]
theorem gNames_run {K : PySem.W.Frag} {B F H : Hp} {as : List Addr} : ∀ (is : List Nat) (σ : L2.St) (S : Ms) (vs : List V) (ds : List Dt) (S' : Ms) (Q : L2.St → Hp → Prop), Rep K B F H as σ S → RpA K F vs ds → kNames is ds S = some S' → (∀ σ', Rep K B F H as σ' S' → (∀ ws, (∀ i ∈ is, i ∈ ws) → wipe σ' ws = wipe σ ws) → Q σ' H) → gNames is vs σ H Q
  | [], σ, S, vs, [], S', Q, r, hv, hk, q => by
    cases hv; cases hk
    exact ⟨rfl, q σ r fun _ _ => rfl⟩
  | [], σ, S, vs, _ :: _, S', Q, r, hv, hk, q => by cases hk
  | _ :: _, σ, S, vs, [], S', Q, r, hv, hk, q => by cases hk
  | i :: is, σ, S, vs, d :: ds, S', Q, r, hv, hk, q => by
    cases hv with
    | cons hv hvs =>
      refine ⟨_, _, rfl, ?_⟩
      refine gNames_run is _ _ _ ds S' Q (r.slot (s := .im d) i hv) hvs hk fun σ' r' w => q σ' r' fun ws hi => ?_
      rw [w ws fun j hj => hi j (List.mem_cons_of_mem _ hj)]
      exact wipe_set (hi i List.mem_cons_self)
theorem Tk.run {K : PySem.W.Frag} (T : Tk) {B F H : Hp} {as : List Addr} {σ : L2.St} {S : Ms} {v : V} {d : Dt} {S' : Ms} {Q : L2.St → Hp → Prop} (r : Rep K B F H as σ S) (hv : Rp K F v d) (hk : T.k d S = some S') (q : ∀ σ', Rep K B F H as σ' S' → (∀ vs, (∀ i ∈ T.is, i ∈ vs) → wipe σ' vs = wipe σ vs) → Q σ' H) : T.g K v σ H Q := by
  cases T with
  | nm i =>
    cases hk
    exact q _ (r.slot (s := .im d) i hv) fun vs hi => wipe_set (hi i List.mem_cons_self)
  | tp is =>
    cases d with
    | tup ds =>
      cases hv with
      | tup hs ha => exact ⟨_, _, rfl, Evl.ex_t r.fh hs.sq, by rw [ha.length]; exact kNames_len hk, gNames_run is σ S _ ds S' Q r ha hk q⟩
    | _ => cases hk
theorem dg_name {X : Cx} {i : Nat} {x : Str} {pos : Pos} (h : PG X (.Name x pos) (gName i)) : DG X (.Name x pos) (.nm i) := ⟨h⟩
theorem dgs_nil {X : Cx} : PGs X [] (gNames []) := pgs_nil
theorem dgs_cons {X : Cx} {e : Expr} {ts : List Expr} {i : Nat} {is : List Nat} (h1 : PG X e (gName i)) (h2 : PGs X ts (gNames is)) (hs : (assignEach (e :: ts) X.env).map (·.2) = assign e X.env :: (assignEach ts X.env).map (·.2) := by rfl) : PGs X (e :: ts) (gNames (i :: is)) := pgs_cons h1 h2 hs
theorem dg_tup {X : Cx} {es : List Expr} {k : Nat} {pos : Pos} {is : List Nat} (hc : X.calm = true) (h : PGs X es (gNames is)) (hn : (assignEach es X.env).length = is.length := by rfl) (hst : (assignEach es X.env).findIdx? (·.1) = none := by rfl) : DG X (.Tuple es k pos) (.tp is) := ⟨pg_tup hc h hn hst⟩

structure Walks (K : PySem.W.Frag) (F : Hp) (J : It) (ds : List Dt) : Prop where
  go : ∀ i H, i < ds.length → Ex F H → J.go i H
  stop : ∀ H, Ex F H → J.stop ds.length H
  yld : ∀ i H x H' F1, i < ds.length → Ex F F1 → Ex F1 H → J.yld i H x H' → ∃ d, ds[i]? = some d ∧ ((H' = H ∧ Rp K F1 x d) ∨ ∃ T o, H T = none ∧ H' = upd H T o ∧ Rp K (upd F1 T o) x d)
def tI (K : PySem.W.Frag) (W : WX) (it : Ms → R (List Dt)) : TI := fun σ H R => ∃ B F as S, Rep K B F H as σ S ∧ Out K W B F as σ (it S) fun ds F' H' _ _ => ∀ J, Walks K F' J ds → R J H'
theorem monoI {X : Cx} {tg l : Expr} {wi wi1 wi2 : TI} (h1 : PI X tg l wi1) (h2 : PI X tg l wi2) (h : ∀ σ H R, wi σ H R → wi1 σ H R ∨ wi2 σ H R) : PI X tg l wi :=
  ⟨fun pins s σ H R I q => (h σ H R q).elim (h1.run pins s σ H R I) (h2.run pins s σ H R I)⟩
theorem monoI1 {X : Cx} {tg l : Expr} {wi wi1 : TI} (h1 : PI X tg l wi1) (h : ∀ σ H R, wi σ H R → wi1 σ H R) : PI X tg l wi := ⟨fun pins s σ H R I q => h1.run pins s σ H R I (h σ H R q)⟩
def itS (f : Ms → R Dt) : Ms → R (List Dt) := fun S => (f S).bind fun d S1 => R.of (seqOf d) S1
theorem walksL0 {K : PySem.W.Frag} {F : Hp} {a : Addr} {xs : List V} {ds : List Dt} (hs : SqL K F a xs) (ha : RpA K F xs ds) : Walks K F (Itl K a) ds := by
  refine ⟨fun i H hi e => ?_, fun H e => ⟨xs, Evl.ex_l e hs, by rw [ha.length]; exact Nat.le_refl _⟩, fun i H x H' F1 hi e e2 y => ?_⟩
  · have hi' : i < xs.length := by rw [ha.length]; exact hi
    exact ⟨xs, xs[i], Evl.ex_l e hs, by simp [hi']⟩
  · obtain ⟨y1, y2⟩ := y
    have q := y2 xs (Evl.ex_l (e.trans e2) hs)
    obtain ⟨d, h1, h2⟩ := ha.getv q
    exact ⟨d, h1, .inl ⟨y1, h2.up e⟩⟩
theorem walksT0 {K : PySem.W.Frag} {F : Hp} {a : Addr} {xs : List V} {ds : List Dt} (hs : SqT K F a xs) (ha : RpA K F xs ds) : Walks K F (Itt K a) ds := by
  refine ⟨fun i H hi e => ?_, fun H e => ⟨xs, Evl.ex_t e hs, by rw [ha.length]; exact Nat.le_refl _⟩, fun i H x H' F1 hi e e2 y => ?_⟩
  · have hi' : i < xs.length := by rw [ha.length]; exact hi
    exact ⟨xs, xs[i], Evl.ex_t e hs, by simp [hi']⟩
  · obtain ⟨y1, y2⟩ := y
    have q := y2 xs (Evl.ex_t (e.trans e2) hs)
    obtain ⟨d, h1, h2⟩ := ha.getv q
    exact ⟨d, h1, .inl ⟨y1, h2.up e⟩⟩
theorem walksL {K : PySem.W.Frag} {F : Hp} {a : Addr} {xs : List V} {ds : List Dt} (hs : F a = some (.lst xs)) (ha : RpA K F xs ds) : Walks K F (Itl K a) ds := walksL0 (Evl.sq_of hs) ha
theorem walksT {K : PySem.W.Frag} {F : Hp} {a : Addr} {xs : List V} {ds : List Dt} (hs : TupAt K F a xs) (ha : RpA K F xs ds) : Walks K F (Itt K a) ds := walksT0 hs.sq ha
section
variable {X : Cx} {W : WX} {tg l e e2 : Expr} {f : Ms → R Dt} {fs : Ms → R (List Dt)} {p pos tpos : Pos}
theorem di_seq (h : PE X l (tD X.K W f)) : PI X tg l (tI X.K W (itS f)) := monoI (pi_list h) (pi_tup h) fun σ H R q => by
  obtain ⟨B, F, as, S, r, o⟩ := q
  unfold itS at o
  cases hf : f S with
  | ok d S1 =>
    rw [hf] at o
    cases d with
    | lst ds =>
      refine .inl ⟨B, F, as, S, r, ?_⟩
      rw [hf]
      intro F1 H1 as1 e1 r1 v hv
      cases hv with
      | lst hs ha => exact ⟨_, rfl, ⟨_, Evl.ex_l r1.fh (Evl.sq_of hs)⟩, o F1 H1 as1 e1 r1 _ (walksL hs ha)⟩
    | tup ds =>
      refine .inr ⟨B, F, as, S, r, ?_⟩
      rw [hf]
      intro F1 H1 as1 e1 r1 v hv
      cases hv with
      | tup hs ha => exact ⟨_, rfl, ⟨_, Evl.ex_t r1.fh hs.sq⟩, o F1 H1 as1 e1 r1 _ (walksT hs ha)⟩
    | scr t ds =>
      cases t with
      | true =>
        refine .inr ⟨B, F, as, S, r, ?_⟩
        rw [hf]
        intro F1 H1 as1 e1 r1 v hv
        cases hv with
        | scr _ hs ha => exact ⟨_, rfl, ⟨_, hs.up r1.fh⟩, o F1 H1 as1 e1 r1 _ (walksT0 hs ha)⟩
      | false =>
        refine .inl ⟨B, F, as, S, r, ?_⟩
        rw [hf]
        intro F1 H1 as1 e1 r1 v hv
        cases hv with
        | scr _ hs ha => exact ⟨_, rfl, ⟨_, hs.up r1.fh⟩, o F1 H1 as1 e1 r1 _ (walksL0 hs ha)⟩
    | _ => exact o.elim
  | er x S1 =>
    rw [hf] at o
    exact .inl ⟨B, F, as, S, r, by rw [hf]; exact o⟩
  | no => rw [hf] at o; exact o.elim
def itR1 (fs : Ms → R (List Dt)) : Ms → R (List Dt) := fun S => (fs S).bind fun ds S1 => match ds with
  | [.int j] => if -(2 ^ 62) ≤ j ∧ j < 2 ^ 62 then .ok ((List.range j.toNat).map fun (i : Nat) => Dt.int (i : Int)) S1 else .no
  | _ => .no
def itR2 (fs : Ms → R (List Dt)) : Ms → R (List Dt) := fun S => (fs S).bind fun ds S1 => match ds with
  | [.int i, .int j] => if -(2 ^ 62) ≤ i ∧ i < 2 ^ 62 ∧ -(2 ^ 62) ≤ j ∧ j < 2 ^ 62 then .ok ((List.range (j - i).toNat).map fun (k : Nat) => Dt.int (i + (k : Int))) S1 else .no
  | _ => .no
theorem walksR {K : PySem.W.Frag} {F : Hp} {lo : Int} {n : Nat} {ds : List Dt} (h : ds = (List.range n).map fun (k : Nat) => Dt.int (lo + (k : Int))) : Walks K F (Itr lo n) ds := by
  subst h
  have hl : ((List.range n).map fun (k : Nat) => Dt.int (lo + (k : Int))).length = n := by simp
  refine ⟨fun i H hi e => by rw [hl] at hi; exact hi, fun H e => by rw [hl]; exact Nat.le_refl _, fun i H x H' F1 hi e e2 y => ?_⟩
  rw [hl] at hi
  obtain ⟨rfl, rfl⟩ := y
  refine ⟨.int (lo + i), ?_, .inl ⟨rfl, .int _⟩⟩
  rw [List.getElem?_map, List.getElem?_range hi]
  rfl
theorem di_range1 {a : Expr} (hg : Gl X "range") (hm : X.mg "range" = none) (ha : PA X [a] (tA X.K W fs)) (hs : starEach [a] X.env = [(false, eval a X.env)] := by rfl) : PI X tg (.Call (.Name "range" p) [a] [] pos) (tI X.K W (itR1 fs)) := monoI1 (pi_range1 hg hm ha hs) fun σ H R q => by
  obtain ⟨B, F, as, S, r, o⟩ := q
  refine ⟨B, F, as, S, r, Out.mono (Out.bind o) fun ds F1 H1 as1 S1 ⟨r1, e1, o1⟩ vs hv => ?_⟩
  split at o1
  · rename_i j _
    split at o1
    · rename_i hj
      obtain ⟨v, rfl, h1⟩ := rpa1 hv
      cases h1
      refine ⟨_, rfl, hj.1, hj.2, Out.now o1 r1 _ (walksR ?_)⟩
      apply List.map_congr_left
      intro k _
      rw [Int.zero_add]
    · exact o1.elim
  · exact o1.elim
theorem di_range2 {a b : Expr} (hg : Gl X "range") (hm : X.mg "range" = none) (ha : PA X [a, b] (tA X.K W fs)) (hs : starEach [a, b] X.env = [(false, eval a X.env), (false, eval b X.env)] := by rfl) (hs2 : starEach [b] X.env = [(false, eval b X.env)] := by rfl) : PI X tg (.Call (.Name "range" p) [a, b] [] pos) (tI X.K W (itR2 fs)) := monoI1 (pi_range2 hg hm ha hs hs2) fun σ H R q => by
  obtain ⟨B, F, as, S, r, o⟩ := q
  refine ⟨B, F, as, S, r, Out.mono (Out.bind o) fun ds F1 H1 as1 S1 ⟨r1, e1, o1⟩ vs hv => ?_⟩
  split at o1
  · split at o1
    · rename_i hj
      obtain ⟨v, w, rfl, h1, h2⟩ := rpa2 hv
      cases h1; cases h2
      exact ⟨_, _, rfl, hj, Out.now o1 r1 _ (walksR rfl)⟩
    · exact o1.elim
  · exact o1.elim
def zipD (xs ys : List Dt) : List Dt := List.zipWith (fun d e => Dt.tup [d, e]) xs ys
def itZ (fs : Ms → R (List Dt)) : Ms → R (List Dt) := fun S => (fs S).bind fun ds S1 => match ds with
  | [.lst xs, .lst ys] => .ok (zipD xs ys) S1
  | [.tup xs, .tup ys] => .ok (zipD xs ys) S1
  | _ => .no
end

def W0 : WX := fun _ _ _ _ => False
def lcF (sl : List Sv) (k : Dt → Ms → Option Ms) (t : Ms → R Bool) (e : Ms → R Dt) : List Dt → List Mo → List Dt → R (List Dt)
  | [], mo, acc => .ok acc { sl := sl, mo := mo }
  | d :: ds, mo, acc => match k d { sl := sl, mo := mo } with
    | none => .no
    | some S1 => match t S1 with
      | .ok false S2 => lcF sl k t e ds S2.mo acc
      | .ok true S2 => (match e S2 with
        | .ok y S3 => if acc.length < 100000 then lcF sl k t e ds S3.mo (acc ++ [y]) else .no
        | _ => .no)
      | _ => .no
def lcE (it : Ms → R (List Dt)) (k : Dt → Ms → Option Ms) (t : Ms → R Bool) (e : Ms → R Dt) (own : List Nat) : Ms → R (List Dt) := fun S => (it S).bind fun ds S1 => (lcF (wipeL S1.sl own) k t e ds S1.mo []).bind fun ys S2 => .ok ys { sl := S1.sl, mo := S2.mo }
def yesT : Ms → R Bool := fun S => .ok true S
theorem lc_core0 {X : Cx} {W : WX} {T : Tk} {t : Ms → R Bool} {e : Ms → R Dt} {own : List Nat} (hi : ∀ i ∈ T.is, i ∈ own) {σ : L2.St} {H1 : Hp} {Q : VK} {B F1 : Hp} {as1 : List Addr} {S1 : Ms} {ds : List Dt} {J : It} {D : Addr} (r1 : Rep X.K B F1 H1 as1 σ S1)
    (o1 : Out X.K W B F1 as1 σ ((lcF (wipeL S1.sl own) T.k t e ds S1.mo []).bind fun ys S2 => .ok ys { sl := S1.sl, mo := S2.mo }) fun ds F' H' as' _ => ∀ p vs, F' p = none → B p = none → p ∉ as' → H' p = some (.lst vs) → RpA X.K F' vs ds → Q (.ref p) H') (w : Walks X.K F1 J ds) (hD : H1 D = none) :
    ∃ W : Nat → Nat → Hp → Prop, (∃ m, W 0 m (upd H1 D (.lst []))) ∧ ∀ i m H, W i m H →
      (J.stop i H ∧ Q (.ref D) H) ∨ (J.go i H ∧ ∃ Nx : Hp → Prop, (∀ H', Nx H' → ∃ m', m' < m ∧ W (i + 1) m' H') ∧ ∀ x H', J.yld i H x H' → T.g X.K x (wipe σ own) H' fun σ2 H2 => wipe σ2 own = wipe σ own ∧ tT X.K W0 t σ2 H2 fun b H3 =>
        if b = true then tD X.K W0 e σ2 H3 fun y H4 => ∃ acc, H4 D = some (.lst acc) ∧ acc.length < sizeLine ∧ Nx (upd H4 D (.lst (acc ++ [y]))) else Nx H3) := by
  obtain ⟨f1, f2, f3⟩ := r1.fresh hD
  have o2 := Out.bind o1
  refine ⟨fun i m H => m = ds.length - i ∧ i ≤ ds.length ∧ ∃ F2 as2 mo acc accV, Ext F1 F2 as1 as2 ∧ Rep X.K B F2 H as2 σ { S1 with mo := mo } ∧ F2 D = none ∧ D ∉ as2 ∧ H D = some (.lst accV) ∧ RpA X.K F2 accV acc ∧
    Out X.K W B F2 as2 σ (lcF (wipeL S1.sl own) T.k t e (ds.drop i) mo acc) fun ys F' H' as' S' => ∀ vs, (Rep X.K B F' H' as' σ { S1 with mo := S'.mo }) → F' D = none → D ∉ as' → H' D = some (.lst vs) → RpA X.K F' vs ys → Q (.ref D) H', ⟨ds.length, by simp, Nat.zero_le _, F1, as1, S1.mo, [], [], Ext.refl, ?_, f1, f3, upd_same, .nil, ?_⟩, ?_⟩
  · refine ⟨fun a u hu => ?_, fun a u hu => ?_, r1.sl, r1.mo.mono fun a m z => ?_, r1.nd⟩
    · rw [upd_ne (ne_of_none (r1.fh _ _ hu) hD)]
      exact r1.fh _ _ hu
    · obtain ⟨z1, z2, z3⟩ := r1.bh a u hu
      exact ⟨by rw [upd_ne (ne_of_none z1 hD)]; exact z1, z2, z3⟩
    · cases m with
      | ob ds =>
        obtain ⟨z1, z2, ws, z3, z4⟩ := z
        exact ⟨z1, z2, ws, by rw [upd_ne (ne_of_none z3 hD)]; exact z3, z4⟩
      | fz d => exact z
  · refine Out.mono o2 fun ys F' H' as' S' ⟨r', e', o3⟩ vs r'' hF hA hH hv => ?_
    exact o3 F' H' as' Ext.refl r'' D vs hF f2 hA hH hv
  · rintro i m H ⟨rfl, hle, F2, as2, mo, acc, accV, e2, r2, hF, hA, hH, hacc, o3⟩
    by_cases hlt : i < ds.length
    · refine .inr ⟨w.go i H hlt (e2.1.trans r2.fh), ?_⟩
      obtain ⟨d, hd⟩ : ∃ d, ds[i]? = some d := ⟨ds[i], by simp [hlt]⟩
      have hdrop : ds.drop i = d :: ds.drop (i + 1) := by
        rw [List.drop_eq_getElem_cons hlt]
        congr 1
        rw [List.getElem?_eq_getElem hlt] at hd
        exact Option.some.inj hd
      rw [hdrop] at o3
      refine ⟨fun H' => ∃ F2 as2 mo acc accV, Ext F1 F2 as1 as2 ∧ Rep X.K B F2 H' as2 σ { S1 with mo := mo } ∧ F2 D = none ∧ D ∉ as2 ∧ H' D = some (.lst accV) ∧ RpA X.K F2 accV acc ∧
        Out X.K W B F2 as2 σ (lcF (wipeL S1.sl own) T.k t e (ds.drop (i + 1)) mo acc) fun ys F' H' as' S' => ∀ vs, (Rep X.K B F' H' as' σ { S1 with mo := S'.mo }) → F' D = none → D ∉ as' → H' D = some (.lst vs) → RpA X.K F' vs ys → Q (.ref D) H', fun H' h => ⟨ds.length - (i + 1), by omega, rfl, hlt, h⟩, fun x H' hy => ?_⟩
      obtain ⟨d', hd', hx⟩ := w.yld i H x H' F2 hlt e2.1 r2.fh hy
      rw [hd] at hd'
      cases hd'
      have rh : Rep X.K (upd B D (.lst accV)) F2 H as2 σ { S1 with mo := mo } := r2.hold hH hF hA trivial
      -- the state at the turn
      obtain ⟨F3, e3, r3, hv3⟩ : ∃ F3, Ext F2 F3 as2 as2 ∧ Rep X.K (upd B D (.lst accV)) F3 H' as2 σ { S1 with mo := mo } ∧ Rp X.K F3 x d := by
        rcases hx with ⟨rfl, hx⟩ | ⟨T, ob, hT, rfl, hx⟩
        · exact ⟨F2, Ext.refl, rh, hx⟩
        · obtain ⟨ee, rr⟩ := rh.new hT ob
          exact ⟨_, ee, rr, hx⟩
      have r4 : Rep X.K (upd B D (.lst accV)) F3 H' as2 (wipe σ own) { sl := wipeL S1.sl own, mo := mo } := ⟨r3.fh, r3.bh, wipe_rp r3.sl own, r3.mo, r3.nd⟩
      unfold lcF at o3
      cases hk : T.k d { sl := wipeL S1.sl own, mo := mo } with
      | none => rw [hk] at o3; exact o3.elim
      | some S4 =>
        rw [hk] at o3
        dsimp only at o3
        refine T.run r4 hv3 hk fun σ4 r5 hw => ⟨by rw [hw own hi, wipe_wipe], ?_⟩
        refine ⟨_, F3, as2, S4, r5, ?_⟩
        cases ht : t S4 with
        | no => rw [ht] at o3; exact o3.elim
        | er x S5 => rw [ht] at o3; exact o3.elim
        | ok b S5 =>
          rw [ht] at o3
          intro F5 H5 as5 e5 r6
          cases b with
          | false =>
            show ∃ F2 as2 mo acc accV, _
            dsimp only at o3
            obtain ⟨r7, h7, h8, h9⟩ := (Rep.back r6 r3.sl e5).unhold f2
            have e25 := e3.trans e5
            exact ⟨F5, as5, S5.mo, acc, accV, e2.trans e25, r7, h8, h9, h7, hacc.up e25.1, by
              revert o3
              cases lcF (wipeL S1.sl own) T.k t e (ds.drop (i + 1)) S5.mo acc with
              | ok ys S' => exact fun o3 F' H' as' ee rr => o3 F' H' as' (e25.trans ee) rr
              | er y S' => exact fun o3 F' H' as' dx fs ee rr => o3 F' H' as' dx fs (e25.trans ee) rr
              | no => exact fun o3 => o3⟩
          | true =>
            show tD X.K W0 e σ4 H5 _
            dsimp only at o3
            refine ⟨_, F5, as5, S5, r6, ?_⟩
            cases he : e S5 with
            | no => rw [he] at o3; exact o3.elim
            | er x S6 => rw [he] at o3; exact o3.elim
            | ok y S6 =>
              rw [he] at o3
              dsimp only at o3
              split at o3
              · rename_i hlen
                intro F6 H6 as6 e6 r7 v hv
                obtain ⟨r8, h7, h8, h9⟩ := (Rep.back r7 r3.sl (e5.trans e6)).unhold f2
                have e26 := (e3.trans e5).trans e6
                refine ⟨accV, h7, Evl.sz_lt (by rw [hacc.length]; exact hlen), F6, as6, S6.mo, acc ++ [y], accV ++ [v], e2.trans e26, ?_, h8, h9, upd_same, (hacc.up e26.1).snoc hv, ?_⟩
                · refine ⟨fun a u hu => ?_, fun a u hu => ?_, r8.sl, ?_, r8.nd⟩
                  · have n : a ≠ D := by
                      rintro rfl
                      rw [h8] at hu; cases hu
                    rw [upd_ne n]
                    exact r8.fh _ _ hu
                  · have n : a ≠ D := by
                      rintro rfl
                      rw [f2] at hu; cases hu
                    rw [upd_ne n]
                    exact r8.bh a u hu
                  · have : ∀ {xs : List Addr} {ys : List Mo}, (∀ a ∈ xs, a ≠ D) → Paired (MoR X.K B F6 H6) xs ys → Paired (MoR X.K B F6 (upd H6 D (.lst (accV ++ [v])))) xs ys := by
                      intro xs ys hn z
                      induction z with
                      | nil => exact .nil
                      | @cons a b l1 l2 z zs ih =>
                        refine .cons ?_ (ih fun a ha => hn a (List.mem_cons_of_mem _ ha))
                        cases b with
                        | ob ds =>
                          obtain ⟨z1, z2, ws, z3, z4⟩ := z
                          exact ⟨z1, z2, ws, by rw [upd_ne (hn _ List.mem_cons_self)]; exact z3, z4⟩
                        | fz d => exact z
                    exact this (fun a ha z => h9 (z ▸ ha)) r8.mo
                · revert o3
                  cases lcF (wipeL S1.sl own) T.k t e (ds.drop (i + 1)) S6.mo (acc ++ [y]) with
                  | ok ys S' => exact fun o3 F' H' as' ee rr => o3 F' H' as' (e26.trans ee) rr
                  | er y S' => exact fun o3 F' H' as' dx fs ee rr => o3 F' H' as' dx fs (e26.trans ee) rr
                  | no => exact fun o3 => o3
              · exact o3.elim
    · have e : i = ds.length := by omega
      subst e
      rw [List.drop_length] at o3
      unfold lcF at o3
      refine .inl ⟨w.stop H (e2.1.trans r2.fh), ?_⟩
      exact o3 F2 H as2 Ext.refl ⟨r2.fh, r2.bh, wipeL_rp r2.sl own, r2.mo, r2.nd⟩ accV r2 hF hA hH hacc
theorem lc_run {X : Cx} {W : WX} {it : Ms → R (List Dt)} {T : Tk} {t : Ms → R Bool} {e : Ms → R Dt} {own : List Nat} (hi : ∀ i ∈ T.is, i ∈ own) {σ : L2.St} {H : Hp} {Q : VK}
    (q : tN X.K W (lcE it T.k t e own) σ H Q) : tLc (tI X.K W it) (T.g X.K) (tT X.K W0 t) (tD X.K W0 e) own σ H Q := by
  obtain ⟨B, F, as, S, r, o⟩ := q
  exact ⟨B, F, as, S, r, Out.mono (Out.bind o) fun ds F1 H1 as1 S1 ⟨r1, e1, o1⟩ J w D hD => lc_core0 hi r1 o1 w hD⟩
end Lq

namespace Lq
open PySem PySem.Spec PyProof.Rows L2
open Evl (Ex)
def asgS (i : Nat) (f : Ms → R Dt) : Ms → O := fun S => (f S).stmt fun d S1 => .nx { S1 with sl := S1.sl.set i (.im d) }
def asgN (i : Nat) (f : Ms → R (List Dt)) : Ms → O := fun S => (f S).stmt fun ds S1 => .nx { sl := S1.sl.set i (.mu S1.mo.length), mo := S1.mo ++ [.ob (.ls ds)] }
def moveS (i j : Nat) : Ms → O := fun S => match S.sl[j]? with | some (.im d) => .nx { S with sl := S.sl.set i (.im d) } | some (.mu k) => .nx { S with sl := S.sl.set i (.mu k) } | _ => .no
def asgT (T : Tk) (f : Ms → R Dt) : Ms → O := fun S => (f S).stmt fun d S1 => match T.k d S1 with | some S2 => .nx S2 | none => .no
section
variable {K : PySem.W.Frag} {W : WX} {f : Ms → R Dt} {fn : Ms → R (List Dt)} {i j : Nat} {D : Ends} {σ : L2.St} {H : Hp}
theorem asgS_run (q : sD K W (asgS i f) D σ H) : tD K W f σ H fun x H1 => D.nx (σ.set i (some x)) H1 := by
  obtain ⟨B, F, as, S, r, o⟩ := q
  exact ⟨B, F, as, S, r, Out.mono (OutS.stmt o) fun d F1 H1 as1 S1 ⟨r1, e1, o1⟩ v hv => o1 _ F1 H1 as1 Ext.refl (r1.slot (s := .im d) i hv)⟩
theorem asgN_run (q : sD K W (asgN i fn) D σ H) : tN K W fn σ H fun x H1 => D.nx (σ.set i (some x)) H1 := by
  obtain ⟨B, F, as, S, r, o⟩ := q
  refine ⟨B, F, as, S, r, Out.mono (OutS.stmt o) fun ds F1 H1 as1 S1 ⟨r1, e1, o1⟩ p vs f1 f2 f3 hp hv => ?_⟩
  obtain ⟨ee, rr⟩ := r1.newL f1 f2 f3 hp (.ls hv)
  refine o1 _ F1 H1 _ ee (rr.slot (s := .mu S1.mo.length) i ⟨p, ?_, rfl⟩)
  have hl : as1.length = S1.mo.length := r1.mo.length
  rw [← hl, List.getElem?_append_right (Nat.le_refl _), Nat.sub_self]
  rfl
theorem moveS_run (q : sD K W (moveS i j) D σ H) : tVar j σ H fun x H1 => D.nx (σ.set i (some x)) H1 := by
  obtain ⟨B, F, as, S, r, o⟩ := q
  unfold moveS at o
  cases hs : S.sl[j]? with
  | none => rw [hs] at o; exact o.elim
  | some s =>
    rw [hs] at o
    obtain ⟨ov, hv, z⟩ := pairedGet r.sl hs
    cases s with
    | no => exact o.elim
    | im d =>
      cases ov with
      | none => exact z.elim
      | some v => exact ⟨v, hv, o _ F H as Ext.refl (r.slot (s := .im d) i z)⟩
    | mu k =>
      cases ov with
      | none => exact z.elim
      | some v => exact ⟨v, hv, o _ F H as Ext.refl (r.slot (s := .mu k) i z)⟩
end
section
variable {X : Cx} {W : WX} {a b c e : Expr} {es : List Expr} {pos pos' : Pos} {f g : Ms → R Dt} {fn : Ms → R (List Dt)} {fs : Ms → R (List Dt)} {i j : Nat} {x y : Str} {m n : Ms → O} {st : Stmt} {rest : List Stmt}
theorem ds_set (hN : X.N.Nodup) (hi : X.N[i]? = some x) (hx : Loc X.env.scope x) (he : PE X e (tD X.K W f)) (hs : swapsWith e (some (.Name x pos')) pos.line X.env = pure false := by rfl) (hf : X.fn x = true ∨ X.env.scope.names.lookup x = some .local := by first | exact .inl rfl | exact .inr rfl | assumption) :
    PS X (.Assign [.Name x pos'] e pos) (sD X.K W (asgS i f)) := monoS (ps_set hN hi hx he hs hf) fun D σ H q => asgS_run q
theorem ds_setN (hN : X.N.Nodup) (hi : X.N[i]? = some x) (hx : Loc X.env.scope x) (he : PE X e (tN X.K W fn)) (hs : swapsWith e (some (.Name x pos')) pos.line X.env = pure false := by rfl) (hf : X.fn x = true ∨ X.env.scope.names.lookup x = some .local := by first | exact .inl rfl | exact .inr rfl | assumption) :
    PS X (.Assign [.Name x pos'] e pos) (sD X.K W (asgN i fn)) := monoS (ps_set hN hi hx he hs hf) fun D σ H q => asgN_run q
theorem ds_mov (hN : X.N.Nodup) (hi : X.N[i]? = some x) (hx : Loc X.env.scope x) (he : PE X e (tVar j)) (hs : swapsWith e (some (.Name x pos')) pos.line X.env = pure false := by rfl) (hf : X.fn x = true ∨ X.env.scope.names.lookup x = some .local := by first | exact .inl rfl | exact .inr rfl | assumption) :
    PS X (.Assign [.Name x pos'] e pos) (sD X.K W (moveS i j)) := monoS (ps_set hN hi hx he hs hf) fun D σ H q => moveS_run q
theorem ds_tgt {tg : Expr} {T : Tk} (he : PE X e (tD X.K W f)) (hg : DG X tg T) (hs : swapsWithSole [tg] e pos.line X.env = pure false := by rfl) (hw : swappedStores [tg] e X.env = pure none := by rfl)
    (h1 : (assignEach [tg] X.env).map (·.2) = [assign tg X.env] := by rfl) : PS X (.Assign [tg] e pos) (sD X.K W (asgT T f)) := monoS (ps_asg he hg.pg hs hw h1) fun D σ H q => by
  obtain ⟨B, F, as, S, r, o⟩ := q
  refine ⟨B, F, as, S, r, Out.mono (OutS.stmt o) fun d F1 H1 as1 S1 ⟨r1, e1, o1⟩ v hv => ?_⟩
  cases hk : T.k d S1 with
  | none => rw [hk] at o1; exact o1.elim
  | some S2 =>
    rw [hk] at o1
    exact T.run r1 hv hk fun σ' r' _ => o1 σ' F1 H1 as1 Ext.refl r'

section
variable {tg iter elt : Expr} {ifs : List Expr} {scope : Scope} {own : List (Str × Nat)} {it : Ms → R (List Dt)} {T : Tk} {t : Ms → R Bool} {fe : Ms → R Dt}
theorem dn_lc (hc : X.calm = true) (hN : X.N.Nodup) (hi : PI X tg iter (tI X.K W it)) (ok : BlkOk X.N X.env.scope scope own) {vs : List Nat} (hsub : ∀ i ∈ T.is, i ∈ vs)
    (hg : ∀ (s : Shared) (H : Hp) (C : Addr) (cl : List (Str × Addr)) (fp : List Addr), DG (X.blk s H scope (compEnvC scope cl C X.env) fp) tg T) (ht : ∀ (s : Shared) (H : Hp) (C : Addr) (cl : List (Str × Addr)) (fp : List Addr), PTs (X.blk s H scope (compEnvC scope cl C X.env) fp) ifs (tT X.K W0 t))
    (he : ∀ (s : Shared) (H : Hp) (C : Addr) (cl : List (Str × Addr)) (fp : List Addr), PE (X.blk s H scope (compEnvC scope cl C X.env) fp) elt (tD X.K W0 fe)) (hs : ∀ x, foldedSetIterable iter X.env x = pure x := by intro _; rfl) (hvs : own.map (·.2) = vs := by rfl) :
    PE X (.ListComp elt [⟨tg, iter, ifs, 0⟩] scope pos) (tN X.K W (lcE it T.k t fe vs)) :=
  by
  subst hvs
  exact ⟨fun pins s σ H Q I q => (pe_lc hc hN hi ok (fun s H C cl fp => (hg s H C cl fp).pg) ht he hs).run pins s σ H Q I (lc_run hsub q)⟩
theorem ds_lcN {py spos : Pos} (hc : X.calm = true) (hN : X.N.Nodup) (hy : X.N[i]? = some y) (hyl : X.env.scope.names.lookup y = some .local)
    (hsw : swapsWith (.ListComp elt [⟨tg, iter, ifs, 0⟩] scope pos) (some (.Name y py)) spos.line X.env = pure true) (hi : PI X tg iter (tI X.K W it)) (ok : BlkOk X.N X.env.scope scope own) {vs : List Nat} (hsub : ∀ i ∈ T.is, i ∈ vs)
    (hg : ∀ (s : Shared) (H : Hp) (C : Addr) (cl : List (Str × Addr)) (fp : List Addr), DG (X.blk s H scope (compEnvC scope cl C X.env) fp) tg T) (ht : ∀ (s : Shared) (H : Hp) (C : Addr) (cl : List (Str × Addr)) (fp : List Addr), PTs (X.blk s H scope (compEnvC scope cl C X.env) fp) ifs (tT X.K W0 t))
    (he : ∀ (s : Shared) (H : Hp) (C : Addr) (cl : List (Str × Addr)) (fp : List Addr), PE (X.blk s H scope (compEnvC scope cl C X.env) fp) elt (tD X.K W0 fe)) (hs : ∀ x, foldedSetIterable iter X.env x = pure x := by intro _; rfl) (hvs : own.map (·.2) = vs := by rfl) :
    PS X (.Assign [.Name y py] (.ListComp elt [⟨tg, iter, ifs, 0⟩] scope pos) spos) (sD X.K W (asgN i (lcE it T.k t fe vs))) :=
  by
  subst hvs
  exact ⟨fun pins s σ H D I q => (ps_setLc hc hN hy hyl hsw hi ok (fun s H C cl fp => (hg s H C cl fp).pg) ht he hs).run pins s σ H D I (lc_run (Q := fun x H1 => D.nx (σ.set i (some x)) H1) hsub (asgN_run q))⟩
theorem ds_lc {py spos : Pos} (hc : X.calm = true) (hN : X.N.Nodup) (hy : X.N[i]? = some y) (hyl : X.env.scope.names.lookup y = some .local)
    (hsw : swapsWith (.ListComp elt [⟨tg, iter, ifs, 0⟩] scope pos) (some (.Name y py)) spos.line X.env = pure true) (hi : PI X tg iter (tI X.K W it)) (ok : BlkOk X.N X.env.scope scope own) {vs : List Nat} (hsub : ∀ i ∈ T.is, i ∈ vs)
    (hg : ∀ (s : Shared) (H : Hp) (C : Addr) (cl : List (Str × Addr)) (fp : List Addr), DG (X.blk s H scope (compEnvC scope cl C X.env) fp) tg T) (ht : ∀ (s : Shared) (H : Hp) (C : Addr) (cl : List (Str × Addr)) (fp : List Addr), PTs (X.blk s H scope (compEnvC scope cl C X.env) fp) ifs (tT X.K W0 t))
    (he : ∀ (s : Shared) (H : Hp) (C : Addr) (cl : List (Str × Addr)) (fp : List Addr), PE (X.blk s H scope (compEnvC scope cl C X.env) fp) elt (tD X.K W0 fe)) (hs : ∀ x, foldedSetIterable iter X.env x = pure x := by intro _; rfl) (hvs : own.map (·.2) = vs := by rfl) :
    PS X (.Assign [.Name y py] (.ListComp elt [⟨tg, iter, ifs, 0⟩] scope pos) spos) (sD X.K W (asgS i (frz (lcE it T.k t fe vs)))) :=
  by
  subst hvs
  exact ⟨fun pins s σ H D I q => (ps_setLc hc hN hy hyl hsw hi ok (fun s H C cl fp => (hg s H C cl fp).pg) ht he hs).run pins s σ H D I (lc_run (Q := fun x H1 => D.nx (σ.set i (some x)) H1) hsub (frz_run (asgS_run q)))⟩
theorem dts_nil : PTs X [] (tT X.K W yesT) := monoPT pts_nil fun σ H Q q => by
  obtain ⟨B, F, as, S, r, o⟩ := q
  exact Out.now o r
theorem dts_one {p : Ms → R Bool} (h : PT X c (tT X.K W p)) : PTs X [c] (tT X.K W p) := pts_one h
end

def muAt (S : Ms) (i : Nat) : Option (Nat × List Dt) := match S.sl[i]? with | some (.mu k) => (match S.mo[k]? with | some (.ob (.ls xs)) => some (k, xs) | _ => none) | _ => none
theorem muAt_rp {K : PySem.W.Frag} {B F H : Hp} {as : List Addr} {σ : L2.St} {S : Ms} (r : Rep K B F H as σ S) {k : Nat} {xs : List Dt} (h : muAt S i = some (k, xs)) :
    ∃ p vs, σ[i]? = some (some (.ref p)) ∧ S.mo[k]? = some (.ob (.ls xs)) ∧ as[k]? = some p ∧ B p = none ∧ F p = none ∧ H p = some (.lst vs) ∧ RpA K F vs xs := by
  unfold muAt at h
  cases hs : S.sl[i]? with
  | none => rw [hs] at h; cases h
  | some s =>
    rw [hs] at h
    cases s with
    | mu k' =>
      dsimp only at h
      cases hm : S.mo[k']? with
      | none => rw [hm] at h; cases h
      | some mm =>
        rw [hm] at h
        cases mm with
        | ob c =>
         cases c with
         | dc kvs => cases h
         | io _ _ _ => cases h
         | ls ys =>
          cases h
          obtain ⟨ov, hv, z⟩ := pairedGet r.sl hs
          cases ov with
          | none => exact z.elim
          | some v =>
            obtain ⟨p, hp, rfl⟩ := z
            obtain ⟨p', hp', q1, q2, ob, q3, q4⟩ := pairedGet r.mo hm
            rw [hp] at hp'
            cases hp'
            cases q4
            rename_i vs q4
            exact ⟨p, vs, hv, hm, hp, q1, q2, q3, q4⟩
        | fz d => cases h
    | _ => cases h
def appS (i : Nat) (f : Ms → R Dt) : Ms → O := fun S => match muAt S i with
  | none => .no
  | some _ => (f S).stmt fun d S1 => match muAt S1 i with | some (k, xs) => if xs.length < 100000 then .nx { S1 with mo := S1.mo.set k (.ob (.ls (xs ++ [d]))) } else .no | none => .no
theorem ds_app {o : Expr} {apos cpos : Pos} (ho : PE X o (tVar i)) (he : PE X e (tD X.K W f)) (hs0 : starEach [e] X.env = (false, eval e X.env) :: starEach [] X.env := by rfl)
    (hbase : attributeBase o "append" X.env (eval o X.env) = eval o X.env := by rfl)
    (hfew : ((backTo cpos (starEach [e] X.env)).all (fun x => !x.1) && (backToKw cpos (keywordEach [] X.env)).all (fun x => x.1.isSome)
      && decide ([e].length + ([] : List Keyword).length + (if ([] : List Keyword).isEmpty then 0 else 1) < 30)) = true := by rfl)
    (hline : (apos.endLine == cpos.line) = true := by rfl) (hpl : (backTo cpos (starEach [] X.env)).any (·.1) = false := by rfl) (hs : swapsWith (.Call (.Attribute o "append" apos) [e] [] cpos) none pos.line X.env = pure false := by rfl) :
    PS X (.Expr (.Call (.Attribute o "append" apos) [e] [] cpos) pos) (sD X.K W (appS i f)) :=
  monoS (ps_expr (pe_bm PySem.F.plainAttrs_list PySem.F.slot_list_append PySem.F.type_list_append mt_append ho (pa_cons he pa_nil hs0) hbase hfew hline hs0 hpl) hs) fun D σ H q => by
    obtain ⟨B, F, as, S, r, o⟩ := q
    unfold appS at o
    cases hm0 : muAt S i with
    | none => rw [hm0] at o; exact o.elim
    | some km =>
      rw [hm0] at o
      obtain ⟨k0, xs0⟩ := km
      obtain ⟨p, vs0, hp, hmo0, hp0, _, _, hH0, hv0⟩ := muAt_rp r hm0
      refine ⟨_, hp, .inl ⟨rfl, vs0, Evl.sq_of hH0⟩, ?_⟩
      refine ⟨B, F, as, S, r, Out.mono (OutS.stmt o) fun d F1 H1 as1 S1 ⟨r1, e1, o1⟩ v hv => ?_⟩
      cases hm : muAt S1 i with
      | none => rw [hm] at o1; exact o1.elim
      | some km =>
        rw [hm] at o1
        obtain ⟨k, xs⟩ := km
        obtain ⟨p', vs, hp', hmo, ha, _, _, hH, hvs⟩ := muAt_rp r1 hm
        rw [hp] at hp'
        cases hp'
        dsimp only at o1
        split at o1
        · rename_i hl
          exact ⟨p, vs, v, rfl, rfl, hH, Evl.sz_lt (by rw [hvs.length]; exact hl), o1 σ F1 _ as1 Ext.refl (r1.put hmo ha (.ls (hvs.snoc hv)))⟩
        · exact o1.elim
def setS (i : Nat) (f g : Ms → R Dt) : Ms → O := fun S => (f S).stmt fun d S1 => match muAt S1 i with
  | none => .no
  | some _ => (g S1).stmt fun e S2 => match e with
    | .int z => (match muAt S2 i with | some (k, xs) => (match ixN xs.length z with | some j => .nx { S2 with mo := S2.mo.set k (.ob (.ls (xs.set j d))) } | none => .no) | none => .no)
    | _ => .no
theorem ds_setI {o ix : Expr} {ps : Pos} (ho : PE X o (tVar i)) (hx : PE X ix (tD X.K W g)) (he : PE X e (tD X.K W f))
    (ha : ∀ v, assign (.Subscript o ix ps) X.env v = (do
      let ov ← holding [v] (eval o X.env)
      let iv ← holding [v, ov] (eval ix X.env)
      standAt ps
      holding [v, ov, iv] (setItem ov iv v)
      release [v, ov, iv] []) := by intro _; rfl)
    (hs : swapsWithSole [.Subscript o ix ps] e pos.line X.env = pure false := by rfl) (hw : swappedStores [.Subscript o ix ps] e X.env = pure none := by rfl)
    (h1 : (assignEach [.Subscript o ix ps] X.env).map (·.2) = [assign (.Subscript o ix ps) X.env] := by rfl) : PS X (.Assign [.Subscript o ix ps] e pos) (sD X.K W (setS i f g)) :=
  monoS (ps_asg he (pg_sub ho hx set_list ha) hs hw h1) fun D σ H q => by
    obtain ⟨B, F, as, S, r, o⟩ := q
    refine ⟨B, F, as, S, r, Out.mono (OutS.stmt o) fun d F1 H1 as1 S1 ⟨r1, e1, o1⟩ v hv => ?_⟩
    cases hm0 : muAt S1 i with
    | none => rw [hm0] at o1; exact o1.elim
    | some km =>
      rw [hm0] at o1
      obtain ⟨k0, xs0⟩ := km
      obtain ⟨p, vs0, hp, hmo0, hp0, _, _, hH0, hv0⟩ := muAt_rp r1 hm0
      refine ⟨_, hp, ?_⟩
      refine ⟨B, F1, as1, S1, r1, Out.mono (OutS.stmt o1) fun z F2 H2 as2 S2 ⟨r2, e2, o2⟩ w hw => ?_⟩
      cases z with
      | int z =>
        cases hw
        dsimp only at o2
        cases hm : muAt S2 i with
        | none => rw [hm] at o2; exact o2.elim
        | some km =>
          rw [hm] at o2
          obtain ⟨k, xs⟩ := km
          obtain ⟨p', vs, hp', hmo, ha, _, _, hH, hvs⟩ := muAt_rp r2 hm
          rw [hp] at hp'
          cases hp'
          dsimp only at o2
          cases hj : ixN xs.length z with
          | none => rw [hj] at o2; exact o2.elim
          | some j =>
            rw [hj] at o2
            exact ⟨p, vs, z, j, rfl, rfl, hH, by rw [hvs.length]; exact hj, o2 σ F2 _ as2 Ext.refl (r2.put hmo ha (.ls (hvs.set j (hv.up e2.1))))⟩
      | _ => exact o2.elim
def ixV (i : Nat) (g : Ms → R Dt) : Ms → R Dt := fun S => match muAt S i with
  | none => .no
  | some _ => (g S).bind fun e S1 => match e with
    | .int z => (match muAt S1 i with | some (_, xs) => R.of (atI xs z) S1 | none => .no)
    | _ => .no
theorem de_ixV {o ix : Expr} (ho : PE X o (tVar i)) (hx : PE X ix (tD X.K W g)) (hs : PlainIx ix := by exact fun _ _ => rfl) : PE X (.Subscript o ix pos) (tD X.K W (ixV i g)) := monoE (pe_ix ix_list ho hx hs) fun σ H Q q => by
  obtain ⟨B, F, as, S, r, o⟩ := q
  unfold ixV at o
  cases hm0 : muAt S i with
  | none => rw [hm0] at o; exact o.elim
  | some km =>
    rw [hm0] at o
    obtain ⟨k0, xs0⟩ := km
    obtain ⟨p, vs0, hp, hmo0, hp0, _, _, hH0, hv0⟩ := muAt_rp r hm0
    refine ⟨_, hp, ?_⟩
    refine ⟨B, F, as, S, r, Out.mono (Out.bind o) fun z F2 H2 as2 S2 ⟨r2, e2, o2⟩ w hw => ?_⟩
    cases z with
    | int z =>
      cases hw
      dsimp only at o2
      cases hm : muAt S2 i with
      | none => rw [hm] at o2; exact o2.elim
      | some km =>
        rw [hm] at o2
        obtain ⟨k, xs⟩ := km
        obtain ⟨p', vs, hp', hmo, ha, _, _, hH, hvs⟩ := muAt_rp r2 hm
        rw [hp] at hp'
        cases hp'
        dsimp only at o2
        cases hj : atI xs z with
        | none => rw [hj] at o2; exact o2.elim
        | some y =>
          rw [hj] at o2
          obtain ⟨u, h1, h2⟩ := atI_rp hvs hj
          exact ⟨p, vs, z, u, rfl, rfl, Evl.sq_of hH, h1, Out.now o2 r2 _ h2⟩
    | _ => exact o2.elim

def seqS (m n : Ms → O) : Ms → O := fun S => (m S).seq n
def nilS : Ms → O := fun S => .nx S
theorem dss_nil : PSs X [] (sD X.K W nilS) := monoSs pss_nil fun D σ H q => by
  obtain ⟨B, F, as, S, r, o⟩ := q
  exact o σ F H as Ext.refl r
theorem dss_cons (h1 : PS X st (sD X.K W m)) (h2 : PSs X rest (sD X.K W n)) : PSs X (st :: rest) (sD X.K W (seqS m n)) := monoSs (pss_cons h1 h2) fun D σ H q => by
  obtain ⟨B, F, as, S, r, o⟩ := q
  exact ⟨B, F, as, S, r, OutS.seq o⟩
theorem dss_one (h1 : PS X st (sD X.K W m)) : PSs X [st] (sD X.K W m) := pss_one h1
def ifS (p : Ms → R Bool) (m n : Ms → O) : Ms → O := fun S => (p S).stmt fun b S1 => if b then m S1 else n S1
theorem ds_if {p : Ms → R Bool} {sa sb : List Stmt} (hc : PT X c (tT X.K W p)) (ha : PSs X sa (sD X.K W m)) (hb : PSs X sb (sD X.K W n)) : PS X (.If c sa sb pos) (sD X.K W (ifS p m n)) := monoS (ps_if hc ha hb) fun D σ H q => by
  obtain ⟨B, F, as, S, r, o⟩ := q
  refine ⟨B, F, as, S, r, Out.mono (OutS.stmt o) fun b F1 H1 as1 S1 ⟨r1, e1, o1⟩ => ?_⟩
  cases b with
  | true => exact ⟨B, F1, as1, S1, r1, o1⟩
  | false => exact ⟨B, F1, as1, S1, r1, o1⟩
def retS (f : Ms → R Dt) : Ms → O := fun S => (f S).stmt fun d S1 => .rt d S1
theorem ds_ret (h : PE X e (tD X.K W f)) : PS X (.Return (some e) pos) (sD X.K W (retS f)) := monoS (ps_ret h) fun D σ H q => by
  obtain ⟨B, F, as, S, r, o⟩ := q
  exact ⟨B, F, as, S, r, Out.mono (OutS.stmt o) fun d F1 H1 as1 S1 ⟨r1, e1, o1⟩ v hv => o1 σ F1 H1 as1 v Ext.refl r1 hv⟩
def dropS (f : Ms → R Dt) : Ms → O := fun S => (f S).stmt fun _ S1 => .nx S1
theorem ds_drop (h : PE X e (tD X.K W f)) (hs : swapsWith e none pos.line X.env = pure false := by rfl) : PS X (.Expr e pos) (sD X.K W (dropS f)) := monoS (ps_expr h hs) fun D σ H q => by
  obtain ⟨B, F, as, S, r, o⟩ := q
  exact ⟨B, F, as, S, r, Out.mono (OutS.stmt o) fun d F1 H1 as1 S1 ⟨r1, e1, o1⟩ v hv => o1 σ F1 H1 as1 Ext.refl r1⟩
def noS : Ms → O := fun _ => .no
theorem ds_never : PS X st (sD X.K W noS) := monoS ps_never fun D σ H q => by
  obtain ⟨B, F, as, S, r, o⟩ := q
  exact o.elim
def forL (k : Dt → Ms → Option Ms) (body : Ms → O) : List Dt → Ms → O
  | [], S => .nx S
  | d :: ds, S => match k d S with
    | none => .no
    | some S1 => match body S1 with
      | .nx S2 => forL k body ds S2
      | .ct S2 => forL k body ds S2
      | .bk S2 => .nx S2
      | .rt d S2 => .rt d S2
      | .er e S2 => .er e S2
      | .no => .no
def forS (it : Ms → R (List Dt)) (k : Dt → Ms → Option Ms) (body : Ms → O) : Ms → O := fun S => (it S).stmt fun ds S1 => forL k body ds S1
theorem ds_for {tg iter : Expr} {it : Ms → R (List Dt)} {T : Tk} {body : List Stmt} (hp : PassesOwn (model X.prog X.w) X.A X.env X.xe) (hc : X.calm = true) (hi : PI X tg iter (tI X.K W it)) (hg : DG X tg T) (hb : PSs X body (sD X.K W m))
    (hs : ∀ x, foldedSetIterable iter X.env x = pure x := by intro _; rfl) : PS X (.For tg iter body [] pos) (sD X.K W (forS it T.k m)) := monoS (ps_for hp hc hi hg.pg hb hs) fun D σ H q => by
  obtain ⟨B, F, as, S, r, o⟩ := q
  refine ⟨B, F, as, S, r, Out.mono (OutS.stmt o) fun ds F1 H1 as1 S1 ⟨r1, e1, o1⟩ J w => ?_⟩
  refine ⟨fun i m' σ' H' => m' = ds.length - i ∧ i ≤ ds.length ∧ ∃ F2 as2 S2, Ext F1 F2 as1 as2 ∧ Rep X.K B F2 H' as2 σ' S2 ∧ OutS X.K W B F2 as2 (forL T.k m (ds.drop i) S2) D, ⟨_, rfl, Nat.zero_le _, F1, as1, S1, Ext.refl, r1, o1⟩, ?_⟩
  rintro i m' σ' H' ⟨rfl, hle, F2, as2, S2, e2, r2, o2⟩
  by_cases hlt : i < ds.length
  · refine .inr ⟨w.go i H' hlt (e2.1.trans r2.fh), ?_⟩
    obtain ⟨d, hd⟩ : ∃ d, ds[i]? = some d := ⟨ds[i], by simp [hlt]⟩
    have hdrop : ds.drop i = d :: ds.drop (i + 1) := by
      rw [List.drop_eq_getElem_cons hlt]
      congr 1
      rw [List.getElem?_eq_getElem hlt] at hd
      exact Option.some.inj hd
    rw [hdrop] at o2
    refine ⟨fun σ3 H3 => ∃ F2 as2 S2, Ext F1 F2 as1 as2 ∧ Rep X.K B F2 H3 as2 σ3 S2 ∧ OutS X.K W B F2 as2 (forL T.k m (ds.drop (i + 1)) S2) D, fun σ3 H3 h => ⟨_, by omega, rfl, hlt, h⟩, fun x H3 hy => ?_⟩
    obtain ⟨d', hd', hx⟩ := w.yld i H' x H3 F2 hlt e2.1 r2.fh hy
    rw [hd] at hd'
    cases hd'
    obtain ⟨F3, e3, r3, hv3⟩ : ∃ F3, Ext F2 F3 as2 as2 ∧ Rep X.K B F3 H3 as2 σ' S2 ∧ Rp X.K F3 x d := by
      rcases hx with ⟨rfl, hx⟩ | ⟨T, ob, hT, rfl, hx⟩
      · exact ⟨F2, Ext.refl, r2, hx⟩
      · obtain ⟨ee, rr⟩ := r2.new hT ob
        exact ⟨_, ee, rr, hx⟩
    unfold forL at o2
    cases hk : T.k d S2 with
    | none => rw [hk] at o2; exact o2.elim
    | some S3 =>
      rw [hk] at o2
      dsimp only at o2
      refine T.run r3 hv3 hk fun σ4 r4 _ => ⟨B, F3, as2, S3, r4, ?_⟩
      revert o2
      cases m S3 with
      | nx S4 => exact fun o2 σ5 F5 H5 as5 e5 r5 => ⟨F5, as5, S4, e2.trans (e3.trans e5), r5, OutS.ext o2 (e3.trans e5)⟩
      | ct S4 => exact fun o2 σ5 F5 H5 as5 e5 r5 => ⟨F5, as5, S4, e2.trans (e3.trans e5), r5, OutS.ext o2 (e3.trans e5)⟩
      | bk S4 => exact fun o2 σ5 F5 H5 as5 e5 r5 => o2 σ5 F5 H5 as5 (e3.trans e5) r5
      | rt d S4 => exact fun o2 σ5 F5 H5 as5 v e5 r5 => o2 σ5 F5 H5 as5 v (e3.trans e5) r5
      | er e S4 => exact fun o2 σ5 F5 H5 as5 dx fs e5 r5 => o2 σ5 F5 H5 as5 dx fs (e3.trans e5) r5
      | no => exact fun o2 => o2
  · have e : i = ds.length := by omega
    subst e
    rw [List.drop_length] at o2
    exact .inl ⟨w.stop H' (e2.1.trans r2.fh), o2 σ' F2 H' as2 Ext.refl r2⟩
def whl (p : Ms → R Bool) (body : Ms → O) : Nat → Ms → O
  | 0, _ => .no
  | n + 1, S => (p S).stmt fun b S1 => if b then (match body S1 with
      | .nx S2 => whl p body n S2
      | .ct S2 => whl p body n S2
      | .bk S2 => .nx S2
      | .rt d S2 => .rt d S2
      | .er e S2 => .er e S2
      | .no => .no) else .nx S1
def whileS (fuel : Ms → Nat) (p : Ms → R Bool) (body : Ms → O) : Ms → O := fun S => whl p body (fuel S) S
theorem ds_while {fuel : Ms → Nat} {p : Ms → R Bool} {body : List Stmt} (hp : PassesOwn (model X.prog X.w) X.A X.env X.xe) (hc : PT X c (tT X.K W p)) (hb : PSs X body (sD X.K W m)) : PS X (.While c body [] pos) (sD X.K W (whileS fuel p m)) := monoS (ps_while hp hc hb) fun D σ H q => by
  obtain ⟨B, F, as, S, r, o⟩ := q
  refine ⟨fun n σ' H' => ∃ F2 as2 S2, Rep X.K B F2 H' as2 σ' S2 ∧ OutS X.K W B F2 as2 (whl p m n S2) D, ⟨fuel S, F, as, S, r, o⟩, ?_⟩
  rintro n σ' H' ⟨F2, as2, S2, r2, o2⟩
  cases n with
  | zero => exact o2.elim
  | succ n =>
    unfold whl at o2
    refine ⟨B, F2, as2, S2, r2, Out.mono (OutS.stmt o2) fun b F3 H3 as3 S3 ⟨r3, e3, o3⟩ => ?_⟩
    cases b with
    | true =>
      show ∃ N : L2.St → Hp → Prop, _
      refine ⟨fun σ4 H4 => ∃ F2 as2 S2, Rep X.K B F2 H4 as2 σ4 S2 ∧ OutS X.K W B F2 as2 (whl p m n S2) D, fun σ4 H4 h => ⟨n, Nat.lt_succ_self n, h⟩, ?_⟩
      refine ⟨B, F3, as3, S3, r3, ?_⟩
      simp only [if_true] at o3
      revert o3
      cases m S3 with
      | nx S4 => exact fun o3 σ5 F5 H5 as5 e5 r5 => ⟨F5, as5, S4, r5, OutS.ext o3 e5⟩
      | ct S4 => exact fun o3 σ5 F5 H5 as5 e5 r5 => ⟨F5, as5, S4, r5, OutS.ext o3 e5⟩
      | bk S4 => exact fun o3 σ5 F5 H5 as5 e5 r5 => o3 σ5 F5 H5 as5 e5 r5
      | rt d S4 => exact fun o3 => o3
      | er e S4 => exact fun o3 => o3
      | no => exact fun o3 => o3
    | false => exact o3 _ _ _ _ Ext.refl r3
end
end Lq

namespace Lq
open PySem PySem.Spec PyProof.Rows L2
open Evl (Ex)
inductive Fo where | ok (d : Dt) | er (e : Er) | no
inductive FoM where | ok (d : Dt) (xs : List Dt) | er (e : Er) (xs : List Dt) | no
def Kept (B F' H' : Hp) : Prop := ∀ a o, B a = some o → H' a = some o ∧ F' a = none ∧ NT o
def spD (K : PySem.W.Frag) (n : Nat) (f : List Dt → Fo) : Sp := fun vs H Q E => ∃ B F ds, ds.length = n ∧ Ex F H ∧ Kept B F H ∧ RpA K F vs ds ∧ match f ds with
  | .ok d => ∀ v F' H', Ex F F' → Ex F' H' → Kept B F' H' → Rp K F' v d → Q v H'
  | .er e => ∀ F' H' dx fs, Ex F F' → Ex F' H' → Kept B F' H' → DictR H' dx fs → fs.map (·.1) = e.ks → RpA K F' (fs.map (·.2)) e.ds → E (.ref e.C) dx H'
  | .no => False
def spM (K : PySem.W.Frag) (n : Nat) (f : List Dt → List Dt → FoM) : Sp := fun vs H Q E => ∃ B F a ws xs vs' ds, vs = .ref a :: vs' ∧ ds.length = n ∧ Ex F H ∧ Kept B F H ∧ B a = none ∧ F a = none ∧ H a = some (.lst ws) ∧ RpA K F ws xs ∧ RpA K F vs' ds ∧ match f xs ds with
  | .ok d ys => ∀ v F' H' us, Ex F F' → Ex F' H' → Kept B F' H' → F' a = none → H' a = some (.lst us) → RpA K F' us ys → Rp K F' v d → Q v H'
  | .er e ys => ∀ F' H' us dx fs, Ex F F' → Ex F' H' → Kept B F' H' → F' a = none → H' a = some (.lst us) → RpA K F' us ys → DictR H' dx fs → fs.map (·.1) = e.ks → RpA K F' (fs.map (·.2)) e.ds → E (.ref e.C) dx H'
  | .no => False

def O.fo : O → Fo | .nx _ => .ok .non | .rt d _ => .ok d | .er e _ => .er e | _ => .no
def st0 (n : Nat) (ds : List Dt) : Ms := { sl := ds.map Sv.im ++ List.replicate (n - ds.length) .no, mo := [] }
def runD (n : Nat) (m : Ms → O) (ds : List Dt) : Fo := (m (st0 n ds)).fo
def mo0 (S : Ms) : Option (List Dt) := match S.mo[0]? with | some (Mo.ob (.ls xs)) => some xs | _ => none
def O.foM : O → FoM
  | .nx S => (match mo0 S with | some xs => .ok .non xs | none => .no)
  | .rt d S => (match mo0 S with | some xs => .ok d xs | none => .no)
  | .er e S => (match mo0 S with | some xs => .er e xs | none => .no)
  | _ => .no
def stM (n : Nat) (xs ds : List Dt) : Ms := { sl := .mu 0 :: (ds.map Sv.im ++ List.replicate (n - 1 - ds.length) .no), mo := [.ob (.ls xs)] }
def runM (n : Nat) (m : Ms → O) (xs ds : List Dt) : FoM := (m (stM n xs ds)).foM

theorem paired_im {K : PySem.W.Frag} {F : Hp} {as : List Addr} : ∀ {vs : List V} {ds : List Dt}, RpA K F vs ds → ∀ {l : List (Option V)} {r : List Sv}, Paired (SvR K F as) l r → Paired (SvR K F as) (vs.map some ++ l) (ds.map Sv.im ++ r)
  | _, _, .nil, _, _, h => h
  | _, _, .cons h1 h2, _, _, h => .cons h1 (paired_im h2 h)
theorem paired_no {K : PySem.W.Frag} {F : Hp} {as : List Addr} : ∀ n : Nat, Paired (SvR K F as) (List.replicate n none) (List.replicate n Sv.no)
  | 0 => .nil
  | n + 1 => .cons trivial (paired_no n)
section
variable {P : Program} {w : World} {K : PySem.W.Frag} {mg : Str → Option Value} {base : Heap}
theorem defOk {x qual : Str} {st : Stmt} {f : Addr} {fd : FuncData} {N ps : List Str} {k : Nat} {m : Ms → O} (F : Fun K x qual st f fd) (S : FnScope N ps (defScope st))
    (hbody : ∀ (cdv : Value) (A : Around) (outer : List Env) (s : Shared) (H : Hp) (E : XK), Room k (A.deeper (envOfC qual (defScope st) s.heap.objs.size f cdv)) →
      PSs (cxOf (L2.CX P w) P w K mg base N qual (defScope st) f cdv A outer s H E) (defBody st) (sD K (fun cls d _ H' => E cls d H') m)) :
    FnOk P w K mg base (L2.CX P w) (k + 1) f fd ps (spD K ps.length (runD N.length m)) := by
  refine F.okX S (fun vs H Q E h => ?_) (fun cdv A outer s H vs Q E hr h => ⟨_, hbody cdv A outer s H E hr, ?_⟩)
  · obtain ⟨B, F, ds, hn, _, _, hv, _⟩ := h
    rw [hv.length, hn]
  · obtain ⟨B, F, ds, hn, e, kp, hv, q⟩ := h
    refine ⟨B, F, [], st0 N.length ds, ⟨e, kp, ?_, .nil, List.nodup_nil⟩, ?_⟩
    · unfold L2.start st0
      rw [hv.length]
      exact paired_im hv (paired_no _)
    · unfold runD at q
      revert q
      cases m (st0 N.length ds) with
      | nx S' => exact fun q σ' F' H' as' e' r => q .non F' H' e'.1 r.fh r.bh .non
      | rt d S' => exact fun q σ' F' H' as' v e' r hv => q v F' H' e'.1 r.fh r.bh hv
      | er e S' => exact fun q σ' F' H' as' dx fs e' r => q F' H' dx fs e'.1 r.fh r.bh
      | bk S' => exact fun q => q.elim
      | ct S' => exact fun q => q.elim
      | no => exact fun q => q
theorem defOkM {x qual : Str} {st : Stmt} {f : Addr} {fd : FuncData} {N ps : List Str} {p0 : Str} {k : Nat} {m : Ms → O} (F : Fun K x qual st f fd) (S : FnScope N (p0 :: ps) (defScope st))
    (hbody : ∀ (cdv : Value) (A : Around) (outer : List Env) (s : Shared) (H : Hp) (E : XK), Room k (A.deeper (envOfC qual (defScope st) s.heap.objs.size f cdv)) →
      PSs (cxOf (L2.CX P w) P w K mg base N qual (defScope st) f cdv A outer s H E) (defBody st) (sD K (fun cls d _ H' => E cls d H') m)) :
    FnOk P w K mg base (L2.CX P w) (k + 1) f fd (p0 :: ps) (spM K ps.length (runM N.length m)) := by
  refine F.okX S (fun vs H Q E h => ?_) (fun cdv A outer s H vs Q E hr h => ⟨_, hbody cdv A outer s H E hr, ?_⟩)
  · obtain ⟨B, F, a, ws, xs, vs', ds, rfl, hn, _, _, _, _, _, _, hv, _⟩ := h
    rw [List.length_cons, List.length_cons, hv.length, hn]
  · obtain ⟨B, F, a, ws, xs, vs', ds, rfl, hn, e, kp, b0, f0, ha, hw, hv, q⟩ := h
    have hend : ∀ {F' H' : Hp} {as' : List Addr} {σ' : L2.St} {S' : Ms} {ys : List Dt}, Ext F F' [a] as' → Rep K B F' H' as' σ' S' → mo0 S' = some ys → F' a = none ∧ ∃ us, H' a = some (.lst us) ∧ RpA K F' us ys := by
      intro F' H' as' σ' S' ys e' r hm
      obtain ⟨_, t, rfl⟩ := e'
      unfold mo0 at hm
      cases h0 : S'.mo[0]? with
      | none => rw [h0] at hm; cases hm
      | some mm =>
        rw [h0] at hm
        cases mm with
        | ob c =>
         cases c with
         | dc kvs => cases hm
         | io _ _ _ => cases hm
         | ls zs =>
          cases hm
          obtain ⟨p, hp, q1, q2, ob, q3, q4⟩ := pairedGet r.mo h0
          cases hp
          cases q4
          exact ⟨q2, _, q3, by assumption⟩
        | fz d => cases hm
    refine ⟨B, F, [a], stM N.length xs ds, ⟨e, kp, ?_, .cons ⟨b0, f0, _, ha, .ls hw⟩ .nil, by simp⟩, ?_⟩
    · have hl : ps.length + 1 ≤ N.length := by
        have := congrArg List.length S.pre
        rw [List.length_take, List.length_cons] at this
        omega
      unfold L2.start stM
      rw [List.map_cons, List.length_cons, hv.length]
      have e2 : N.length - (ds.length + 1) = N.length - 1 - ds.length := by omega
      rw [e2]
      exact .cons ⟨a, rfl, rfl⟩ (paired_im hv (paired_no _))
    · unfold runM at q
      revert q
      cases m (stM N.length xs ds) with
      | nx S' =>
        intro q
        unfold O.foM at q
        dsimp only at q
        cases hm : mo0 S' with
        | none => rw [hm] at q; exact q.elim
        | some ys =>
          rw [hm] at q
          intro σ' F' H' as' e' r
          obtain ⟨z1, us, z2, z3⟩ := hend e' r hm
          exact q .non F' H' us e'.1 r.fh r.bh z1 z2 z3 .non
      | rt d S' =>
        intro q
        unfold O.foM at q
        dsimp only at q
        cases hm : mo0 S' with
        | none => rw [hm] at q; exact q.elim
        | some ys =>
          rw [hm] at q
          intro σ' F' H' as' v e' r hv
          obtain ⟨z1, us, z2, z3⟩ := hend e' r hm
          exact q v F' H' us e'.1 r.fh r.bh z1 z2 z3 hv
      | er e S' =>
        intro q
        unfold O.foM at q
        dsimp only at q
        cases hm : mo0 S' with
        | none => rw [hm] at q; exact q.elim
        | some ys =>
          rw [hm] at q
          intro σ' F' H' as' dx fs e' r
          obtain ⟨z1, us, z2, z3⟩ := hend e' r hm
          exact q F' H' us dx fs e'.1 r.fh r.bh z1 z2 z3
      | bk S' => exact fun q => q.elim
      | ct S' => exact fun q => q.elim
      | no => exact fun q => q.elim
end
theorem FnOk.toF {P : Program} {w : World} {K : PySem.W.Frag} {mg : Str → Option Value} {base : Heap} {CX : CXT} {k : Nat} {f : Addr} {fd : FuncData} {ps : List Str} {n : Nat} {g h : List Dt → Fo} (F : FnOk P w K mg base CX k f fd ps (spD K n g)) (e : ∀ ds, h ds ≠ .no → g ds = h ds) :
    FnOk P w K mg base CX k f fd ps (spD K n h) := F.imp fun vs H Q E ⟨B, F, ds, hn, h1, h2, h3, h4⟩ => ⟨B, F, ds, hn, h1, h2, h3, by
      have : h ds ≠ .no := by intro z; rw [z] at h4; exact h4
      rw [e ds this]
      exact h4⟩
theorem FnOk.toM {P : Program} {w : World} {K : PySem.W.Frag} {mg : Str → Option Value} {base : Heap} {CX : CXT} {k : Nat} {f : Addr} {fd : FuncData} {ps : List Str} {n : Nat} {g h : List Dt → List Dt → FoM} (F : FnOk P w K mg base CX k f fd ps (spM K n g)) (e : ∀ xs ds, h xs ds ≠ .no → g xs ds = h xs ds) :
    FnOk P w K mg base CX k f fd ps (spM K n h) := F.imp fun vs H Q E ⟨B, F, a, ws, xs, vs', ds, h1, h2, h3, h4, h5, h6, h7, h8, h9, h10⟩ => ⟨B, F, a, ws, xs, vs', ds, h1, h2, h3, h4, h5, h6, h7, h8, h9, by
      have : h xs ds ≠ .no := by intro z; rw [z] at h10; exact h10
      rw [e xs ds this]
      exact h10⟩

def holdB (B F H : Hp) (as : List Addr) : Hp := fun a => if a ∈ as then (if F a = none then H a else none) else B a
theorem hold_kept {K : PySem.W.Frag} {B F H : Hp} {as : List Addr} {σ : L2.St} {S : Ms} (r : Rep K B F H as σ S) : Kept (holdB B F H as) F H := fun a o h => by
  unfold holdB at h
  split at h
  · split at h
    · rename_i hm q
      obtain ⟨i, hi⟩ := List.mem_iff_getElem?.mp hm
      obtain ⟨m, hmm, z⟩ := pairedGetL r.mo hi
      cases m with
      | ob c =>
        obtain ⟨z1, z2, u, z3, z4⟩ := z
        rw [z3] at h
        cases h
        exact ⟨z3, q, z4.nt⟩
      | fz d =>
        obtain ⟨⟨u, z1⟩, _⟩ := z
        rw [q] at z1; cases z1
    · cases h
  · exact r.bh a o h
theorem hold_back {K : PySem.W.Frag} {B F H F' H' : Hp} {as : List Addr} {σ : L2.St} {S : Ms} (r : Rep K B F H as σ S) (e : Ex F F') (e2 : Ex F' H') (k : Kept (holdB B F H as) F' H') : Rep K B F' H' as σ S := by
  have ee : Ext F F' as as := ⟨e, [], by simp⟩
  refine ⟨e2, fun a o h => ?_, r.sl.mono fun _ _ q => SvR.up q ee, ?_, r.nd⟩
  · refine k a o ?_
    unfold holdB
    split
    · rename_i hm
      obtain ⟨i, hi⟩ := List.mem_iff_getElem?.mp hm
      obtain ⟨m, hmm, z⟩ := pairedGetL r.mo hi
      obtain ⟨b1, b2, _⟩ := r.bh a o h
      cases m with
      | ob ds =>
        obtain ⟨z1, _⟩ := z
        rw [z1] at h; cases h
      | fz d =>
        obtain ⟨⟨u, z1⟩, _⟩ := z
        rw [b2] at z1; cases z1
    · exact h
  · have : ∀ {xs : List Addr} {ys : List Mo}, (∀ a ∈ xs, a ∈ as) → Paired (MoR K B F H) xs ys → Paired (MoR K B F' H') xs ys := by
      intro xs ys hn z
      induction z with
      | nil => exact .nil
      | @cons a b l1 l2 z zs ih =>
        refine .cons ?_ (ih fun a ha => hn a (List.mem_cons_of_mem _ ha))
        cases b with
        | ob ds =>
          obtain ⟨z1, z2, ws, z3, z4⟩ := z
          obtain ⟨q1, q2, _⟩ := k a ws (by unfold holdB; rw [if_pos (hn _ List.mem_cons_self), if_pos z2]; exact z3)
          exact ⟨z1, q2, ws, q1, z4.up e⟩
        | fz d =>
          obtain ⟨⟨u, z1⟩, z2⟩ := z
          exact ⟨⟨u, e _ _ z1⟩, z2.up e⟩
    exact this (fun _ h => h) r.mo
def funE (n : Nat) (fs : Ms → R (List Dt)) (f : List Dt → Fo) : Ms → R Dt := fun S => (fs S).bind fun ds S1 => if ds.length = n then (match f ds with | .ok d => .ok d S1 | .er e => .er e S1 | .no => .no) else .no
section
variable {X : Cx} {W : WX} {e o : Expr} {es : List Expr} {fs : Ms → R (List Dt)} {x : Str} {p pos : Pos} {k n i : Nat} {f : Addr} {fd : FuncData} {ps : List Str} {g : List Dt → Fo} {gm : List Dt → List Dt → FoM}
theorem call_run {K : PySem.W.Frag} {σ : L2.St} {H : Hp} {Q : VK} (q : tD K W (funE n fs g) σ H Q) : tCallS (spD K n g) (WE W) (tA K W fs) σ H Q := by
  obtain ⟨B, F, as, S, r, o⟩ := q
  refine ⟨B, F, as, S, r, Out.mono (Out.bind o) fun ds F1 H1 as1 S1 ⟨r1, e1, o1⟩ vs hv => ?_⟩
  split at o1
  · rename_i hn
    refine ⟨holdB B F1 H1 as1, F1, ds, hn, r1.fh, hold_kept r1, hv, ?_⟩
    cases hg : g ds with
    | ok d =>
      rw [hg] at o1
      exact fun v F' H' ee eh kp hv' => o1 F' H' as1 ⟨ee, [], by simp⟩ (hold_back r1 ee eh kp) v hv'
    | er x =>
      rw [hg] at o1
      exact fun F' H' dx fs ee eh kp h1 h2 h3 => o1 F' H' as1 dx fs ⟨ee, [], by simp⟩ (hold_back r1 ee eh kp) h1 h2 h3
    | no => rw [hg] at o1; exact o1.elim
  · exact o1.elim
theorem de_call (G : FnOk X.prog X.w X.K X.mg X.base (L2.CX X.prog X.w) k f fd ps (spD X.K n g)) (tk : Takes X W) (hr : Room k X.A) (hg : Gl X x) (hm : X.mg x = some (.ref f)) (hk : PySem.W.keepIn X.K (.ref f) = true) (hb : Binds X.K fd ps [])
    (ha : PA X (e :: es) (tA X.K W fs)) (hdb : (x == ("__debug__" : Str)) = false := by decide) (he : starEach (e :: es) X.env = (false, eval e X.env) :: starEach es X.env := by rfl) (hpl : (backTo pos (starEach es X.env)).any (·.1) = false := by rfl) :
    PE X (.Call (.Name x p) (e :: es) [] pos) (tD X.K W (funE n fs g)) := monoE (pe_callS G hr hg hm hk hb (fun σ => passAt tk σ) ha hdb he hpl) fun σ H Q q => call_run q
def funM (n : Nat) (i : Nat) (fs : Ms → R (List Dt)) (f : List Dt → List Dt → FoM) : Ms → R Dt := fun S => match muAt S i with
  | none => .no
  | some _ => (fs S).bind fun ds S1 => match muAt S1 i with
    | some (k, xs) => if ds.length = n then (match f xs ds with | .ok d ys => .ok d { S1 with mo := S1.mo.set k (.ob (.ls ys)) } | _ => .no) else .no
    | none => .no
theorem callM_run {K : PySem.W.Frag} {σ : L2.St} {H : Hp} {Q : VK} (q : tD K W (funM n i fs gm) σ H Q) : tCallS (spM K n gm) (WE W) (tCons (tVar i) (tA K W fs)) σ H Q := by
  obtain ⟨B, F, as, S, r, o⟩ := q
  unfold funM at o
  cases hm0 : muAt S i with
  | none => rw [hm0] at o; exact o.elim
  | some km =>
    rw [hm0] at o
    obtain ⟨k0, xs0⟩ := km
    obtain ⟨p, vs0, hp, hmo0, hp0, _, _, hH0, hv0⟩ := muAt_rp r hm0
    refine ⟨_, hp, ?_⟩
    refine ⟨B, F, as, S, r, Out.mono (Out.bind o) fun ds F1 H1 as1 S1 ⟨r1, e1, o1⟩ vs hv => ?_⟩
    cases hm : muAt S1 i with
    | none => rw [hm] at o1; exact o1.elim
    | some km =>
      rw [hm] at o1
      obtain ⟨k, xs⟩ := km
      obtain ⟨p', ws, hp', hmo, ha, hB, hF, hH, hws⟩ := muAt_rp r1 hm
      rw [hp] at hp'
      cases hp'
      dsimp only at o1
      split at o1
      · rename_i hn
        have hin : p ∈ as1 := List.mem_of_getElem? ha
        -- what is held besides
        refine ⟨fun a => if a = p then none else holdB B F1 H1 as1 a, F1, p, ws, xs, vs, ds, rfl, hn, r1.fh, fun a u hu => ?_, if_pos rfl, hF, hH, hws, hv, ?_⟩
        · dsimp only at hu
          by_cases q : a = p
          · rw [if_pos q] at hu; cases hu
          · rw [if_neg q] at hu
            exact hold_kept r1 a u hu
        · cases hg : gm xs ds with
          | ok d ys =>
            rw [hg] at o1
            intro v F' H' us ee eh kp fa ha' hus hv'
            dsimp only at o1
            have ex : Ext F1 F' as1 as1 := ⟨ee, [], by simp⟩
            refine o1 F' H' as1 ex ⟨eh, fun a u hu => ?_, r1.sl.mono fun _ _ q => SvR.up q ex, ?_, r1.nd⟩ v hv'
            · have hne : a ≠ p := by
                rintro rfl
                rw [hB] at hu; cases hu
              refine kp a u ?_
              show (if a = p then none else holdB B F1 H1 as1 a) = _
              rw [if_neg hne]
              unfold holdB
              split
              · rename_i hm2
                obtain ⟨j, hj⟩ := List.mem_iff_getElem?.mp hm2
                obtain ⟨mm, hmm, z⟩ := pairedGetL r1.mo hj
                obtain ⟨b1, b2, _⟩ := r1.bh a u hu
                cases mm with
                | ob ds =>
                  obtain ⟨z1, _⟩ := z
                  rw [z1] at hu; cases hu
                | fz d =>
                  obtain ⟨⟨u', z1⟩, _⟩ := z
                  rw [b2] at z1; cases z1
              · exact hu
            · refine pairedAt k r1.mo (fun j b mm hj hb hmm q => ?_) fun b hb => ?_
              · cases mm with
                | ob ds =>
                  obtain ⟨z1, z2, us', z3, z4⟩ := q
                  have hne : b ≠ p := fun z => by
                    subst z
                    exact hj (nd_ix r1.nd hb ha)
                  obtain ⟨q1, q2, _⟩ := kp b us' (by
                    show (if b = p then none else holdB B F1 H1 as1 b) = _
                    rw [if_neg hne]
                    unfold holdB
                    rw [if_pos (List.mem_of_getElem? hb), if_pos z2]
                    exact z3)
                  exact ⟨z1, q2, us', q1, z4.up ee⟩
                | fz d =>
                  obtain ⟨⟨u', z1⟩, z2⟩ := q
                  exact ⟨⟨u', ee _ _ z1⟩, z2.up ee⟩
              · rw [ha] at hb
                cases hb
                exact ⟨hB, fa, _, ha', .ls hus⟩
          | er x ys => rw [hg] at o1; exact o1.elim
          | no => rw [hg] at o1; exact o1.elim
      · exact o1.elim
theorem de_callM (G : FnOk X.prog X.w X.K X.mg X.base (L2.CX X.prog X.w) k f fd ps (spM X.K n gm)) (tk : Takes X W) (hr : Room k X.A) (hg : Gl X x) (hm : X.mg x = some (.ref f)) (hk : PySem.W.keepIn X.K (.ref f) = true) (hb : Binds X.K fd ps [])
    (ho : PE X o (tVar i)) (ha : PA X es (tA X.K W fs)) (hs : starEach (o :: es) X.env = (false, eval o X.env) :: starEach es X.env := by rfl) (hdb : (x == ("__debug__" : Str)) = false := by decide) (hpl : (backTo pos (starEach es X.env)).any (·.1) = false := by rfl) :
    PE X (.Call (.Name x p) (o :: es) [] pos) (tD X.K W (funM n i fs gm)) := monoE (pe_callS G hr hg hm hk hb (fun σ => passAt tk σ) (pa_cons ho ha hs) hdb hs hpl) fun σ H Q q => callM_run q
end
end Lq

namespace Lq
open PySem PySem.Spec PyProof.Rows L2
open Evl (Ex)
def Cal (P : Program) (w : World) (K : PySem.W.Frag) (mg : Str → Option Value) (base : Heap) (x : Str) (k : Nat) (ps : List Str) (sp : Sp) : Prop :=
  ∃ f fd, FnOk P w K mg base (L2.CX P w) k f fd ps sp ∧ mg x = some (.ref f) ∧ PySem.W.keepIn K (.ref f) = true ∧ Binds K fd ps []
theorem hu65_of {A : Around} {k : Nat} (hr : Room k A) : A.units + 65 < cLine := by have := hr.un; omega
section
variable {X : Cx} {W : WX} {e o : Expr} {es : List Expr} {fs : Ms → R (List Dt)} {x : Str} {p pos : Pos} {j k n i : Nat} {ps : List Str} {g : List Dt → Fo} {gm : List Dt → List Dt → FoM}
theorem de_cal (c : Cal X.prog X.w X.K X.mg X.base x k ps (spD X.K n g)) (tk : Takes X W) (hr : Room j X.A) (hk : k ≤ j) (hg : Gl X x)
    (ha : PA X (e :: es) (tA X.K W fs)) (hdb : (x == ("__debug__" : Str)) = false := by decide) (he : starEach (e :: es) X.env = (false, eval e X.env) :: starEach es X.env := by rfl) (hpl : (backTo pos (starEach es X.env)).any (·.1) = false := by rfl) :
    PE X (.Call (.Name x p) (e :: es) [] pos) (tD X.K W (funE n fs g)) := by
  obtain ⟨f, fd, G, hm, kp, hb⟩ := c
  exact de_call G tk (hr.mono hk) hg hm kp hb ha hdb he hpl
theorem de_calM (c : Cal X.prog X.w X.K X.mg X.base x k ps (spM X.K n gm)) (tk : Takes X W) (hr : Room j X.A) (hk : k ≤ j) (hg : Gl X x)
    (ho : PE X o (tVar i)) (ha : PA X es (tA X.K W fs)) (hs : starEach (o :: es) X.env = (false, eval o X.env) :: starEach es X.env := by rfl) (hdb : (x == ("__debug__" : Str)) = false := by decide) (hpl : (backTo pos (starEach es X.env)).any (·.1) = false := by rfl) :
    PE X (.Call (.Name x p) (o :: es) [] pos) (tD X.K W (funM n i fs gm)) := by
  obtain ⟨f, fd, G, hm, kp, hb⟩ := c
  exact de_callM G tk (hr.mono hk) hg hm kp hb ho ha hs hdb hpl
end
end Lq

namespace Lq
open PySem PySem.Spec PyProof.Rows L2
open Evl (Ex)
def Wd (ns : List Int) : Dt := .tup (ns.map .int)
def wordOf : Dt → Option (List Int) | .tup ds => intsOf ds | _ => none
theorem wordOf_eq {d : Dt} {ns : List Int} (h : wordOf d = some ns) : d = Wd ns := by
  cases d <;> simp only [wordOf] at h <;> try cases h
  rw [intsOf_eq h]; rfl
@[simp] theorem wordOf_Wd (ns : List Int) : wordOf (Wd ns) = some ns := intsOf_map ns
def asgM (i : Nat) (f : Ms → R Ob) : Ms → O := fun S => (f S).stmt fun c S1 => .nx { sl := S1.sl.set i (.mu S1.mo.length), mo := S1.mo ++ [.ob c] }
section
variable {X : Cx} {W : WX} {e : Expr} {pos pos' : Pos} {x : Str} {i : Nat} {fm : Ms → R Ob} {f g : Ms → R Dt}
end
end Lq

namespace HT
open PySem PySem.Spec PyProof.Rows L2
section
variable {prog : Program} {w : World} {A : Around} {E : Value → Shared → Prop} {s : Shared}
end
end HT
namespace Lq
open PySem PySem.Spec PyProof.Rows L2
open Evl (Ex)
section
variable {X : Cx} {W : WX} {e : Expr} {pos pos' : Pos} {x : Str} {i : Nat} {f g : Ms → R Dt}
def revO : Dt → Option Dt | .tup xs => some (.tup xs.reverse) | _ => none
end

section
variable {X : Cx} {W : WX}
def wordsOf : List Dt → Option (List (List Int))
  | [] => some []
  | d :: ds => match wordOf d, wordsOf ds with | some w, some ws => some (w :: ws) | _, _ => none
@[simp] theorem wordsOf_map : ∀ ws : List (List Int), wordsOf (ws.map Wd) = some ws
  | [] => rfl
  | w :: ws => by
    have := wordsOf_map ws
    simp [wordsOf, this]
end
end Lq

namespace Lq
open PySem PySem.Spec PyProof.Rows L2
class En (α : Type) [DecidableEq α] where
  en : α → Dt
  eqv : ∀ a b, PyData.eqv (toPy (en a)) (toPy (en b)) = decide (a = b)
  pl : ∀ a, plain (en a) = true
  lay : ∀ a, (toPy (en a)).canLay0 = true
  dep : Nat
  depth : ∀ a, (toPy (en a)).depth ≤ dep
open En (en)
section
variable {α β : Type} [DecidableEq α] [En α] [DecidableEq β] [En β]
theorem bdec {α : Type} [BEq α] [LawfulBEq α] [DecidableEq α] (a b : α) : (a == b) = decide (a = b) := by
  rw [Bool.eq_iff_iff, beq_iff_eq, decide_eq_true_eq]
instance : En Int where
  en := .int
  eqv a b := by simp only [toPy, PyData.eqv]; exact bdec a b
  pl _ := by simp [plain]
  lay _ := by simp [toPy, PyData.canLay0]
  dep := 0
  depth _ := by simp [toPy, PyData.depth]
instance : En Bool where
  en := .bl
  eqv a b := by simp only [toPy, PyData.eqv]; exact bdec a b
  pl _ := by simp [plain]
  lay _ := by simp [toPy, PyData.canLay0]
  dep := 0
  depth _ := by simp [toPy, PyData.depth]
theorem plains_all : ∀ xs : List α, plains (xs.map en) = true
  | [] => by simp [plains]
  | x :: xs => by rw [List.map_cons, plains, En.pl x, plains_all xs]; rfl
theorem lays_all : ∀ xs : List α, PyData.canLayAll0 (toPys (xs.map en)) = true
  | [] => by simp [toPys, PyData.canLayAll0]
  | x :: xs => by rw [List.map_cons, toPys, PyData.canLayAll0, En.lay x, lays_all xs]; rfl
theorem deps_all : ∀ xs : List α, PyData.depthAll (toPys (xs.map en)) ≤ En.dep α
  | [] => by simp [toPys, PyData.depthAll]
  | x :: xs => by
    rw [List.map_cons, toPys, PyData.depthAll]
    exact Nat.max_le.mpr ⟨En.depth x, deps_all xs⟩
theorem eqvs_all : ∀ xs ys : List α, PyData.eqvAll (toPys (xs.map en)) (toPys (ys.map en)) = decide (xs = ys)
  | [], [] => by simp [toPys, PyData.eqvAll]
  | [], _ :: _ => by simp [toPys, PyData.eqvAll]
  | _ :: _, [] => by simp [toPys, PyData.eqvAll]
  | x :: xs, y :: ys => by
    rw [List.map_cons, List.map_cons, toPys, toPys, PyData.eqvAll, En.eqv x y, eqvs_all xs ys, ← Bool.decide_and]
    exact decide_eq_decide.mpr (by rw [List.cons.injEq])
instance : En (List α) where
  en xs := .tup (xs.map en)
  eqv a b := by rw [toPy, toPy, PyData.eqv]; exact eqvs_all a b
  pl a := by rw [plain]; exact plains_all a
  lay a := by rw [toPy, PyData.canLay0]; exact lays_all a
  dep := En.dep α + 1
  depth a := by
    rw [toPy, PyData.depth]
    have := deps_all a
    omega
structure Ls (α : Type) where
  l : List α
  deriving DecidableEq
instance : En (Ls α) where
  en xs := .lst (xs.l.map en)
  eqv a b := by
    rw [toPy, toPy, PyData.eqv, eqvs_all]
    exact decide_eq_decide.mpr ⟨fun h => by cases a; cases b; simpa using h, fun h => by rw [h]⟩
  pl a := by rw [plain]; exact plains_all a.l
  lay a := by rw [toPy, PyData.canLay0]; exact lays_all a.l
  dep := En.dep α + 1
  depth a := by
    rw [toPy, PyData.depth]
    have := deps_all a.l
    omega
instance : En (α × β) where
  en p := .tup [en p.1, en p.2]
  eqv a b := by
    rw [toPy, toPy, PyData.eqv]
    simp only [toPys, PyData.eqvAll, En.eqv, Bool.and_true]
    rw [← Bool.decide_and]
    exact decide_eq_decide.mpr (by rw [Prod.ext_iff])
  pl p := by simp [plain, plains, En.pl]
  lay p := by simp [toPy, toPys, PyData.canLay0, PyData.canLayAll0, En.lay]
  dep := max (En.dep α) (En.dep β) + 1
  depth p := by
    have h1 := En.depth p.1
    have h2 := En.depth p.2
    simp only [toPy, toPys, PyData.depth, PyData.depthAll]
    omega
theorem shp_en (h : En.dep α ≤ 64 := by decide) (a : α) : shp (en a) = true := by
  have h1 := En.depth a
  unfold shp SeqAt.shaped
  rw [En.pl, En.lay]
  simp only [Bool.true_and, decide_eq_true_eq]
  omega
theorem eqO_en (a b : α) (h : En.dep α ≤ 64 := by decide) : eqO (en a) (en b) = some (.bl (decide (a = b))) := by
  unfold eqO
  rw [shp_en h a, shp_en h b, En.eqv]
  rfl
theorem neO_en (a b : α) (h : En.dep α ≤ 64 := by decide) : neO (en a) (en b) = some (.bl (!decide (a = b))) := by
  unfold neO
  rw [shp_en h a, shp_en h b, En.eqv]
  rfl
end
@[simp] theorem eqO_int (a b : Int) : eqO (.int a) (.int b) = some (.bl (decide (a = b))) := eqO_en a b
@[simp] theorem neO_int (a b : Int) : neO (.int a) (.int b) = some (.bl (!decide (a = b))) := neO_en a b
theorem nrfl {α : Type} {a b : α} (h : a = b) : a = b := h
@[simp] theorem cE_run (d : Dt) (S : Ms) : cE d S = .ok d S := nrfl rfl
@[simp] theorem varE_im {i : Nat} {S : Ms} {d : Dt} (h : S.sl[i]? = some (.im d)) : varE i S = .ok d S := by unfold varE; rw [h]
@[simp] theorem varE_mu {i k : Nat} {S : Ms} {xs : List Dt} (h : S.sl[i]? = some (.mu k)) (h2 : S.mo[k]? = some (.ob (.ls xs))) : varE i S = .ok (.lst xs) { S with mo := S.mo.set k (.fz (.lst xs)) } := by unfold varE; rw [h]; dsimp only; rw [h2]
@[simp] theorem frz_run' (f : Ms → R (List Dt)) (S : Ms) : frz f S = (f S).bind fun ds S1 => .ok (.lst ds) S1 := nrfl rfl
@[simp] theorem op2_run (f g : Ms → R Dt) (h : Dt → Dt → Option Dt) (S : Ms) : op2 f g h S = (f S).bind fun d S1 => (g S1).bind fun e S2 => R.of (h d e) S2 := nrfl rfl
@[simp] theorem opN_run (f g : Ms → R Dt) (h : Dt → Dt → Option (List Dt)) (S : Ms) : opN f g h S = (f S).bind fun d S1 => (g S1).bind fun e S2 => R.of (h d e) S2 := nrfl rfl
@[simp] theorem op1_run (f : Ms → R Dt) (h : Dt → Option Dt) (S : Ms) : op1 f h S = (f S).bind fun d S1 => R.of (h d) S1 := nrfl rfl
@[simp] theorem iOp_ii (g : Int → Int → Int) (i j : Int) : iOp g (.int i) (.int j) = some (.int (g i j)) := nrfl rfl
@[simp] theorem iOpC_ii (C : Int → Int → Prop) [∀ i j, Decidable (C i j)] (g : Int → Int → Int) (i j : Int) : iOpC C g (.int i) (.int j) = if C i j then some (.int (g i j)) else none := nrfl rfl
@[simp] theorem iCmp_ii (g : Int → Int → Bool) (i j : Int) : iCmp g (.int i) (.int j) = some (.bl (g i j)) := nrfl rfl
@[simp] theorem negO_i (i : Int) : negO (.int i) = some (.int (-i)) := nrfl rfl
@[simp] theorem ixO_lst (xs : List Dt) (i : Int) : ixO (.lst xs) (.int i) = atI xs i := nrfl rfl
@[simp] theorem ixO_tup (xs : List Dt) (i : Int) : ixO (.tup xs) (.int i) = atI xs i := nrfl rfl
@[simp] theorem aNil_run (S : Ms) : aNil S = .ok [] S := nrfl rfl
@[simp] theorem aCons_run (f : Ms → R Dt) (fs : Ms → R (List Dt)) (S : Ms) : aCons f fs S = (f S).bind fun d S1 => (fs S1).bind fun ds S2 => .ok (d :: ds) S2 := nrfl rfl
@[simp] theorem tupE_run (fs : Ms → R (List Dt)) (S : Ms) : tupE fs S = (fs S).bind fun ds S1 => if ds.length ≤ 100000 then .ok (.tup ds) S1 else .no := nrfl rfl
@[simp] theorem lstE_run (fs : Ms → R (List Dt)) (S : Ms) : lstE fs S = (fs S).bind fun ds S1 => if ds.length ≤ 100000 then .ok ds S1 else .no := nrfl rfl
@[simp] theorem calE_run (fs : Ms → R (List Dt)) (h : List Dt → Option Dt) (S : Ms) : calE fs h S = (fs S).bind fun ds S1 => R.of (h ds) S1 := nrfl rfl
@[simp] theorem calN_run (fs : Ms → R (List Dt)) (h : List Dt → Option (List Dt)) (S : Ms) : calN fs h S = (fs S).bind fun ds S1 => R.of (h ds) S1 := nrfl rfl
@[simp] theorem tst_run' (f : Ms → R Dt) (S : Ms) : tst f S = (f S).bind fun d S1 => match d with | .bl b => .ok b S1 | _ => .no := nrfl rfl
@[simp] theorem notT_run (p : Ms → R Bool) (S : Ms) : notT p S = (p S).bind fun b S1 => .ok (!b) S1 := nrfl rfl
@[simp] theorem andT_run (p q : Ms → R Bool) (S : Ms) : andT p q S = (p S).bind fun b S1 => if b then q S1 else .ok false S1 := nrfl rfl
@[simp] theorem orT_run (p q : Ms → R Bool) (S : Ms) : orT p q S = (p S).bind fun b S1 => if b then .ok true S1 else q S1 := nrfl rfl
@[simp] theorem truT_run (f : Ms → R Dt) (S : Ms) : truT f S = (f S).bind fun d S1 => R.of (truO d) S1 := nrfl rfl
@[simp] theorem andV_run (f g : Ms → R Dt) (S : Ms) : andV f g S = (f S).bind fun d S1 => match d with | .bl true => g S1 | .bl false => .ok (.bl false) S1 | _ => .no := nrfl rfl
@[simp] theorem orV_run (f g : Ms → R Dt) (S : Ms) : orV f g S = (f S).bind fun d S1 => match d with | .bl false => g S1 | .bl true => .ok (.bl true) S1 | _ => .no := nrfl rfl
@[simp] theorem yesT_run (S : Ms) : yesT S = .ok true S := nrfl rfl
@[simp] theorem itS_run (f : Ms → R Dt) (S : Ms) : itS f S = (f S).bind fun d S1 => R.of (seqOf d) S1 := nrfl rfl
@[simp] theorem seqOf_lst (xs : List Dt) : seqOf (.lst xs) = some xs := nrfl rfl
@[simp] theorem seqOf_tup (xs : List Dt) : seqOf (.tup xs) = some xs := nrfl rfl
theorem itR1_run {fs : Ms → R (List Dt)} {S S1 : Ms} {n : Nat} (h : fs S = .ok [.int (n : Int)] S1) (hn : n < 2 ^ 62) : itR1 fs S = .ok ((List.range n).map fun (i : Nat) => Dt.int (i : Int)) S1 := by
  unfold itR1
  rw [h, R.bind_ok]
  dsimp only
  rw [if_pos ⟨by omega, by omega⟩, Int.toNat_natCast]
@[simp] theorem itZ_run (fs : Ms → R (List Dt)) (S : Ms) : itZ fs S = (fs S).bind fun ds S1 => match ds with
  | [.lst xs, .lst ys] => .ok (zipD xs ys) S1
  | [.tup xs, .tup ys] => .ok (zipD xs ys) S1
  | _ => .no := nrfl rfl
@[simp] theorem lenO_lst (xs : List Dt) : lenO [.lst xs] = some (.int xs.length) := nrfl rfl
@[simp] theorem lenO_tup (xs : List Dt) : lenO [.tup xs] = some (.int xs.length) := nrfl rfl
@[simp] theorem intO_i (i : Int) : intO [.int i] = some (.int i) := nrfl rfl
@[simp] theorem intO_b (b : Bool) : intO [.bl b] = some (.int (if b then 1 else 0)) := nrfl rfl
@[simp] theorem absO_i (i : Int) : absO [.int i] = some (.int (if i < 0 then -i else i)) := nrfl rfl
@[simp] theorem tupO_lst (xs : List Dt) : tupO [.lst xs] = some (.tup xs) := nrfl rfl
@[simp] theorem tupO_tup (xs : List Dt) : tupO [.tup xs] = some (.tup xs) := nrfl rfl
@[simp] theorem lstO_lst (xs : List Dt) : lstO [.lst xs] = some xs := nrfl rfl
@[simp] theorem lstO_tup (xs : List Dt) : lstO [.tup xs] = some xs := nrfl rfl
@[simp] theorem revO_tup (xs : List Dt) : revO (.tup xs) = some (.tup xs.reverse) := nrfl rfl
@[simp] theorem seqS_run (m n : Ms → O) (S : Ms) : seqS m n S = (m S).seq n := nrfl rfl
@[simp] theorem nilS_run (S : Ms) : nilS S = .nx S := nrfl rfl
@[simp] theorem seq_nx (s : Ms) (f : Ms → O) : (O.nx s).seq f = f s := nrfl rfl
@[simp] theorem seq_rt (d : Dt) (s : Ms) (f : Ms → O) : (O.rt d s).seq f = .rt d s := nrfl rfl
@[simp] theorem seq_ct (s : Ms) (f : Ms → O) : (O.ct s).seq f = .ct s := nrfl rfl
@[simp] theorem seq_bk (s : Ms) (f : Ms → O) : (O.bk s).seq f = .bk s := nrfl rfl
@[simp] theorem asgS_run' (i : Nat) (f : Ms → R Dt) (S : Ms) : asgS i f S = (f S).stmt fun d S1 => .nx { S1 with sl := S1.sl.set i (.im d) } := nrfl rfl
@[simp] theorem asgN_run' (i : Nat) (f : Ms → R (List Dt)) (S : Ms) : asgN i f S = (f S).stmt fun ds S1 => .nx { sl := S1.sl.set i (.mu S1.mo.length), mo := S1.mo ++ [.ob (.ls ds)] } := nrfl rfl
@[simp] theorem asgM_run' (i : Nat) (f : Ms → R Ob) (S : Ms) : asgM i f S = (f S).stmt fun c S1 => .nx { sl := S1.sl.set i (.mu S1.mo.length), mo := S1.mo ++ [.ob c] } := nrfl rfl
@[simp] theorem asgT_run' (T : Tk) (f : Ms → R Dt) (S : Ms) : asgT T f S = (f S).stmt fun d S1 => match T.k d S1 with | some S2 => .nx S2 | none => .no := nrfl rfl
theorem moveS_im {i j : Nat} {S : Ms} {d : Dt} (h : S.sl[j]? = some (.im d)) : moveS i j S = .nx { S with sl := S.sl.set i (.im d) } := by unfold moveS; rw [h]
@[simp] theorem ifS_run (p : Ms → R Bool) (m n : Ms → O) (S : Ms) : ifS p m n S = (p S).stmt fun b S1 => if b then m S1 else n S1 := nrfl rfl
@[simp] theorem retS_run (f : Ms → R Dt) (S : Ms) : retS f S = (f S).stmt fun d S1 => .rt d S1 := nrfl rfl
@[simp] theorem dropS_run (f : Ms → R Dt) (S : Ms) : dropS f S = (f S).stmt fun _ S1 => .nx S1 := nrfl rfl
@[simp] theorem forS_run (it : Ms → R (List Dt)) (k : Dt → Ms → Option Ms) (b : Ms → O) (S : Ms) : forS it k b S = (it S).stmt fun ds S1 => forL k b ds S1 := nrfl rfl
@[simp] theorem kNm (i : Nat) (d : Dt) (S : Ms) : (Tk.nm i).k d S = some { S with sl := S.sl.set i (.im d) } := nrfl rfl
@[simp] theorem kTp (is : List Nat) (ds : List Dt) (S : Ms) : (Tk.tp is).k (.tup ds) S = kNames is ds S := nrfl rfl
theorem muAt_run {S : Ms} {i k : Nat} {xs : List Dt} (h : S.sl[i]? = some (.mu k)) (h2 : S.mo[k]? = some (.ob (.ls xs))) : muAt S i = some (k, xs) := by unfold muAt; rw [h]; dsimp only; rw [h2]
@[simp] theorem appS_run (i : Nat) (f : Ms → R Dt) (S : Ms) : appS i f S = match muAt S i with
  | none => .no
  | some _ => (f S).stmt fun d S1 => match muAt S1 i with | some (k, xs) => if xs.length < 100000 then .nx { S1 with mo := S1.mo.set k (.ob (.ls (xs ++ [d]))) } else .no | none => .no := nrfl rfl
@[simp] theorem funE_run (n : Nat) (fs : Ms → R (List Dt)) (f : List Dt → Fo) (S : Ms) : funE n fs f S = (fs S).bind fun ds S1 => if ds.length = n then (match f ds with | .ok d => .ok d S1 | .er e => .er e S1 | .no => .no) else .no := nrfl rfl
theorem atI_ofNat {α : Type} (xs : List α) (k : Nat) : atI xs (k : Int) = xs[k]? := by
  cases h : xs[k]? with
  | some v => exact atI_nat h
  | none =>
    have hk := List.getElem?_eq_none_iff.mp h
    unfold atI ixN
    rw [if_pos (by omega), if_neg (by omega)]; rfl

theorem lcF_flt {α : Type} {sl : List Sv} {k : Dt → Ms → Option Ms} {t : Ms → R Bool} {e : Ms → R Dt} {mo : List Mo} (enc : α → Dt) (b : α → Bool) (g : α → Dt) : ∀ (xs : List α) (acc : List Dt),
    (∀ x ∈ xs, ∃ S1 S2, k (enc x) { sl := sl, mo := mo } = some S1 ∧ t S1 = .ok (b x) S2 ∧ S2.mo = mo ∧ (b x = true → ∃ S3, e S2 = .ok (g x) S3 ∧ S3.mo = mo)) → acc.length + xs.length ≤ 100000 →
    lcF sl k t e (xs.map enc) mo acc = .ok (acc ++ (xs.filter b).map g) { sl := sl, mo := mo }
  | [], acc, _, _ => by simp [lcF]
  | x :: xs, acc, h, hl => by
    obtain ⟨S1, S2, h1, h2, h3, h4⟩ := h x List.mem_cons_self
    rw [List.map_cons]
    unfold lcF
    rw [h1]
    dsimp only
    rw [h2]
    have hl' : acc.length + (xs.length + 1) ≤ 100000 := hl
    cases hb : b x with
    | false =>
      dsimp only
      rw [h3, lcF_flt enc b g xs acc (fun y hy => h y (List.mem_cons_of_mem _ hy)) (by omega)]
      simp [hb]
    | true =>
      obtain ⟨S3, h5, h6⟩ := h4 hb
      dsimp only
      rw [h5]
      dsimp only
      rw [if_pos (by omega), h6, lcF_flt enc b g xs (acc ++ [g x]) (fun y hy => h y (List.mem_cons_of_mem _ hy)) (by simp; omega)]
      simp [hb]
theorem lcE_flt {α : Type} {it : Ms → R (List Dt)} {k : Dt → Ms → Option Ms} {t : Ms → R Bool} {e : Ms → R Dt} {own : List Nat} {S S1 : Ms} (enc : α → Dt) (b : α → Bool) (g : α → Dt) (xs : List α) (hi : it S = .ok (xs.map enc) S1)
    (h : ∀ x ∈ xs, ∃ T1 T2, k (enc x) { sl := wipeL S1.sl own, mo := S1.mo } = some T1 ∧ t T1 = .ok (b x) T2 ∧ T2.mo = S1.mo ∧ (b x = true → ∃ T3, e T2 = .ok (g x) T3 ∧ T3.mo = S1.mo)) (hl : xs.length ≤ 100000) :
    lcE it k t e own S = .ok ((xs.filter b).map g) S1 := by
  unfold lcE
  rw [hi]
  simp only [R.bind_ok]
  rw [lcF_flt enc b g xs [] h (by simpa using hl)]
  simp
theorem lcE_map {α : Type} {it : Ms → R (List Dt)} {k : Dt → Ms → Option Ms} {e : Ms → R Dt} {own : List Nat} {S S1 : Ms} (enc : α → Dt) (g : α → Dt) (xs : List α) (hi : it S = .ok (xs.map enc) S1)
    (h : ∀ x ∈ xs, ∃ T1, k (enc x) { sl := wipeL S1.sl own, mo := S1.mo } = some T1 ∧ ∃ T3, e T1 = .ok (g x) T3 ∧ T3.mo = S1.mo) (hk : ∀ d T T', k d T = some T' → T'.mo = T.mo) (hl : xs.length ≤ 100000) :
    lcE it k yesT e own S = .ok (xs.map g) S1 := by
  have := lcE_flt (t := yesT) enc (fun _ => true) g xs hi (fun x hx => by
    obtain ⟨T1, h1, T3, h2, h3⟩ := h x hx
    exact ⟨T1, T1, h1, rfl, by rw [hk _ _ _ h1], fun _ => ⟨T3, h2, h3⟩⟩) hl
  rw [this]
  congr 2
  simp
theorem kNames_mo : ∀ {is : List Nat} {ds : List Dt} {S S' : Ms}, kNames is ds S = some S' → S'.mo = S.mo
  | [], [], _, _, h => by cases h; rfl
  | [], _ :: _, _, _, h => by cases h
  | _ :: _, [], _, _, h => by cases h
  | i :: is, d :: ds, S, S', h => by
    have := kNames_mo (is := is) (ds := ds) (S := { S with sl := S.sl.set i (.im d) }) h
    exact this
theorem Tk.mo {T : Tk} {d : Dt} {S S' : Ms} (h : T.k d S = some S') : S'.mo = S.mo := by
  cases T with
  | nm i => cases h; rfl
  | tp is =>
    cases d with
    | tup ds => exact kNames_mo h
    | _ => cases h
theorem forL_inv {k : Dt → Ms → Option Ms} {body : Ms → O} : ∀ (items : List Dt) (I : Nat → Ms → Prop) (S : Ms), I 0 S → (∀ i d S, items[i]? = some d → I i S → ∃ S1 S2, k d S = some S1 ∧ (body S1 = .nx S2 ∨ body S1 = .ct S2) ∧ I (i + 1) S2) → ∃ S', forL k body items S = .nx S' ∧ I items.length S'
  | [], I, S, h0, _ => ⟨S, rfl, h0⟩
  | d :: ds, I, S, h0, h => by
    obtain ⟨S1, S2, h1, h2, h3⟩ := h 0 d S rfl h0
    obtain ⟨S', e1, e2⟩ := forL_inv ds (fun i => I (i + 1)) S2 h3 fun i d S hd hI => h (i + 1) d S (by simpa using hd) hI
    refine ⟨S', ?_, by simpa using e2⟩
    unfold forL
    rw [h1]
    dsimp only
    rcases h2 with h2 | h2 <;> rw [h2] <;> exact e1
end Lq

namespace Lq
open PySem PySem.Spec PyProof.Rows L2
open Evl (Ex)
section
variable {X : Cx}
end
section
variable {X : Cx} {W : WX} {a b e : Expr} {f g : Ms → R Dt} {p pos : Pos}
def blsOf : List Dt → Option (List Bool)
  | [] => some []
  | .bl b :: ds => (blsOf ds).map (b :: ·)
  | _ => none
theorem blsOf_map : ∀ bs : List Bool, blsOf (bs.map Dt.bl) = some bs
  | [] => rfl
  | b :: bs => by rw [List.map_cons, blsOf, blsOf_map bs]; rfl
def allO : List Dt → Option Dt | [.lst xs] => (blsOf xs).map fun bs => .bl (bs.all id) | _ => none
end
@[simp] theorem allO_run (bs : List Bool) : allO [.lst (bs.map Dt.bl)] = some (.bl (bs.all id)) := by unfold allO; dsimp only; rw [blsOf_map]; rfl
end Lq

namespace Lq
open PySem PySem.Spec PyProof.Rows L2
section
variable {X : Cx} {W : WX} {a b : Expr} {f g : Ms → R Dt} {p pos : Pos}
end
end Lq

namespace Lq
open PySem PySem.Spec PyProof.Rows L2
structure ScC (N ps : List Str) (sc : Scope) : Prop where
  kind : sc.kind = .function
  co : sc.isCoroutine = false
  gen : sc.isGenerator = false
  nd : N.Nodup
  pre : N.take ps.length = ps
  par : ∀ x ∈ ps, sc.names.lookup x = some .local
  cell : ∀ y ∈ sc.names, y.2 ≠ .cell
  free : ∀ y ∈ sc.names, y.2 = .free → y.1 = "__class__"
  kcl : sc.names.lookup ("__class__" : Str) = some .free
abbrev envK (qual : Str) (sc : Scope) (L f : Addr) (cd : Value) (cc : Addr) : Env := PySem.W.envX qual sc L f cd [("__class__", cc)]
def cxK (CX : CXT) (P : Program) (w : World) (K : PySem.W.Frag) (mg : Str → Option Value) (base : Heap) (N : List Str) (qual : Str) (scope : Scope) (f : Addr) (cd : Value) (cc : Addr) (A : Around) (outer : List Env) (s : Shared) (H : Hp) (E : XK) : Cx where
  prog := P
  w := w
  K := K
  mg := mg
  base := base
  A := A.deeper (envK qual scope s.heap.objs.size f cd cc)
  N := N
  s_0 := s
  H_0 := H
  env := envK qual scope s.heap.objs.size f cd cc
  outer := outer
  stack := envK qual scope s.heap.objs.size f cd cc :: outer
  ex := []
  calm := true
  fn := fun x => !(x == "__class__")
  pn := []
  xe := fun e s' => wpAny (model P w) (A.deeper (envK qual scope s.heap.objs.size f cd cc)) (leaving (envK qual scope s.heap.objs.size f cd cc) e) (fun _ s'' => CX outer H s E e s'') (fun e' s'' => CX outer H s E e' s'') s'
theorem mfz {α β : Type} : ∀ {ps : List α} {us : List β}, ps.Nodup → ((ps.zip us).map (·.1)).Nodup
  | [], _, _ => by simp
  | _ :: _, [], _ => by simp
  | p :: ps, u :: us, h => by
    rw [List.zip_cons_cons, List.map_cons, List.nodup_cons]
    obtain ⟨h1, h2⟩ := List.nodup_cons.mp h
    refine ⟨fun hm => ?_, mfz h2⟩
    obtain ⟨q, hq, e⟩ := List.mem_map.mp hm
    have e' : q.1 = p := e
    exact h1 (e' ▸ (List.of_mem_zip hq).1)
theorem lookup_rev {ps : List Str} (hnd : ps.Nodup) : ∀ {us : List Value} {i : Nat} {y : Str} {u : Value}, ps[i]? = some y → us[i]? = some u → (ps.zip us).reverse.lookup y = some u := by
  intro us i y u h1 h2
  have hmem : (y, u) ∈ (ps.zip us).reverse := by
    rw [List.mem_reverse]
    have hi : i < ps.length := (List.getElem?_eq_some_iff.mp h1).1
    have hi2 : i < us.length := (List.getElem?_eq_some_iff.mp h2).1
    refine List.mem_iff_getElem?.mpr ⟨i, ?_⟩
    rw [List.getElem?_zip_eq_some]
    exact ⟨h1, h2⟩
  have hnd2 : (((ps.zip us).reverse).map (·.1)).Nodup := by
    rw [List.map_reverse]
    exact (List.reverse_perm _).nodup_iff.mpr (mfz hnd)
  generalize (ps.zip us).reverse = l at *
  induction l with
  | nil => cases hmem
  | cons a l ih =>
    obtain ⟨k, v⟩ := a
    rw [List.map_cons, List.nodup_cons] at hnd2
    rcases List.mem_cons.mp hmem with h | h
    · cases h
      simp [List.lookup]
    · have hne : y ≠ k := fun e => hnd2.1 (List.mem_map.mpr ⟨(y, u), h, e⟩)
      have : (y == k) = false := by simpa using hne
      rw [List.lookup_cons, this]
      exact ih h hnd2.2
section
variable {CX : CXT} {P : Program} {w : World} {K : PySem.W.Frag} {mg : Str → Option Value} {base : Heap} {N ps : List Str} {qual : Str} {scope : Scope} {f cc D : Addr} {cd cl : Value} {cld : Option Addr} {csl : Array (Option Value)} {A : Around} {outer : List Env} {s : Shared} {H : Hp} {E : XK} {us : List Value} {vs : List V} {h₀ : Heap} {t : Nat}
theorem inv_startK (S : ScC N ps scope) (hd : A.handled = none) (e0 : Env0 P w K mg base A outer s H) (hl : vs.length = ps.length) (r : Vals vs us) (hcell : K.lookup cc = some ⟨cl, cld, .cell (some (.ref D)), csl⟩)
    (hns : h₀.Ns s.heap.objs.size (fun x => (ps.zip us).reverse.lookup x)) (hk : ∀ b o, s.heap.get? b = some o → h₀.get? b = some o) :
    Inv (cxK CX P w K mg base N qual scope f cd cc A outer s H E) [] (L2.start N vs) H { s with heap := h₀, toks := t } := by
  have hpl : ps.length ≤ N.length := by have := congrArg List.length S.pre; rw [List.length_take] at this; omega
  have cl1 : ∀ {x : Str} {c : Addr}, List.lookup x [(("__class__" : Str), cc)] = some c → x = "__class__" ∧ c = cc := fun {x c} h => by
    rw [List.lookup_cons] at h
    split at h
    · rename_i hx
      cases h
      exact ⟨by simpa using hx, rfl⟩
    · cases h
  have cl2 : List.lookup ("__class__" : Str) [(("__class__" : Str), cc)] = some cc := by simp [List.lookup]
  have hb := e0.mod.kin _ _ hcell
  have hbc := e0.bs _ _ hb
  refine ⟨⟨e0.mod, S.kind, rfl, rfl, Nat.le_refl _, fun y z c h1 h2 => (cl1 h1).1.trans (cl1 h2).1.symm, fun y hy => ?_, fun y c hf h => ?_, fun _ => hd, Around.frames_deeper e0.frames, .inr ⟨rfl, rfl⟩, fun b z => absurd z (by exact List.not_mem_nil), e0.bs, e0.bsz, fun b _ _ => by exact List.not_mem_nil, fun b z => absurd z (by exact List.not_mem_nil), e0.funs, e0.frf⟩,
    rfl, e0.bare, Un.kept hk, ⟨_, hns, fun i y v h1 h2 h3 => ?_⟩, fun y c h => ?_, e0.hok.fresh (Nat.le_refl _), fun y c h => ?_, fun p hp => absurd (show p ∈ ([] : List (Addr × Obj)) from hp) (by simp), e0.hok.kept hk, ?_⟩
  · have hy : scope.names.lookup y = some .cell ∨ scope.names.lookup y = some .free := hy
    rcases hy with hy | hy
    · exact absurd rfl (S.cell _ (PySem.mem_of_lookup hy))
    · have e := S.free _ (PySem.mem_of_lookup hy) rfl
      dsimp only at e
      rw [e]
      exact ⟨cc, cl2⟩
  · have e := (cl1 h).1
    rw [e] at hf
    have hf' : (!(("__class__" : Str) == "__class__")) = true := hf
    exact absurd hf' (by decide)
  · have hi : i < vs.length := by
      unfold L2.start at h2
      by_cases hi : i < vs.length
      · exact hi
      · rw [List.getElem?_append_right (by simpa using hi)] at h2
        rw [List.getElem?_replicate] at h2
        split at h2 <;> cases h2
    have ha : vs[i]? = some v := by
      unfold L2.start at h2
      rw [List.getElem?_append_left (by simpa using hi), List.getElem?_map] at h2
      cases e : vs[i]? with
      | none => rw [e] at h2; cases h2
      | some a => rw [e] at h2; cases h2; rfl
    obtain ⟨u, hu, rv⟩ := r.get ha
    have hp : ps[i]? = some y := by
      rw [← S.pre, List.getElem?_take_of_lt (by omega)]
      exact h1
    have ndP : ps.Nodup := by
      rw [← S.pre]
      exact S.nd.sublist (List.take_sublist _ _)
    exact ⟨u, rv, .inl ⟨S.par y (List.mem_of_getElem? hp), lookup_rev ndP hp hu⟩⟩
  · have e := (cl1 h).2
    rw [e]
    exact ⟨some (.ref D), _, hk _ _ hbc.1, rfl⟩
  · have e := (cl1 h).2
    rw [e]
    exact hbc.2
  · unfold L2.start
    show _ = N.length
    rw [List.length_append, List.length_map, List.length_replicate]
    omega
theorem fnK_of {k : Nat} {x : Str} {params : Arguments} {body : List Stmt} {kV doc pm ct oc : Value} {an od : Option Addr} {osl : Array (Option Value)} {sp : Sp} (lk : K.lookup f = some ⟨oc, od, .func (PySem.W.ksFn x qual params body scope .none kV doc pm an cd ct cc), osl⟩) (hcd : PySem.W.codeIn K cd qual = true)
    (S : ScC N ps scope) (hcell : K.lookup cc = some ⟨cl, cld, .cell (some (.ref D)), csl⟩) (len : ∀ vs H Q E, sp vs H Q E → vs.length = ps.length)
    (hbody : ∀ (A : Around) (outer : List Env) (s s1 : Shared) (H : Hp) (vs : List V) (Q : VK) (E : XK), Room k (A.deeper (envK qual scope s.heap.objs.size f cd cc)) → sp vs H Q E → Inv (cxK CX P w K mg base N qual scope f cd cc A outer s H E) [] (L2.start N vs) H s1 →
      _root_.PySem.wpAt (model P w) (A.deeper (envK qual scope s.heap.objs.size f cd cc)) (.func body (envK qual scope s.heap.objs.size f cd cc)) (execs body (envK qual scope s.heap.objs.size f cd cc)) (SP (cxK CX P w K mg base N qual scope f cd cc A outer s H E) [] { nx := fun _ H' => Q .non H', rt := Q }) (cxK CX P w K mg base N qual scope f cd cc A outer s H E).xe s1) :
    FnOk P w K mg base CX (k + 1) f (PySem.W.ksFn x qual params body scope .none kV doc pm an cd ct cc) ps sp := by
  refine ⟨len, fun A outer s H args us vs Q E hr e0 hb r hsp => ?_⟩
  have hl := len _ _ _ _ hsp
  have KX : K.In s.heap := e0.mod.kin.keeps fun b o e => (e0.bs b o e).1
  have lim : s.heap.NoLimit := e0.mod.nolimit.keeps fun b o e => (e0.bs b o e).1
  refine PySem.ks_codeAny_call_defAt (body := body) (binds := ps.zip us) hr.depth (KX _ _ lk) rfl lim (PySem.W.codeRec_of KX hcd) rfl hb S.cell (fun y hy => S.par _ (List.of_mem_zip (show (y.1, y.2) ∈ ps.zip us from hy)).1) (fun h₀ hns hk => ?_) S.co S.gen S.kind
  have I := inv_startK (CX := CX) (E := E) (qual := qual) (f := f) (cd := cd) (t := s.toks + (ps.zip us).length) S hr.hd e0 hl r hcell hns hk
  refine _root_.PySem.wpAt_mono (hbody A outer s _ H vs Q E (hr.deeper _) hsp I) (fun fl s' hs => ?_) fun e s' hs => hs
  have fin : ∀ {σ' : L2.St} {H' : Hp} {v : V} {u : Value}, Inv (cxK CX P w K mg base N qual scope f cd cc A outer s H E) [] σ' H' s' → RelV v u → Q v H' → CE outer P w H s Q u s' :=
    fun {σ' H' v u} J rv q => ⟨v, H', J.os, J.bare, J.base, J.hok, rv, q⟩
  cases fl with
  | ret u =>
    obtain ⟨v, σ', H', J, rv, q⟩ := hs
    exact fin J rv q
  | next =>
    obtain ⟨σ', H', J, q⟩ := hs
    exact fin (v := V.non) (u := Value.none) J rfl q
  | brk =>
    obtain ⟨_, _, _, q⟩ := hs
    exact False.elim q
  | cont =>
    obtain ⟨_, _, _, q⟩ := hs
    exact False.elim q
end
end Lq

namespace Lq
open PySem PySem.Spec PyProof.Rows L2
structure SupF (P : Program) (K : PySem.W.Frag) (mg : Str → Option Value) (f cda cc D C : Addr) (sc : Scope) (me : Str) : Prop where
  fn : ∃ oc od fd osl ar, K.lookup f = some ⟨oc, od, .func fd, osl⟩ ∧ (fd.params.posonlyargs ++ fd.params.args).head? = some ar ∧ ar.arg = me
  code : ∃ ccl cdd vs ccs file tf, K.lookup cda = some ⟨ccl, cdd, .fields vs, ccs⟩ ∧ vs[2]? = some (.str file tf) ∧ ((P.main.file : Str) == file) = true
  cell : ∃ cl cld csl, K.lookup cc = some ⟨cl, cld, .cell (some (.ref D)), csl⟩
  clD : ∃ cdD, PySem.W.clsIn K D = some cdD
  sub : PySem.W.mroIn K C (.ref D) = some true
  up : PySem.W.ks_superIn K C D "__init__" = some (some (.builtin "ValueError.__init__"))
  bas : PySem.W.subIn K (.ref C) (.type "ValueError") = some true
  any : PySem.W.nsIn K PySem.cStatics "thirdparty.any" = some none
  sup : mg "super" = none
  ksu : sc.names.lookup ("super" : Str) = some .globalImplicit
  kcl : sc.names.lookup ("__class__" : Str) = some .free
  ksl : sc.names.lookup me = some .local
  top : (P.main.scope.names.lookup ("super" : Str)).isSome = false
theorem cls_at {K : PySem.W.Frag} {h : Heap} {D : Addr} {cd : ClassData} (X : K.In h) (e : PySem.W.clsIn K D = some cd) : ∃ o, h.get? D = some o ∧ o.data = .cls cd := by
  unfold PySem.W.clsIn at e
  split at e
  · rename_i c d cd' sl ho
    cases e
    exact ⟨_, X _ _ ho, rfl⟩
  · cases e
section
variable {X : Cx} {pins : List (Addr × Obj)} {σ : L2.St} {H : Hp} {s : Shared} {a C : Addr}
theorem exo_inst (T : OexC X.K C) (I : Inv X pins σ H s) (e : H a = some (exo a C none)) : ∃ t1 : Addr, s.heap.get? a = some ({ cls := .ref C, dict := none, data := .fields #[.ref t1, .none, .none, .none, .bool false, .none] } : Obj) := exo_at I.hok e
theorem fresh_fs (I : Inv X pins σ H s) {b : Addr} (hb : s.heap.objs.size ≤ b) : b ≠ X.env.locals ∧ b ∉ X.fs := by
  obtain ⟨m, ⟨oL, es, ep, hL, _⟩, _⟩ := I.loc
  have l1 : X.env.locals < s.heap.objs.size := Heap.lt_size hL
  have l2 := I.ok.above
  refine ⟨fun z => ?_, fun z => ?_⟩
  · rw [z] at hb
    exact absurd l1 (Nat.not_lt.mpr hb)
  · obtain ⟨_, o, ho, _⟩ := I.ok.funs.mem z
    have l3 : b < X.s_0.heap.objs.size := Heap.lt_size ho
    exact absurd (Nat.lt_of_lt_of_le l3 (Nat.le_trans l2 (Nat.le_of_lt l1))) (Nat.not_lt.mpr hb)
end
theorem call_mw {prog : Program} {w : World} {A : Around} {E : Value → Shared → Prop} {h : Heap} {g : Array GenState} {d : Drawn} {t : Nat} {os : OsState} {nm q : Str} {C N u x t0 : Addr} {bs bm : List Value} {hdct : Bool} {sn : List Str} {sub : List Value} {ab : Bool} {col : Option Bool} {dd : Option Addr} {k0 k1 k2 k3 k5 : Option Value} {us : List Value} {Q : Value → Shared → Prop}
    (hC : h.get? C = some (excClassObj nm q C N bs bm hdct sn sub ab col dd k0 k1 k2 k3 k5 "ValueError.__new__")) (hx : h.get? x = some (PySem.HandSPX.excO C t0)) (hu : h.get? u = some (PySem.W.kxs_mw "ValueError.__init__" x)) (hz : us.length ≤ sizeLine)
    (hq : ∀ h' t1, (∀ b o, b ≠ x → h.get? b = some o → h'.get? b = some o) → h'.get? x = some (PySem.HandSPX.excO C t1) → Q .none ⟨h', g, d, t, os⟩) :
    wpAny (model prog w) A (call (.ref u) us) Q E ⟨h, g, d, t, os⟩ := by
  refine (wpAny_call (codeAny_of_tree (?_ : wpAny (model prog w) A.in1 (callAny (.ref u) ⟨us, []⟩) _ _ _)))
  simp only [callAny]
  refine wpAny_bind (wpAny_load hu (?_ : wpAny _ _ _ _ _ _))
  simp only [PySem.W.kxs_mw, show (Value.type "method-wrapper" == Value.type "method" || Value.type "method-wrapper" == Value.type "builtin_function_or_method" || Value.type "method-wrapper" == Value.type "method-wrapper") = true from by decide, if_true]
  refine PySem.W.KFB.if_so (by decide) (wpAny_bind (PySem.W.check_bound_init F.excBase_ValueError.toExcCallFacts hC hx rfl (wpAny_bind (wpAny_pure (wpAny_pure ?_)))))
  refine ⟨Code.quiet_builtin _ (by decide +kernel), codeAny_builtin (F.excBase_ValueError.initEntry) (?_ : wpAny _ _ _ _ _ _)⟩
  rw [Around.under_plainId (F.excBase_ValueError.init.plain) _]
  wp_walk
  refine hq _ h.objs.size (fun b o hb ho => (Heap.get?_update_other _ _ (Ne.symm hb)).trans (Heap.get?_push_of_some _ ho)) ((Heap.get?_update_self _ (Heap.get?_push_of_some _ hx) rfl).trans rfl)
section
variable {CX : CXT} {P : Program} {w : World} {K : PySem.W.Frag} {mg : Str → Option Value} {base : Heap} {N : List Str} {qual me : Str} {scope : Scope} {f cda cc D C a : Addr} {A : Around} {outer : List Env} {s0 s : Shared} {H0 H : Hp} {E : XK} {pins : List (Addr × Obj)} {σ : L2.St} {body : List Stmt} {e : Expr} {p0 p1 p2 p3 p4 : Pos} {ta : TA} {Rr : Hp → Prop} {pl : Sem Bool}
theorem super_run (S : SupF P K mg f cda cc D C scope me) (hk : scope.kind = .function) (T : OexC K C) (I : Inv (cxK CX P w K mg base N qual scope f (.ref cda) cc A outer s0 H0 E) pins σ H s) (hN : N[0]? = some me) (hσ : σ[0]? = some (some (.ref a))) (he : H a = some (exo a C none))
    (ha : PA (cxK CX P w K mg base N qual scope f (.ref cda) cc A outer s0 H0 E) [e] ta) (h : ta σ H fun vs H1 => vs.length ≤ 1000 ∧ H1 a = some (exo a C none) ∧ Rr H1)
    (hev : eval (.Call (.Attribute (.Call (.Name "super" p0) [] [] p1) "__init__" p2) [e] [] p3) (envK qual scope s0.heap.objs.size f (.ref cda) cc) = (do
      let ov ← attributeBase (.Call (.Name "super" p0) [] [] p1) "__init__" (envK qual scope s0.heap.objs.size f (.ref cda) cc) (eval (.Call (.Name "super" p0) [] [] p1) (envK qual scope s0.heap.objs.size f (.ref cda) cc))
      standAt p2.atName
      let (g1, first) ← holding [ov] (getMethod ov "__init__" pl)
      callWith p3 g1 first (backTo p3 (starEach [e] (envK qual scope s0.heap.objs.size f (.ref cda) cc))) []) := by rfl)
    (hi : interactive (envK qual scope s0.heap.objs.size f (.ref cda) cc) = false := by rfl) (hsw : swapsWith (.Call (.Attribute (.Call (.Name "super" p0) [] [] p1) "__init__" p2) [e] [] p3) none p4.line (envK qual scope s0.heap.objs.size f (.ref cda) cc) = pure false := by rfl) (hst : starEach [e] (envK qual scope s0.heap.objs.size f (.ref cda) cc) = (false, eval e (envK qual scope s0.heap.objs.size f (.ref cda) cc)) :: starEach [] (envK qual scope s0.heap.objs.size f (.ref cda) cc) := by rfl) :
    _root_.PySem.wpAt (model P w) (A.deeper (envK qual scope s0.heap.objs.size f (.ref cda) cc)) (.func body (envK qual scope s0.heap.objs.size f (.ref cda) cc)) (exec (.Expr (.Call (.Attribute (.Call (.Name "super" p0) [] [] p1) "__init__" p2) [e] [] p3) p4) (envK qual scope s0.heap.objs.size f (.ref cda) cc))
      (fun fl s' => fl = .next ∧ ∃ H1, Inv (cxK CX P w K mg base N qual scope f (.ref cda) cc A outer s0 H0 E) pins σ H1 s' ∧ Rr H1) (cxK CX P w K mg base N qual scope f (.ref cda) cc A outer s0 H0 E).xe s := by
  obtain ⟨oc, od, fd, osl, ar, lf, hp, har⟩ := S.fn
  obtain ⟨ccl, cdd, vs, ccs, file, tf, lc, hvs, hfile⟩ := S.code
  obtain ⟨cl, cld, csl, lcc⟩ := S.cell
  obtain ⟨cdD, hD⟩ := S.clD
  have KX : K.In s.heap := I.kIn
  obtain ⟨oD, hD1, hD2⟩ := cls_at KX hD
  obtain ⟨t1, hx⟩ := exo_inst T I he
  refine PySem.ks_wpAt_Expr_any (PySem.ks_wpAt_MethodCall (PySem.ks_wpAt_super_base S.ksu S.kcl (by decide) rfl (KX _ _ lf) rfl hp rfl (KX _ _ lc) rfl hvs hfile S.top ?_) hev) hi hsw
  obtain ⟨mb, hb1, hb2⟩ := I.mod.blt
  refine PySem.W.ks_loadName_global hk S.ksu (PySem.Calls.loadGlobal_builtin (I.mod.glob.keeps I.bk) S.sup (hb1.keeps I.bk) ((hb2 _ (by decide +kernel)).trans (by decide +kernel)) ⟨rfl, ?_⟩)
  refine wpAny_loadName_free hk S.kcl rfl ⟨_, KX _ _ lcc, rfl⟩ ?_
  obtain ⟨m, hm1, hm2⟩ := I.loc
  obtain ⟨u, hu1, hu2⟩ := hm2 0 me (.ref a) hN hσ (.inl S.ksl)
  cases hu1
  have hml : m me = some (.ref a) := by
    rcases hu2 with ⟨_, z⟩ | ⟨z, _⟩
    · exact z
    · have k1 : scope.names.lookup me = some .cell ∨ scope.names.lookup me = some .free := z
      rw [S.ksl] at k1
      rcases k1 with k1 | k1 <;> cases k1
  refine wpAny_loadName_local hk (by rw [har]; exact S.ksl) hm1 (by rw [har]; exact hml) ?_
  obtain ⟨hh, g, d, t, os⟩ := s
  refine PySem.ks_wpAny_isType_cls hD1 hD2 ⟨rfl, ?_⟩
  refine PySem.ks_wpAny_call_super hD1 hD2 hx rfl (fun c z => by cases z) (PySem.W.looks_mroIn KX S.sub) (fun h1 e1 k1 => ?_)
  have I1 := I.kept (h' := h1) (t' := t) k1
  obtain ⟨t2, hx1⟩ := exo_inst T I1 he
  have KX1 : K.In h1 := I1.kIn
  obtain ⟨cdC, hcC, hal⟩ : ∃ cdC, PySem.W.clsIn K C = some cdC ∧ PySem.W.alongIn K "__init__" ((cdC.mro.dropWhile (· != .ref D)).drop 1) = some (some (.builtin "ValueError.__init__")) := by
    have q := S.up
    unfold PySem.W.ks_superIn at q
    cases hc : PySem.W.clsIn K C with
    | none => rw [hc] at q; cases q
    | some cd => rw [hc] at q; exact ⟨cd, rfl, q⟩
  obtain ⟨oC, hC1, hC2⟩ := cls_at KX1 hcC
  have inst : PySem.W.InstAt h1 a _ C none := ⟨hx1, rfl, rfl, trivial⟩
  have aC : a ≠ C := fun z => by
    rw [z, hC1] at hx1
    cases hx1
    cases hC2
  refine PySem.W.kxs_getMethod PySem.W.kxs_ValueError e1 (PySem.W.looks_opaque KX1 S.any) (l₀ := cdC.mro) (fun A Q E s k q => wpAny_bind ((PySem.W.looks_clsIn KX1 hcC) A _ E s k (wpAny_pure q))) rfl KX1 hal (inst.type.andThen (PySem.W.looks_subIn KX1 S.bas)) aC (by decide) ?_
  have I2 := I1.kept (h' := h1.push (PySem.W.kxs_mw "ValueError.__init__" a)) (t' := t + 1) (fun b o z => Heap.get?_push_of_some _ z)
  have hu : (h1.push (PySem.W.kxs_mw "ValueError.__init__" a)).get? h1.objs.size = some (PySem.W.kxs_mw "ValueError.__init__" a) := Heap.get?_push_at rfl rfl
  have fr := fresh_fs I1 (Nat.le_refl h1.objs.size)
  have I3 := I2.pins_of (pins' := (h1.objs.size, PySem.W.kxs_mw "ValueError.__init__" a) :: pins) (fun p hp => by
    rcases List.mem_cons.mp hp with rfl | hp
    · exact ⟨hu, I1.hok.fresh (Nat.le_refl _), fr.1, fr.2, fun v z => by cases z⟩
    · exact I2.pin p (List.mem_append_right _ hp))
  refine PySem.W.kxs_callWith (i := "ValueError.__init__") (x := a) (by rw [hst]; rfl) ?_
  rw [hst]
  refine PySem.Calls.evalArgs_plain ?_
  suffices key : wpAny (model P w) (A.deeper (envK qual scope s0.heap.objs.size f (.ref cda) cc)) (spliced (backTo p3 (starEach [e] (envK qual scope s0.heap.objs.size f (.ref cda) cc)))) (fun vs s' => PySem.W.KxsAt "ValueError.__init__" h1.objs.size a s'.heap ∧ wpAny (model P w) (A.deeper (envK qual scope s0.heap.objs.size f (.ref cda) cc)) (call (.ref h1.objs.size) vs) (fun _ s' => Flow.next = Flow.next ∧ ∃ H1, Inv (cxK CX P w K mg base N qual scope f (.ref cda) cc A outer s0 H0 E) pins σ H1 s' ∧ Rr H1) (cxK CX P w K mg base N qual scope f (.ref cda) cc A outer s0 H0 E).xe s') (cxK CX P w K mg base N qual scope f (.ref cda) cc A outer s0 H0 E).xe ⟨h1.push (PySem.W.kxs_mw "ValueError.__init__" a), g, d, t + 1, os⟩ by
    rw [hst] at key
    exact key
  refine thn (ha.run p3 _ _ σ H _ I3 h) fun us s4 ⟨ws, H1, I4, rv, hz, he1, hr⟩ => ?_
  have hu4 := (I4.pin _ (List.mem_append_right _ List.mem_cons_self)).1
  refine ⟨hu4, ?_⟩
  obtain ⟨nm, qn, N', bs, bm, sn, sub, ab, col, dd, k0, k1', k2, k3, k5, hC, hbm⟩ := T.cls
  obtain ⟨t3, hx4⟩ := exo_inst T I4 he1
  obtain ⟨h4, g4, d4, t4, os4⟩ := s4
  refine call_mw (I4.kIn _ _ hC) hx4 hu4 (by rw [← rv.length]; exact Nat.le_trans hz (by decide)) (fun h5 t5 k5' hx5 => ⟨rfl, H1, ?_, hr⟩)
  have J := I4.write (t' := t4) (x := a) (e := a) (o := exo a C none) (by rw [he1]; trivial) (.inl rfl) k5' ⟨_, hx5⟩ (exo_ok hx5)
  have same : upd H1 a (exo a C none) = H1 := funext fun b => by
    by_cases hb : b = a
    · rw [hb, upd_same, he1]
    · exact upd_ne hb
  rw [same] at J
  exact J.pins_of fun p hp => J.pin p (List.mem_append_right _ (List.mem_cons_of_mem _ hp))
end
end Lq

namespace Lq
open PySem PySem.Spec PyProof.Rows L2
open Evl (Ex)
def spI1 (C : Addr) (fld : Str) : Sp := fun vs H Q _ => ∃ (a : Addr) (y : Str), vs = [.ref a, .str y] ∧ y.length ≤ 1000 ∧ H a = some (exo a C none) ∧ ∀ dx, H dx = none → dx ≠ a → Q .non (upd (upd H dx (exd dx [(fld, .str y)])) a (exo a C (some dx)))
def raiseS (e : Er) : Ms → O := fun S => .er e S
theorem ds_raise1 {X : Cx} {W : WX} {CX : CXT} {x m fld : Str} {j : Nat} {p p2 pos pos' : Pos} {C fI : Addr} {k : Nat} {fd : FuncData} (hc : X.calm = true) (tk : Takes X W) (T : OexC X.K C) (iC : PySem.W.findIn X.K (.ref C) "__init__" = some (some (.ref fI))) (tI : PySem.W.typeIn X.K (.ref fI) = some (.type "function"))
    (F1 : FnOk X.prog X.w X.K X.mg X.base CX k fI fd ["self", fld] (spI1 C fld)) (hr : Room (k + 1) X.A) (hb : Binds X.K fd ["self", fld] []) (hx : Passes CX X (fun _ _ _ => False)) (hg : Gl X x) (hm : X.mg x = some (.ref C)) (hl : m.length ≤ 1000) (hdb : (x == ("__debug__" : Str)) = false := by decide)
    (hst : starEach [Expr.Constant (.str m) j p2] X.env = (false, eval (.Constant (.str m) j p2) X.env) :: starEach [] X.env := by rfl) (hpl : (backTo pos (starEach [] X.env)).any (·.1) = false := by rfl) :
    PS X (.Raise (some (.Call (.Name x p) [.Constant (.str m) j p2] [] pos)) none pos') (sD X.K W (raiseS ⟨C, [fld], [.str m]⟩)) :=
  monoS (ps_raise hc tk (pmk_oex T iC tI F1 hr hb .nil hx hg hm (pa_cons pe_str pa_nil hst) hdb hst hpl)) fun D σ H q => by
    obtain ⟨B, F, as, S, r, o⟩ := q
    refine ⟨(show 1 ≤ 1000 by decide), fun a na => ⟨a, m, rfl, hl, upd_same, fun dx h1 h2 => ⟨rfl, dx, [(fld, .str m)], upd_same, (upd_ne h2).trans upd_same, ?_, ?_⟩⟩⟩
    · rwa [upd_ne h2] at h1
    · have h3 : H dx = none := by rwa [upd_ne h2] at h1
      have e : upd (del (upd (upd (upd H a (exo a C none)) dx (exd dx [(fld, .str m)])) a (exo a C (some dx))) a) dx (.xd [(fld, .str m)]) = upd H dx (.xd [(fld, .str m)]) := funext fun b => by
        by_cases hb : b = dx
        · rw [hb, upd_same, upd_same]
        · rw [upd_ne hb, upd_ne hb]
          by_cases ha : b = a
          · rw [ha, del_same, na]
          · rw [del_ne ha, upd_ne ha, upd_ne hb, upd_ne ha]
      rw [e]
      obtain ⟨ee, r2⟩ := r.new h3 (.xd [(fld, .str m)])
      exact o σ _ _ as (some dx) [(fld, .str m)] ee r2 upd_same rfl (.cons (.str m) .nil)
end Lq

namespace PySem.W
open PySem PySem.Spec PySem.Calls PyProof.Rows
section
variable {prog : Program} {w : World} {A : Around} {E : Value → Shared → Prop} {s : Shared} {K : Frag} {x D : Addr} {ox : Obj} {od : Option Obj}
end
end PySem.W
namespace Lq
open PySem PySem.Spec PyProof.Rows L2
section
variable {X : Cx} {a D dx : Addr} {oe : Obj} {pn : List (Addr × Obj)}
end
end Lq

namespace Lq
open PySem PySem.Spec PyProof.Rows L2
open Evl (Ex)
section
variable {X : Cx} {W : WX} {a b c e : Expr} {pos : Pos} {f g : Ms → R Dt}
end
end Lq

namespace Lq
open PySem PySem.Spec PyProof.Rows L2
end Lq

namespace Lq
open PySem PySem.Spec PyProof.Rows L2
open Evl (Ex)
section
variable {prog : Program} {w : World} {A : Around} {E : Value → Shared → Prop} {s : Shared}
end
section
variable {X : Cx}
end
end Lq

namespace Lq
open PySem PySem.Spec PyProof.Rows L2
open Evl (Ex)
section
variable {X : Cx} {W : WX} {a b c e o : Expr} {pos p : Pos} {f g : Ms → R Dt} {i : Nat}
instance : ∀ i j, Decidable (CPow i j) := fun i j => by unfold CPow; infer_instance
end
inductive FoN where | ok (ys : List Dt) | er (e : Er) | no
def spN (K : PySem.W.Frag) (n : Nat) (f : List Dt → FoN) : Sp := fun vs H Q E => ∃ B F ds, ds.length = n ∧ Ex F H ∧ Kept B F H ∧ RpA K F vs ds ∧ match f ds with
  | .ok ys => ∀ a F' H' us, Ex F F' → Ex F' H' → Kept B F' H' → B a = none → F' a = none → H' a = some (.lst us) → RpA K F' us ys → Q (.ref a) H'
  | .er e => ∀ F' H' dx fs, Ex F F' → Ex F' H' → Kept B F' H' → DictR H' dx fs → fs.map (·.1) = e.ks → RpA K F' (fs.map (·.2)) e.ds → E (.ref e.C) dx H'
  | .no => False
inductive ON where | rt (ys : List Dt) (s : Ms) | er (e : Er) (s : Ms) | no
def sN (K : PySem.W.Frag) (W : WX) (m : Ms → ON) : TS := fun D σ H => ∃ B F as S, Rep K B F H as σ S ∧ match m S with
  | .rt ys S' => ∀ σ' F' H' as' p us, Ext F F' as as' → Rep K B F' H' as' σ' S' → B p = none → F' p = none → H' p = some (.lst us) → RpA K F' us ys → D.rt (.ref p) H'
  | .er e S' => ∀ σ', OutE K W B F as σ' e S'
  | .no => False
def seqN (m : Ms → O) (n : Ms → ON) : Ms → ON := fun S => match m S with | .nx S1 => n S1 | .er e S1 => .er e S1 | _ => .no
def retNL (f : Ms → R (List Dt)) : Ms → ON := fun S => match f S with | .ok ys S1 => .rt ys S1 | .er e S1 => .er e S1 | .no => .no
section
variable {X : Cx} {W : WX} {e o : Expr} {st : Stmt} {rest : List Stmt} {m : Ms → O} {n : Ms → ON} {f : Ms → R (List Dt)} {i : Nat} {pos : Pos}
theorem dsN_cons (h1 : PS X st (sD X.K W m)) (h2 : PSs X rest (sN X.K W n)) : PSs X (st :: rest) (sN X.K W (seqN m n)) := monoSs (pss_cons h1 h2) fun D σ H q => by
  obtain ⟨B, F, as, S, r, o⟩ := q
  refine ⟨B, F, as, S, r, ?_⟩
  unfold seqN at o
  revert o
  cases m S with
  | nx S1 =>
    intro o σ1 F1 H1 as1 e1 r1
    refine ⟨B, F1, as1, S1, r1, ?_⟩
    revert o
    show (match n S1 with | .rt _ _ => _ | .er _ _ => _ | .no => _) → _
    cases n S1 with
    | rt ys S2 => exact fun o σ' F' H' as' p us e' r' => o σ' F' H' as' p us (e1.trans e') r'
    | er x S2 => exact fun o σ' F' H' as' dx fs e' r' => o σ' F' H' as' dx fs (e1.trans e') r'
    | no => exact fun o => o
  | er x S1 => exact fun o => o
  | rt d S1 => exact fun o => o.elim
  | bk S1 => exact fun o => o.elim
  | ct S1 => exact fun o => o.elim
  | no => exact fun o => o.elim
theorem dsN_retL (h : PE X e (tN X.K W f)) : PSs X [.Return (some e) pos] (sN X.K W (retNL f)) := monoSs (pss_one (ps_ret h)) fun D σ H q => by
  obtain ⟨B, F, as, S, r, o⟩ := q
  refine ⟨B, F, as, S, r, ?_⟩
  unfold retNL at o
  revert o
  cases f S with
  | ok ys S1 => exact fun o F' H' as' e' r' p vs h1 h2 h3 h4 h5 => o σ F' H' as' p vs e' r' h2 h1 h4 h5
  | er x S1 => exact fun o => o σ
  | no => exact fun o => o
end
def ON.fo : ON → FoN | .rt ys _ => .ok ys | .er e _ => .er e | .no => .no
def runN (n : Nat) (m : Ms → ON) (ds : List Dt) : FoN := (m (st0 n ds)).fo
section
variable {P : Program} {w : World} {K : PySem.W.Frag} {mg : Str → Option Value} {base : Heap}
theorem defOkN {x qual : Str} {st : Stmt} {f : Addr} {fd : FuncData} {N ps : List Str} {k : Nat} {m : Ms → ON} (F : Fun K x qual st f fd) (S : FnScope N ps (defScope st))
    (hbody : ∀ (cdv : Value) (A : Around) (outer : List Env) (s : Shared) (H : Hp) (E : XK), Room k (A.deeper (envOfC qual (defScope st) s.heap.objs.size f cdv)) →
      PSs (cxOf (L2.CX P w) P w K mg base N qual (defScope st) f cdv A outer s H E) (defBody st) (sN K (fun cls d _ H' => E cls d H') m)) :
    FnOk P w K mg base (L2.CX P w) (k + 1) f fd ps (spN K ps.length (runN N.length m)) := by
  refine F.okX S (fun vs H Q E h => ?_) (fun cdv A outer s H vs Q E hr h => ⟨_, hbody cdv A outer s H E hr, ?_⟩)
  · obtain ⟨B, F, ds, hn, _, _, hv, _⟩ := h
    rw [hv.length, hn]
  · obtain ⟨B, F, ds, hn, e, kp, hv, q⟩ := h
    refine ⟨B, F, [], st0 N.length ds, ⟨e, kp, ?_, .nil, List.nodup_nil⟩, ?_⟩
    · unfold L2.start st0
      rw [hv.length]
      exact paired_im hv (paired_no _)
    · unfold runN at q
      revert q
      cases m (st0 N.length ds) with
      | rt ys S' => exact fun q σ' F' H' as' p us e' r h1 h2 h3 h4 => q p F' H' us e'.1 r.fh r.bh h1 h2 h3 h4
      | er e S' => exact fun q σ' F' H' as' dx fs e' r => q F' H' dx fs e'.1 r.fh r.bh
      | no => exact fun q => q
end
theorem FnOk.toN {P : Program} {w : World} {K : PySem.W.Frag} {mg : Str → Option Value} {base : Heap} {CX : CXT} {k : Nat} {f : Addr} {fd : FuncData} {ps : List Str} {n : Nat} {g h : List Dt → FoN} (F : FnOk P w K mg base CX k f fd ps (spN K n g)) (e : ∀ ds, h ds ≠ .no → g ds = h ds) :
    FnOk P w K mg base CX k f fd ps (spN K n h) := F.imp fun vs H Q E ⟨B, F, ds, hn, h1, h2, h3, h4⟩ => ⟨B, F, ds, hn, h1, h2, h3, by
      have : h ds ≠ .no := by intro z; rw [z] at h4; exact h4
      rw [e ds this]
      exact h4⟩
def funN (n : Nat) (fs : Ms → R (List Dt)) (f : List Dt → FoN) : Ms → R (List Dt) := fun S => (fs S).bind fun ds S1 => if ds.length = n then (match f ds with | .ok ys => .ok ys S1 | .er e => .er e S1 | .no => .no) else .no
section
variable {X : Cx} {W : WX} {e : Expr} {es : List Expr} {fs : Ms → R (List Dt)} {x : Str} {p pos : Pos} {j k n : Nat} {ps : List Str} {g : List Dt → FoN}
theorem callN_run {K : PySem.W.Frag} {σ : L2.St} {H : Hp} {Q : VK} (q : tN K W (funN n fs g) σ H Q) : tCallS (spN K n g) (WE W) (tA K W fs) σ H Q := by
  obtain ⟨B, F, as, S, r, o⟩ := q
  refine ⟨B, F, as, S, r, Out.mono (Out.bind o) fun ds F1 H1 as1 S1 ⟨r1, e1, o1⟩ vs hv => ?_⟩
  split at o1
  · rename_i hn
    refine ⟨holdB B F1 H1 as1, F1, ds, hn, r1.fh, hold_kept r1, hv, ?_⟩
    cases hg : g ds with
    | ok ys =>
      rw [hg] at o1
      intro a F' H' us ee eh kp hB hF hH hu
      refine o1 F' H' as1 ⟨ee, [], by simp⟩ (hold_back r1 ee eh kp) a us hF ?_ ?_ hH hu
      · unfold holdB at hB
        split at hB
        · rename_i hin
          obtain ⟨i, hi⟩ := List.mem_iff_getElem?.mp hin
          obtain ⟨mm, hmm, z⟩ := pairedGetL r1.mo hi
          cases mm with
          | ob c => exact z.1
          | fz d =>
            obtain ⟨⟨u, z1⟩, _⟩ := z
            rw [ee _ _ z1] at hF
            cases hF
        · exact hB
      · intro hin
        unfold holdB at hB
        rw [if_pos hin] at hB
        obtain ⟨i, hi⟩ := List.mem_iff_getElem?.mp hin
        obtain ⟨mm, hmm, z⟩ := pairedGetL r1.mo hi
        cases mm with
        | ob c =>
          obtain ⟨_, z2, u, z3, _⟩ := z
          rw [if_pos z2, z3] at hB
          cases hB
        | fz d =>
          obtain ⟨⟨u, z1⟩, _⟩ := z
          rw [ee _ _ z1] at hF
          cases hF
    | er x =>
      rw [hg] at o1
      exact fun F' H' dx fs ee eh kp h1 h2 h3 => o1 F' H' as1 dx fs ⟨ee, [], by simp⟩ (hold_back r1 ee eh kp) h1 h2 h3
    | no => rw [hg] at o1; exact o1.elim
  · exact o1.elim
theorem dn_cal (c : Cal X.prog X.w X.K X.mg X.base x k ps (spN X.K n g)) (tk : Takes X W) (hr : Room j X.A) (hk : k ≤ j) (hg : Gl X x)
    (ha : PA X (e :: es) (tA X.K W fs)) (hdb : (x == ("__debug__" : Str)) = false := by decide) (he : starEach (e :: es) X.env = (false, eval e X.env) :: starEach es X.env := by rfl) (hpl : (backTo pos (starEach es X.env)).any (·.1) = false := by rfl) :
    PE X (.Call (.Name x p) (e :: es) [] pos) (tN X.K W (funN n fs g)) := by
  obtain ⟨f, fd, G, hm, kp, hb⟩ := c
  exact monoE (pe_callS G (hr.mono hk) hg hm kp hb (fun σ => passAt tk σ) ha hdb he hpl) fun σ H Q q => callN_run q
end
def spLaw (K : PySem.W.Frag) : Sp := fun vs H Q _ => ∃ (a : Addr) (ns : List Int), vs = [.ref a] ∧ SqL K H a (ns.map V.int) ∧ ns.length ≤ 63 ∧ ∀ H', Q (.bl true) H'
def scrD (ns : List Int) : Dt := .scr false (ns.map Dt.int)
theorem sql_one {K : PySem.W.Frag} {H : Hp} {a : Addr} {xs : List V} (h : SqL K H a xs) : SqL K (fun b => if b = a then H a else none) a xs := by
  rcases h with h | h
  · refine .inl ?_
    unfold Rd at *
    simp only [if_pos rfl]
    exact h
  · exact .inr h
section
variable {P : Program} {w : World} {K : PySem.W.Frag} {mg : Str → Option Value} {base : Heap}
theorem lawOk {st : Stmt} {f : Addr} {fd : FuncData} {N : List Str} {k : Nat} {m : Ms → O} (F : Fun K "law" "law" st f fd) (S : FnScope N ["script"] (defScope st))
    (hrun : ∀ ns : List Int, ns.length ≤ 63 → ∃ S', m (st0 N.length [scrD ns]) = .rt (.bl true) S')
    (hbody : ∀ (cdv : Value) (A : Around) (outer : List Env) (s : Shared) (H : Hp) (E : XK), Room k (A.deeper (envOfC "law" (defScope st) s.heap.objs.size f cdv)) →
      PSs (cxOf (L2.CX P w) P w K mg base N "law" (defScope st) f cdv A outer s H E) (defBody st) (sD K (fun cls d _ H' => E cls d H') m)) :
    FnOk P w K mg base (L2.CX P w) (k + 1) f fd ["script"] (spLaw K) := by
  refine F.okX S (fun vs H Q E h => ?_) (fun cdv A outer s H vs Q E hr h => ⟨_, hbody cdv A outer s H E hr, ?_⟩)
  · obtain ⟨a, ns, rfl, _⟩ := h
    rfl
  · obtain ⟨a, ns, rfl, hS, hlen, q⟩ := h
    obtain ⟨S', e⟩ := hrun ns hlen
    have hv : RpA K (fun b => if b = a then H a else none) [V.ref a] [scrD ns] := .cons (.scr false (sql_one hS) (RpA.ints ns)) .nil
    refine ⟨fun _ => none, fun b => if b = a then H a else none, [], st0 N.length [scrD ns], ⟨fun b o z => ?_, fun b o z => (nomatch z), ?_, .nil, List.nodup_nil⟩, ?_⟩
    · by_cases hb : b = a
      · rw [if_pos hb] at z
        rw [hb]; exact z
      · rw [if_neg hb] at z
        cases z
    · unfold L2.start st0
      exact paired_im hv (paired_no _)
    · rw [e]
      intro σ' F' H2 as' v e' r hv
      have hv' := hv.blv
      subst hv'
      exact q _
end
end Lq

namespace Lq
open PySem PySem.Spec PyProof.Rows L2
open Evl (Ex)
section
variable {X : Cx} {W : WX} {a b c e o tg : Expr} {pos p apos : Pos} {f g : Ms → R Dt} {i : Nat} {x : Str}
end
def spI1i (C : Addr) (fld : Str) : Sp := fun vs H Q _ => ∃ (a : Addr) (y : Int), vs = [.ref a, .int y] ∧ y = 0 ∧ H a = some (exo a C none) ∧ ∀ dx, H dx = none → dx ≠ a → Q .non (upd (upd H dx (exd dx [(fld, .int y)])) a (exo a C (some dx)))
structure RaI (P : Program) (w : World) (K : PySem.W.Frag) (mg : Str → Option Value) (base : Heap) (x : Str) (C : Addr) (fld : Str) : Prop where
  T : OexC K C
  ini : ∃ fI fd, PySem.W.findIn K (.ref C) "__init__" = some (some (.ref fI)) ∧ PySem.W.typeIn K (.ref fI) = some (.type "function") ∧ FnOk P w K mg base CX0 1 fI fd ["self", fld] (spI1i C fld) ∧ Binds K fd ["self", fld] []
  gC : mg x = some (.ref C)
  xc : XfC K C
  nf : PySem.W.findIn K (.ref C) fld = some none
  e1 : PySem.W.exmOne K (.ref C) (.ref C) = some true
structure RaS (P : Program) (w : World) (K : PySem.W.Frag) (mg : Str → Option Value) (base : Heap) (x : Str) (C : Addr) (fld : Str) : Prop where
  T : OexC K C
  ini : ∃ fI fd, PySem.W.findIn K (.ref C) "__init__" = some (some (.ref fI)) ∧ PySem.W.typeIn K (.ref fI) = some (.type "function") ∧ FnOk P w K mg base CX0 1 fI fd ["self", fld] (spI1 C fld) ∧ Binds K fd ["self", fld] []
  gC : mg x = some (.ref C)
  xc : XfC K C
  nf : PySem.W.findIn K (.ref C) fld = some none
  e1 : PySem.W.exmOne K (.ref C) (.ref C) = some true
section
variable {X : Cx} {W : WX} {x fld : Str} {C : Addr} {i : Int} {j : Nat} {p p2 pos pos' : Pos}
end
section
variable {X : Cx} {W : WX} {x n fld : Str} {C : Addr} {i : Nat} {m : Ms → O} {body : List Stmt} {np pos pos' p1 p2 p3 : Pos}
end
end Lq

namespace Lq
open PySem PySem.Spec PyProof.Rows L2
open Evl (Ex)
end Lq

namespace Lq
open PySem PySem.Spec PyProof.Rows L2
open Evl (Ex)
theorem meets_enumT (l : Addr) (items : Array Value) : Meets (Builtin.«enumerate.__new__» { pos := [.type "enumerate", .ref l] }) fun _ R s => s.heap.IsTuple l items ∧
    R (Except.ok (Flow.ret (Value.ref (s.heap.push { cls := Value.type "tuple_iterator", data := Data.fields #[Value.ref l, Value.int 0 0] }).objs.size)))
      { heap := (s.heap.push { cls := Value.type "tuple_iterator", data := Data.fields #[Value.ref l, Value.int 0 0] }).push { cls := Value.type "enumerate", data := Data.fields #[Value.none, Value.bool false, Value.ref s.heap.objs.size, rawInt 0, Value.none, Value.none] }, gens := s.gens, drawn := s.drawn, toks := s.toks, os := s.os } := by
  refine Meets.of_wp fun prog w A R s h => ?_
  obtain ⟨hl, h⟩ := h
  have hsub := sub_enumerate
  obtain ⟨hp, g, d, tk, os⟩ := s
  refine wpAny_bind ?_
  refine wpAny_bind ?_
  refine wpAny_pure ?_
  refine wpAny_ite_false rfl ?_
  refine wpAny_bind ?_
  refine wpAny_of_eq hsub ?_
  refine wpAny_ite_false rfl ?_
  refine wpAny_pure ?_
  refine wpAny_ite_true rfl ?_
  refine wpAny_bind ?_
  refine wpAny_bind ?_
  refine wpAny_stack_any fun st => ?_
  refine wpAny_pure ?_
  have tail : wpAny (model prog w) A.in1 (pyIter (Value.ref l) >>= fun x => Builtin.SmallTypes.newRecord (Value.type "enumerate") (Builtin.SmallTypes.ownedTupleFields ++ [x, rawInt 0, Value.none, Value.none]) >>= fun y => ret y) (fun fin s' => ∃ v, fin = Fin.done (Flow.ret v) ∧ R (Except.ok (Flow.ret v)) s') (fun e s' => R (Except.error e) s') { heap := hp, gens := g, drawn := d, toks := tk, os := os } := by
    refine wpAny_bind ?_
    refine wpAny_pyIter_tuple hl ?_
    refine wpAny_bind ?_
    unfold Builtin.SmallTypes.newRecord
    show wpAny _ _ (newObj _ _) _ _ _
    unfold newObj

    refine wpAny_ite_false rfl ?_
    refine wpAny_bind ?_
    refine wpAny_alloc' ?_
    refine wpAny_pure ?_
    refine wpAny_pure ?_
    exact ⟨_, rfl, h⟩
  split
  · rename_i c _ _ _ _ _
    generalize (c == Value.type "enumerate") = b
    cases b with
    | false =>
      refine wpAny_ite_false rfl ?_
      refine wpAny_bind (wpAny_of_eq (show _ = pure (Value.ref l, (none : Option Value)) from rfl) ?_)
      exact tail
    | true =>
      refine wpAny_ite_true rfl ?_
      refine wpAny_bind (wpAny_of_eq (show _ = pure (Value.ref l, (none : Option Value)) from rfl) ?_)
      exact tail
  · refine wpAny_ite_false rfl ?_
    refine wpAny_bind (wpAny_of_eq (show _ = pure (Value.ref l, (none : Option Value)) from rfl) ?_)
    exact tail
end Lq

namespace Lq
open PySem PySem.Spec PyProof.Rows L2
open Evl (Ex)
theorem nextOf_tup_item {prog : Program} {w : World} {A : Around} {E : Value → Shared → Prop} {s : Shared} {it l : Addr} {i : Nat} {items : Array Value} {x : Value} {Q : Value → Shared → Prop}
    (hit : s.heap.IsTupleIter it l i) (ht : s.heap.IsTuple l items) (hx : items[i]? = some x)
    (hQ : ∀ h' : Heap, h'.IsTupleIter it l (i + 1) → Heap.SameBut it s.heap h' → Q x { heap := h', gens := s.gens, drawn := s.drawn, toks := s.toks, os := s.os }) :
    wpAny (model prog w) A (Builtin.SmallTypes.nextOf (Value.ref it)) Q E s := by
  obtain ⟨o, ho, hc, hd⟩ := id hit
  obtain ⟨ol, hol, _, nl, hdl⟩ := ht
  refine wpAny_bind (wpAny_callSpecial?_slot (Heap.IsTupleIter.typeIs hit) F.slot_tuple_iterator_next (wpAny_call_entry F.slot_tuple_iterator_next (Heap.IsTupleIter.typeIs hit) F.entry_tuple_iterator_next ?_ (F.args_tuple_iterator_next_1 (Value.ref it))))
  refine wpAny_bind (wpAny_of_eq (show slotArgs "__next__" 0 { pos := [Value.ref it] } = pure (Value.ref it, []) from rfl) ?_)
  refine wpAny_bind (wpAny_field ho hd rfl ?_)
  rw [if_neg (by simp)]
  refine wpAny_bind (wpAny_field ho hd rfl ?_)
  refine wpAny_bind (wpAny_seqItems hol hdl ?_)
  simp only [Int.toNat_natCast, hx]
  refine wpAny_bind (wpAny_setField (i := 1) (x := rawInt ((i : Int) + 1)) ho hd (by simp) ?_)
  refine wpAny_pure (?_)
  refine (⟨x, rfl, wpAny_pure (hQ _ ⟨_, Heap.get?_update_self _ ho (Obj.isFreed_of_fields (Obj.data_mapFields hd _)), (Obj.cls_mapFields o _).trans hc, ?_⟩ (Heap.SameBut.update s.heap it _))⟩)
  rw [Obj.data_mapFields hd]
  simp
  rfl
theorem nextOf_tup_end {prog : Program} {w : World} {A : Around} {E : Value → Shared → Prop} {s : Shared} {it l : Addr} {i : Nat} {items : Array Value} {Q : Value → Shared → Prop}
    (hh : A.handled = none) (hit : s.heap.IsTupleIter it l i) (ht : s.heap.IsTuple l items) (hx : items[i]? = none)
    (hE : ∀ (h' : Heap) (e : Addr), Heap.ExtBut it s.heap h' → (∃ o, h'.get? e = some o ∧ o.cls = Value.type "StopIteration") → E (Value.ref e) { heap := h', gens := s.gens, drawn := s.drawn, toks := s.toks, os := s.os }) :
    wpAny (model prog w) A (Builtin.SmallTypes.nextOf (Value.ref it)) Q E s := by
  obtain ⟨o, ho, hc, hd⟩ := id hit
  obtain ⟨ol, hol, _, nl, hdl⟩ := ht
  refine wpAny_bind (wpAny_callSpecial?_slot (Heap.IsTupleIter.typeIs hit) F.slot_tuple_iterator_next (wpAny_call_entry F.slot_tuple_iterator_next (Heap.IsTupleIter.typeIs hit) F.entry_tuple_iterator_next ?_ (F.args_tuple_iterator_next_1 (Value.ref it))))
  refine wpAny_bind (wpAny_of_eq (show slotArgs "__next__" 0 { pos := [Value.ref it] } = pure (Value.ref it, []) from rfl) ?_)
  refine wpAny_bind (wpAny_field ho hd rfl ?_)
  rw [if_neg (by simp)]
  refine wpAny_bind (wpAny_field ho hd rfl ?_)
  refine wpAny_bind (wpAny_seqItems hol hdl ?_)
  simp only [Int.toNat_natCast, hx]
  refine wpAny_bind (wpAny_rule ?_)
  refine wpAny_bind (wpAny_setField (i := 0) (x := Value.none) ho hd (by simp) ?_)
  refine wpAny_bind ?_
  refine wpAny_bind (wpAny_newObj_type (wpAny_bind (wpAny_of_eq (Eq.refl (firstArgMember (Value.type "StopIteration") [])) (wpAny_newObj_type ?_ ?_))) ?_)
  · unfold raiseNew
    refine wpAny_bind (wpAny_handled ?_)
    rw [show A.in1.handled = none from hh]
    refine wpAny_bind (wpAny_pure ?_)
    exact wpAny_throw (hE _ _ (Heap.ExtBut.push (Heap.ExtBut.push (Heap.SameBut.extBut (Heap.SameBut.update s.heap it _)) _) _) ⟨_, Heap.get?_push_size _ rfl, rfl⟩)
  · exact sizeOk_excFields _ _ _ _ _ _ _ _
  · show (#[] : Array Value).size ≤ sizeLine
    decide

theorem drawsT {prog : Program} {w : World} {A : Around} (hh : A.handled = none) (it l : Addr) (hne : l ≠ it) (items : Array Value) :
    Draws prog w A it [it, l] items.size (fun i v => items[i]? = some v) fun i h => h.IsTupleIter it l i ∧ h.IsTuple l items where
  live := fun _ _ st => by obtain ⟨o, ho, _⟩ := st.1; exact ⟨o, ho⟩
  frame := fun _ _ _ st hk => ⟨Heap.IsTupleIter.at st.1 fun o e => hk it (by simp) o e, by
    obtain ⟨o, ho, hc⟩ := st.2
    exact ⟨o, hk l (by simp) o ho, hc⟩⟩
  item := fun i s Q E hi st hQ => nextOf_tup_item st.1 st.2 (show items[i]? = some items[i] by simp [hi]) fun h' hit' hs' => hQ items[i] h' s.toks (by simp [hi]) ⟨hit', by
    obtain ⟨o, ho, hc⟩ := st.2
    exact ⟨o, by rw [hs'.2 l hne]; exact ho, hc⟩⟩ hs'
  done := fun s Q E st hE => nextOf_tup_end hh st.1 st.2 (by simp) hE
theorem drawsE {prog : Program} {w : World} {A : Around} (hh : A.handled = none) (it l : Addr) (items : Array Value) (i : Nat) (hx : items[i]? = none) :
    Draws prog w A it [it, l] 0 (fun _ _ => False) fun _ h => h.IsTupleIter it l i ∧ h.IsTuple l items where
  live := fun _ _ st => by obtain ⟨o, ho, _⟩ := st.1; exact ⟨o, ho⟩
  frame := fun _ _ _ st hk => ⟨Heap.IsTupleIter.at st.1 fun o e => hk it (by simp) o e, by
    obtain ⟨o, ho, hc⟩ := st.2
    exact ⟨o, hk l (by simp) o ho, hc⟩⟩
  item := fun i s Q E hi => absurd hi (Nat.not_lt_zero _)
  done := fun s Q E st hE => nextOf_tup_end hh st.1 st.2 hx hE
theorem call_enumT {prog : Program} {w : World} {A : Around} {E : Value → Shared → Prop} {s : Shared} {l : Addr} {items : Array Value} {Q : Value → Shared → Prop} (hl : s.heap.IsTuple l items)
    (h : ∀ h' : Heap, IsEnum h' (s.heap.objs.size + 1) s.heap.objs.size 0 Value.none → h'.IsTupleIter s.heap.objs.size l 0 → h'.objs.size = s.heap.objs.size + 2 → (∀ (b : Addr) (o : Obj), s.heap.get? b = some o → h'.get? b = some o) →
      Q (Value.ref (s.heap.objs.size + 1)) { heap := h', gens := s.gens, drawn := s.drawn, toks := s.toks, os := s.os }) :
    wpAny (model prog w) A (call (Value.type "enumerate") [Value.ref l]) Q E s := by
  refine callType_new F.called_enumerate (by decide) (F.typeCall_enumerate_1 (Value.ref l)) (F.newCall_enumerate_1 (Value.ref l)) (fun obj => F.args_object_init_2 obj (Value.ref l)) F.entry_enumerate_new (meets_enumT l items) ⟨hl, ?_⟩
  have hz := Heap.size_push s.heap { cls := Value.type "tuple_iterator", data := Data.fields #[Value.ref l, Value.int 0 0] }
  have he := Heap.get?_push_size (s.heap.push { cls := Value.type "tuple_iterator", data := Data.fields #[Value.ref l, Value.int 0 0] }) (o := { cls := Value.type "enumerate", data := Data.fields #[Value.none, Value.bool false, Value.ref s.heap.objs.size, rawInt 0, Value.none, Value.none] }) rfl
  show _ ∧ _
  rw [hz] at he ⊢
  refine ⟨⟨_, he, rfl⟩, h _ he ⟨_, Heap.get?_push_of_some _ (Heap.get?_push_size s.heap rfl), rfl, rfl⟩ ?_ fun b o q => Heap.get?_push_of_some _ (Heap.get?_push_of_some _ q)⟩
  rw [Heap.size_push, hz]
def IteT (K : PySem.W.Frag) (a : Addr) : It := { go := fun i H => ∃ xs x, SqT K H a xs ∧ xs[i]? = some x, yld := fun i H v H' => ∃ T x, v = V.ref T ∧ H T = none ∧ H' = upd H T (HO.tup [V.int i, x]) ∧ ∀ xs : List V, SqT K H a xs → xs[i]? = some x, stop := fun i H => ∃ xs, SqT K H a xs ∧ xs.length ≤ i }
theorem turn_enumT {P : Program} {w : World} {K : PySem.W.Frag} {elts : List Expr} {kk : Nat} {tpos : Pos} (a e it : Addr) :
    Turn P w K (Expr.Tuple elts kk tpos) (IteT K a) [e, it] e fun i h => (∃ old, IsEnum h e it i old) ∧ h.IsTupleIter it a i ∧ e ≠ it where
  mem := by simp
  obj := fun i h st b hb => by
    obtain ⟨⟨old, he⟩, ⟨o, ho, hc, hd⟩, hne⟩ := st
    have e' : b = e ∨ b = it := by simpa using hb
    rcases e' with z | z
    · rw [z]; exact ⟨_, he, fun v q => nomatch q⟩
    · rw [z]; exact ⟨o, ho, fun v q => by rw [hd] at q; cases q⟩
  keep := fun i h h' st k => by
    obtain ⟨⟨old, he⟩, hi, hne⟩ := st
    exact ⟨⟨old, k e (by simp) _ he⟩, Heap.IsTupleIter.at hi fun o q => k it (by simp) o q, hne⟩
  item := fun X hP hw hK hc i pins s σ H E I hf st hg => by
    subst hP hw hK
    obtain ⟨⟨old, he⟩, hit, hne⟩ := st
    obtain ⟨xs, x, hq, hx⟩ := hg
    obtain ⟨its, rv, p, hz⟩ := Inv.tuple I hq
    obtain ⟨u, hu, ru⟩ := Vals.get rv hx
    have hel := Heap.lt_size he
    have hil : it < s.heap.objs.size := by obtain ⟨w, q, _⟩ := hit; exact Heap.lt_size q
    have p' : s.heap.IsTuple a its.toArray := p
    have hae : e ≠ a := by
      rintro rfl
      obtain ⟨o, ho, hc, _⟩ := p'
      rw [he] at ho
      cases ho
      exact absurd (Value.type.inj hc) (by decide)
    have hai : a ≠ it := by
      rintro rfl
      obtain ⟨o, ho, hc, _⟩ := p'
      obtain ⟨o2, ho2, hc2, _⟩ := hit
      rw [ho] at ho2
      cases ho2
      rw [hc] at hc2
      exact absurd (Value.type.inj hc2) (by decide)
    have hul : i < its.toArray.size := by
      rcases Nat.lt_or_ge i its.length with q | q
      · simpa using q
      · rw [List.getElem?_eq_none q] at hu; cases hu
    have hh : X.A.in1.handled = none := I.ok.hd hc
    refine wpAny_pyNext_enum_itemD (drawsT hh it a hai its.toArray) he ⟨hit, p'⟩ hul hne (by simp [hne, hae]) fun x' h' tk hx' ho hst hT hsz hk => ?_
    have ex : x' = u := by
      rw [List.getElem?_toArray, hu] at hx'
      exact (Option.some.inj hx').symm
    subst ex
    refine ⟨_, rfl, wpAny_letOwnedTupleGo_enum ho fun h'' he' sb => ?_⟩
    have hT2 := (sb.2 s.heap.objs.size (Nat.ne_of_gt hel)).trans hT
    have I1 := Inv.turnedNew (T := s.heap.objs.size) (ob := HO.tup [V.int i, x]) (h' := h'') (t' := tk + 1) (ch := [e, it]) I (fun b ob hb q => by
      have h1 : b ≠ e := fun z => hb (by simp [z])
      have h2 : b ≠ it := fun z => hb (by simp [z])
      exact (sb.2 b h1).trans (hk b ob h1 h2 q)) hf (Nat.le_refl _) ⟨show 2 ≤ sizeLine by decide, [Value.int i tk, x'], .cons ⟨tk, rfl⟩ (.cons ru .nil), _, hT2, rfl, 0, rfl⟩
    refine ⟨V.ref s.heap.objs.size, _, I1, rfl, ⟨s.heap.objs.size, x, rfl, HOk.fresh I.hok (Nat.le_refl _), rfl, fun ys hy => by rw [Inv.tuple_inj I hy hq]; exact hx⟩, ⟨⟨x', ?_⟩, Heap.IsTupleIter.at hst.1 fun o q => (sb.2 it (Ne.symm hne)).trans q, hne⟩, fun b hb => ?_⟩
    · have e1 : ((i + 1 : Nat) : Int) = (i : Int) + 1 := by omega
      rw [e1]
      exact he'
    · have e' : b = e ∨ b = it := by simpa using hb
      have hlt : b < s.heap.objs.size := by rcases e' with z | z <;> rw [z] <;> assumption
      rw [upd_ne (Nat.ne_of_lt hlt)]
      exact (hf b hb).1
  done := fun X hP hw hK hc i pins s σ H E I hf st hg => by
    subst hP hw hK
    obtain ⟨⟨old, he⟩, hit, hne⟩ := st
    obtain ⟨xs, hq, hx⟩ := hg
    obtain ⟨its, rv, p, hz⟩ := Inv.tuple I hq
    obtain ⟨f0, f1, f2, f3, f4, f5⟩ := hf it (by simp)
    have hl := Vals.length rv
    have p' : s.heap.IsTuple a its.toArray := p
    have hh : X.A.in1.handled = none := I.ok.hd hc
    have hn : its.toArray[i]? = none := by
      rw [List.getElem?_toArray, List.getElem?_eq_none]
      omega
    exact wpAny_pyNext_enum_endD (drawsE hh it a its.toArray i hn) he ⟨hit, p'⟩ fun h' eb => ⟨rfl, Inv.turned I (fun b o hb q => eb b o hb q) f0 f1 f3 f4 f5⟩
  self := fun A i s Q E st h => by
    obtain ⟨⟨old, he⟩, _⟩ := st
    exact wpAny_pyIter_enum he h
end Lq

namespace Lq
open PySem PySem.Spec PyProof.Rows L2
open Evl (Ex)
def iEnumT (K : PySem.W.Frag) (ta : TA) : TI := fun σ H R => ta σ H fun vs H1 => ∃ a xs, vs = [V.ref a] ∧ SqT K H1 a xs ∧ R (IteT K a) H1
theorem pi_enumT {X : Cx} {e : Expr} {ta : TA} {p pos tpos : Pos} {elts : List Expr} {kk : Nat} (hg : Gl X "enumerate") (hm : X.mg "enumerate" = none) (ha : PA X [e] ta) (hs : starEach [e] X.env = [(false, eval e X.env)] := by rfl) :
    PI X (.Tuple elts kk tpos) (.Call (.Name "enumerate" p) [e] [] pos) (iEnumT X.K ta) :=
  ⟨fun pins s σ H R I h => Call_ (ld_blt I hg hm boot_enumerate (PyProof.Rows.callWith_type1 (thn (ha.run pos pins s σ H (fun vs H1 => ∃ a xs, vs = [V.ref a] ∧ SqT X.K H1 a xs ∧ R (IteT X.K a) H1) I h) fun us s1 x => by
    obtain ⟨vs, H1, I1, r1, a, xs, rfl, hq, q⟩ := x
    have hu := Vals.ref1 r1
    subst hu
    obtain ⟨its, rv, p', hz⟩ := Inv.tuple I1 hq
    refine call_enumT p' fun h' he hit hsz hk => wpAny_pyIter_enum he ?_
    have I2 := Inv.kept (t' := s1.toks) I1 hk
    refine ⟨_, [s1.heap.objs.size + 1, s1.heap.objs.size], _, IteT X.K a, H1, rfl, I2, turn_enumT a _ _, ⟨⟨Value.none, he⟩, hit, Nat.succ_ne_self _⟩, fun b hb => ?_, q⟩
    have hle : s1.heap.objs.size ≤ b := by
      have e' : b = s1.heap.objs.size + 1 ∨ b = s1.heap.objs.size := by simpa using hb
      rcases e' with z | z <;> rw [z]
      · exact Nat.le_succ _
      · exact Nat.le_refl _
    exact Inv.fpOk I1 hle (HOk.fresh I1.hok hle)) hs rfl) (by decide) (by decide)) rfl⟩
def enumD (xs : List Dt) : List Dt := xs.zipIdx.map fun x => Dt.tup [.int (x.2 : Int), x.1]
theorem enumD_len (xs : List Dt) : (enumD xs).length = xs.length := by simp [enumD]
theorem enumD_get {xs : List Dt} {i : Nat} {d : Dt} (h : xs[i]? = some d) : (enumD xs)[i]? = some (.tup [.int (i : Int), d]) := by
  unfold enumD
  rw [List.getElem?_map, List.getElem?_zipIdx, h]
  simp
def itEn (f : Ms → R (List Dt)) : Ms → R (List Dt) := fun S => (f S).bind fun ds S1 => match ds with | [.tup xs] => .ok (enumD xs) S1 | _ => .no
theorem walksEn {K : PySem.W.Frag} {F : Hp} {a : Addr} {xs : List V} {ds : List Dt} (hs : TupAt K F a xs) (ha : RpA K F xs ds) : Lq.Walks K F (IteT K a) (enumD ds) := by
  have hl : (enumD ds).length = xs.length := by rw [enumD_len, ha.length]
  refine ⟨fun i H hi e => ?_, fun H e => ⟨xs, Evl.ex_t e hs.sq, by rw [hl]; exact Nat.le_refl _⟩, fun i H x H' F1 hi e e2 y => ?_⟩
  · rw [hl] at hi
    exact ⟨xs, xs[i], Evl.ex_t e hs.sq, by simp [hi]⟩
  · obtain ⟨T, u, rfl, h1, rfl, h2⟩ := y
    obtain ⟨d, d1, d2⟩ := ha.getv (h2 _ (Evl.ex_t (e.trans e2) hs.sq))
    refine ⟨_, enumD_get d1, .inr ⟨T, .tup [.int i, u], h1, rfl, ?_⟩⟩
    have ht : F1 T = none := by
      cases w : F1 T with
      | none => rfl
      | some o => rw [e2 _ _ w] at h1; cases h1
    exact .tup upd_same (.cons (.int _) (.cons ((d2.up e).up (Ex.new ht)) .nil))
section
variable {X : Cx} {W : WX} {a b c e o tg : Expr} {pos p tpos apos : Pos} {f g : Ms → R Dt} {fs : Ms → R (List Dt)} {i : Nat} {x : Str}
theorem di_enum {elts : List Expr} {kk : Nat} (hg : Gl X "enumerate") (hm : X.mg "enumerate" = none) (ha : PA X [e] (tA X.K W fs)) (hs : starEach [e] X.env = [(false, eval e X.env)] := by rfl) :
    PI X (.Tuple elts kk tpos) (.Call (.Name "enumerate" p) [e] [] pos) (tI X.K W (itEn fs)) := monoI1 (pi_enumT hg hm ha hs) fun σ H R q => by
  obtain ⟨B, F, as, S, r, o⟩ := q
  refine ⟨B, F, as, S, r, Out.mono (Out.bind o) fun ds F1 H1 as1 S1 ⟨r1, e1, o1⟩ vs hv => ?_⟩
  split at o1
  · obtain ⟨v, rfl, h1⟩ := rpa1 hv
    cases h1 with
    | tup hs ha => exact ⟨_, _, rfl, Evl.ex_t r1.fh hs.sq, Out.now o1 r1 _ (walksEn hs ha)⟩
  · exact o1.elim
def anyO : List Dt → Option Dt | [.lst xs] => (blsOf xs).map fun bs => .bl (bs.any id) | _ => none
@[simp] theorem anyO_run (bs : List Bool) : anyO [.lst (bs.map Dt.bl)] = some (.bl (bs.any id)) := by unfold anyO; dsimp only; rw [blsOf_map]; rfl
end
section
variable {X : Cx} {W : WX} {a : Expr} {pos p : Pos} {f : Ms → R Dt}
def sumT : List Dt → Option Dt | [.tup xs] => (intsOf xs).map fun ns => .int ns.sum | _ => none
@[simp] theorem sumT_run (ns : List Int) : sumT [.tup (ns.map Dt.int)] = some (.int ns.sum) := by unfold sumT; dsimp only; rw [intsOf_map]; rfl
end
end Lq

namespace Lq
open PySem PySem.Spec PyProof.Rows L2
open Evl (Ex)
structure RaN (P : Program) (w : World) (K : PySem.W.Frag) (mg : Str → Option Value) (base : Heap) (x : Str) (C : Addr) : Prop where
  gC : mg x = some (.ref C)
  kC : PySem.W.keepIn K (.ref C) = true
  xC : PySem.W.excIn K C [.type "ValueError", .type "Exception", .type "BaseException", .type "object"] "ValueError.__new__" = true
  eC : PySem.W.subIn K (.ref C) (.type "BaseException") = some true
  tC : PySem.W.typeIn K (.ref C) = some (.type "type")
  e1 : PySem.W.exmOne K (.ref C) (.ref C) = some true
section
variable {X : Cx} {W : WX} {x y fld : Str} {C : Addr} {j : Nat} {p p2 pos pos' : Pos} {m : Str}
theorem ds_raiseS (T : RaS X.prog X.w X.K X.mg X.base x C fld) (hc : X.calm = true) (tk : Takes X W) (hr : Room 2 X.A) (hg : Gl X x) (hl : m.length ≤ 1000) (hdb : (x == ("__debug__" : Str)) = false := by decide)
    (hst : starEach [Expr.Constant (.str m) j p2] X.env = (false, eval (.Constant (.str m) j p2) X.env) :: starEach [] X.env := by rfl) (hpl : (backTo pos (starEach [] X.env)).any (·.1) = false := by rfl) :
    PS X (.Raise (some (.Call (.Name x p) [.Constant (.str m) j p2] [] pos)) none pos') (sD X.K W (raiseS ⟨C, [fld], [.str m]⟩)) := by
  obtain ⟨fI, fd, iC, tI, F1, hb⟩ := T.ini
  exact ds_raise1 hc tk T.T iC tI F1 hr hb pass0 hg T.gC hl hdb hst hpl
end
section
variable {X : Cx} {W : WX} {x x2 n fld y : Str} {C C2 : Addr} {i j : Nat} {m : Ms → O} {body : List Stmt} {np np2 pos pos' pos2 p1 p2 p3 q1 q2 : Pos}
end
end Lq

namespace Lq
open PySem PySem.Spec PyProof.Rows L2
open Evl (Ex)
def fldO (C : Addr) (f : Str) : Dt → Option Dt | .obj C' ks ds => if C' = C then (ks.zip ds).lookup f else none | _ => none
def fldE (C : Addr) (f : Str) (m : Ms → R Dt) : Ms → R Dt := op1 m (fldO C f)
section
variable {X : Cx} {W : WX} {e o : Expr} {es : List Expr} {m : Ms → R Dt} {fs : Ms → R (List Dt)} {x f : Str} {C : Addr} {p pos apos : Pos} {j k n i : Nat} {ps : List Str} {g : List Dt → Fo}
end
end Lq

namespace Lq
open PySem PySem.Spec PyProof.Rows L2
open Evl (Ex)
end Lq

namespace Lq
open PySem PySem.Spec PyProof.Rows L2
open Evl (Ex)
section
variable {P : Program} {w : World} {K : PySem.W.Frag} {mg : Str → Option Value} {base : Heap}
end

end Lq

namespace Lq
open PySem PySem.Spec PyProof.Rows L2
open Evl (Ex)
end Lq

namespace Lq
open PySem
open Sem (wp)
def san : Frame → Frame
  | .gen _ _ l c p => .ret (fun _ => .unsupported "") none false l c p []
  | f => f
def psn : GenState → GenState
  | .suspended _ l c p fs cl => .suspended (fun _ => .unsupported "") l c p (fs.map san) cl
  | x => x
def isSus : GenState → Bool
  | .suspended .. => true
  | _ => false
theorem psn_bare (x : GenState) : (psn x).bare = x.bare := by cases x <;> rfl
def Psn (s : Shared) : Shared := { s with gens := s.gens.map psn }
def Wf (s : Shared) : Prop := ∀ (i : Nat) (k : Resume → Sem PySem.Fin) (l : List Value) (c : Code) (p : Pos) (fs : List Frame) (cl : Bool), s.gens[i]? = some (GenState.suspended k l c p fs cl) → splitAtGen fs = none
def Pd (D : Nat → Option GenState) (s : Shared) : Prop := ∀ i x, D i = some x → isSus x = true ∧ s.gens[i]? = some (psn x)
def Rst (D : Nat → Option GenState) (s : Shared) : Shared := { s with gens := s.gens.mapIdx fun i y => (D i).getD y }
section
variable {D : Nat → Option GenState} {s : Shared} {g : Nat} {x y : GenState}
theorem Pd.none (h : Pd D s) (hg : s.gens[g]? = some x) (hx : isSus x = false) : D g = none := by
  cases e : D g with
  | none => rfl
  | some y =>
    obtain ⟨h1, h2⟩ := h g y e
    rw [hg] at h2; cases h2
    cases y <;> simp [psn, isSus] at hx h1
theorem Pd.at (h : Pd D s) (hd : D g = some x) : (Rst D s).gens[g]? = some x := by
  show (s.gens.mapIdx fun i y => (D i).getD y)[g]? = _
  rw [Array.getElem?_mapIdx, (h g x hd).2, hd]; rfl
theorem Pd.set (h : Pd D s) (hd : D g = .none) : Pd D (s.setGen g x) := fun i y e => by
  have ne : i ≠ g := by rintro rfl; rw [hd] at e; cases e
  refine ⟨(h i y e).1, ?_⟩
  show (s.gens.setIfInBounds g x)[i]? = _
  rw [Array.getElem?_setIfInBounds_ne (Ne.symm ne)]
  exact (h i y e).2
theorem Pd.push (h : Pd D s) : Pd D { s with gens := s.gens.push x } := fun i y e => by
  refine ⟨(h i y e).1, ?_⟩
  have h2 := (h i y e).2
  have hl : i < s.gens.size := (Array.getElem?_eq_some_iff.mp h2).1
  show (s.gens.push x)[i]? = _
  rw [Array.getElem?_push_lt hl, ← h2, Array.getElem?_eq_getElem hl]
theorem Wf.set (h : Wf s) (hx : ∀ k l c p fs cl, x = .suspended k l c p fs cl → splitAtGen fs = none) : Wf (s.setGen g x) := fun i k l c p fs cl e => by
  have e : (s.gens.setIfInBounds g x)[i]? = some (.suspended k l c p fs cl) := e
  by_cases z : i = g
  · subst z
    rw [Array.getElem?_setIfInBounds_self] at e
    split at e
    · exact hx _ _ _ _ _ _ (Option.some.inj e)
    · cases e
  · rw [Array.getElem?_setIfInBounds_ne (Ne.symm z)] at e
    exact h _ _ _ _ _ _ _ e
theorem Wf.push (h : Wf s) (hx : isSus x = false) : Wf { s with gens := s.gens.push x } := fun i k l c p fs cl e => by
  have e : (s.gens.push x)[i]? = some (.suspended k l c p fs cl) := e
  rw [Array.getElem?_push] at e
  split at e
  · cases e; cases hx
  · exact h _ _ _ _ _ _ _ e
end
def EndF : End → Prop
  | .ret _ => True
  | .susp _ _ _ _ _ _ fs => splitAtGen fs = none
theorem EndF.state {e : End} (h : EndF e) : ∀ k l c p fs cl, e.genState = .suspended k l c p fs cl → splitAtGen fs = none := fun k l c p fs cl q => by
  cases e with
  | ret r => cases q
  | susp v g l' k' c' p' fs' =>
    cases q
    exact h
section
variable {M : Model} {D : Nat → Option GenState}
structure Slp (s s1 s0 : Shared) : Prop where
  heap : s1.heap = s0.heap
  os : s1.os = s0.os
  bare : PyProof.Rows.AllBare s.gens → PyProof.Rows.AllBare s0.gens → PyProof.Rows.AllBare s1.gens
  kept : ∀ (g : Nat) (x : GenState), s.gens[g]? = some x → isSus x = true → s1.gens[g]? = some x
end
theorem psn_allBare {s : Shared} (h : PyProof.Rows.AllBare s.gens) : PyProof.Rows.AllBare (Psn s).gens := fun y hy => by
  obtain ⟨x, hx, rfl⟩ := Array.mem_map.mp (show y ∈ s.gens.map psn from hy)
  rw [psn_bare]; exact h x hx
end Lq

namespace Lq
open PySem PySem.Spec PyProof.Rows L2 GenW
open Evl (Ex)
def Fu (M : Model) (A : Around) (Φ : End → Shared → Prop) (c : Code) (t : Sem PySem.Fin) (fs : List Frame) (s : Shared) : Prop :=
  ∀ (Γ : PySem.Ctx) (p : Pos), Γ.code = c → Γ.Woken A → ∃ e s', Runs M Γ p t fs s e s' ∧ Φ e s'
section
variable {M : Model} {A : Around} {Φ : End → Shared → Prop} {c : Code} {fs : List Frame} {s : Shared}
end
section
variable {prog : Program} {w : World} {A : Around} {Φ : End → Shared → Prop} {fs : List Frame} {s : Shared} {env : Env}
end

def LSt (it l : Addr) (xs : List V) (j : Nat) (h : Heap) : Prop := h.IsListIter it l j ∧ ∃ its : List Value, Vals xs its ∧ h.IsList l its.toArray
def Trn (it : Addr) (s s' : Shared) : Prop := ∃ (h' : Heap) (tk : Nat), s' = { s with heap := h', toks := tk } ∧ ∀ b o, b ≠ it → s.heap.get? b = some o → h'.get? b = some o
def TR (it : Addr) (xs : List V) : GenEnd := fun n s₀ r s1 => ((r = .ok (.ret .none) ∨ r = .ok .next) ∧ (n + xs.length = sizeLine ∧ Trn it s₀ s1)) ∨ ∃ e, r = .error e ∧ False
def TY (it l : Addr) (xs : List V) : Protocol := fun n s₀ v s1 kap => ∃ j x, n + 1 + j = sizeLine ∧ xs[j]? = some x ∧ RelV x v ∧ Trn it s₀ s1 ∧ LSt it l xs (j + 1) s1.heap ∧ ∀ s'', LSt it l xs (j + 1) s''.heap → kap (.send .none) s''
end Lq

namespace Lq
open PySem PySem.Spec PyProof.Rows L2 GenW
open Evl (Ex)
abbrev SpY := List V → Hp → (List V → Addr → Hp → Prop) → Prop
def YF (P : Program) (w : World) (outer : List Env) (H : Hp) (s : Shared) (pins : List (Addr × Obj)) (a : Addr) (g : Nat) (Q : List V → Addr → Hp → Prop) (it l : Addr) (xs : List V) (s1 : Shared) : Prop :=
  ∃ H', s1.os = s.os ∧ AllBare s1.gens ∧ s1.heap.NoLimit ∧ Un (frs outer) [] H H' s.heap s1.heap ∧ HOk P w H' s1.heap ∧ H' l = some (.lst xs) ∧ LSt it l xs 0 s1.heap ∧ s.heap.objs.size ≤ it ∧ it ∉ frs outer ∧ a ≠ it ∧ (∀ b o, s.heap.get? b = some o → b ≠ it) ∧ (∀ p ∈ pins, p.1 ≠ it) ∧ l ≠ it ∧ H' it = none ∧ H' a = none ∧
    (∀ p ∈ pins, s1.heap.get? p.1 = some p.2 ∧ H' p.1 = none) ∧ s1.heap.IsGen a g ∧ xs.length ≤ sizeLine ∧ Q xs l H'
def YP (P : Program) (w : World) (A : Around) (outer : List Env) (H : Hp) (s : Shared) (pins : List (Addr × Obj)) (a : Addr) (g : Nat) (Q : List V → Addr → Hp → Prop) (e : End) (s' : Shared) : Prop :=
  ∃ it l xs s1, YF P w outer H s pins a g Q it l xs s1 ∧ SegEnd (TR it xs) (TY it l xs) sizeLine (Seg.next (model P w) A (TR it xs) (TY it l xs) sizeLine) s1 e s'
def YMade (P : Program) (w : World) (k : Nat) (outer : List Env) (H : Hp) (s : Shared) (sp : SpY) (vs : List V) (u : Value) (s' : Shared) : Prop :=
  ∃ (a : Addr) (g : Nat) (c : Code), u = .ref a ∧ s.heap.objs.size ≤ a ∧ a < s'.heap.objs.size ∧ s'.heap.IsGen a g ∧ s'.gens[g]? = some (.fresh c) ∧ s'.os = s.os ∧ AllBare s'.gens ∧ s'.heap.NoLimit ∧ (∀ b o, s.heap.get? b = some o → s'.heap.get? b = some o) ∧
    ∀ (A : Around) (s2 : Shared) (H2 : Hp) (pins : List (Addr × Obj)) (Q : List V → Addr → Hp → Prop), Room k A → A.frames = some outer → (∀ b o, s'.heap.get? b = some o → s2.heap.get? b = some o) → s2.os = s.os → AllBare s2.gens → HOk P w H2 s2.heap →
      (∀ b o, H b = some o → H2 b = some o) → (∀ b, b < s'.heap.objs.size → H b = none → H2 b = none) → (∀ p ∈ pins, s2.heap.get? p.1 = some p.2 ∧ H2 p.1 = none ∧ s'.heap.objs.size ≤ p.1 ∧ ∀ v, p.2.data ≠ .cell v) → sp vs H2 Q →
      Fu (model P w) A (YP P w A outer H s pins a g Q) c ((model P w).den c) [] s2
structure GFnY (P : Program) (w : World) (K : PySem.W.Frag) (mg : Str → Option Value) (base : Heap) (k : Nat) (f : Addr) (fd : FuncData) (ps : List Str) (sp : SpY) : Prop where
  run : ∀ (A : Around) (outer : List Env) (s : Shared) (H : Hp) (args : Args) (us : List Value) (vs : List V), Room k A → Env0 P w K mg base A outer s H → BindsTo s fd args (ps.zip us) → Vals vs us → vs.length = ps.length →
    codeAny (model P w) A (.call (.ref f) args) (fun r s' => match r with | .ok (.ret u) => YMade P w k outer H s sp vs u s' | _ => False) s
end Lq

namespace Lq
open PySem PySem.Spec PyProof.Rows L2 GenW
open Evl (Ex)
section
variable {P : Program} {w : World} {A : Around} {E : Value → Shared → Prop} {s : Shared}
structure YAt (P : Program) (w : World) (A : Around) (a : Addr) (g : Nat) (it l : Addr) (xs : List V) (j : Nat) (s : Shared) : Prop where
  gen : s.heap.IsGen a g
  at_ : LSt it l xs j s.heap
  len : xs.length ≤ sizeLine
  sus : ∃ k l0 c p fs cl m, s.gens[g]? = some (.suspended k l0 c p fs cl) ∧ m + j = sizeLine ∧ ∀ s'', LSt it l xs j s''.heap → Seg (model P w) A.in1 (TR it xs) (TY it l xs) m s'' c (k (.send .none)) fs s''
structure YTrn (it : Addr) (s s1 : Shared) : Prop where
  os : s1.os = s.os
  bare : AllBare s.gens → AllBare s1.gens
  keep : ∀ b o, b ≠ it → s.heap.get? b = some o → s1.heap.get? b = some o
theorem Trn.y {it : Addr} {s s1 : Shared} {g : Nat} {x y : GenState} (h : Trn it (s.setGen g x) s1) (hx : x.bare = true) (hy : y.bare = true) : YTrn it s (s1.setGen g y) := by
  obtain ⟨h', tk, rfl, hk⟩ := h
  exact ⟨rfl, fun z => allBare_setGen (s := { (s.setGen g x) with heap := h', toks := tk }) (allBare_setGen z hx) hy, fun b o hb e => hk b o hb e⟩
end
end Lq

namespace Lq
open PySem PySem.Spec PyProof.Rows L2 GenW
open Evl (Ex)
def Kg (s s1 : Shared) : Prop := ∀ (g : Nat) (x : GenState), s.gens[g]? = some x → isSus x = true → s1.gens[g]? = some x
theorem Kg.trans {s s1 s2 : Shared} (a : Kg s s1) (b : Kg s1 s2) : Kg s s2 := fun g x h hx => b g x (a g x h hx) hx
section
variable {X : Cx} {pins : List (Addr × Obj)} {σ : L2.St} {H H' : Hp} {s s0 s1 : Shared}
theorem Inv.psn (I : L2.Inv X pins σ H s) : L2.Inv X pins σ H (Psn s) := ⟨I.ok, I.os, psn_allBare I.bare, I.base, I.loc, I.cell, I.free, I.freeC, I.pin, I.hok, I.len⟩
end
section
variable {X : Cx} {pins : List (Addr × Obj)} {σ σ' : L2.St} {H1 H3 H6 : Hp} {sc s3 s4 s6 : Shared} {scope : Scope} {ce : Env}
end
abbrev TyG := L2.St → Hp → (List V → Hp → Prop) → Prop
structure PYG (X : Cx) (k : Nat) (e : Expr) (sp : SpY) (ty : TyG) : Prop where
  run : ∀ (pins : List (Addr × Obj)) (s : Shared) (σ : L2.St) (H : Hp) (R : List V → Hp → Prop), L2.Inv X pins σ H s → ty σ H R →
    wpAny (model X.prog X.w) X.A (eval e X.env) (fun u s' => ∃ H1 sc vs, L2.Inv X pins σ H1 sc ∧ R vs H1 ∧ YMade X.prog X.w k X.stack H1 sc sp vs u s') X.xe s
end Lq

namespace Lq
open PySem PySem.Spec PyProof.Rows L2 GenW
open Evl (Ex)
section
variable {X : Cx}
end
end Lq

namespace Lq
open PySem PySem.Spec PyProof.Rows L2 GenW
open Evl (Ex)
section
variable {X : Cx} {k : Nat} {elt tg iter : Expr} {ifs : List Expr} {scope : Scope} {own : List (Str × Nat)} {pos : Pos} {sp : SpY} {ty : TyG} {g : TG} {tt : TT} {te : TE}
end
section
variable {X : Cx} {k : Nat} {f C : Addr} {fd : FuncData} {ps : List Str} {sp : SpY} {m : Str} {p pos pos' apos : Pos} {o : Expr} {ta : TE}
end
end Lq

namespace Lq
open PySem PySem.Spec PyProof.Rows L2 GenW
open Evl (Ex)
section
variable {X : Cx} {W : WX} {m : Ms → R Dt} {T : Tk} {t : Ms → R Bool} {e : Ms → R Dt} {own : List Nat} {C : Addr} {x : Str} {g : List Dt → FoN}
end
section
variable {X : Cx} {W : WX} {m : Ms → R Dt} {T : Tk} {t : Ms → R Bool} {fe : Ms → R Dt} {own : List (Str × Nat)} {C : Addr} {x y : Str} {g : List Dt → FoN} {k j : Nat} {p0 : Str} {o elt tg : Expr} {ifs : List Expr} {scope : Scope} {pos pos' apos : Pos} {i : Nat} {pl : Sem Bool}
end
end Lq

namespace Lq
open PySem PySem.Spec PyProof.Rows L2
open Evl (Ex)
section
variable {X : Cx} {W : WX} {T T1 : Tk} {it it1 : Ms → R (List Dt)} {t t1 : Ms → R Bool} {fe : Ms → R Dt} {own : List (Str × Nat)} {y : Str} {elt tg iter tg1 iter1 : Expr} {ifs ifs1 : List Expr} {scope : Scope} {pos : Pos} {i : Nat}
end
end Lq

namespace Lq
open PySem PySem.Spec PyProof.Rows L2 GenW
open Evl (Ex)
section
variable {X : Cx} {W : WX} {a b e o ix : Expr} {pos p p2 tpos : Pos} {f g : Ms → R Dt} {i : Nat} {x : Str}
end
end Lq

namespace Lq
open PySem PySem.Spec PyProof.Rows L2
open Evl (Ex)
inductive HdG (X : Cx) : List ExceptHandler → List (Value × Option Nat × (Addr → Value → Option Addr → TS)) → Prop
  | nil : HdG X [] []
  | cons {x : Str} {c : Value} {ts : Addr → Value → Option Addr → TS} {b₀ : Stmt} {suite : List Stmt} {np pos' : Pos} {hds : List ExceptHandler} {l : List (Value × Option Nat × (Addr → Value → Option Addr → TS))} (hc : Names X x c)
      (hsu : ∀ (a : Addr) (oe : Obj) (cls : Value) (d : Option Addr) (pn : List (Addr × Obj)), Zc cls d oe → (∃ vs, oe.data = Data.fields vs) → PSs (X.suite a ((a, oe) :: pn)) (b₀ :: suite) (ts a cls d)) (r : HdG X hds l) :
      HdG X (.ExceptHandler (some (.Name x np)) none (b₀ :: suite) pos' :: hds) ((c, none, ts) :: l)
  | nam {i : Nat} {x n : Str} {c : Value} {ts : Addr → Value → Option Addr → TS} {b₀ : Stmt} {suite : List Stmt} {np pos' : Pos} {hds : List ExceptHandler} {l : List (Value × Option Nat × (Addr → Value → Option Addr → TS))} (hN : X.N.Nodup) (hi : X.N[i]? = some n) (hln : X.env.kindOf n = some NameKind.local) (hc : Names X x c)
      (hsu : ∀ (a : Addr) (oe : Obj) (cls : Value) (d : Option Addr) (pn : List (Addr × Obj)), Zc cls d oe → (∃ vs, oe.data = Data.fields vs) → PSs (X.suite a ((a, oe) :: pn)) (b₀ :: suite) (ts a cls d)) (r : HdG X hds l) :
      HdG X (.ExceptHandler (some (.Name x np)) (some n) (b₀ :: suite) pos' :: hds) ((c, some i, ts) :: l)
inductive Hk where | st (h : Ms → O) | rf (f : Str) (i : Nat) | ap (f : Str) (i j : Nat)
structure Hc where
  C : Addr
  yes : List Addr
  nos : List Addr
  k : Hk
def Hk.ts (K : PySem.W.Frag) (C : Addr) : Hk → Addr → Value → Option Addr → TS
  | .st h => fun _ _ _ => sD K W0 h
  | .rf f i => fun a cls d D σ H => ∃ dx, cls = .ref C ∧ d = some dx ∧ tRet (tXf a (.ref C) (some dx) C f (tVar i)) D σ H
  | .ap f i j => fun a cls d D σ H => ∃ dx, cls = .ref C ∧ d = some dx ∧ ∃ p xs fs v, σ[j]? = some (some (.ref p)) ∧ H p = some (.lst xs) ∧ xs.length < sizeLine ∧ σ[i]? = some (some (.ref a)) ∧ H dx = some (.xd fs) ∧ fs.lookup f = some v ∧ D.nx σ (upd H p (.lst (xs ++ [v])))
def Hk.sl : Hk → Option Nat | .st _ => none | .rf _ i => some i | .ap _ i _ => some i
structure HcOk (K : PySem.W.Frag) (c : Hc) : Prop where
  yes : ∀ A ∈ c.yes, PySem.W.exmOne K (.ref A) (.ref c.C) = some true
  nos : ∀ A ∈ c.nos, PySem.W.exmOne K (.ref A) (.ref c.C) = some false
  sole : c.k.sl ≠ none → ∀ A ∈ c.yes, A = c.C
section
variable {X : Cx} {x n f : Str} {C : Addr} {i j : Nat} {h : Ms → O} {b₀ : Stmt} {suite : List Stmt} {np pos' p1 p2 p3 apos cpos : Pos} {hds : List ExceptHandler} {l : List (Value × Option Nat × (Addr → Value → Option Addr → TS))}
end
end Lq

namespace Lq
open PySem PySem.Spec PyProof.Rows L2
@[simp] theorem fldE_run' (C : Addr) (f : Str) (m : Ms → R Dt) (S : Ms) : fldE C f m S = (m S).bind fun d S1 => R.of (fldO C f d) S1 := nrfl rfl
end Lq

namespace Lq
open PySem PySem.Spec PyProof.Rows L2
open Evl (Ex)
section
variable {X : Cx} {W : WX} {a e : Expr} {p pos p2 kp : Pos} {f : Ms → R Dt}
def anyT : List Dt → Option Dt | [.tup xs] => (intsOf xs).map fun ns => .bl (ns.any fun n => n != 0) | _ => none
@[simp] theorem anyT_run (ns : List Int) : anyT [.tup (ns.map Dt.int)] = some (.bl (ns.any fun n => n != 0)) := by unfold anyT; dsimp only; rw [intsOf_map]; rfl
end
end Lq

namespace Lq
open PySem PySem.Spec PyProof.Rows L2
open Evl (Ex)
section
variable {X : Cx} {W W1 : WX} {a b : Expr} {pos : Pos} {f g : Ms → R Dt} {C : Addr} {j k : Nat} {ps : List Str} {e : List Dt → Fo}
structure IsC (K : PySem.W.Frag) (C : Addr) : Prop where
  cl : Cls K C
  ha : PySem.W.findIn K (.ref C) "__class__" = some (some (.builtin "object.__class__"))
  hn : PySem.W.specialIn K (.builtin "object.__class__") "__get__" = some (some (.builtin "getset_descriptor.__get__"))
  htk : PySem.W.takesIn K (.builtin "object.__class__") = some true
  hm : PySem.W.mroIn K C (.type "object") = some true
end
end Lq

namespace Lq
open PySem PySem.Spec PyProof.Rows L2
end Lq

namespace Lq
open PySem PySem.Spec PyProof.Rows L2
section
variable {X : Cx} {W : WX} {e : Expr} {x : Str} {i : Nat} {f : Ms → R Dt} {pos pos' : Pos}
end
end Lq

namespace Lq
open PySem PySem.Spec PyProof.Rows L2
section
variable {X : Cx} {W : WX} {o e : Expr} {i : Nat} {fn : Ms → R (List Dt)} {pos apos cpos : Pos}
theorem RpA.init {K : PySem.W.Frag} {F : Hp} : ∀ {vs : List V} {ds : List Dt}, RpA K F vs ds → RpA K F vs.dropLast ds.dropLast
  | _, _, .nil => .nil
  | _, _, .cons h .nil => .nil
  | _, _, .cons h (.cons h2 t) => .cons h (RpA.init (.cons h2 t))
end
end Lq

namespace Lq
open PySem PySem.Spec PyProof.Rows L2
open Evl (Ex)
section
variable {X : Cx} {W : WX} {tg : Expr} {p pos : Pos}
theorem walksD {K : PySem.W.Frag} {F : Hp} {lo c : Int} {n : Nat} {ds : List Dt} (h : ds = (List.range n).map fun (k : Nat) => Dt.int (lo + (k : Int) * c)) : Walks K F (Itc lo c n) ds := by
  subst h
  have hl : ((List.range n).map fun (k : Nat) => Dt.int (lo + (k : Int) * c)).length = n := by simp
  refine ⟨fun i H hi e => by rw [hl] at hi; exact hi, fun H e => by rw [hl]; exact Nat.le_refl _, fun i H x H' F1 hi e e2 y => ?_⟩
  rw [hl] at hi
  obtain ⟨rfl, rfl⟩ := y
  refine ⟨.int (lo + i * c), ?_, .inl ⟨rfl, .int _⟩⟩
  rw [List.getElem?_map, List.getElem?_range hi]
  rfl
theorem rpa3 {K : PySem.W.Frag} {F : Hp} {vs : List V} {d e g : Dt} (h : RpA K F vs [d, e, g]) : ∃ v w u, vs = [v, w, u] ∧ Rp K F v d ∧ Rp K F w e ∧ Rp K F u g := by
  cases h with
  | cons h1 h2 =>
    obtain ⟨w, u, rfl, h3, h4⟩ := rpa2 h2
    exact ⟨_, w, u, rfl, h1, h3, h4⟩
def itR3 (fs : Ms → R (List Dt)) : Ms → R (List Dt) := fun S => (fs S).bind fun ds S1 => match ds with
  | [.int i, .int j, .int c] => if -(2 ^ 62) ≤ i ∧ i < 2 ^ 62 ∧ -(2 ^ 62) ≤ j ∧ j < 2 ^ 62 ∧ c = -1 then .ok ((List.range (i - j).toNat).map fun (k : Nat) => Dt.int (i + (k : Int) * c)) S1 else .no
  | _ => .no
theorem di_range3 {a b c : Expr} (hg : Gl X "range") (hm : X.mg "range" = none) (ha : PA X [a, b, c] (tA X.K W fs)) (hs : starEach [a, b, c] X.env = (false, eval a X.env) :: starEach [b, c] X.env := by rfl) (hpl : (backTo pos (starEach [b, c] X.env)).any (·.1) = false := by rfl) : PI X tg (.Call (.Name "range" p) [a, b, c] [] pos) (tI X.K W (itR3 fs)) := monoI1 (pi_range3 hg hm ha hs hpl) fun σ H R q => by
  obtain ⟨B, F, as, S, r, o⟩ := q
  refine ⟨B, F, as, S, r, Out.mono (Out.bind o) fun ds F1 H1 as1 S1 ⟨r1, e1, o1⟩ vs hv => ?_⟩
  split at o1
  · rename_i i j c
    split at o1
    · rename_i hj
      obtain ⟨v, w, u, rfl, h1, h2, h3⟩ := rpa3 hv
      cases h1; cases h2; cases h3
      obtain ⟨j1, j2, j3, j4, rfl⟩ := hj
      exact ⟨_, _, _, _, rfl, RgC.neg j1 j2 j3 j4, Out.now o1 r1 _ (walksD rfl)⟩
    · exact o1.elim
  · exact o1.elim
def itRv (f : Ms → R Dt) : Ms → R (List Dt) := fun S => (f S).bind fun d S1 => match d with
  | .int j => if -(2 ^ 62) ≤ j ∧ j < 2 ^ 62 then .ok ((List.range j.toNat).map fun (k : Nat) => Dt.int ((j.toNat : Int) - 1 - (k : Int))) S1 else .no
  | _ => .no
theorem di_revR {a : Expr} {p2 pos2 : Pos} (hg2 : Gl X "reversed") (hm2 : X.mg "reversed" = none) (hg : Gl X "range") (hm : X.mg "range" = none) (ha : PE X a (tD X.K W f)) (na : starEach [a] X.env = (false, eval a X.env) :: starEach [] X.env := by rfl)
    (hs : starEach [.Call (.Name "range" p2) [a] [] pos2] X.env = (false, eval (.Call (.Name "range" p2) [a] [] pos2) X.env) :: starEach [] X.env := by rfl) : PI X tg (.Call (.Name "reversed" p) [.Call (.Name "range" p2) [a] [] pos2] [] pos) (tI X.K W (itRv f)) := monoI1 (pi_revR hg2 hm2 (prg_1 hg hm ha na) hs) fun σ H R q => by
  obtain ⟨B, F, as, S, r, o⟩ := q
  refine ⟨B, F, as, S, r, Out.mono (Out.bind o) fun d F1 H1 as1 S1 ⟨r1, e1, o1⟩ v hv => ?_⟩
  cases d with
  | int j =>
    cases hv
    dsimp only at o1
    split at o1
    · rename_i hj
      refine ⟨j, rfl, by decide, by decide, hj.1, hj.2, Out.now o1 r1 _ ?_⟩
      rw [Int.sub_zero]
      refine walksD ?_
      apply List.map_congr_left
      intro k _
      congr 1
      omega
    · exact o1.elim
  | _ => exact o1.elim
def revL (f : Ms → R Dt) : Ms → R (List Dt) := fun S => (f S).bind fun d S1 => match d with | .lst xs => .ok xs.reverse S1 | _ => .no
theorem dn_revL {e : Expr} {k : Nat} {p1 p2 p3 : Pos} (he : PE X e (tD X.K W f)) : PE X (.Subscript e (.Slice none none (some (.UnaryOp .USub (.Constant (.int 1) k p1) p2)) p3) pos) (tN X.K W (revL f)) := monoE (pe_revL he) fun σ H Q q => by
  obtain ⟨B, F, as, S, r, o⟩ := q
  refine ⟨B, F, as, S, r, Out.mono (Out.bind o) fun d F1 H1 as1 S1 ⟨r1, e1, o1⟩ v hv => ?_⟩
  cases d with
  | lst xs =>
    cases hv with
    | lst hs ha => exact ⟨_, _, rfl, Evl.ex_l r1.fh (Evl.sq_of hs), fun p hp => gvl_of o1 r1 p _ hp (RpA.rev ha)⟩
  | _ => exact o1.elim
def maxO : List Dt → Option Dt | [.int i, .int j] => some (.int (if j > i then j else i)) | _ => none
theorem de_max (hc : X.calm = true) (hg : Gl X "max") (hm : X.mg "max" = none) (ha : PE X a (tD X.K W f)) (hb : PE X b (tD X.K W g)) (hs : starEach [a, b] X.env = (false, eval a X.env) :: starEach [b] X.env := by rfl) (hs2 : starEach [b] X.env = (false, eval b X.env) :: starEach [] X.env := by rfl) (hpl : (backTo pos (starEach [b] X.env)).any (·.1) = false := by rfl) :
    PE X (.Call (.Name "max" p) [a, b] [] pos) (tD X.K W (calE (aCons f (aCons g aNil)) maxO)) :=
  de_calB (fun F H vs ds z Q ex hv hz q => by
    unfold maxO at hz
    split at hz <;> cases hz
    obtain ⟨v, w, rfl, h1, h2⟩ := rpa2 hv
    cases h1
    cases h2
    exact ⟨_, _, rfl, q.1 _ (.int _)⟩) (call_max2 hc) hg hm (by decide +kernel) (da_cons ha (da_cons hb da_nil hs2) hs) (by decide) (by decide) hs hpl
theorem monoE2 {X : Cx} {e : Expr} {t t1 t2 : TE} (h1 : PE X e t1) (h2 : PE X e t2) (m : ∀ σ H Q, t σ H Q → t1 σ H Q ∨ t2 σ H Q) : PE X e t := ⟨fun pins s σ H Q I q => (m σ H Q q).elim (h1.run pins s σ H Q I) (h2.run pins s σ H Q I)⟩
def itEnL (f : Ms → R (List Dt)) : Ms → R (List Dt) := fun S => (f S).bind fun ds S1 => match ds with | [.lst xs] => .ok (enumD xs) S1 | _ => .no
theorem walksEnL {K : PySem.W.Frag} {F : Hp} {a : Addr} {xs : List V} {ds : List Dt} (hs : SqL K F a xs) (ha : RpA K F xs ds) : Lq.Walks K F (Ite K a) (enumD ds) := by
  have hl : (enumD ds).length = xs.length := by rw [enumD_len, ha.length]
  refine ⟨fun i H hi e => ?_, fun H e => ⟨xs, Evl.ex_l e hs, by rw [hl]; exact Nat.le_refl _⟩, fun i H x H' F1 hi e e2 y => ?_⟩
  · rw [hl] at hi
    exact ⟨xs, xs[i], Evl.ex_l e hs, by simp [hi]⟩
  · obtain ⟨T, u, rfl, h1, rfl, h2⟩ := y
    obtain ⟨d, d1, d2⟩ := ha.getv (h2 _ (Evl.ex_l (e.trans e2) hs))
    refine ⟨_, enumD_get d1, .inr ⟨T, .tup [.int i, u], h1, rfl, ?_⟩⟩
    have ht : F1 T = none := by
      cases w : F1 T with
      | none => rfl
      | some o => rw [e2 _ _ w] at h1; cases h1
    exact .tup upd_same (.cons (.int _) (.cons ((d2.up e).up (Ex.new ht)) .nil))
theorem di_enumL {e : Expr} {tpos : Pos} {elts : List Expr} {kk : Nat} (hg : Gl X "enumerate") (hm : X.mg "enumerate" = none) (ha : PA X [e] (tA X.K W fs)) (hs : starEach [e] X.env = [(false, eval e X.env)] := by rfl) :
    PI X (.Tuple elts kk tpos) (.Call (.Name "enumerate" p) [e] [] pos) (tI X.K W (itEnL fs)) := monoI1 (pi_enum hg hm ha hs) fun σ H R q => by
  obtain ⟨B, F, as, S, r, o⟩ := q
  refine ⟨B, F, as, S, r, Out.mono (Out.bind o) fun ds F1 H1 as1 S1 ⟨r1, e1, o1⟩ vs hv => ?_⟩
  split at o1
  · obtain ⟨v, rfl, h1⟩ := rpa1 hv
    cases h1 with
    | lst hs ha => exact ⟨_, _, rfl, Evl.ex_l r1.fh (Evl.sq_of hs), Out.now o1 r1 _ (walksEnL (Evl.sq_of hs) ha)⟩
  · exact o1.elim
def itEnA (f : Ms → R (List Dt)) : Ms → R (List Dt) := fun S => match f S with | .ok [.lst _] _ => itEnL f S | _ => itEn f S
theorem di_enumA {e : Expr} {tpos : Pos} {elts : List Expr} {kk : Nat} (hg : Gl X "enumerate") (hm : X.mg "enumerate" = none) (ha : PA X [e] (tA X.K W fs)) (hs : starEach [e] X.env = [(false, eval e X.env)] := by rfl) :
    PI X (.Tuple elts kk tpos) (.Call (.Name "enumerate" p) [e] [] pos) (tI X.K W (itEnA fs)) := monoI (di_enumL hg hm ha hs) (di_enum hg hm ha hs) fun σ H R q => by
  obtain ⟨B, F, as, S, r, o⟩ := q
  unfold itEnA at o
  split at o
  · exact .inl ⟨B, F, as, S, r, o⟩
  · exact .inr ⟨B, F, as, S, r, o⟩
def slA (f : Ms → R Dt) (lo hi : Ms → R (Option Int)) : Ms → R Dt := fun S => match f S with | .ok (.lst _) _ => frz (slL f lo hi) S | _ => slT f lo hi S
theorem de_sliceA {e : Expr} {lo hi : Option Expr} {fl fh : Ms → R (Option Int)} {p2 : Pos} (he : PE X e (tD X.K W f)) (hl : PO X lo (tO X.K W fl)) (hu : PO X hi (tO X.K W fh)) : PE X (.Subscript e (.Slice lo hi none p2) pos) (tD X.K W (slA f fl fh)) := monoE2 (de_frz (dn_sliceL he hl hu)) (de_sliceT he hl hu) fun σ H Q q => by
  obtain ⟨B, F, as, S, r, o⟩ := q
  unfold slA at o
  split at o
  · exact .inl ⟨B, F, as, S, r, o⟩
  · exact .inr ⟨B, F, as, S, r, o⟩
@[simp] theorem itEnA_lst {f : Ms → R (List Dt)} {S S1 : Ms} {xs : List Dt} (h : f S = .ok [.lst xs] S1) : itEnA f S = .ok (enumD xs) S1 := by
  unfold itEnA
  rw [h]
  dsimp only
  unfold itEnL
  rw [h, R.bind_ok]
@[simp] theorem itEnA_tup {f : Ms → R (List Dt)} {S S1 : Ms} {xs : List Dt} (h : f S = .ok [.tup xs] S1) : itEnA f S = .ok (enumD xs) S1 := by
  unfold itEnA
  rw [h]
  dsimp only
  unfold itEn
  rw [h, R.bind_ok]
end
end Lq

namespace Lq
open PySem PySem.Spec PyProof.Rows L2
open Evl (Ex)
def tryQ (C : Addr) (fld y : Str) (i : Nat) (m : Ms → O) : Ms → O := fun S => match m S with
  | .er e S1 => if e.C = C ∧ e.ks = [fld] ∧ i < S1.sl.length then (match e.ds with | [.str z] => .rt (.bl (decide (z = y))) S1 | _ => .no) else .no
  | o => o
section
variable {X : Cx} {W : WX} {x n fld y : Str} {C : Addr} {i : Nat} {m : Ms → O} {body : List Stmt} {np pos pos' p1 p2 p3 p4 p5 : Pos} {k5 : Nat}
theorem ds_tryQ (hE : X.mg x = some (.ref C) ∧ XfC X.K C ∧ PySem.W.findIn X.K (.ref C) fld = some none ∧ PySem.W.exmOne X.K (.ref C) (.ref C) = some true)
    (hs : X.stack = X.env :: X.outer) (hf : X.env.frame = some X.env.locals) (hN : X.N.Nodup) (hi : X.N[i]? = some n) (hln : X.env.kindOf n = some .local) (hg : Gl X x) (tk : Takes X W)
    (hb : ∀ (W : WX) (pn : List (Addr × Obj)) (xe : Value → Shared → Prop), Takes (X.tr pn xe) W → PassesOwn (model X.prog X.w) X.A X.env xe → PSs (X.tr pn xe) body (sD X.K W m))
    (hv : ∀ (a : Addr) (oe : Obj) (pn : List (Addr × Obj)), PE (X.suite a ((a, oe) :: pn)) (.Name n p1) (tVar i))
    (hab : attributeBase (.Name n p1) fld X.env (eval (.Name n p1) X.env) = eval (.Name n p1) X.env := by rfl) (hdb : (x == ("__debug__" : Str)) = false := by decide) :
    PS X (.Try body [.ExceptHandler (some (.Name x np)) (some n) [.Return (some (.Compare (.Attribute (.Name n p1) fld p2) [.Eq] [.Constant (.str y) k5 p5] p4)) p3] pos'] [] [] pos) (sD X.K W (tryQ C fld y i m)) := by
  obtain ⟨gC, xc, nf, e1⟩ := hE
  refine monoS (ps_try_as (i := i) (c := .ref C) (ts := fun a cls d D σ H => ∃ dx, cls = .ref C ∧ d = some dx ∧ tRet (tOp rEq (tXf a (.ref C) (some dx) C fld (tVar i)) (tC (.str y))) D σ H) hs hf hN hi hln ⟨hg, hdb, .inl gC⟩ tk (tb := fun W => sD X.K W m) hb (fun a oe cls d pn hz hf => ⟨fun pins s σ H D I h => by
    obtain ⟨dx, rfl, rfl, h⟩ := h
    exact (pss_one (ps_ret (pe_cmpR op_eq (pe_xf xc nf hz hf (hv a oe pn) hab) pe_str (nomark _)))).run pins s σ H D I h⟩)) fun D σ H q => ?_
  obtain ⟨B, F, as, S, r, o⟩ := q
  refine ⟨B, F, as, S, r, ?_⟩
  unfold tryQ at o
  revert o
  cases m S with
  | er e S1 =>
    intro o
    dsimp only at o
    split at o
    · rename_i hc
      obtain ⟨C', ks, ds⟩ := e
      obtain ⟨h1, h2, h3⟩ := hc
      subst h1 h2
      dsimp only at o
      split at o
      · rename_i l z
        intro σ' F' H' as' dx fs e' r' hd hk hv'
        have hne : fs ≠ [] := by
          rintro rfl
          cases hk
        obtain ⟨dx, rfl, hd⟩ := hd.some hne
        obtain ⟨v, rfl, rv⟩ : ∃ v, fs = [(fld, v)] ∧ Rp X.K F' v (.str z) := by
          match fs, hk, hv' with
          | [(n1, v1)], hk, hv' =>
            cases hk
            cases hv' with
            | cons h1 _ => exact ⟨v1, rfl, h1⟩
        cases rv
        have hlt : i < σ'.length := by
          rw [Paired.length r'.sl]
          exact h3
        refine ⟨true, e1, fun _ a na => ⟨dx, rfl, rfl, ?_⟩, fun z => nomatch z⟩
        show ∃ v, _ ∧ _
        refine ⟨.ref a, ?_, rfl, rfl, dx, _, .str z, rfl, hd, ?_, ?_⟩
        · rw [List.getElem?_set, if_pos rfl, if_pos hlt]
        · simp [List.lookup]
        · refine ⟨rfl, ?_⟩
          have hz : decide (V.str z = V.str y) = decide (z = y) := decide_eq_decide.mpr ⟨fun h => V.str.inj h, fun h => by rw [h]⟩
          rw [hz]
          exact o σ' F' H' as' (.bl (decide (z = y))) e' r' (.bl _)
      · exact o.elim
    · exact o.elim
  | nx S1 => exact fun o => o
  | rt d S1 => exact fun o => o
  | bk S1 => exact fun o => o
  | ct S1 => exact fun o => o
  | no => exact fun o => o
end
end Lq

namespace Lq
open PySem PySem.Spec PyProof.Rows L2
def addW (p : Int) (v w : List Int) : List Int := List.zipWith (fun a b => (a + b) % p) v w
def scW (p a : Int) (v : List Int) : List Int := v.map fun x => x * a % p
def okP (p : Int) : Bool := decide (0 < p ∧ p ≤ 1000)
def okW (p : Int) (v : List Int) : Bool := decide (v.length ≤ 1000) && v.all fun x => decide (0 ≤ x ∧ x < p)
theorem okP_iff {p : Int} : okP p = true ↔ 0 < p ∧ p ≤ 1000 := by simp [okP]
theorem okW_iff {p : Int} {v : List Int} : okW p v = true ↔ v.length ≤ 1000 ∧ ∀ x ∈ v, 0 ≤ x ∧ x < p := by simp [okW]

def m_scaled : Ms → O := (retS (calE (aCons (frz (lcE (itS (varE 0)) (Tk.nm 3).k yesT (op2 (op2 (varE 3) (varE 1) mulO) (varE 2) modO) [3])) aNil) tupO))
def m__law_sum : Ms → O := (retS (calE (aCons (frz (lcE (itR1 (aCons (calE (aCons (varE 0) aNil) lenO) aNil)) (Tk.nm 3).k yesT (op2 (calE (aCons (op2 (op2 (varE 0) (varE 3) ixO) (op2 (varE 1) (varE 3) ixO) addO) aNil) intO) (varE 2) modO) [3])) aNil) tupO))
def m__law_take : Ms → O := (seqS (ifS (tst (op2 (ixV 0 (cE (.int 0))) (cE (.int 0)) gtO)) (seqS (asgS 2 (op2 (calE (aCons (ixV 0 (cE (.int 0))) aNil) intO) (varE 1) modO))
  (seqS (setS 0 (op2 (ixV 0 (cE (.int 0))) (varE 1) divO) (cE (.int 0)))
  (retS (varE 2)))) nilS)
  (seqS (setS 0 (op2 (calE (aCons (op2 (op2 (ixV 0 (cE (.int 1))) (cE (.int 48271)) mulO) (cE (.int 11)) addO) aNil) intO) (cE (.int 2147483647)) modO) (cE (.int 1)))
  (retS (op2 (calE (aCons (op2 (ixV 0 (cE (.int 1))) (cE (.int 7)) divO) aNil) intO) (varE 1) modO))))
def FaddW : List Dt → Fo
  | [d, e, .int p] => match wordOf d, wordOf e with
    | some v, some w => if (okP p && okW p v && okW p w && decide (v.length = w.length)) = true then .ok (Wd (addW p v w)) else .no
    | _, _ => .no
  | _ => .no
theorem FaddW_inv {ds : List Dt} (h : FaddW ds ≠ .no) : ∃ v w p, ds = [Wd v, Wd w, .int p] ∧ okP p = true ∧ okW p v = true ∧ okW p w = true ∧ v.length = w.length ∧ FaddW ds = .ok (Wd (addW p v w)) := by
  unfold FaddW at h
  split at h
  · rename_i d e p
    split at h
    · rename_i v w h1 h2
      split at h
      · rename_i hc
        have := wordOf_eq h1
        have := wordOf_eq h2
        subst_vars
        simp only [Bool.and_eq_true, decide_eq_true_eq] at hc
        refine ⟨v, w, p, rfl, hc.1.1.1, hc.1.1.2, hc.1.2, hc.2, ?_⟩
        simp only [FaddW, wordOf_Wd]
        rw [if_pos (by simp [hc])]
      · exact absurd rfl h
    · exact absurd rfl h
  · exact absurd rfl h
def FscW : List Dt → Fo
  | [d, .int a, .int p] => match wordOf d with
    | some v => if (okP p && okW p v) = true then .ok (Wd (scW p a v)) else .no
    | _ => .no
  | _ => .no
theorem FscW_inv {ds : List Dt} (h : FscW ds ≠ .no) : ∃ v a p, ds = [Wd v, .int a, .int p] ∧ okP p = true ∧ okW p v = true ∧ FscW ds = .ok (Wd (scW p a v)) := by
  unfold FscW at h
  split at h
  · rename_i d a p
    split at h
    · rename_i v h1
      split at h
      · rename_i hc
        have := wordOf_eq h1
        subst_vars
        simp only [Bool.and_eq_true] at hc
        refine ⟨v, a, p, rfl, hc.1, hc.2, ?_⟩
        simp only [FscW, wordOf_Wd]
        rw [if_pos (by simp [hc])]
      · exact absurd rfl h
    · exact absurd rfl h
  · exact absurd rfl h
theorem cmul_w {p x a : Int} (hp : p ≤ 1000) (hx : 0 ≤ x ∧ x < p) : CMul x a := by
  have h1 : (1000 : Int) < 2 ^ 64 := by decide
  have h2 : -(2 : Int) ^ 64 < 0 := by decide
  exact .inl ⟨by omega, by omega⟩
theorem run_scaled (ds : List Dt) (h : FscW ds ≠ .no) : runD 4 m_scaled ds = FscW ds := by
  obtain ⟨v, a, p, rfl, hp, hv, e⟩ := FscW_inv h
  rw [e]
  obtain ⟨hp1, hp2⟩ := okP_iff.mp hp
  obtain ⟨hv1, hv2⟩ := okW_iff.mp hv
  have key : (lcE (itS (varE 0)) (Tk.nm 3).k yesT (op2 (op2 (varE 3) (varE 1) mulO) (varE 2) modO) [3]) (st0 4 [Wd v, .int a, .int p]) = .ok (v.map fun x => Dt.int (x * a % p)) (st0 4 [Wd v, .int a, .int p]) := by
    refine lcE_map Dt.int _ v ?_ (fun x hx => ?_) (fun d T T' => Tk.mo) (by omega)
    · simp [st0, Wd]
    · have := cmul_w (a := a) hp2 (hv2 x hx)
      simp [st0, wipeL, hp1, this]
  unfold runD m_scaled
  simp only [retS_run, calE_run, aCons_run, frz_run']
  rw [key]
  simp only [R.bind_ok, aNil_run, tupO_lst, R.of_some, R.stmt_ok, O.fo, Wd, scW, List.map_map]
  rfl
theorem run__law_sum (ds : List Dt) (h : FaddW ds ≠ .no) : runD 4 m__law_sum ds = FaddW ds := by
  obtain ⟨v, w, p, rfl, hp, hv, hw, hl, e⟩ := FaddW_inv h
  rw [e]
  obtain ⟨hp1, hp2⟩ := okP_iff.mp hp
  obtain ⟨hv1, hv2⟩ := okW_iff.mp hv
  have key : (lcE (itR1 (aCons (calE (aCons (varE 0) aNil) lenO) aNil)) (Tk.nm 3).k yesT (op2 (calE (aCons (op2 (op2 (varE 0) (varE 3) ixO) (op2 (varE 1) (varE 3) ixO) addO) aNil) intO) (varE 2) modO) [3]) (st0 4 [Wd v, Wd w, .int p]) = .ok ((List.range v.length).map fun k => Dt.int ((v.getD k 0 + w.getD k 0) % p)) (st0 4 [Wd v, Wd w, .int p]) := by
    refine lcE_map (fun k : Nat => Dt.int (k : Int)) _ (List.range v.length) ?_ (fun k hk => ?_) (fun d T T' => Tk.mo) (by simp; omega)
    · refine itR1_run ?_ (by omega)
      simp [st0, Wd]
    · have h1 : k < v.length := List.mem_range.mp hk
      have h2 : k < w.length := by omega
      simp [st0, wipeL, hp1, Wd, atI_ofNat, List.getElem?_map, List.getElem?_eq_getElem h1, List.getElem?_eq_getElem h2]
  unfold runD m__law_sum
  simp only [retS_run, calE_run, aCons_run, frz_run']
  rw [key]
  simp only [R.bind_ok, aNil_run, tupO_lst, R.of_some, R.stmt_ok, O.fo, Wd, addW]
  refine congrArg (fun l => Fo.ok (Dt.tup l)) ?_
  apply List.ext_getElem?
  intro k
  rw [List.getElem?_map, List.getElem?_map, List.getElem?_zipWith]
  by_cases hk : k < v.length
  · have h2 : k < w.length := by omega
    simp [List.getElem?_range hk, List.getElem?_eq_getElem hk, List.getElem?_eq_getElem h2, List.getD_eq_getElem?_getD]
  · rw [List.getElem?_eq_none (by simpa using hk), List.getElem?_eq_none (show v.length ≤ k by omega)]
    rfl
end Lq

namespace Lq
open PySem PySem.Spec PyProof.Rows L2
def takeF (m : Int) (q : Int × Int) : Int × (Int × Int) :=
  if 0 < q.1 then (q.1 % m, (q.1 / m, q.2)) else ((q.2 * 48271 + 11) % 2147483647 / 7 % m, (q.1, (q.2 * 48271 + 11) % 2147483647))
theorem takeF_range {m : Int} (hm : 0 < m) (q : Int × Int) : 0 ≤ (takeF m q).1 ∧ (takeF m q).1 < m := by
  unfold takeF
  split
  · exact ⟨Int.emod_nonneg _ (by omega), Int.emod_lt_of_pos _ hm⟩
  · exact ⟨Int.emod_nonneg _ (by omega), Int.emod_lt_of_pos _ hm⟩
def stD (q : Int × Int) : List Dt := [.int q.1, .int q.2]
def Ftake : List Dt → List Dt → FoM
  | [.int s, .int t], [.int m] => if 0 < m ∧ m < 1073741824 then .ok (.int (takeF m (s, t)).1) (stD (takeF m (s, t)).2) else .no
  | _, _ => .no
theorem Ftake_run {m : Int} (q : Int × Int) (h : 0 < m ∧ m < 1073741824) : Ftake (stD q) [.int m] = .ok (.int (takeF m q).1) (stD (takeF m q).2) := by
  unfold Ftake stD
  dsimp only
  rw [if_pos h]
theorem atI0 {α : Type} (a b : α) : atI [a, b] 0 = some a := rfl
theorem atI1 {α : Type} (a b : α) : atI [a, b] 1 = some b := rfl
theorem run__law_take (xs ds : List Dt) (h : Ftake xs ds ≠ .no) : runM 3 m__law_take xs ds = Ftake xs ds := by
  unfold Ftake at h
  split at h
  · rename_i s t m
    split at h
    · rename_i hm
      have e : Ftake [.int s, .int t] [.int m] = .ok (.int (takeF m (s, t)).1) (stD (takeF m (s, t)).2) := Ftake_run (s, t) hm
      rw [e]
      have c1 : CMul t 48271 := .inr (by decide)
      have c2 : CDiv s m := hm
      have c3 : ∀ z : Int, CDiv z 7 := fun z => ⟨by decide, by decide⟩
      have i0 : ixN 2 0 = some 0 := by decide
      have i1 : ixN 2 1 = some 1 := by decide
      unfold runM m__law_take takeF
      by_cases hs : 0 < s
      · simp [stM, ixV, muAt, setS, atI0, atI1, hs, hm.1, c2, i0, O.foM, mo0, stD]
      · simp [stM, ixV, muAt, setS, atI0, atI1, hs, hm.1, c1, c3, i1, O.foM, mo0, stD]
    · exact absurd rfl h
  · exact absurd rfl h
def foldG {α β σ : Type} (g : α → σ → β × σ) : List α → σ → List β × σ
  | [], q => ([], q)
  | a :: as, q => ((g a q).1 :: (foldG g as (g a q).2).1, (foldG g as (g a q).2).2)
theorem lcF_fold {α σ : Type} {sl : List Sv} {k : Dt → Ms → Option Ms} {e : Ms → R Dt} (moOf : σ → List Mo) (enc : α → Dt) (g : α → σ → Dt × σ)
    (h : ∀ a q, ∃ S1 S3, k (enc a) { sl := sl, mo := moOf q } = some S1 ∧ e S1 = .ok (g a q).1 S3 ∧ S3.mo = moOf (g a q).2) : ∀ (xs : List α) (q : σ) (acc : List Dt), acc.length + xs.length ≤ 100000 →
    lcF sl k yesT e (xs.map enc) (moOf q) acc = .ok (acc ++ (foldG g xs q).1) { sl := sl, mo := moOf (foldG g xs q).2 }
  | [], q, acc, _ => by simp [lcF, foldG]
  | x :: xs, q, acc, hl => by
    obtain ⟨S1, S3, h1, h2, h3⟩ := h x q
    have hl' : acc.length + (xs.length + 1) ≤ 100000 := hl
    rw [List.map_cons]
    unfold lcF
    rw [h1]
    dsimp only [yesT]
    rw [h2]
    dsimp only
    rw [if_pos (by omega), h3, lcF_fold moOf enc g h xs _ (acc ++ [(g x q).1]) (by simp; omega)]
    simp [foldG]
def takeN (m : Int) : Nat → Int × Int → List Int × (Int × Int)
  | 0, q => ([], q)
  | k + 1, q => ((takeF m q).1 :: (takeN m k (takeF m q).2).1, (takeN m k (takeF m q).2).2)
theorem takeN_len (m : Int) : ∀ (k : Nat) (q : Int × Int), (takeN m k q).1.length = k
  | 0, _ => rfl
  | k + 1, q => by simp [takeN, takeN_len m k]
theorem takeN_range {m : Int} (hm : 0 < m) : ∀ (k : Nat) (q : Int × Int), ∀ x ∈ (takeN m k q).1, 0 ≤ x ∧ x < m
  | 0, _, x, h => by simp [takeN] at h
  | k + 1, q, x, h => by
    simp only [takeN, List.mem_cons] at h
    rcases h with rfl | h
    · exact takeF_range hm q
    · exact takeN_range hm k _ x h
theorem fold_takeN {α : Type} (m : Int) : ∀ (xs : List α) (q : Int × Int), foldG (fun (_ : α) q => (Dt.int (takeF m q).1, (takeF m q).2)) xs q = ((takeN m xs.length q).1.map Dt.int, (takeN m xs.length q).2)
  | [], q => rfl
  | x :: xs, q => by simp [foldG, takeN, fold_takeN m xs]
def m__law_word : Ms → O := (retS (calE (aCons (frz (lcE (itR1 (aCons (varE 1) aNil)) (Tk.nm 3).k yesT (funM 1 0 (aCons (varE 2) aNil) Ftake) [3])) aNil) tupO))
def Fword : List Dt → List Dt → FoM
  | [.int s, .int t], [.int n, .int p] => if (0 ≤ n ∧ n ≤ 1000) ∧ 0 < p ∧ p < 1073741824 then .ok (Wd (takeN p n.toNat (s, t)).1) (stD (takeN p n.toNat (s, t)).2) else .no
  | _, _ => .no
theorem Fword_run {n : Nat} {p : Int} (q : Int × Int) (hn : n ≤ 1000) (hp : 0 < p ∧ p < 1073741824) : Fword (stD q) [.int n, .int p] = .ok (Wd (takeN p n q).1) (stD (takeN p n q).2) := by
  unfold Fword stD
  dsimp only
  rw [if_pos ⟨by omega, hp⟩, Int.toNat_natCast]
theorem run__law_word (xs ds : List Dt) (h : Fword xs ds ≠ .no) : runM 4 m__law_word xs ds = Fword xs ds := by
  unfold Fword at h
  split at h
  · rename_i s t n p
    split at h
    · rename_i hc
      obtain ⟨hn, hp⟩ := hc
      obtain ⟨n, rfl⟩ : ∃ k : Nat, n = (k : Int) := ⟨n.toNat, by omega⟩
      have e : Fword [.int s, .int t] [.int n, .int p] = _ := Fword_run (s, t) (by omega) hp
      rw [e]
      have hit : itR1 (aCons (varE 1) aNil) (stM 4 [.int s, .int t] [.int n, .int p]) = .ok ((List.range n).map fun (i : Nat) => Dt.int (i : Int)) (stM 4 [.int s, .int t] [.int n, .int p]) := itR1_run (by simp [stM]) (by omega)
      have hlc := lcF_fold (sl := wipeL (stM 4 [.int s, .int t] [.int n, .int p]).sl [3]) (k := (Tk.nm 3).k) (e := funM 1 0 (aCons (varE 2) aNil) Ftake) (fun q : Int × Int => [Mo.ob (.ls (stD q))]) (fun (i : Nat) => Dt.int (i : Int)) (fun _ q => (Dt.int (takeF p q).1, (takeF p q).2)) (fun a q => by
        simp [stM, wipeL, funM, muAt, Ftake_run q hp]) (List.range n) (s, t) [] (by simp; omega)
      have key : lcE (itR1 (aCons (varE 1) aNil)) (Tk.nm 3).k yesT (funM 1 0 (aCons (varE 2) aNil) Ftake) [3] (stM 4 [.int s, .int t] [.int n, .int p]) = .ok ((takeN p n (s, t)).1.map Dt.int) { sl := (stM 4 [.int s, .int t] [.int n, .int p]).sl, mo := [Mo.ob (.ls (stD (takeN p n (s, t)).2))] } := by
        unfold lcE
        rw [hit, R.bind_ok]
        have : (stM 4 [.int s, .int t] [.int n, .int p]).mo = [Mo.ob (.ls (stD (s, t)))] := rfl
        rw [this, hlc, fold_takeN]
        simp
      unfold runM m__law_word
      simp only [retS_run, calE_run, aCons_run, frz_run']
      rw [key]
      simp only [R.bind_ok, aNil_run, tupO_lst, R.of_some, R.stmt_ok, O.foM, Wd]
      rfl
    · exact absurd rfl h
  · exact absurd rfl h
def m__law_prime : Ms → O := (retS (op2 (frz (lstE (aCons (cE (.int 2)) (aCons (cE (.int 2)) (aCons (cE (.int 3)) (aCons (cE (.int 3)) (aCons (cE (.int 5)) (aCons (cE (.int 7)) aNil)))))))) (funM 1 0 (aCons (cE (.int 6)) aNil) Ftake) ixO))
def primeF (q : Int × Int) : Int := [2, 2, 3, 3, 5, 7].getD (takeF 6 q).1.toNat 2
theorem primeF_mem (q : Int × Int) : primeF q = 2 ∨ primeF q = 3 ∨ primeF q = 5 ∨ primeF q = 7 := by
  obtain ⟨h1, h2⟩ := takeF_range (m := 6) (by decide) q
  unfold primeF
  generalize hv : (takeF 6 q).1 = v at h1 h2
  obtain ⟨k, rfl⟩ : ∃ k : Nat, v = (k : Int) := ⟨v.toNat, by omega⟩
  have : k < 6 := by omega
  match k, this with
  | 0, _ => decide
  | 1, _ => decide
  | 2, _ => decide
  | 3, _ => decide
  | 4, _ => decide
  | 5, _ => decide
def Fprime : List Dt → List Dt → FoM
  | [.int s, .int t], [] => .ok (.int (primeF (s, t))) (stD (takeF 6 (s, t)).2)
  | _, _ => .no
theorem run__law_prime (xs ds : List Dt) (h : Fprime xs ds ≠ .no) : runM 1 m__law_prime xs ds = Fprime xs ds := by
  unfold Fprime at h
  split at h
  · rename_i s t
    have e : Fprime [.int s, .int t] [] = .ok (.int (primeF (s, t))) (stD (takeF 6 (s, t)).2) := rfl
    rw [e]
    have h0 : Ftake [.int s, .int t] [.int 6] = _ := Ftake_run (s, t) (by decide)
    have hv : atI [Dt.int 2, Dt.int 2, Dt.int 3, Dt.int 3, Dt.int 5, Dt.int 7] (takeF 6 (s, t)).1 = some (.int (primeF (s, t))) := by
      obtain ⟨h1, h2⟩ := takeF_range (m := 6) (by decide) (s, t)
      unfold primeF
      generalize hv : (takeF 6 (s, t)).1 = v at h1 h2
      obtain ⟨k, rfl⟩ : ∃ k : Nat, v = (k : Int) := ⟨v.toNat, by omega⟩
      have : k < 6 := by omega
      rw [atI_ofNat]
      match k, this with
      | 0, _ => rfl
      | 1, _ => rfl
      | 2, _ => rfl
      | 3, _ => rfl
      | 4, _ => rfl
      | 5, _ => rfl
    unfold runM m__law_prime
    simp [stM, funM, muAt, h0, hv, O.foM, mo0]
  · exact absurd rfl h
theorem cmul_r {p a : Int} (h1 : -1000 ≤ p) (h2 : p ≤ 1000) : CMul a p := by
  have e1 : (1000 : Int) < 2 ^ 64 := by decide
  have e2 : -(2 : Int) ^ 64 < -1000 := Int.neg_lt_neg e1
  exact .inr ⟨Int.lt_of_lt_of_le e2 h1, Int.lt_of_le_of_lt h2 e1⟩
end Lq

namespace Lq
open PySem PySem.Spec PyProof.Rows L2
def m_inverse : Ms → O := (seqS (forS (itR2 (aCons (cE (.int 1)) (aCons (varE 1) aNil))) (Tk.nm 2).k (ifS (tst (op2 (op2 (op2 (varE 0) (varE 2) mulO) (varE 1) modO) (cE (.int 1)) eqO)) (retS (varE 2)) nilS))
  noS)
def invF (p a : Int) : Option Nat := (List.range (p - 1).toNat).find? fun c => decide (a * (1 + (c : Int)) % p = 1)
def Finverse : List Dt → Fo
  | [.int a, .int p] => if okP p = true then (match invF p a with | some c => .ok (.int (1 + (c : Int))) | none => .no) else .no
  | _ => .no
theorem forL_find {α : Type} {k : Dt → Ms → Option Ms} {body : Ms → O} (enc : α → Dt) (b : α → Bool) (res : α → Dt) (I : Ms → Prop) : ∀ (xs : List α) (S : Ms), I S →
    (∀ x ∈ xs, ∀ S, I S → ∃ S1, k (enc x) S = some S1 ∧ (b x = true → ∃ S2, body S1 = .rt (res x) S2) ∧ (b x = false → ∃ S2, body S1 = .nx S2 ∧ I S2)) → ∀ y, xs.find? b = some y → ∃ S', forL k body (xs.map enc) S = .rt (res y) S'
  | [], _, _, _, y, h => by simp at h
  | x :: xs, S, hI, hs, y, h => by
    obtain ⟨S1, h1, h2, h3⟩ := hs x List.mem_cons_self S hI
    rw [List.map_cons]
    unfold forL
    rw [h1]
    dsimp only
    cases hb : b x with
    | true =>
      rw [List.find?_cons, hb] at h
      cases h
      obtain ⟨S2, e⟩ := h2 hb
      rw [e]
      exact ⟨S2, rfl⟩
    | false =>
      rw [List.find?_cons, hb] at h
      obtain ⟨S2, e, hI2⟩ := h3 hb
      rw [e]
      exact forL_find enc b res I xs S2 hI2 (fun z hz => hs z (List.mem_cons_of_mem _ hz)) y h
theorem itR2_run {fs : Ms → R (List Dt)} {S S1 : Ms} {i j : Int} (h : fs S = .ok [.int i, .int j] S1) (hi : -1000000 ≤ i ∧ i ≤ 1000000) (hj : -1000000 ≤ j ∧ j ≤ 1000000) : itR2 fs S = .ok ((List.range (j - i).toNat).map fun (k : Nat) => Dt.int (i + (k : Int))) S1 := by
  unfold itR2
  rw [h, R.bind_ok]
  dsimp only
  have e1 : (1000000 : Int) < 2 ^ 62 := by decide
  have e2 : -(2 : Int) ^ 62 < -1000000 := Int.neg_lt_neg e1
  rw [if_pos ⟨Int.le_of_lt (Int.lt_of_lt_of_le e2 hi.1), Int.lt_of_le_of_lt hi.2 e1, Int.le_of_lt (Int.lt_of_lt_of_le e2 hj.1), Int.lt_of_le_of_lt hj.2 e1⟩]
theorem run_inverse (ds : List Dt) (h : Finverse ds ≠ .no) : runD 3 m_inverse ds = Finverse ds := by
  unfold Finverse at h
  split at h
  · rename_i a p
    split at h
    · rename_i hp
      obtain ⟨hp1, hp2⟩ := okP_iff.mp hp
      cases hc : invF p a with
      | none => rw [hc] at h; exact absurd rfl h
      | some c =>
        have e : Finverse [.int a, .int p] = .ok (.int (1 + (c : Int))) := by
          unfold Finverse
          dsimp only
          rw [if_pos hp, hc]
        rw [e]
        have hit : itR2 (aCons (cE (.int 1)) (aCons (varE 1) aNil)) (st0 3 [.int a, .int p]) = .ok ((List.range (p - 1).toNat).map fun (k : Nat) => Dt.int (1 + (k : Int))) (st0 3 [.int a, .int p]) := itR2_run (by simp [st0]) (by omega) (by omega)
        obtain ⟨S', hS'⟩ := forL_find (k := (Tk.nm 2).k) (body := ifS (tst (op2 (op2 (op2 (varE 0) (varE 2) mulO) (varE 1) modO) (cE (.int 1)) eqO)) (retS (varE 2)) nilS) (fun (k : Nat) => Dt.int (1 + (k : Int))) (fun c => decide (a * (1 + (c : Int)) % p = 1)) (fun c : Nat => .int (1 + (c : Int)))
          (fun S => ∃ x, S = { sl := [.im (.int a), .im (.int p), x], mo := [] }) (List.range (p - 1).toNat) (st0 3 [.int a, .int p]) ⟨.no, rfl⟩ (fun x hx S hI => by
            obtain ⟨y, rfl⟩ := hI
            have hx' := List.mem_range.mp hx
            have hcm : CMul a (1 + (x : Int)) := cmul_r (by omega) (by omega)
            refine ⟨_, kNm _ _ _, fun hb => ?_, fun hb => ?_⟩
            · have hb' := of_decide_eq_true hb
              simp [hcm, hp1, hb']
            · have hb' := of_decide_eq_false hb
              refine ⟨{ sl := [.im (.int a), .im (.int p), .im (.int (1 + (x : Int)))], mo := [] }, ?_, _, rfl⟩
              simp [hcm, hp1, hb']) c hc
        unfold runD m_inverse
        rw [seqS_run, forS_run, hit, R.stmt_ok, hS', seq_rt]
        rfl
    · exact absurd rfl h
  · exact absurd rfl h
theorem scW_len (p a : Int) (v : List Int) : (scW p a v).length = v.length := by simp [scW]
theorem addW_len (p : Int) (v w : List Int) (h : v.length = w.length) : (addW p v w).length = v.length := by simp [addW, h]
theorem FscW_run {p a : Int} {v : List Int} (hp : okP p = true) (hv : okW p v = true) : FscW [Wd v, .int a, .int p] = .ok (Wd (scW p a v)) := by
  unfold FscW
  simp only [wordOf_Wd]
  rw [if_pos (by simp [hp, hv])]
theorem FaddW_run {p : Int} {v w : List Int} (hp : okP p = true) (hv : okW p v = true) (hw : okW p w = true) (e : v.length = w.length) : FaddW [Wd v, Wd w, .int p] = .ok (Wd (addW p v w)) := by
  unfold FaddW
  simp only [wordOf_Wd]
  rw [if_pos (by simp [hp, hv, hw, e])]
structure Red where
  T : List (List Int)
  P : List Nat
  L : List (List Int)
def invP (p a : Int) : Int := match invF p a with | some c => 1 + (c : Int) | none => 0
def isP (p : Int) : Bool := decide (p = 2 ∨ p = 3 ∨ p = 5 ∨ p = 7)
theorem isP_okP {p : Int} (h : isP p = true) : okP p = true := by
  have := of_decide_eq_true h
  exact okP_iff.mpr (by omega)
theorem invF_some {p : Int} (h : isP p = true) {a : Int} (ha : a % p ≠ 0) : ∃ c, invF p a = some c ∧ a * (1 + (c : Int)) % p = 1 ∧ (c : Int) < p - 1 := by
  have hp := of_decide_eq_true h
  have ex : ∃ c ∈ List.range (p - 1).toNat, decide (a * (1 + (c : Int)) % p = 1) = true := by
    have hm : ∀ c : Int, a * c % p = ((a % p) * c) % p := fun c => by
      conv => lhs; rw [Int.mul_emod]
      conv => rhs; rw [Int.mul_emod, Int.emod_emod]
    have h0 : 0 ≤ a % p := Int.emod_nonneg _ (by omega)
    have h1 : a % p < p := Int.emod_lt_of_pos _ (by omega)
    generalize a % p = b at *
    rcases hp with rfl | rfl | rfl | rfl
    · refine ⟨0, by decide, decide_eq_true ?_⟩
      rw [hm]
      have : b = 1 := by omega
      subst this; decide
    · have : b = 1 ∨ b = 2 := by omega
      rcases this with rfl | rfl
      · exact ⟨0, by decide, decide_eq_true (by rw [hm]; decide)⟩
      · exact ⟨1, by decide, decide_eq_true (by rw [hm]; decide)⟩
    · have : b = 1 ∨ b = 2 ∨ b = 3 ∨ b = 4 := by omega
      rcases this with rfl | rfl | rfl | rfl
      · exact ⟨0, by decide, decide_eq_true (by rw [hm]; decide)⟩
      · exact ⟨2, by decide, decide_eq_true (by rw [hm]; decide)⟩
      · exact ⟨1, by decide, decide_eq_true (by rw [hm]; decide)⟩
      · exact ⟨3, by decide, decide_eq_true (by rw [hm]; decide)⟩
    · have : b = 1 ∨ b = 2 ∨ b = 3 ∨ b = 4 ∨ b = 5 ∨ b = 6 := by omega
      rcases this with rfl | rfl | rfl | rfl | rfl | rfl
      · exact ⟨0, by decide, decide_eq_true (by rw [hm]; decide)⟩
      · exact ⟨3, by decide, decide_eq_true (by rw [hm]; decide)⟩
      · exact ⟨4, by decide, decide_eq_true (by rw [hm]; decide)⟩
      · exact ⟨1, by decide, decide_eq_true (by rw [hm]; decide)⟩
      · exact ⟨2, by decide, decide_eq_true (by rw [hm]; decide)⟩
      · exact ⟨5, by decide, decide_eq_true (by rw [hm]; decide)⟩
  have hs : (invF p a).isSome = true := by
    unfold invF
    rw [List.find?_isSome]
    obtain ⟨c, hc, hd⟩ := ex
    exact ⟨c, hc, hd⟩
  obtain ⟨c, hc⟩ := Option.isSome_iff_exists.mp hs
  have hc' : (List.range (p - 1).toNat).find? (fun c : Nat => decide (a * (1 + (c : Int)) % p = 1)) = some c := hc
  have h2 := List.find?_some hc'
  refine ⟨c, hc, of_decide_eq_true h2, ?_⟩
  have := List.mem_range.mp (List.mem_of_find?_eq_some hc')
  omega
theorem invP_mul {p : Int} (h : isP p = true) {a : Int} (ha : a % p ≠ 0) : a * invP p a % p = 1 := by
  obtain ⟨c, h1, h2, _⟩ := invF_some h ha
  unfold invP
  rw [h1]
  exact h2
theorem Finverse_run {p : Int} (h : isP p = true) {a : Int} (ha : a % p ≠ 0) : Finverse [.int a, .int p] = .ok (.int (invP p a)) := by
  obtain ⟨c, h1, h2, _⟩ := invF_some h ha
  unfold Finverse invP
  dsimp only
  rw [if_pos (isP_okP h), h1]
end Lq

namespace Lq
open PySem PySem.Spec PyProof.Rows L2
end Lq

namespace Lq
open PySem PySem.Spec PyProof.Rows L2
theorem forL_fold {α σ : Type} {k : Dt → Ms → Option Ms} {body : Ms → O} (enc : α → Dt) (I : Nat → σ → Ms → Prop) (g : σ → α → σ) : ∀ (xs : List α) (i : Nat) (q : σ) (S : Ms), I i q S →
    (∀ j q x S, x ∈ xs → j < i + xs.length → I j q S → ∃ S1 S2, k (enc x) S = some S1 ∧ (body S1 = .nx S2 ∨ body S1 = .ct S2) ∧ I (j + 1) (g q x) S2) → ∃ S', forL k body (xs.map enc) S = .nx S' ∧ I (i + xs.length) (xs.foldl g q) S'
  | [], i, q, S, h, _ => ⟨S, rfl, h⟩
  | x :: xs, i, q, S, h, hs => by
    have hl : (x :: xs).length = xs.length + 1 := rfl
    obtain ⟨S1, S2, h1, h2, h3⟩ := hs i q x S List.mem_cons_self (by omega) h
    obtain ⟨S', e1, e2⟩ := forL_fold enc I g xs (i + 1) (g q x) S2 h3 (fun j q y S hy hj hI => hs j q y S (List.mem_cons_of_mem _ hy) (by omega) hI)
    refine ⟨S', ?_, ?_⟩
    · rw [List.map_cons]
      unfold forL
      rw [h1]
      dsimp only
      rcases h2 with h2 | h2 <;> rw [h2] <;> exact e1
    · rw [hl, Nat.add_comm xs.length 1, ← Nat.add_assoc]
      exact e2
end Lq

namespace Lq
open PySem PySem.Spec PyProof.Rows L2
def g (v : List Int) (j : Nat) : Int := v.getD j 0
theorem g_zero {n j : Nat} : g (List.replicate n 0) j = 0 := by
  unfold g
  rw [List.getD_eq_getElem?_getD, List.getElem?_replicate]
  split <;> rfl
def lin (p : Int) (v w : List Int) (a : Int) : List Int := addW p v (scW p a w)
theorem m1 (p u x a : Int) : (u + x % p * a) % p = (u + x * a) % p := by
  rw [Int.add_emod, Int.mul_emod, Int.emod_emod, ← Int.mul_emod, ← Int.add_emod]
inductive Sp (p : Int) (n : Nat) (rows : List (List Int)) : List Int → Prop
  | zero : Sp p n rows (List.replicate n 0)
  | step {w r : List Int} (a : Int) : Sp p n rows w → r ∈ rows → Sp p n rows (lin p w r a)
section
variable {p : Int} {n : Nat} {rows : List (List Int)}
end
end Lq

namespace Lq
open PySem PySem.Spec PyProof.Rows L2
def tk (T : List (List Int)) (k : Nat) : List Int := T.getD k []
def pk (P : List Nat) (k : Nat) : Nat := P.getD k 0
structure Rr (at_ : Nat) (T : List (List Int)) (P : List Nat) : Prop where
  len : T.length = P.length
  lt : ∀ k < P.length, pk P k < at_
  asc : ∀ i k, i < k → k < P.length → pk P i < pk P k
  one : ∀ k < P.length, g (tk T k) (pk P k) = 1
  zro : ∀ j k, j < P.length → k < P.length → j ≠ k → g (tk T j) (pk P k) = 0
  low : ∀ k < P.length, ∀ c < pk P k, g (tk T k) c = 0
structure RI (p : Int) (n at_ : Nat) (rows : List (List Int)) (s : Red) : Prop where
  rr : Rr at_ s.T s.P
  zl : ∀ r ∈ s.L, ∀ c < at_, g r c = 0
  sp : ∀ y, Sp p n (s.T ++ s.L) y ↔ Sp p n rows y
section
variable {p : Int} {n at_ : Nat} {rows : List (List Int)} {s : Red}
structure RJ (p : Int) (n at_ j : Nat) (T : List (List Int)) (P : List Nat) (s : Red) : Prop where
  t : s.T = T.take j
  p : s.P = P.take j
  lo : ∀ k < j, pk P k < at_
  hi : ∀ k, j ≤ k → k < P.length → at_ ≤ pk P k
  le : j ≤ P.length
  l1 : ∀ r ∈ s.L, r = List.replicate n 0 ∨ ∃ k, j ≤ k ∧ k < P.length ∧ r = tk T k
  l2 : ∀ k, j ≤ k → k < P.length → tk T k ∈ s.L
end
end Lq

namespace Lq
open PySem PySem.Spec PyProof.Rows L2
end Lq

namespace Lq
open PySem PySem.Spec PyProof.Rows L2
theorem isP_cases {p : Int} (h : isP p = true) : p = 2 ∨ p = 3 ∨ p = 5 ∨ p = 7 := of_decide_eq_true h
end Lq

namespace Lq
open PySem PySem.Spec PyProof.Rows L2
def Cg (p x y : Int) : Prop := ∃ k, x - y = p * k
theorem Cg.refl {p : Int} (x : Int) : Cg p x x := ⟨0, by grind⟩
theorem Cg.symm {p x y : Int} (h : Cg p x y) : Cg p y x := by obtain ⟨k, h⟩ := h; exact ⟨-k, by grind⟩
theorem Cg.trans {p x y z : Int} (h : Cg p x y) (h2 : Cg p y z) : Cg p x z := by obtain ⟨k, h⟩ := h; obtain ⟨l, h2⟩ := h2; exact ⟨k + l, by grind⟩
theorem Cg.add {p x y z w : Int} (h : Cg p x y) (h2 : Cg p z w) : Cg p (x + z) (y + w) := by obtain ⟨k, h⟩ := h; obtain ⟨l, h2⟩ := h2; exact ⟨k + l, by grind⟩
theorem Cg.mul {p x y : Int} (h : Cg p x y) (a : Int) : Cg p (a * x) (a * y) := by obtain ⟨k, h⟩ := h; exact ⟨a * k, by grind⟩
theorem Cg.mod (p x : Int) : Cg p (x % p) x := ⟨-(x / p), by have := Int.emod_add_mul_ediv x p; grind⟩
theorem Cg.iff {p x y : Int} (hp : 0 < p) : Cg p x y ↔ x % p = y % p := by
  constructor
  · rintro ⟨k, h⟩
    have : x = y + p * k := by omega
    rw [this, Int.add_mul_emod_self_left]
  · intro h
    have h1 := Int.emod_add_mul_ediv x p
    have h2 := Int.emod_add_mul_ediv y p
    exact ⟨x / p - y / p, by grind⟩
theorem Cg.eq {p x y : Int} (hx : 0 ≤ x ∧ x < p) (hy : 0 ≤ y ∧ y < p) (h : Cg p x y) : x = y := by
  have := (Cg.iff (by omega)).mp h
  rwa [Int.emod_eq_of_lt hx.1 hx.2, Int.emod_eq_of_lt hy.1 hy.2] at this
theorem snocInd {α : Type} {P : List α → Prop} (h0 : P []) (h1 : ∀ l x, P l → P (l ++ [x])) (l : List α) : P l := by
  have : ∀ m : List α, P m.reverse := by
    intro m
    induction m with
    | nil => exact h0
    | cons x m ih => rw [List.reverse_cons]; exact h1 _ _ ih
  have := this l.reverse
  rwa [List.reverse_reverse] at this
theorem g_nil (n : Nat) : g [] n = 0 := by unfold g; simp
theorem g_cons0 (x : Int) (l : List Int) : g (x :: l) 0 = x := rfl
theorem g_consS (x : Int) (l : List Int) (n : Nat) : g (x :: l) (n + 1) = g l n := by unfold g; simp
theorem g_out {l : List Int} {n : Nat} (h : l.length ≤ n) : g l n = 0 := by unfold g; rw [List.getD_eq_getElem?_getD, List.getElem?_eq_none h]; rfl
def Rg (p : Int) (l : List Int) : Prop := ∀ x ∈ l, 0 ≤ x ∧ x < p
theorem Rg.g {p : Int} {l : List Int} (hp : 0 < p) (h : Rg p l) (n : Nat) : 0 ≤ g l n ∧ g l n < p := by
  by_cases hn : n < l.length
  · unfold Lq.g
    rw [List.getD_eq_getElem?_getD, List.getElem?_eq_getElem hn]
    exact h _ (List.getElem_mem _)
  · rw [g_out (by omega)]
    omega
def trim : List Int → List Int
  | [] => []
  | x :: l => match trim l with
    | [] => if x = 0 then [] else [x]
    | y :: t => x :: y :: t
theorem trim_cons (x : Int) (l : List Int) : trim (x :: l) = if trim l = [] then (if x = 0 then [] else [x]) else x :: trim l := by
  rw [trim]
  cases h : trim l with
  | nil => rfl
  | cons y t => rfl
theorem trim_snoc0 (l : List Int) : trim (l ++ [0]) = trim l := by
  induction l with
  | nil => rfl
  | cons x l ih => rw [List.cons_append, trim_cons, trim_cons, ih]
theorem trim_snoc {x : Int} (hx : x ≠ 0) (l : List Int) : trim (l ++ [x]) = l ++ [x] := by
  induction l with
  | nil => rw [List.nil_append, trim_cons]; simp [trim, hx]
  | cons y l ih => rw [List.cons_append, trim_cons, ih, if_neg (by simp)]
theorem trim_len (l : List Int) : (trim l).length ≤ l.length := by
  induction l with
  | nil => exact Nat.le_refl _
  | cons x l ih =>
    rw [trim_cons]
    split
    · split <;> simp
    · simp; exact ih
theorem g_trim (l : List Int) (n : Nat) : g (trim l) n = g l n := by
  induction l generalizing n with
  | nil => rfl
  | cons x l ih =>
    rw [trim_cons]
    by_cases h : trim l = []
    · rw [if_pos h]
      have hz : ∀ n, g l n = 0 := fun n => by rw [← ih n, h, g_nil]
      by_cases hx : x = 0
      · rw [if_pos hx, g_nil]
        cases n with
        | zero => rw [g_cons0, hx]
        | succ n => rw [g_consS, hz]
      · rw [if_neg hx]
        cases n with
        | zero => rw [g_cons0, g_cons0]
        | succ n => rw [g_consS, g_consS, hz, g_nil]
    · rw [if_neg h]
      cases n with
      | zero => rw [g_cons0, g_cons0]
      | succ n => rw [g_consS, g_consS, ih]
theorem trim_mem {l : List Int} {x : Int} (h : x ∈ trim l) : x ∈ l := by
  induction l with
  | nil => exact h
  | cons y l ih =>
    rw [trim_cons] at h
    split at h
    · split at h
      · exact absurd h List.not_mem_nil
      · rw [List.mem_singleton] at h; rw [h]; exact List.mem_cons_self
    · rcases List.mem_cons.mp h with rfl | h
      · exact List.mem_cons_self
      · exact List.mem_cons_of_mem _ (ih h)
theorem trim_zero {l : List Int} (h : ∀ n, g l n = 0) : trim l = [] := by
  induction l with
  | nil => rfl
  | cons x l ih =>
    have h0 := h 0
    rw [g_cons0] at h0
    rw [trim_cons, ih (fun n => by have := h (n + 1); rwa [g_consS] at this), if_pos rfl, if_pos h0]
theorem trim_ext {a b : List Int} (h : ∀ n, g a n = g b n) : trim a = trim b := by
  induction a generalizing b with
  | nil => rw [trim_zero (l := b) fun n => by rw [← h n, g_nil]]; rfl
  | cons x a ih =>
    cases b with
    | nil => rw [trim_zero (l := x :: a) fun n => by rw [h n, g_nil]]; rfl
    | cons y b =>
      have h0 := h 0
      rw [g_cons0, g_cons0] at h0
      rw [trim_cons, trim_cons, ih (b := b) fun n => by have := h (n + 1); rwa [g_consS, g_consS] at this, h0]
theorem trim_idem (l : List Int) : trim (trim l) = trim l := trim_ext (g_trim l)
theorem trim_last {l : List Int} (h : trim l = l) (hn : l ≠ []) : g l (l.length - 1) ≠ 0 := by
  revert h hn
  refine snocInd (P := fun l => trim l = l → l ≠ [] → g l (l.length - 1) ≠ 0) (fun _ h => absurd rfl h) (fun l x _ h _ => ?_) l
  have hx : x ≠ 0 := by
    rintro rfl
    rw [trim_snoc0] at h
    have := trim_len l
    rw [h, List.length_append] at this
    simp at this
    omega
  have : g (l ++ [x]) ((l ++ [x]).length - 1) = x := by unfold g; simp
  rwa [this]
theorem trim_le {l : List Int} {k : Nat} (h : ∀ n, k ≤ n → g l n = 0) : (trim l).length ≤ k := by
  by_cases hn : trim l = []
  · rw [hn]; exact Nat.zero_le _
  · have h1 := trim_last (trim_idem l) hn
    rw [g_trim] at h1
    have hl : 0 < (trim l).length := List.length_pos_iff.mpr hn
    rcases Nat.lt_or_ge ((trim l).length - 1) k with q | q
    · omega
    · exact absurd (h _ q) h1
theorem trim_take (l : List Int) : trim l = l.take (trim l).length := by
  refine snocInd (P := fun l => trim l = l.take (trim l).length) rfl (fun l x ih => ?_) l
  by_cases hx : x = 0
  · rw [hx, trim_snoc0, List.take_append_of_le_length (trim_len l)]
    exact ih
  · rw [trim_snoc hx, List.take_length]
theorem trim_rg {p : Int} {l : List Int} (h : Rg p l) : Rg p (trim l) := fun x hx => h x (trim_mem hx)
def shg (k : Nat) (b : List Int) (n : Nat) : Int := if k ≤ n then g b (n - k) else 0
theorem shg_nil (k n : Nat) : shg k [] n = 0 := by unfold shg; split <;> simp [g_nil]
theorem shg_cons (k : Nat) (y : Int) (b : List Int) (n : Nat) : shg k (y :: b) n = (if n = k then y else 0) + shg (k + 1) b n := by
  unfold shg
  by_cases h : k ≤ n
  · rw [if_pos h]
    by_cases e : n = k
    · subst e
      rw [if_pos rfl, Nat.sub_self, g_cons0, if_neg (by omega)]
      omega
    · obtain ⟨d, rfl⟩ : ∃ d, n = k + 1 + d := ⟨n - k - 1, by omega⟩
      rw [if_neg e, if_pos (by omega), show k + 1 + d - k = d + 1 by omega, show k + 1 + d - (k + 1) = d by omega, g_consS]
      omega
  · rw [if_neg h, if_neg (by omega), if_neg (by omega)]
    rfl
theorem shg_up (k : Nat) (b : List Int) (n : Nat) : shg (k + 1) b n = if 1 ≤ n then shg k b (n - 1) else 0 := by
  unfold shg
  by_cases h : 1 ≤ n
  · rw [if_pos h]
    by_cases e : k ≤ n - 1
    · rw [if_pos e, if_pos (by omega), show n - (k + 1) = n - 1 - k by omega]
    · rw [if_neg e, if_neg (by omega)]
  · rw [if_neg h, if_neg (by omega)]
theorem shg_zero (b : List Int) (n : Nat) : shg 0 b n = g b n := by unfold shg; simp
theorem shg_out {k : Nat} {b : List Int} {n : Nat} (h : k + b.length ≤ n) : shg k b n = 0 := by
  unfold shg
  rw [if_pos (by omega), g_out (by omega)]
def cmb : Nat → List Int → List Int → Nat → Int
  | _, [], _, _ => 0
  | i, x :: a, b, n => x * shg i b n + cmb (i + 1) a b n
theorem cmb_snoc (u : List Int) (f : Int) (b : List Int) (n : Nat) : ∀ i, cmb i (u ++ [f]) b n = cmb i u b n + f * shg (i + u.length) b n := by
  induction u with
  | nil => intro i; simp [cmb]
  | cons x u ih =>
    intro i
    rw [List.cons_append, cmb, cmb, ih, List.length_cons, show i + 1 + u.length = i + (u.length + 1) by omega]
    omega
theorem cmb_out {b : List Int} {n : Nat} : ∀ (a : List Int) (i : Nat), 1 ≤ b.length → i + a.length + b.length ≤ n + 1 → cmb i a b n = 0
  | [], _, _, _ => rfl
  | x :: a, i, hb, h => by
    rw [List.length_cons] at h
    rw [cmb, shg_out (by omega), cmb_out a (i + 1) hb (by omega)]
    omega
theorem cmb_up (b : List Int) (n : Nat) : ∀ (c : List Int) (i : Nat), cmb (i + 1) c b n = if 1 ≤ n then cmb i c b (n - 1) else 0
  | [], _ => by simp [cmb]
  | x :: c, i => by
    rw [cmb, cmb, shg_up, cmb_up b n c (i + 1)]
    split <;> simp
def padd : List Int → List Int → List Int
  | [], c => c
  | c, [] => c
  | x :: c, y :: d => (x + y) :: padd c d
theorem cmb_padd (b : List Int) (n : Nat) : ∀ (c d : List Int) (i : Nat), cmb i (padd c d) b n = cmb i c b n + cmb i d b n
  | [], d, i => by simp [padd, cmb]
  | x :: c, [], i => by simp [padd, cmb]
  | x :: c, y :: d, i => by
    rw [padd, cmb, cmb, cmb, cmb_padd b n c d (i + 1)]
    grind
theorem cmb_map (a : Int) (b : List Int) (n : Nat) : ∀ (c : List Int) (i : Nat), cmb i (c.map (a * ·)) b n = a * cmb i c b n
  | [], i => by simp [cmb]
  | x :: c, i => by
    rw [List.map_cons, cmb, cmb, cmb_map a b n c (i + 1)]
    grind
def InI (p : Int) (d : List Int) (f : Nat → Int) : Prop := ∃ c : List Int, ∀ n, Cg p (f n) (cmb 0 c d n)
theorem InI.congr {p : Int} {d : List Int} {f h : Nat → Int} (e : ∀ n, Cg p (f n) (h n)) (q : InI p d h) : InI p d f := by
  obtain ⟨c, q⟩ := q
  exact ⟨c, fun n => (e n).trans (q n)⟩
theorem InI.zero {p : Int} {d : List Int} : InI p d (fun _ => 0) := ⟨[], fun n => Cg.refl _⟩
theorem InI.add {p : Int} {d : List Int} {f h : Nat → Int} (q : InI p d f) (r : InI p d h) : InI p d (fun n => f n + h n) := by
  obtain ⟨c, q⟩ := q
  obtain ⟨e, r⟩ := r
  exact ⟨padd c e, fun n => by rw [cmb_padd]; exact (q n).add (r n)⟩
theorem InI.smul {p : Int} {d : List Int} {f : Nat → Int} (a : Int) (q : InI p d f) : InI p d (fun n => a * f n) := by
  obtain ⟨c, q⟩ := q
  exact ⟨c.map (a * ·), fun n => by rw [cmb_map]; exact (q n).mul a⟩
theorem InI.shift {p : Int} {d : List Int} {f : Nat → Int} (q : InI p d f) : InI p d (fun n => if 1 ≤ n then f (n - 1) else 0) := by
  obtain ⟨c, q⟩ := q
  refine ⟨0 :: c, fun n => ?_⟩
  rw [cmb, cmb_up]
  show Cg p (if 1 ≤ n then f (n - 1) else 0) _
  split
  · have := q (n - 1)
    rw [Int.zero_mul, Int.zero_add]
    exact this
  · rw [Int.zero_mul, Int.zero_add]
    exact Cg.refl _
theorem InI.self {p : Int} (d : List Int) : InI p d (g d) := ⟨[1], fun n => by rw [cmb, cmb, shg_zero]; exact ⟨0, by grind⟩⟩
theorem InI.shg {p : Int} {d b : List Int} (h : InI p d (g b)) : ∀ k, InI p d (Lq.shg k b)
  | 0 => h.congr fun n => by rw [shg_zero]; exact Cg.refl _
  | k + 1 => (InI.shg h k).shift.congr fun n => by rw [shg_up]; exact Cg.refl _
theorem InI.cmb {p : Int} {d b : List Int} (h : InI p d (g b)) : ∀ (a : List Int) (i : Nat), InI p d (Lq.cmb i a b)
  | [], i => InI.zero
  | x :: a, i => ((h.shg i).smul x).add (InI.cmb h a (i + 1))
theorem InI.trans {p : Int} {d e : List Int} {f : Nat → Int} (h : InI p d (g e)) (q : InI p e f) : InI p d f := by
  obtain ⟨c, q⟩ := q
  exact (h.cmb c 0).congr q
theorem InI.low {p h : Int} {d : List Int} {f : Nat → Int} (hd : 1 ≤ d.length) (hu : Cg p (h * g d (d.length - 1)) 1) (q : InI p d f) (hf : ∀ n, d.length - 1 ≤ n → Cg p (f n) 0) : ∀ n, Cg p (f n) 0 := by
  obtain ⟨c, q⟩ := q
  revert q
  refine snocInd (P := fun c => (∀ n, Cg p (f n) (Lq.cmb 0 c d n)) → ∀ n, Cg p (f n) 0) (fun q n => q n) (fun c x ih q => ?_) c
  have h1 := q (c.length + (d.length - 1))
  rw [cmb_snoc, cmb_out c 0 hd (by omega), Int.zero_add, Nat.zero_add] at h1
  have h2 : Lq.shg c.length d (c.length + (d.length - 1)) = g d (d.length - 1) := by
    unfold Lq.shg
    rw [if_pos (by omega), Nat.add_sub_cancel_left]
  rw [h2] at h1
  have h3 := hf (c.length + (d.length - 1)) (by omega)
  have hx : Cg p x 0 := by
    obtain ⟨k, h1⟩ := h1
    obtain ⟨l, h3⟩ := h3
    obtain ⟨m, hu⟩ := hu
    exact ⟨h * (l - k) - x * m, by grind⟩
  refine ih fun n => (q n).trans ?_
  rw [cmb_snoc]
  obtain ⟨k, hx⟩ := hx
  exact ⟨k * Lq.shg (0 + c.length) d n, by grind⟩
def addAt (p : Int) (l : List Int) (k : Nat) (v : Int) : List Int := l.set k ((g l k + v) % p)
theorem addAt_len (p : Int) (l : List Int) (k : Nat) (v : Int) : (addAt p l k v).length = l.length := by unfold addAt; simp
theorem g_set {l : List Int} {k : Nat} {v : Int} (hk : k < l.length) (n : Nat) : g (l.set k v) n = if n = k then v else g l n := by
  unfold g
  rw [List.getD_eq_getElem?_getD, List.getD_eq_getElem?_getD, List.getElem?_set]
  by_cases e : n = k
  · subst e
    rw [if_pos rfl, if_pos hk, if_pos rfl]
    rfl
  · rw [if_neg (fun h => e h.symm), if_neg e]
theorem set_rg {p v : Int} {l : List Int} {k : Nat} (h : Rg p l) (hv : 0 ≤ v ∧ v < p) : Rg p (l.set k v) := fun x hx => by
  rcases List.mem_or_eq_of_mem_set hx with hx | rfl
  · exact h x hx
  · exact hv
theorem addAt_rg {p v : Int} {l : List Int} {k : Nat} (hp : 0 < p) (h : Rg p l) : Rg p (addAt p l k v) := set_rg h ⟨Int.emod_nonneg _ (by omega), Int.emod_lt_of_pos _ hp⟩
def rowR (p x : Int) : Nat → List Int → List Int → List Int
  | _, [], l => l
  | k, y :: b, l => rowR p x (k + 1) b (addAt p l k (x * y))
theorem rowR_len (p x : Int) : ∀ (b : List Int) (k : Nat) (l : List Int), (rowR p x k b l).length = l.length
  | [], _, _ => rfl
  | y :: b, k, l => by rw [rowR, rowR_len p x b, addAt_len]
theorem rowR_rg {p x : Int} (hp : 0 < p) : ∀ (b : List Int) (k : Nat) (l : List Int), Rg p l → Rg p (rowR p x k b l)
  | [], _, _, h => h
  | y :: b, k, l, h => rowR_rg hp b (k + 1) _ (addAt_rg hp h)
theorem g_rowR {p x : Int} : ∀ (b : List Int) (k : Nat) (l : List Int), k + b.length ≤ l.length → ∀ n, Cg p (g (rowR p x k b l) n) (g l n + x * shg k b n)
  | [], k, l, _, n => by rw [rowR, shg_nil]; exact ⟨0, by grind⟩
  | y :: b, k, l, h, n => by
    rw [List.length_cons] at h
    rw [rowR]
    refine (g_rowR b (k + 1) _ (by rw [addAt_len]; omega) n).trans ?_
    rw [shg_cons]
    unfold addAt
    rw [g_set (by omega)]
    by_cases e : n = k
    · subst e
      rw [if_pos rfl, if_pos rfl]
      obtain ⟨m, hm⟩ := Cg.mod p (g l n + x * y)
      exact ⟨m, by grind⟩
    · rw [if_neg e, if_neg e]
      exact ⟨0, by grind⟩
def mulR (p : Int) : Nat → List Int → List Int → List Int → List Int
  | _, [], _, l => l
  | i, x :: a, b, l => mulR p (i + 1) a b (rowR p x i b l)
theorem mulR_len (p : Int) (b : List Int) : ∀ (a : List Int) (i : Nat) (l : List Int), (mulR p i a b l).length = l.length
  | [], _, _ => rfl
  | x :: a, i, l => by rw [mulR, mulR_len p b a, rowR_len]
theorem mulR_rg {p : Int} (hp : 0 < p) (b : List Int) : ∀ (a : List Int) (i : Nat) (l : List Int), Rg p l → Rg p (mulR p i a b l)
  | [], _, _, h => h
  | x :: a, i, l, h => mulR_rg hp b a (i + 1) _ (rowR_rg hp b i l h)
theorem g_mulR {p : Int} (b : List Int) : ∀ (a : List Int) (i : Nat) (l : List Int), i + a.length + b.length ≤ l.length → ∀ n, Cg p (g (mulR p i a b l) n) (g l n + cmb i a b n)
  | [], i, l, _, n => by rw [mulR, cmb]; exact ⟨0, by grind⟩
  | x :: a, i, l, h, n => by
    rw [List.length_cons] at h
    rw [mulR]
    refine (g_mulR b a (i + 1) _ (by rw [rowR_len]; omega) n).trans ?_
    rw [cmb]
    obtain ⟨k, hk⟩ := g_rowR (p := p) (x := x) b i l (by omega) n
    exact ⟨k, by grind⟩
def timesP (p : Int) (a b : List Int) : List Int := trim (mulR p 0 a b (List.replicate (a.length + b.length) 0))
theorem zeros_rg {p : Int} (hp : 0 < p) (n : Nat) : Rg p (List.replicate n 0) := fun x hx => by rw [(List.mem_replicate.mp hx).2]; omega
theorem timesP_rg {p : Int} (hp : 0 < p) (a b : List Int) : Rg p (timesP p a b) := trim_rg (mulR_rg hp b a 0 _ (zeros_rg hp _))
theorem timesP_len (p : Int) (a b : List Int) : (timesP p a b).length ≤ a.length + b.length := by
  have := trim_len (mulR p 0 a b (List.replicate (a.length + b.length) 0))
  rw [mulR_len, List.length_replicate] at this
  exact this
theorem timesP_trim (p : Int) (a b : List Int) : trim (timesP p a b) = timesP p a b := trim_idem _
theorem g_timesP (p : Int) (a b : List Int) (n : Nat) : Cg p (g (timesP p a b) n) (cmb 0 a b n) := by
  unfold timesP
  rw [g_trim]
  have := g_mulR (p := p) b a 0 (List.replicate (a.length + b.length) 0) (by simp) n
  rwa [g_zero, Int.zero_add] at this
def divR (p h : Int) (b : List Int) : Nat → List Int → List Int → List Int × List Int
  | 0, l, q => (l, q)
  | at_ + 1, l, q => divR p h b at_ (rowR p (-(g l (at_ + b.length - 1) * h % p)) at_ b l) (q ++ [g l (at_ + b.length - 1) * h % p])
theorem divR_spec {p h : Int} {b : List Int} (hp : 0 < p) (hb : 1 ≤ b.length) (hu : Cg p (h * g b (b.length - 1)) 1) : ∀ (c : Nat) (l q : List Int), Rg p l → (1 ≤ c → c + b.length ≤ l.length + 1) → (∀ n, c + b.length - 1 ≤ n → g l n = 0) →
    ∃ (l' fs : List Int), divR p h b c l q = (l', q ++ fs) ∧ fs.length = c ∧ Rg p fs ∧ Rg p l' ∧ l'.length = l.length ∧ (∀ n, Cg p (g l n) (g l' n + cmb 0 fs.reverse b n)) ∧ ∀ n, b.length - 1 ≤ n → g l' n = 0
  | 0, l, q, hl, _, h0 => ⟨l, [], by simp [divR], rfl, fun x hx => absurd hx List.not_mem_nil, hl, rfl, fun n => by simp only [List.reverse_nil, cmb]; exact ⟨0, by grind⟩, fun n hn => h0 n (by omega)⟩
  | c + 1, l, q, hl, hc, h0 => by
    have hc := hc (by omega)
    have hf : 0 ≤ g l (c + b.length - 1) * h % p ∧ g l (c + b.length - 1) * h % p < p := ⟨Int.emod_nonneg _ (by omega), Int.emod_lt_of_pos _ hp⟩
    generalize hfe : g l (c + b.length - 1) * h % p = f at hf
    have hr := rowR_rg (x := -f) hp b c l hl
    have hg := g_rowR (p := p) (x := -f) b c l (by omega)
    have h1 : ∀ n, c + b.length - 1 ≤ n → g (rowR p (-f) c b l) n = 0 := fun n hn => by
      refine Cg.eq (hr.g hp n) ⟨Int.le_refl _, hp⟩ ((hg n).trans ?_)
      by_cases e : n = c + b.length - 1
      · have hs : shg c b n = g b (b.length - 1) := by
          unfold shg
          rw [if_pos (by omega), show n - c = b.length - 1 by omega]
        rw [hs, e]
        obtain ⟨k, hk⟩ := Cg.mod p (g l (c + b.length - 1) * h)
        rw [hfe] at hk
        obtain ⟨m, hm⟩ := hu
        generalize g l (c + b.length - 1) = u at *
        generalize g b (b.length - 1) = v at *
        exact ⟨-(k * v) - u * m, by grind⟩
      · rw [h0 n (by omega), shg_out (by omega)]
        exact ⟨0, by grind⟩
    obtain ⟨l', fs, e1, e2, e3, e4, e5, e6, e7⟩ := divR_spec hp hb hu c (rowR p (-f) c b l) (q ++ [f]) hr (fun _ => by rw [rowR_len]; omega) h1
    refine ⟨l', f :: fs, ?_, by simp [e2], ?_, e4, by rw [e5, rowR_len], fun n => ?_, e7⟩
    · rw [divR, hfe, e1, List.append_assoc]
      rfl
    · intro x hx
      rcases List.mem_cons.mp hx with rfl | hx
      · exact hf
      · exact e3 x hx
    · rw [List.reverse_cons, cmb_snoc, List.length_reverse, e2, Nat.zero_add]
      obtain ⟨k, hk⟩ := hg n
      obtain ⟨m, hm⟩ := e6 n
      exact ⟨m - k, by grind⟩
def divP (p : Int) (a b : List Int) : List Int × List Int := divR p (invP p (g b (b.length - 1))) b (a.length + 1 - b.length) a []
def restP (p : Int) (a b : List Int) : List Int := trim (divP p a b).1
def quoP (p : Int) (a b : List Int) : List Int := (divP p a b).2.reverse
def Pol (p : Int) (a : List Int) : Prop := Rg p a ∧ trim a = a
theorem Pol.trim {p : Int} {l : List Int} (h : Rg p l) : Pol p (Lq.trim l) := ⟨trim_rg h, trim_idem l⟩
theorem Pol.last {p : Int} {b : List Int} (hp : isP p = true) (h : Pol p b) (hn : b ≠ []) : g b (b.length - 1) % p ≠ 0 := by
  have hc := isP_cases hp
  have h1 := trim_last h.2 hn
  have h2 := h.1.g (by omega) (b.length - 1)
  rw [Int.emod_eq_of_lt h2.1 h2.2]
  exact h1
theorem Pol.unit {p : Int} {b : List Int} (hp : isP p = true) (h : Pol p b) (hn : b ≠ []) : Cg p (invP p (g b (b.length - 1)) * g b (b.length - 1)) 1 := by
  have hc := isP_cases hp
  have := invP_mul hp (h.last hp hn)
  rw [Cg.iff (by omega), Int.mul_comm, this, Int.emod_eq_of_lt (by omega) (by omega)]
theorem div_main {p : Int} {a b : List Int} (hp : isP p = true) (ha : Rg p a) (hb : Pol p b) (hn : b ≠ []) :
    (∀ n, Cg p (g a n) (g (restP p a b) n + cmb 0 (quoP p a b) b n)) ∧ (restP p a b).length < b.length ∧ Pol p (restP p a b) ∧ Rg p (quoP p a b) ∧ (quoP p a b).length = a.length + 1 - b.length ∧ (divP p a b).1.length = a.length := by
  have hc := isP_cases hp
  have hl : 1 ≤ b.length := List.length_pos_iff.mpr hn
  obtain ⟨l', fs, e1, e2, e3, e4, e5, e6, e7⟩ := divR_spec (p := p) (h := invP p (g b (b.length - 1))) (b := b) (by omega) hl (hb.unit hp hn) (a.length + 1 - b.length) a [] ha (fun _ => by omega) (fun n hn => g_out (by omega))
  unfold restP quoP divP
  rw [e1]
  have hle : (trim l').length ≤ b.length - 1 := trim_le e7
  exact ⟨fun n => by rw [g_trim, List.nil_append]; exact e6 n, by dsimp only; omega, Pol.trim e4, fun x hx => e3 x (by simpa using hx), by simp [e2], e5⟩
theorem rest_iff {p : Int} {a b : List Int} (hp : isP p = true) (ha : Rg p a) (hb : Pol p b) (hn : b ≠ []) : restP p a b = [] ↔ InI p b (g a) := by
  have hc := isP_cases hp
  obtain ⟨h1, h2, h3, _⟩ := div_main hp ha hb hn
  have hl : 1 ≤ b.length := List.length_pos_iff.mpr hn
  constructor
  · intro h
    rw [h] at h1
    exact ⟨quoP p a b, fun n => by have := h1 n; rwa [g_nil, Int.zero_add] at this⟩
  · intro h
    have hr : InI p b (g (restP p a b)) := (h.add (((InI.self b).cmb (quoP p a b) 0).smul (-1))).congr fun n => by
      obtain ⟨k, hk⟩ := h1 n
      exact ⟨-k, by grind⟩
    have hz := InI.low hl (hb.unit hp hn) hr fun n hn => by rw [g_out (by omega)]; exact Cg.refl _
    rw [← h3.2]
    exact trim_zero fun n => Cg.eq (h3.1.g (by omega) n) ⟨Int.le_refl _, by omega⟩ (hz n)
theorem rest_both {p : Int} {a b d : List Int} (hp : isP p = true) (ha : Rg p a) (hb : Pol p b) (hn : b ≠ []) : (InI p d (g a) ∧ InI p d (g b)) ↔ (InI p d (g b) ∧ InI p d (g (restP p a b))) := by
  obtain ⟨h1, _⟩ := div_main hp ha hb hn
  constructor
  · rintro ⟨x, y⟩
    exact ⟨y, (x.add ((y.cmb (quoP p a b) 0).smul (-1))).congr fun n => by
      obtain ⟨k, hk⟩ := h1 n
      exact ⟨-k, by grind⟩⟩
  · rintro ⟨y, x⟩
    exact ⟨(x.add (y.cmb (quoP p a b) 0)).congr h1, y⟩
def gcdR (p : Int) : Nat → List Int → List Int → List Int
  | 0, a, _ => a
  | n + 1, a, b => if b = [] then a else gcdR p n b (restP p a b)
theorem gcdR_spec {p : Int} (hp : isP p = true) : ∀ (n : Nat) (a b : List Int), Pol p a → Pol p b → b.length < n → Pol p (gcdR p n a b) ∧ (∀ d, (InI p d (g a) ∧ InI p d (g b)) ↔ InI p d (g (gcdR p n a b))) ∧ (gcdR p n a b = [] ↔ a = [] ∧ b = [])
  | 0, a, b, _, _, h => absurd h (by omega)
  | n + 1, a, b, ha, hb, h => by
    rw [gcdR]
    by_cases e : b = []
    · rw [if_pos e]
      subst e
      exact ⟨ha, fun d => ⟨fun h => h.1, fun h => ⟨h, InI.zero.congr fun n => by rw [g_nil]; exact Cg.refl _⟩⟩, by simp⟩
    · rw [if_neg e]
      obtain ⟨_, h2, h3, _⟩ := div_main hp ha.1 hb e
      obtain ⟨i1, i2, i3⟩ := gcdR_spec hp n b (restP p a b) hb h3 (by omega)
      exact ⟨i1, fun d => (rest_both hp ha.1 hb e).trans (i2 d), by rw [i3]; simp [e]⟩
def monP (p : Int) (a : List Int) : List Int := if a = [] then [] else scW p (invP p (g a (a.length - 1))) a
theorem g_scW (p a : Int) (v : List Int) (n : Nat) : Cg p (g (scW p a v) n) (a * g v n) := by
  unfold scW g
  rw [List.getD_eq_getElem?_getD, List.getD_eq_getElem?_getD, List.getElem?_map]
  cases v[n]? with
  | none => exact ⟨0, by simp⟩
  | some x =>
    obtain ⟨k, hk⟩ := Cg.mod p (x * a)
    exact ⟨k, by simp; grind⟩
theorem scW_rg {p a : Int} (hp : 0 < p) (v : List Int) : Rg p (scW p a v) := fun x hx => by
  unfold scW at hx
  obtain ⟨y, _, rfl⟩ := List.mem_map.mp hx
  exact ⟨Int.emod_nonneg _ (by omega), Int.emod_lt_of_pos _ hp⟩
theorem trim_of_last {l : List Int} (h : l = [] ∨ g l (l.length - 1) ≠ 0) : trim l = l := by
  revert h
  refine snocInd (P := fun l => l = [] ∨ g l (l.length - 1) ≠ 0 → trim l = l) (fun _ => rfl) (fun l x _ h => ?_) l
  have : g (l ++ [x]) ((l ++ [x]).length - 1) = x := by unfold g; simp
  rw [this] at h
  rcases h with h | h
  · simp at h
  · exact trim_snoc h l
theorem monP_spec {p : Int} {a : List Int} (hp : isP p = true) (ha : Pol p a) : Pol p (monP p a) ∧ (monP p a).length = a.length ∧ (a ≠ [] → g (monP p a) (a.length - 1) = 1) ∧ ∀ d, InI p d (g a) ↔ InI p d (g (monP p a)) := by
  have hc := isP_cases hp
  unfold monP
  by_cases e : a = []
  · rw [if_pos e]
    subst e
    exact ⟨⟨fun x hx => absurd hx List.not_mem_nil, rfl⟩, rfl, fun h => absurd rfl h, fun d => Iff.rfl⟩
  · rw [if_neg e]
    have hu := ha.unit hp e
    generalize invP p (g a (a.length - 1)) = i at *
    have hr := scW_rg (p := p) (a := i) (by omega) a
    have hl : (scW p i a).length = a.length := scW_len _ _ _
    have h1 : g (scW p i a) (a.length - 1) = 1 := Cg.eq (hr.g (by omega) _) (by omega) ((g_scW p i a _).trans hu)
    refine ⟨⟨hr, trim_of_last (.inr (by rw [hl, h1]; decide))⟩, hl, fun _ => h1, fun d => ⟨fun h => (h.smul i).congr (g_scW p i a), fun h => ((h.smul (g a (a.length - 1))).congr fun n => ?_)⟩⟩
    obtain ⟨k, hk⟩ := g_scW p i a n
    obtain ⟨m, hm⟩ := hu
    exact ⟨-(m * g a n) - g a (a.length - 1) * k, by grind⟩
theorem mon_unique {p : Int} {u v : List Int} (hp : isP p = true) (hu : Pol p u) (hv : Pol p v) (nu : u ≠ []) (nv : v ≠ []) (lu : g u (u.length - 1) = 1) (lv : g v (v.length - 1) = 1) (h1 : InI p u (g v)) (h2 : InI p v (g u)) : u = v := by
  have hc := isP_cases hp
  have key : ∀ {u v : List Int}, Pol p u → Pol p v → u ≠ [] → v ≠ [] → InI p u (g v) → u.length ≤ v.length := by
    intro u v hu hv nu nv h
    refine Nat.le_of_not_lt fun hlt => ?_
    have hz := InI.low (List.length_pos_iff.mpr nu) (hu.unit hp nu) h fun n hn => by rw [g_out (by omega)]; exact Cg.refl _
    refine trim_last hv.2 nv (Cg.eq (hv.1.g (by omega) _) ⟨Int.le_refl _, by omega⟩ (hz _))
  have hl : u.length = v.length := Nat.le_antisymm (key hu hv nu nv h1) (key hv hu nv nu h2)
  have hd : InI p u (fun n => g v n + -1 * g u n) := h1.add ((InI.self u).smul (-1))
  have hpos : 1 ≤ u.length := List.length_pos_iff.mpr nu
  have hz := InI.low hpos (hu.unit hp nu) hd fun n hn => by
    by_cases e : n = u.length - 1
    · rw [e]
      show Cg p (g v (u.length - 1) + -1 * g u (u.length - 1)) 0
      rw [lu, hl, lv]
      exact ⟨0, by omega⟩
    · show Cg p (g v n + -1 * g u n) 0
      rw [g_out (l := v) (by omega), g_out (l := u) (by omega)]
      exact ⟨0, by omega⟩
  rw [← hu.2, ← hv.2]
  refine trim_ext fun n => Cg.eq (hu.1.g (by omega) n) (hv.1.g (by omega) n) ?_
  obtain ⟨k, hk⟩ := hz n
  exact ⟨-k, by have : g v n + -1 * g u n = p * k + 0 := by omega
                grind⟩
end Lq

namespace Lq
open PySem PySem.Spec PyProof.Rows L2
end Lq

namespace Lq
open PySem PySem.Spec PyProof.Rows L2
end Lq

namespace Lq
open PySem PySem.Spec PyProof.Rows L2
theorem rep_int (n : Nat) : (List.replicate n [Dt.int 0]).flatten = (List.replicate n (0 : Int)).map Dt.int := by
  rw [List.flatten_replicate_singleton, List.map_replicate]
def m__law_all : Ms → O := (seqS (asgS 2 (frz (lstE (aCons (tupE aNil) aNil))))
  (seqS (forS (itR1 (aCons (varE 0) aNil)) (Tk.nm 3).k (seqS (asgS 4 (frz (lstE aNil)))
  (seqS (forS (itS (frz (calN (aCons (varE 2) aNil) lstO))) (Tk.nm 5).k (asgS 4 (frz (opN (varE 4) (frz (lcE (itR1 (aCons (varE 1) aNil)) (Tk.nm 6).k yesT (op2 (varE 5) (tupE (aCons (varE 6) aNil)) catT) [6])) catL))))
  (moveS 2 4))))
  (retS (varE 2))))
def extW (p : Int) (w : List Int) : List (List Int) := (List.range p.toNat).map fun (a : Nat) => w ++ [(a : Int)]
def allN (p : Int) : Nat → List (List Int)
  | 0 => [[]]
  | k + 1 => (allN p k).foldl (fun acc w => acc ++ extW p w) []
def Fall : List Dt → Fo
  | [.int n, .int p] => if (okP p && decide (0 ≤ n ∧ n ≤ 100) && decide (p.toNat ^ n.toNat ≤ 10000)) = true then .ok (.lst ((allN p n.toNat).map Wd)) else .no
  | _ => .no
theorem Fall_run {n : Nat} {p : Int} (hp : okP p = true) (hn : n ≤ 100) (hl : p.toNat ^ n ≤ 10000) : Fall [.int n, .int p] = .ok (.lst ((allN p n).map Wd)) := by
  unfold Fall
  dsimp only
  rw [Int.toNat_natCast, if_pos (by simp [hp, hl]; omega)]
theorem extW_len (p : Int) (w : List Int) : (extW p w).length = p.toNat := by simp [extW]
theorem fold_ext (p : Int) : ∀ (ws acc : List (List Int)), (ws.foldl (fun acc w => acc ++ extW p w) acc) = acc ++ ws.flatMap (extW p)
  | [], acc => by simp
  | w :: ws, acc => by rw [List.foldl_cons, fold_ext p ws]; simp
theorem allN_succ (p : Int) (k : Nat) : allN p (k + 1) = (allN p k).flatMap (extW p) := by
  show (allN p k).foldl _ [] = _
  rw [fold_ext, List.nil_append]
theorem allN_len (p : Int) : ∀ k, (allN p k).length = p.toNat ^ k
  | 0 => rfl
  | k + 1 => by
    rw [allN_succ, List.length_flatMap]
    simp only [extW_len, List.map_const', List.sum_replicate_nat, allN_len p k]
    rw [Nat.pow_succ]
theorem allN_wlen (p : Int) : ∀ k, ∀ w ∈ allN p k, w.length = k
  | 0, w, h => by
    have : w = [] := by simpa [allN] using h
    rw [this]
    rfl
  | k + 1, w, h => by
    rw [allN_succ, List.mem_flatMap] at h
    obtain ⟨v, hv, hw⟩ := h
    obtain ⟨a, _, rfl⟩ := List.mem_map.mp hw
    rw [List.length_append, allN_wlen p k v hv]
    rfl
theorem allN_mem {p : Int} : ∀ {k : Nat} {w : List Int}, w ∈ allN p k ↔ w.length = k ∧ ∀ x ∈ w, 0 ≤ x ∧ x < p
  | 0, w => by
    show w ∈ [[]] ↔ _
    rw [List.mem_singleton]
    constructor
    · rintro rfl
      exact ⟨rfl, fun x h => absurd h List.not_mem_nil⟩
    · exact fun h => List.eq_nil_of_length_eq_zero h.1
  | k + 1, w => by
    rw [allN_succ, List.mem_flatMap]
    constructor
    · rintro ⟨v, hv, hw⟩
      obtain ⟨a, ha, rfl⟩ := List.mem_map.mp hw
      obtain ⟨h1, h2⟩ := allN_mem.mp hv
      have := List.mem_range.mp ha
      refine ⟨by rw [List.length_append, h1]; rfl, fun x hx => ?_⟩
      rcases List.mem_append.mp hx with hx | hx
      · exact h2 x hx
      · rw [List.mem_singleton] at hx
        omega
    · rintro ⟨h1, h2⟩
      have hne : w ≠ [] := by
        rintro rfl
        cases h1
      have hd := List.dropLast_concat_getLast hne
      have hl := h2 _ (List.getLast_mem hne)
      refine ⟨w.dropLast, allN_mem.mpr ⟨by rw [List.length_dropLast, h1]; rfl, fun x hx => h2 x (List.dropLast_subset _ hx)⟩, List.mem_map.mpr ⟨(w.getLast hne).toNat, List.mem_range.mpr (by omega), ?_⟩⟩
      rw [Int.toNat_of_nonneg hl.1]
      exact hd
def alSt (n : Nat) (p : Int) (out : List (List Int)) (x3 x4 x5 : Sv) : Ms := { sl := [.im (.int n), .im (.int p), .im (.lst (out.map Wd)), x3, x4, x5, .no], mo := [] }
def alIn : Ms → O := asgS 4 (frz (opN (varE 4) (frz (lcE (itR1 (aCons (varE 1) aNil)) (Tk.nm 6).k yesT (op2 (varE 5) (tupE (aCons (varE 6) aNil)) catT) [6])) catL))
def alBody : Ms → O := seqS (asgS 4 (frz (lstE aNil))) (seqS (forS (itS (frz (calN (aCons (varE 2) aNil) lstO))) (Tk.nm 5).k alIn) (moveS 2 4))
theorem catL_run {xs ys : List Dt} (h : xs.length + ys.length ≤ 100000) : catL (.lst xs) (.lst ys) = some (xs ++ ys) := by
  show (if _ then _ else _) = _
  rw [if_pos h]
theorem catT_run {xs ys : List Dt} (h : xs.length + ys.length ≤ 100000) : catT (.tup xs) (.tup ys) = some (.tup (xs ++ ys)) := by
  show (if _ then _ else _) = _
  rw [if_pos h]
theorem alBody_run {n k : Nat} {p : Int} {out : List (List Int)} {x3 x4 x5 : Sv} (hp : okP p = true) (hk : k ≤ 100) (ho : ∀ w ∈ out, w.length = k) (hl : out.length * p.toNat ≤ 10000) :
    ∃ x4' x5', alBody (alSt n p out x3 x4 x5) = .nx (alSt n p (out.flatMap (extW p)) x3 x4' x5') := by
  obtain ⟨hp1, hp2⟩ := okP_iff.mp hp
  obtain ⟨m, rfl⟩ : ∃ m : Nat, p = (m : Int) := ⟨p.toNat, by omega⟩
  have h0 : asgS 4 (frz (lstE aNil)) (alSt n m out x3 x4 x5) = .nx (alSt n m out x3 (.im (.lst (([] : List (List Int)).map Wd))) x5) := by simp [alSt]
  have hit : itS (frz (calN (aCons (varE 2) aNil) lstO)) (alSt n m out x3 (.im (.lst (([] : List (List Int)).map Wd))) x5) = .ok (out.map Wd) (alSt n m out x3 (.im (.lst (([] : List (List Int)).map Wd))) x5) := by simp [alSt]
  obtain ⟨S', f1, hI, y5, f2⟩ := forL_fold (k := (Tk.nm 5).k) (body := alIn) Wd (fun j (acc : List (List Int)) S => acc.length ≤ j * m ∧ ∃ y5, S = alSt n m out x3 (.im (.lst (acc.map Wd))) y5) (fun acc w => acc ++ extW m w) out 0 [] _ ⟨Nat.zero_le _, x5, rfl⟩ (fun j acc w S hw hj hI => by
    obtain ⟨ha, y5, rfl⟩ := hI
    have hb : (j + 1) * m ≤ out.length * m := Nat.mul_le_mul_right _ (by omega)
    rw [Int.toNat_natCast] at hl
    rw [Nat.succ_mul] at hb
    have hwl := ho w hw
    refine ⟨_, alSt n m out x3 (.im (.lst ((acc ++ extW m w).map Wd))) (.im (Wd w)), kNm _ _ _, .inl ?_, ?_, _, rfl⟩
    · have key : lcE (itR1 (aCons (varE 1) aNil)) (Tk.nm 6).k yesT (op2 (varE 5) (tupE (aCons (varE 6) aNil)) catT) [6] (alSt n m out x3 (.im (.lst (acc.map Wd))) (.im (Wd w))) = .ok ((List.range m).map fun (a : Nat) => Wd (w ++ [(a : Int)])) (alSt n m out x3 (.im (.lst (acc.map Wd))) (.im (Wd w))) := by
        refine lcE_map (fun (a : Nat) => Dt.int (a : Int)) _ (List.range m) (itR1_run (by simp [alSt]) (by omega)) (fun a _ => ?_) (fun d T T' => Tk.mo) (by simp; omega)
        have hc : catT (Wd w) (.tup [.int (a : Int)]) = some (Wd (w ++ [(a : Int)])) := by
          have := catT_run (xs := w.map Dt.int) (ys := [.int (a : Int)]) (by rw [List.length_map, hwl]; simp; omega)
          unfold Wd
          rw [this, List.map_append]
          rfl
        refine ⟨_, kNm _ _ _, ?_⟩
        simp [alSt, wipeL, hc]
      have e2 : ((List.range m).map fun (a : Nat) => Wd (w ++ [(a : Int)])) = (extW m w).map Wd := by
        unfold extW
        rw [List.map_map, Int.toNat_natCast]
        rfl
      rw [e2] at key
      have hcl := catL_run (xs := acc.map Wd) (ys := (extW m w).map Wd) (by rw [List.length_map, List.length_map, extW_len, Int.toNat_natCast]; omega)
      rw [← List.map_append] at hcl
      unfold alIn
      have hS : ({ sl := (alSt n m out x3 (.im (.lst (acc.map Wd))) y5).sl.set 5 (.im (Wd w)), mo := (alSt n m out x3 (.im (.lst (acc.map Wd))) y5).mo } : Ms) = alSt n m out x3 (.im (.lst (acc.map Wd))) (.im (Wd w)) := rfl
      rw [hS, asgS_run', frz_run', opN_run, varE_im (i := 4) (d := .lst (acc.map Wd)) rfl, R.bind_ok, frz_run', key, R.bind_ok, R.bind_ok, hcl, R.of_some, R.bind_ok, R.stmt_ok]
      rfl
    · rw [List.length_append, extW_len, Int.toNat_natCast, Nat.succ_mul]
      omega)
  refine ⟨.im (.lst ((out.flatMap (extW m)).map Wd)), y5, ?_⟩
  have ef := fold_ext (m : Int) out []
  rw [List.nil_append] at ef
  rw [ef] at f2
  unfold alBody
  rw [seqS_run, h0, seq_nx, seqS_run, forS_run, hit, R.stmt_ok, f1, seq_nx, f2]
  exact moveS_im rfl
theorem run__law_all (ds : List Dt) (h : Fall ds ≠ .no) : runD 7 m__law_all ds = Fall ds := by
  unfold Fall at h
  split at h
  · rename_i n p
    split at h
    · rename_i hc
      simp only [Bool.and_eq_true, decide_eq_true_eq] at hc
      obtain ⟨⟨hp, hn⟩, hl⟩ := hc
      obtain ⟨n, rfl⟩ : ∃ k : Nat, n = (k : Int) := ⟨n.toNat, by omega⟩
      rw [Int.toNat_natCast] at hl
      have hn1 : n ≤ 100 := by omega
      rw [Fall_run hp hn1 hl]
      have hp3 : 1 ≤ p.toNat := by have := (okP_iff.mp hp).1; omega
      have hst : st0 7 [.int (n : Int), .int p] = { sl := [.im (.int n), .im (.int p), .no, .no, .no, .no, .no], mo := [] } := rfl
      have h0 : asgS 2 (frz (lstE (aCons (tupE aNil) aNil))) { sl := [.im (.int n), .im (.int p), .no, .no, .no, .no, .no], mo := [] } = .nx (alSt n p (allN p 0) .no .no .no) := by
        simp [alSt, allN]
        rfl
      have hit : itR1 (aCons (varE 0) aNil) (alSt n p (allN p 0) .no .no .no) = .ok ((List.range n).map fun (i : Nat) => Dt.int (i : Int)) (alSt n p (allN p 0) .no .no .no) := itR1_run (by simp [alSt]) (by omega)
      obtain ⟨S', f1, x3, x4, x5, f2⟩ := forL_inv (k := (Tk.nm 3).k) (body := alBody) ((List.range n).map fun (i : Nat) => Dt.int (i : Int)) (fun i S => ∃ x3 x4 x5, S = alSt n p (allN p i) x3 x4 x5) (alSt n p (allN p 0) .no .no .no) ⟨_, _, _, rfl⟩ (fun i d S hi hI => by
        obtain ⟨x3, x4, x5, rfl⟩ := hI
        rw [List.getElem?_map] at hi
        have hin : i < n := by
          rcases Nat.lt_or_ge i n with h | h
          · exact h
          · rw [List.getElem?_eq_none (by simpa using h)] at hi
            cases hi
        rw [List.getElem?_range hin] at hi
        cases hi
        have hb : p.toNat ^ (i + 1) ≤ p.toNat ^ n := Nat.pow_le_pow_right hp3 (by omega)
        obtain ⟨y4, y5, r⟩ := alBody_run (n := n) (k := i) (x3 := .im (.int (i : Int))) (x4 := x4) (x5 := x5) hp (by omega) (allN_wlen p i) (by rw [allN_len, ← Nat.pow_succ]; exact Nat.le_trans hb hl)
        rw [← allN_succ] at r
        exact ⟨_, _, kNm _ _ _, .inl r, _, _, _, rfl⟩)
      rw [List.length_map, List.length_range] at f2
      have hm : m__law_all = seqS (asgS 2 (frz (lstE (aCons (tupE aNil) aNil)))) (seqS (forS (itR1 (aCons (varE 0) aNil)) (Tk.nm 3).k alBody) (retS (varE 2))) := rfl
      unfold runD
      rw [hst, hm, seqS_run, h0, seq_nx, seqS_run, forS_run, hit, R.stmt_ok, f1, seq_nx, f2, retS_run, varE_im rfl, R.stmt_ok]
      rfl
    · exact absurd rfl h
  · exact absurd rfl h
end Lq

namespace Lq
open PySem PySem.Spec PyProof.Rows L2
theorem ixN_nat {n k : Nat} (h : k < n) : ixN n (k : Int) = some k := by
  unfold ixN
  rw [if_pos (by omega), if_pos (by omega), Int.toNat_natCast]
theorem setS_run {i k j : Nat} {f g : Ms → R Dt} {S : Ms} {xs : List Dt} {d : Dt} {z : Int} (h1 : f S = .ok d S) (hm : muAt S i = some (k, xs)) (h2 : g S = .ok (.int z) S) (hj : ixN xs.length z = some j) : setS i f g S = .nx { S with mo := S.mo.set k (.ob (.ls (xs.set j d))) } := by
  unfold setS
  rw [h1, R.stmt_ok, hm]
  dsimp only
  rw [h2, R.stmt_ok, hm]
  dsimp only
  rw [hj]
theorem repL_run {n : Nat} (hn : n ≤ 1000) : repL (.lst [.int 0]) (.int (n : Int)) = some ((List.replicate n (0 : Int)).map Dt.int) := by
  show (if _ then _ else _) = _
  have : ([Dt.int 0] : List Dt).length ≤ 100 ∧ (0 : Int) ≤ (n : Int) ∧ (n : Int) ≤ 1000 := ⟨by simp, by omega, by omega⟩
  rw [if_pos this, Int.toNat_natCast, rep_int]
end Lq

namespace Lq
open PySem PySem.Spec PyProof.Rows L2
end Lq

namespace Lq
open PySem PySem.Spec PyProof.Rows L2
end Lq

namespace Lq
open PySem PySem.Spec PyProof.Rows L2
def okX (n : Nat) (xs : List Int) : Prop := xs.length ≤ n ∧ ∀ x ∈ xs, 0 ≤ x ∧ x < 1009
end Lq

namespace Lq
open PySem PySem.Spec PyProof.Rows L2
end Lq

namespace Lq
open PySem PySem.Spec PyProof.Rows L2
end Lq

namespace Lq
open PySem PySem.Spec PyProof.Rows L2
def stL (ns : List Int) : Int × Int := ns.foldl (fun q c => (q.1 * 1000003 + (if c < 0 then -c else c), (q.2 * 48271 + c) % 2147483647)) (0, 1)
def stB : Ms → O := (seqS (asgS 1 (op2 (op2 (varE 1) (cE (.int 1000003)) mulO) (calE (aCons (varE 3) aNil) absO) addO))
  (asgS 2 (op2 (calE (aCons (op2 (op2 (varE 2) (cE (.int 48271)) mulO) (varE 3) addO) aNil) intO) (cE (.int 2147483647)) modO)))
def m__law_state : Ms → ON := (seqN (asgS 1 (cE (.int 0)))
  (seqN (asgS 2 (cE (.int 1)))
  (seqN (forS (itS (frz (slL (varE 0) oNone (oSome (cE (.int 63)))))) (Tk.nm 3).k stB)
  (retNL (lstE (aCons (varE 1) (aCons (varE 2) aNil)))))))
noncomputable def Fstate : List Dt → FoN := runN 4 m__law_state
theorem cut_all {α : Type} {xs : List α} (h : xs.length ≤ 63) : cut xs none (some 63) = xs := by
  unfold cut
  rw [show HT.sIx xs.length xs.length (some 63) = min 63 xs.length from HT.sIx_nat _ _ 63, HT.sIx_none, Nat.min_eq_right h]
  simp
theorem Fstate_run {ns : List Int} (h : ns.length ≤ 63) : Fstate [scrD ns] = .ok (stD (stL ns)) := by
  have hst : st0 4 [scrD ns] = { sl := [.im (scrD ns), .no, .no, .no], mo := [] } := rfl
  have hit : itS (frz (slL (varE 0) oNone (oSome (cE (.int 63))))) { sl := [.im (scrD ns), .im (.int 0), .im (.int 1), .no], mo := [] } = .ok (ns.map Dt.int) { sl := [.im (scrD ns), .im (.int 0), .im (.int 1), .no], mo := [] } := by
    rw [itS_run, frz_run']
    unfold slL oNone oSome
    rw [varE_im (d := scrD ns) (by rfl)]
    simp only [R.bind_ok, cE_run]
    unfold scrD
    simp only [R.bind_ok]
    rw [cut_all (by rw [List.length_map]; exact h)]
    rfl
  obtain ⟨S', f1, f2⟩ := forL_fold (k := (Tk.nm 3).k) (body := stB) Dt.int (fun _ (q : Int × Int) S => ∃ x, S = { sl := [.im (scrD ns), .im (.int q.1), .im (.int q.2), x], mo := [] }) (fun q c => (q.1 * 1000003 + (if c < 0 then -c else c), (q.2 * 48271 + c) % 2147483647)) ns 0 (0, 1) { sl := [.im (scrD ns), .im (.int 0), .im (.int 1), .no], mo := [] } ⟨.no, rfl⟩ (fun j q c S hc _ hI => by
    obtain ⟨x, rfl⟩ := hI
    have c1 : CMul q.1 1000003 := .inr (by decide)
    have c2 : CMul q.2 48271 := .inr (by decide)
    refine ⟨_, { sl := [.im (scrD ns), .im (.int (q.1 * 1000003 + (if c < 0 then -c else c))), .im (.int ((q.2 * 48271 + c) % 2147483647)), .im (.int c)], mo := [] }, kNm _ _ _, .inl ?_, _, rfl⟩
    simp [stB, c1, c2])
  obtain ⟨x, rfl⟩ := f2
  have hfor : forS (itS (frz (slL (varE 0) oNone (oSome (cE (.int 63)))))) (Tk.nm 3).k stB { sl := [.im (scrD ns), .im (.int 0), .im (.int 1), .no], mo := [] } = .nx { sl := [.im (scrD ns), .im (.int (stL ns).1), .im (.int (stL ns).2), x], mo := [] } := by
    rw [forS_run, hit, R.stmt_ok, f1]
    rfl
  unfold Fstate runN m__law_state
  rw [hst]
  simp only [seqN, asgS_run', cE_run, R.stmt_ok]
  show ((match forS (itS (frz (slL (varE 0) oNone (oSome (cE (.int 63)))))) (Tk.nm 3).k stB { sl := [.im (scrD ns), .im (.int 0), .im (.int 1), .no], mo := [] } with | .nx S1 => _ | .er e S1 => _ | _ => _ : ON)).fo = _
  rw [hfor]
  simp [retNL, ON.fo, stD]
end Lq

namespace Lq
open PySem PySem.Spec PyProof.Rows L2

noncomputable def m34_trimmed : Ms → O := (seqS (asgS 1 (frz (lcE (itEnA (aCons (varE 0) aNil)) (Tk.tp [2, 3]).k (tst (op2 (varE 3) (cE (.int 0)) neO)) (varE 2) [2, 3])))
  (retS (ifE (truT (varE 1)) (calE (aCons (slA (varE 0) oNone (oSome (op2 (op2 (varE 1) (op1 (cE (.int 1)) negO) ixO) (cE (.int 1)) addO))) aNil) tupO) (tupE aNil))))
noncomputable def Ftrim : List Dt → Fo := runD 4 (m34_trimmed)
noncomputable def m34_monic : Ms → O := (retS (ifE (truT (varE 0)) (funE 3 (aCons (varE 0) (aCons (funE 2 (aCons (op2 (varE 0) (op1 (cE (.int 1)) negO) ixO) (aCons (varE 1) aNil)) Finverse) (aCons (varE 1) aNil))) FscW) (varE 0)))
noncomputable def Fmonic : List Dt → Fo := runD 2 (m34_monic)
noncomputable def m34_times : Ms → O := (seqS (asgN 3 (opN (frz (lstE (aCons (cE (.int 0)) aNil))) (op2 (calE (aCons (varE 0) aNil) lenO) (calE (aCons (varE 1) aNil) lenO) addO) repL))
  (seqS (forS (itEn (aCons (varE 0) aNil)) (Tk.tp [4, 5]).k (forS (itEn (aCons (varE 1) aNil)) (Tk.tp [6, 7]).k (setS 3 (op2 (op2 (ixV 3 (op2 (varE 4) (varE 6) addO)) (op2 (varE 5) (varE 7) mulO) addO) (varE 2) modO) (op2 (varE 4) (varE 6) addO))))
  (retS (funE 1 (aCons (varE 3) aNil) Ftrim))))
noncomputable def Ftimes : List Dt → Fo := runD 8 (m34_times)
noncomputable def m34_divided (CR : Addr) : Ms → O := (seqS (ifS (tst (op2 (calE (aCons (varE 1) aNil) lenO) (cE (.int 0)) eqO)) (raiseS ⟨CR, ["reason"], [.str "zero"]⟩) nilS)
  (seqS (asgN 3 (calN (aCons (varE 0) aNil) lstO))
  (seqS (asgN 4 (lstE aNil))
  (seqS (asgS 5 (funE 2 (aCons (op2 (varE 1) (op1 (cE (.int 1)) negO) ixO) (aCons (varE 2) aNil)) Finverse))
  (seqS (forS (itRv (op2 (op2 (calE (aCons (varE 0) aNil) lenO) (calE (aCons (varE 1) aNil) lenO) subO) (cE (.int 1)) addO)) (Tk.nm 6).k (seqS (asgS 7 (op2 (op2 (ixV 3 (op2 (op2 (varE 6) (calE (aCons (varE 1) aNil) lenO) addO) (cE (.int 1)) subO)) (varE 5) mulO) (varE 2) modO))
  (seqS (appS 4 (varE 7))
  (forS (itEn (aCons (varE 1) aNil)) (Tk.tp [8, 9]).k (setS 3 (op2 (op2 (ixV 3 (op2 (varE 6) (varE 8) addO)) (op2 (varE 7) (varE 9) mulO) subO) (varE 2) modO) (op2 (varE 6) (varE 8) addO))))))
  (retS (tupE (aCons (calE (aCons (frz (revL (varE 4))) aNil) tupO) (aCons (funE 1 (aCons (varE 3) aNil) Ftrim) aNil)))))))))
noncomputable def Fdivd (CR : Addr) : List Dt → Fo := runD 10 (m34_divided CR)
noncomputable def m34_common_divisor (CR : Addr) : Ms → O := (seqS (moveS 3 0)
  (seqS (moveS 4 1)
  (seqS (whileS (fun _ => 64) (truT (varE 4)) (seqS (asgT (Tk.tp [5, 6]) (funE 3 (aCons (varE 3) (aCons (varE 4) (aCons (varE 2) aNil))) (Fdivd CR)))
  (seqS (moveS 3 4)
  (moveS 4 6))))
  (retS (funE 2 (aCons (varE 3) (aCons (varE 2) aNil)) Fmonic)))))
noncomputable def Fgcd (CR : Addr) : List Dt → Fo := runD 7 (m34_common_divisor CR)
noncomputable def m34_law_trimmed : Ms → O := (seqS (asgS 1 (frz (calN (aCons (varE 0) aNil) lstO)))
  (seqS (forS (itR1 (aCons (calE (aCons (varE 0) aNil) lenO) aNil)) (Tk.nm 2).k (ifS (andT (tst (op2 (calE (aCons (varE 1) aNil) lenO) (cE (.int 0)) gtO)) (tst (op2 (op2 (varE 1) (op1 (cE (.int 1)) negO) ixO) (cE (.int 0)) eqO))) (asgS 1 (frz (slL (varE 1) oNone (oSome (op1 (cE (.int 1)) negO))))) nilS))
  (retS (calE (aCons (varE 1) aNil) tupO))))
noncomputable def Fltrim : List Dt → Fo := runD 3 (m34_law_trimmed)
noncomputable def m34_law_times : Ms → O := (seqS (asgN 3 (lcE (itR1 (aCons (op2 (calE (aCons (varE 0) aNil) lenO) (calE (aCons (varE 1) aNil) lenO) addO) aNil)) (Tk.nm 6).k yesT (cE (.int 0)) [6]))
  (seqS (forS (itR1 (aCons (calE (aCons (varE 0) aNil) lenO) aNil)) (Tk.nm 4).k (forS (itR1 (aCons (calE (aCons (varE 1) aNil) lenO) aNil)) (Tk.nm 5).k (setS 3 (op2 (calE (aCons (op2 (ixV 3 (op2 (varE 4) (varE 5) addO)) (op2 (op2 (varE 0) (varE 4) ixO) (op2 (varE 1) (varE 5) ixO) mulO) addO) aNil) intO) (varE 2) modO) (op2 (varE 4) (varE 5) addO))))
  (retS (funE 1 (aCons (varE 3) aNil) Fltrim))))
noncomputable def Fltimes : List Dt → Fo := runD 7 (m34_law_times)
noncomputable def m34_law_plus : Ms → O := (seqS (asgS 3 (calE (aCons (calE (aCons (varE 0) aNil) lenO) (aCons (calE (aCons (varE 1) aNil) lenO) aNil)) maxO))
  (seqS (asgS 4 (op2 (calE (aCons (varE 0) aNil) tupO) (calE (aCons (frz (lcE (itR1 (aCons (op2 (varE 3) (calE (aCons (varE 0) aNil) lenO) subO) aNil)) (Tk.nm 6).k yesT (cE (.int 0)) [6])) aNil) tupO) catT))
  (seqS (asgS 5 (op2 (calE (aCons (varE 1) aNil) tupO) (calE (aCons (frz (lcE (itR1 (aCons (op2 (varE 3) (calE (aCons (varE 1) aNil) lenO) subO) aNil)) (Tk.nm 6).k yesT (cE (.int 0)) [6])) aNil) tupO) catT))
  (retS (funE 1 (aCons (funE 3 (aCons (varE 4) (aCons (varE 5) (aCons (varE 2) aNil))) FaddW) aNil) Fltrim)))))
noncomputable def Flplus : List Dt → Fo := runD 7 (m34_law_plus)
noncomputable def m34_law_poly : Ms → O := (retS (funE 1 (aCons (funM 2 0 (aCons (funM 1 0 (aCons (op2 (varE 2) (cE (.int 2)) addO) aNil) Ftake) (aCons (varE 1) aNil)) Fword) aNil) Fltrim))
noncomputable def Flpoly : List Dt → List Dt → FoM := runM 3 (m34_law_poly)
noncomputable def m34_law_rest : Ms → O := (seqS (asgN 3 (calN (aCons (varE 0) aNil) lstO))
  (seqS (asgS 4 (op2 (frz (lcE (itR2 (aCons (cE (.int 1)) (aCons (varE 2) aNil))) (Tk.nm 7).k (tst (op2 (op2 (calE (aCons (op2 (varE 7) (op2 (varE 1) (op1 (cE (.int 1)) negO) ixO) mulO) aNil) intO) (varE 2) modO) (cE (.int 1)) eqO)) (varE 7) [7])) (cE (.int 0)) ixO))
  (seqS (forS (itR3 (aCons (op2 (calE (aCons (varE 0) aNil) lenO) (calE (aCons (varE 1) aNil) lenO) subO) (aCons (op1 (cE (.int 1)) negO) (aCons (op1 (cE (.int 1)) negO) aNil)))) (Tk.nm 5).k (seqS (asgS 6 (op2 (calE (aCons (op2 (ixV 3 (op2 (op2 (varE 5) (calE (aCons (varE 1) aNil) lenO) addO) (cE (.int 1)) subO)) (varE 4) mulO) aNil) intO) (varE 2) modO))
  (forS (itR1 (aCons (calE (aCons (varE 1) aNil) lenO) aNil)) (Tk.nm 7).k (setS 3 (op2 (calE (aCons (op2 (ixV 3 (op2 (varE 5) (varE 7) addO)) (op2 (varE 6) (op2 (varE 1) (varE 7) ixO) mulO) subO) aNil) intO) (varE 2) modO) (op2 (varE 5) (varE 7) addO)))))
  (retS (funE 1 (aCons (varE 3) aNil) Fltrim)))))
noncomputable def Flrest : List Dt → Fo := runD 8 (m34_law_rest)
noncomputable def m34_law_monics : Ms → O := (retS (frz (lcE (itS (funE 2 (aCons (varE 0) (aCons (varE 1) aNil)) Fall)) (Tk.nm 2).k yesT (op2 (varE 2) (tupE (aCons (cE (.int 1)) aNil)) catT) [2])))
noncomputable def Flmon : List Dt → Fo := runD 3 (m34_law_monics)
noncomputable def m34_law_refuses (CR : Addr) : Ms → O := (seqS (tryQ CR "reason" "zero" 2 (dropS (funE 3 (aCons (varE 0) (aCons (tupE aNil) (aCons (varE 1) aNil))) (Fdivd CR))))
  (retS (cE (.bl false))))
noncomputable def Flref34 (CR : Addr) : List Dt → Fo := runD 3 (m34_law_refuses CR)
theorem cut_pre3 {α : Type} {xs : List α} {a : Nat} (h : a ≤ xs.length) : cut xs none (some (a : Int)) = xs.take a := by
  unfold cut
  rw [show HT.sIx xs.length xs.length (some (a : Int)) = min a xs.length from HT.sIx_nat _ _ a, HT.sIx_none, Nat.min_eq_left h]
  simp
theorem atI_snoc {α : Type} (xs : List α) (x : α) : atI (xs ++ [x]) (-1) = some x := by
  unfold atI ixN
  simp only [List.length_append, List.length_singleton]
  rw [if_neg (by omega), if_pos (by omega)]
  have : ((-1 : Int) + ((xs.length + 1 : Nat) : Int)).toNat = xs.length := by omega
  rw [this]
  simp
theorem atI_end {l : List Int} (h : l ≠ []) : atI (l.map Dt.int) (-1) = some (.int (g l (l.length - 1))) := by
  revert h
  refine snocInd (P := fun l => l ≠ [] → atI (l.map Dt.int) (-1) = some (.int (g l (l.length - 1)))) (fun h => absurd rfl h) (fun l x _ _ => ?_) l
  rw [List.map_append]
  have : g (l ++ [x]) ((l ++ [x]).length - 1) = x := by unfold g; simp
  rw [this]
  exact atI_snoc _ _
def enq (q : Int × Nat) : Dt := .tup [.int (q.2 : Int), .int q.1]
theorem enumD_ints (l : List Int) : enumD (l.map Dt.int) = l.zipIdx.map enq := by
  unfold enumD enq
  rw [List.zipIdx_map, List.map_map]
  rfl
theorem zipIdx_g {l : List Int} {q : Int × Nat} (h : q ∈ l.zipIdx) : q.2 < l.length ∧ q.1 = g l q.2 ∧ q.1 ∈ l := by
  obtain ⟨x, i⟩ := q
  have h1 := List.mem_zipIdx_iff_getElem?.mp h
  obtain ⟨h2, h3⟩ := List.getElem?_eq_some_iff.mp h1
  exact ⟨h2, by unfold g; rw [List.getD_eq_getElem?_getD, h1]; rfl, List.mem_of_getElem? h1⟩
def nzl (l : List Int) : List Nat := (l.zipIdx.filter fun q => decide (q.1 ≠ 0)).map (·.2)
theorem nzl_spec (l : List Int) : (trim l = [] ∧ nzl l = []) ∨ (trim l ≠ [] ∧ ∃ ms, nzl l = ms ++ [(trim l).length - 1]) := by
  refine snocInd (P := fun l => (trim l = [] ∧ nzl l = []) ∨ (trim l ≠ [] ∧ ∃ ms, nzl l = ms ++ [(trim l).length - 1])) (.inl ⟨rfl, rfl⟩) (fun l x ih => ?_) l
  have e : nzl (l ++ [x]) = nzl l ++ (if x ≠ 0 then [l.length] else []) := by
    unfold nzl
    rw [List.zipIdx_append, List.filter_append, List.map_append]
    congr 1
    by_cases h : x = 0 <;> simp [h]
  by_cases hx : x = 0
  · rw [e, if_neg (by simp [hx]), List.append_nil, hx, trim_snoc0]
    exact ih
  · refine .inr ⟨by rw [trim_snoc hx]; simp, nzl l, ?_⟩
    rw [e, if_pos hx, trim_snoc hx]
    simp
theorem Ftrim_run {l : List Int} {d : Dt} (hd : d = .lst (l.map Dt.int) ∨ d = Wd l) (hl : l.length ≤ 1000) : Ftrim [d] = .ok (Wd (trim l)) := by
  have hst : st0 4 [d] = { sl := [.im d, .no, .no, .no], mo := [] } := rfl
  have hit : itEnA (aCons (varE 0) aNil) { sl := [.im d, .no, .no, .no], mo := [] } = .ok (l.zipIdx.map enq) { sl := [.im d, .no, .no, .no], mo := [] } := by
    rw [← enumD_ints]
    rcases hd with rfl | rfl
    · exact itEnA_lst rfl
    · exact itEnA_tup rfl
  have key := lcE_flt (k := (Tk.tp [2, 3]).k) (t := tst (op2 (varE 3) (cE (.int 0)) neO)) (e := varE 2) (own := [2, 3]) enq (fun q => decide (q.1 ≠ 0)) (fun q => .int (q.2 : Int)) l.zipIdx hit (fun q hq => by
    refine ⟨{ sl := [.im d, .no, .im (.int (q.2 : Int)), .im (.int q.1)], mo := [] }, { sl := [.im d, .no, .im (.int (q.2 : Int)), .im (.int q.1)], mo := [] }, rfl, ?_, rfl, fun _ => ⟨_, rfl, rfl⟩⟩
    simp) (by simp; omega)
  have e1 : (l.zipIdx.filter fun q => decide (q.1 ≠ 0)).map (fun q => Dt.int (q.2 : Int)) = (nzl l).map fun (i : Nat) => Dt.int (i : Int) := by unfold nzl; rw [List.map_map]; rfl
  rw [e1] at key
  unfold Ftrim runD m34_trimmed
  rw [hst]
  have a1 : (asgS 1 (frz (lcE (itEnA (aCons (varE 0) aNil)) (Tk.tp [2, 3]).k (tst (op2 (varE 3) (cE (.int 0)) neO)) (varE 2) [2, 3]))) { sl := [.im d, .no, .no, .no], mo := [] } = .nx { sl := [.im d, .im (.lst ((nzl l).map fun (i : Nat) => Dt.int (i : Int))), .no, .no], mo := [] } := by
    rw [asgS_run', frz_run', key]
    rfl
  rw [seqS_run, a1, seq_nx]
  rcases nzl_spec l with ⟨h1, h2⟩ | ⟨h1, ms, h2⟩
  · rw [h2, h1, retS_run]
    rfl
  · have ht := trim_len l
    have hp : 0 < (trim l).length := List.length_pos_iff.mpr h1
    have hix : atI ((nzl l).map fun (i : Nat) => Dt.int (i : Int)) (-1) = some (.int (((trim l).length - 1 : Nat) : Int)) := by
      rw [h2, List.map_append]
      exact atI_snoc _ _
    have hem : ((nzl l).map fun (i : Nat) => Dt.int (i : Int)).isEmpty = false := by rw [h2]; simp
    generalize ((nzl l).map fun (i : Nat) => Dt.int (i : Int)) = P at *
    have hz : (((trim l).length - 1 : Nat) : Int) + 1 = ((trim l).length : Int) := by omega
    have hc : cut (l.map Dt.int) none (some ((trim l).length : Int)) = (trim l).map Dt.int := by
      rw [cut_pre3 (by rw [List.length_map]; exact ht), ← List.map_take, ← trim_take]
    have hhi : oSome (op2 (op2 (varE 1) (op1 (cE (.int 1)) negO) ixO) (cE (.int 1)) addO) { sl := [.im d, .im (.lst P), .no, .no], mo := [] } = .ok (some ((trim l).length : Int)) { sl := [.im d, .im (.lst P), .no, .no], mo := [] } := by
      unfold oSome
      generalize (((trim l).length - 1 : Nat) : Int) = z at *
      simp [hix, hz]
    obtain ⟨r, hsl, hs⟩ : ∃ r, tupO [r] = some (Wd (trim l)) ∧ slA (varE 0) oNone (oSome (op2 (op2 (varE 1) (op1 (cE (.int 1)) negO) ixO) (cE (.int 1)) addO)) { sl := [.im d, .im (.lst P), .no, .no], mo := [] } = .ok r { sl := [.im d, .im (.lst P), .no, .no], mo := [] } := by
      generalize oSome (op2 (op2 (varE 1) (op1 (cE (.int 1)) negO) ixO) (cE (.int 1)) addO) = G at *
      have v0 : varE 0 { sl := [.im d, .im (.lst P), .no, .no], mo := [] } = .ok d { sl := [.im d, .im (.lst P), .no, .no], mo := [] } := rfl
      rcases hd with rfl | rfl
      · refine ⟨.lst ((trim l).map Dt.int), rfl, ?_⟩
        unfold slA
        rw [v0]
        dsimp only
        unfold slL oNone
        rw [frz_run', v0]
        simp only [R.bind_ok, hhi, hc]
      · refine ⟨Wd (trim l), rfl, ?_⟩
        unfold slA
        rw [v0]
        unfold Wd at *
        dsimp only
        unfold slT oNone
        rw [v0]
        simp only [R.bind_ok, hhi, hc]
    rw [retS_run]
    have : (ifE (truT (varE 1)) (calE (aCons (slA (varE 0) oNone (oSome (op2 (op2 (varE 1) (op1 (cE (.int 1)) negO) ixO) (cE (.int 1)) addO))) aNil) tupO) (tupE aNil)) { sl := [.im d, .im (.lst P), .no, .no], mo := [] } = .ok (Wd (trim l)) { sl := [.im d, .im (.lst P), .no, .no], mo := [] } := by
      have v1 : varE 1 { sl := [.im d, .im (.lst P), .no, .no], mo := [] } = .ok (.lst P) { sl := [.im d, .im (.lst P), .no, .no], mo := [] } := rfl
      generalize slA (varE 0) oNone (oSome (op2 (op2 (varE 1) (op1 (cE (.int 1)) negO) ixO) (cE (.int 1)) addO)) = G at *
      unfold ifE
      rw [truT_run, v1, R.bind_ok]
      simp only [truO, hem, Bool.not_false, R.of_some, R.bind_ok, if_true, calE_run, aCons_run, hs, aNil_run, hsl]
    rw [this]
    rfl
theorem lenO_wd (a : List Int) : lenO [Wd a] = some (.int (a.length : Int)) := by
  have : lenO [.tup (a.map Dt.int)] = some (.int ((a.map Dt.int).length : Int)) := rfl
  rw [List.length_map] at this
  exact this
theorem cut_last3 (xs : List Dt) : cut xs none (some (-1)) = xs.dropLast := by
  unfold cut
  rw [HT.sIx_none, List.drop_zero, List.dropLast_eq_take, Nat.sub_zero]
  congr 1
  unfold HT.sIx
  simp
  try omega
theorem Fltrim_run {l : List Int} {d : Dt} (hd : d = .lst (l.map Dt.int) ∨ d = Wd l) (hl : l.length ≤ 1000) : Fltrim [d] = .ok (Wd (trim l)) := by
  have hst : st0 3 [d] = { sl := [.im d, .no, .no], mo := [] } := rfl
  have a1 : (asgS 1 (frz (calN (aCons (varE 0) aNil) lstO))) { sl := [.im d, .no, .no], mo := [] } = .nx { sl := [.im d, .im (.lst (l.map Dt.int)), .no], mo := [] } := by
    rcases hd with rfl | rfl <;> rfl
  have hln : lenO [d] = some (.int (l.length : Int)) := by
    rcases hd with rfl | rfl
    · rw [lenO_lst]; simp
    · rw [lenO_wd]
  have hit : itR1 (aCons (calE (aCons (varE 0) aNil) lenO) aNil) { sl := [.im d, .im (.lst (l.map Dt.int)), .no], mo := [] } = .ok ((List.range l.length).map fun (i : Nat) => Dt.int (i : Int)) { sl := [.im d, .im (.lst (l.map Dt.int)), .no], mo := [] } := itR1_run (by
    have v0 : varE 0 { sl := [.im d, .im (.lst (l.map Dt.int)), .no], mo := [] } = .ok d { sl := [.im d, .im (.lst (l.map Dt.int)), .no], mo := [] } := rfl
    rw [aCons_run, calE_run, aCons_run, v0]
    simp only [R.bind_ok, aNil_run, hln, R.of_some]) (by omega)
  obtain ⟨S', f1, f2⟩ := forL_inv (k := (Tk.nm 2).k) (body := (ifS (andT (tst (op2 (calE (aCons (varE 1) aNil) lenO) (cE (.int 0)) gtO)) (tst (op2 (op2 (varE 1) (op1 (cE (.int 1)) negO) ixO) (cE (.int 0)) eqO))) (asgS 1 (frz (slL (varE 1) oNone (oSome (op1 (cE (.int 1)) negO))))) nilS)) ((List.range l.length).map fun (i : Nat) => Dt.int (i : Int)) (fun i S => ∃ (o : List Int) (x : Sv), S = { sl := [.im d, .im (.lst (o.map Dt.int)), x], mo := [] } ∧ trim o = trim l ∧ (o = trim l ∨ o.length + i ≤ l.length)) _ ⟨l, .no, rfl, rfl, .inr (Nat.le_refl _)⟩ (fun i e S he hI => by
    obtain ⟨o, x, rfl, ho, hlen⟩ := hI
    refine ⟨{ sl := [.im d, .im (.lst (o.map Dt.int)), .im e], mo := [] }, ?_⟩
    have v1 : varE 1 { sl := [.im d, .im (.lst (o.map Dt.int)), .im e], mo := [] } = .ok (.lst (o.map Dt.int)) { sl := [.im d, .im (.lst (o.map Dt.int)), .im e], mo := [] } := rfl
    have hlo : lenO [.lst (o.map Dt.int)] = some (.int (o.length : Int)) := by rw [lenO_lst]; simp
    by_cases e0 : o = []
    · subst e0
      refine ⟨{ sl := [.im d, .im (.lst []), .im e], mo := [] }, rfl, .inl ?_, [], .im e, rfl, ho, .inl ?_⟩
      · rfl
      · rw [← ho]; rfl
    · have hle : 0 < (o.length : Int) := by have := List.length_pos_iff.mpr e0; omega
      have hat := atI_end e0
      have hlt : (0 : Int) < (o.length : Int) := hle
      have ht : (andT (tst (op2 (calE (aCons (varE 1) aNil) lenO) (cE (.int 0)) gtO)) (tst (op2 (op2 (varE 1) (op1 (cE (.int 1)) negO) ixO) (cE (.int 0)) eqO))) { sl := [.im d, .im (.lst (o.map Dt.int)), .im e], mo := [] } = .ok (decide (g o (o.length - 1) = 0)) { sl := [.im d, .im (.lst (o.map Dt.int)), .im e], mo := [] } := by
        generalize (o.length : Int) = z at *
        generalize g o (o.length - 1) = y at *
        generalize ({ sl := [.im d, .im (.lst (o.map Dt.int)), .im e], mo := [] } : Ms) = U at *
        have hg : gtO (.int z) (.int 0) = some (.bl true) := by simp [hlt]
        rw [andT_run, tst_run', op2_run, calE_run, aCons_run, v1]
        simp only [R.bind_ok, aNil_run, hlo, R.of_some, cE_run, hg, if_true, tst_run', op2_run, v1, op1_run, negO_i, ixO_lst, hat, eqO_int]
      by_cases hz : g o (o.length - 1) = 0
      · refine ⟨{ sl := [.im d, .im (.lst (o.dropLast.map Dt.int)), .im e], mo := [] }, rfl, .inl ?_, o.dropLast, .im e, rfl, ?_, ?_⟩
        · rw [ifS_run, ht, decide_eq_true hz, R.stmt_ok, if_pos rfl]
          have hsl : frz (slL (varE 1) oNone (oSome (op1 (cE (.int 1)) negO))) { sl := [.im d, .im (.lst (o.map Dt.int)), .im e], mo := [] } = .ok (.lst (o.dropLast.map Dt.int)) { sl := [.im d, .im (.lst (o.map Dt.int)), .im e], mo := [] } := by
            have hc := cut_last3 (o.map Dt.int)
            rw [frz_run']
            unfold slL oNone oSome
            rw [v1]
            simp only [R.bind_ok, op1_run, cE_run, negO_i, R.of_some]
            show R.ok (Dt.lst (cut (o.map Dt.int) none (some (-1)))) _ = _
            rw [hc, ← List.map_dropLast]
          rw [asgS_run', hsl]
          rfl
        · rw [← ho]
          have : o = o.dropLast ++ [0] := by
            have h1 := List.dropLast_concat_getLast e0
            have h2 : o.getLast e0 = g o (o.length - 1) := by
              unfold g
              rw [List.getD_eq_getElem?_getD, ← List.getLast?_eq_getElem?, List.getLast?_eq_some_getLast e0]
              rfl
            rw [h2, hz] at h1
            exact h1.symm
          conv => rhs; rw [this]
          rw [trim_snoc0]
        · rcases hlen with h | h
          · exfalso
            have h3 : o ≠ [] := e0
            have := trim_last (l := o) (by rw [h, trim_idem]) h3
            exact this hz
          · right
            rw [List.length_dropLast]
            have := List.length_pos_iff.mpr e0
            omega
      · refine ⟨{ sl := [.im d, .im (.lst (o.map Dt.int)), .im e], mo := [] }, rfl, .inl ?_, o, .im e, rfl, ho, .inl ?_⟩
        · rw [ifS_run, ht, decide_eq_false hz, R.stmt_ok, if_neg (by simp)]
          rfl
        · rw [← ho, trim_of_last (.inr hz)])
  obtain ⟨o, x, rfl, ho, hlen⟩ := f2
  have hfin : o = trim l := by
    rcases hlen with h | h
    · exact h
    · rw [List.length_map, List.length_range] at h
      have : o = [] := List.length_eq_zero_iff.mp (by omega)
      rw [← ho, this]
      rfl
  unfold Fltrim runD m34_law_trimmed
  rw [hst, seqS_run, a1, seq_nx, seqS_run, forS_run, hit, R.stmt_ok, f1, seq_nx, hfin]
  rfl
theorem cmulS {x y : Int} (hx : -1000 ≤ x ∧ x ≤ 1000) : CMul x y := by
  have e1 : (1000 : Int) < 2 ^ 64 := by decide
  have e2 : -(2 : Int) ^ 64 < -1000 := by decide
  exact .inl ⟨by omega, by omega⟩
theorem zfold (p x : Int) (i : Nat) : ∀ (b : List Int) (m : Nat) (l : List Int), (b.zipIdx m).foldl (fun l q => addAt p l (i + q.2) (x * q.1)) l = rowR p x (i + m) b l
  | [], _, _ => rfl
  | y :: b, m, l => by
    rw [List.zipIdx_cons, List.foldl_cons, zfold p x i b (m + 1), rowR]
    rfl
theorem mfold (p : Int) (b : List Int) : ∀ (a : List Int) (m : Nat) (l : List Int), (a.zipIdx m).foldl (fun l q => rowR p q.1 q.2 b l) l = mulR p m a b l
  | [], _, _ => rfl
  | x :: a, m, l => by rw [List.zipIdx_cons, List.foldl_cons, mfold p b a (m + 1), mulR]
theorem ixV_run3 {i k : Nat} {h : Ms → R Dt} {S : Ms} {l : List Int} {j : Nat} (hm : muAt S i = some (k, l.map Dt.int)) (hh : h S = .ok (.int (j : Int)) S) (hj : j < l.length) : ixV i h S = .ok (.int (g l j)) S := by
  unfold ixV
  rw [hm]
  dsimp only
  rw [hh, R.bind_ok]
  dsimp only
  rw [hm]
  dsimp only
  have : atI (l.map Dt.int) (j : Int) = some (.int (g l j)) := by
    rw [atI_ofNat, List.getElem?_map, List.getElem?_eq_getElem hj]
    unfold g
    rw [List.getD_eq_getElem?_getD, List.getElem?_eq_getElem hj]
    rfl
  rw [this]
  rfl
theorem setA_run {p v : Int} {i k j : Nat} {f h : Ms → R Dt} {S : Ms} {l : List Int} (hf : f S = .ok (.int ((g l j + v) % p)) S) (hm : muAt S i = some (k, l.map Dt.int)) (hh : h S = .ok (.int (j : Int)) S) (hj : j < l.length) : setS i f h S = .nx { S with mo := S.mo.set k (.ob (.ls ((addAt p l j v).map Dt.int))) } := by
  rw [setS_run (j := j) hf hm hh (ixN_nat (by rw [List.length_map]; exact hj))]
  unfold addAt
  rw [List.map_set]
def T8 (a b : List Int) (p : Int) (l : List Int) (x4 x5 x6 x7 : Sv) : Ms := { sl := [.im (Wd a), .im (Wd b), .im (.int p), .mu 0, x4, x5, x6, x7], mo := [.ob (.ls (l.map Dt.int))] }
theorem Ftimes_run {p : Int} {a b : List Int} (hp : isP p = true) (ha : Rg p a) (hb : Rg p b) (la : a.length ≤ 400) (lb : b.length ≤ 400) : Ftimes [Wd a, Wd b, .int p] = .ok (Wd (timesP p a b)) := by
  have hc := isP_cases hp
  have hp0 : 0 < p := by omega
  have hst : st0 8 [Wd a, Wd b, .int p] = { sl := [.im (Wd a), .im (Wd b), .im (.int p), .no, .no, .no, .no, .no], mo := [] } := rfl
  have l1 : lenO [Wd a] = some (.int (a.length : Int)) := lenO_wd _
  have l2 : lenO [Wd b] = some (.int (b.length : Int)) := lenO_wd _
  have hrep := repL_run (n := a.length + b.length) (by omega)
  have a0 : (asgN 3 (opN (frz (lstE (aCons (cE (.int 0)) aNil))) (op2 (calE (aCons (varE 0) aNil) lenO) (calE (aCons (varE 1) aNil) lenO) addO) repL)) { sl := [.im (Wd a), .im (Wd b), .im (.int p), .no, .no, .no, .no, .no], mo := [] } = .nx (T8 a b p (List.replicate (a.length + b.length) 0) .no .no .no .no) := by
    have v0 : varE 0 { sl := [.im (Wd a), .im (Wd b), .im (.int p), .no, .no, .no, .no, .no], mo := [] } = .ok (Wd a) { sl := [.im (Wd a), .im (Wd b), .im (.int p), .no, .no, .no, .no, .no], mo := [] } := rfl
    have v1 : varE 1 { sl := [.im (Wd a), .im (Wd b), .im (.int p), .no, .no, .no, .no, .no], mo := [] } = .ok (Wd b) { sl := [.im (Wd a), .im (Wd b), .im (.int p), .no, .no, .no, .no, .no], mo := [] } := rfl
    have : opN (frz (lstE (aCons (cE (.int 0)) aNil))) (op2 (calE (aCons (varE 0) aNil) lenO) (calE (aCons (varE 1) aNil) lenO) addO) repL { sl := [.im (Wd a), .im (Wd b), .im (.int p), .no, .no, .no, .no, .no], mo := [] } = .ok ((List.replicate (a.length + b.length) (0 : Int)).map Dt.int) { sl := [.im (Wd a), .im (Wd b), .im (.int p), .no, .no, .no, .no, .no], mo := [] } := by
      rw [Int.natCast_add] at hrep
      generalize ({ sl := [.im (Wd a), .im (Wd b), .im (.int p), .no, .no, .no, .no, .no], mo := [] } : Ms) = U at *
      have had : addO (.int (a.length : Int)) (.int (b.length : Int)) = some (.int ((a.length : Int) + (b.length : Int))) := rfl
      simp only [opN_run, frz_run', lstE_run, aCons_run, cE_run, aNil_run, R.bind_ok, List.length_cons, List.length_nil, Nat.zero_add, Nat.reduceLeDiff, if_true, op2_run, calE_run, v0, v1, l1, l2, R.of_some, had, hrep]
    rw [asgN_run', this]
    rfl
  have hin : ∀ (l : List Int) (x : Int) (i : Nat) (x6 x7 : Sv), (0 ≤ x ∧ x < p) → i < a.length → l.length = a.length + b.length → ∃ y6 y7, forS (itEn (aCons (varE 1) aNil)) (Tk.tp [6, 7]).k (setS 3 (op2 (op2 (ixV 3 (op2 (varE 4) (varE 6) addO)) (op2 (varE 5) (varE 7) mulO) addO) (varE 2) modO) (op2 (varE 4) (varE 6) addO)) (T8 a b p l (.im (.int (i : Int))) (.im (.int x)) x6 x7) = .nx (T8 a b p (rowR p x i b l) (.im (.int (i : Int))) (.im (.int x)) y6 y7) := by
    intro l x i x6 x7 hx hi hl
    have hit : itEn (aCons (varE 1) aNil) (T8 a b p l (.im (.int (i : Int))) (.im (.int x)) x6 x7) = .ok (b.zipIdx.map enq) (T8 a b p l (.im (.int (i : Int))) (.im (.int x)) x6 x7) := by
      rw [← enumD_ints]
      rfl
    obtain ⟨S', f1, f2⟩ := forL_fold (k := (Tk.tp [6, 7]).k) (body := (setS 3 (op2 (op2 (ixV 3 (op2 (varE 4) (varE 6) addO)) (op2 (varE 5) (varE 7) mulO) addO) (varE 2) modO) (op2 (varE 4) (varE 6) addO))) enq (fun _ (l : List Int) S => l.length = a.length + b.length ∧ ∃ y6 y7, S = T8 a b p l (.im (.int (i : Int))) (.im (.int x)) y6 y7) (fun l q => addAt p l (i + q.2) (x * q.1)) b.zipIdx 0 l _ ⟨hl, x6, x7, rfl⟩ (fun j l q S hq hj hI => by
      obtain ⟨hl, y6, y7, rfl⟩ := hI
      obtain ⟨q1, q2, q3⟩ := zipIdx_g hq
      obtain ⟨y, m⟩ := q
      have hy := hb y q3
      dsimp only at q1 q2 q3
      refine ⟨T8 a b p l (.im (.int (i : Int))) (.im (.int x)) (.im (.int (m : Int))) (.im (.int y)), T8 a b p (addAt p l (i + m) (x * y)) (.im (.int (i : Int))) (.im (.int x)) (.im (.int (m : Int))) (.im (.int y)), rfl, .inl ?_, by rw [addAt_len, hl], _, _, rfl⟩
      have hat : (op2 (varE 4) (varE 6) addO) (T8 a b p l (.im (.int (i : Int))) (.im (.int x)) (.im (.int (m : Int))) (.im (.int y))) = .ok (.int ((i + m : Nat) : Int)) (T8 a b p l (.im (.int (i : Int))) (.im (.int x)) (.im (.int (m : Int))) (.im (.int y))) := by
        rw [Int.natCast_add]
        rfl
      have hix := ixV_run3 (S := T8 a b p l (.im (.int (i : Int))) (.im (.int x)) (.im (.int (m : Int))) (.im (.int y))) (i := 3) (k := 0) (l := l) rfl hat (by omega)
      refine (setA_run (p := p) (v := x * y) (k := 0) (l := l) (j := i + m) ?_ rfl hat (by omega)).trans rfl
      have v5 : varE 5 (T8 a b p l (.im (.int (i : Int))) (.im (.int x)) (.im (.int (m : Int))) (.im (.int y))) = .ok (.int x) (T8 a b p l (.im (.int (i : Int))) (.im (.int x)) (.im (.int (m : Int))) (.im (.int y))) := rfl
      have v7 : varE 7 (T8 a b p l (.im (.int (i : Int))) (.im (.int x)) (.im (.int (m : Int))) (.im (.int y))) = .ok (.int y) (T8 a b p l (.im (.int (i : Int))) (.im (.int x)) (.im (.int (m : Int))) (.im (.int y))) := rfl
      have v2 : varE 2 (T8 a b p l (.im (.int (i : Int))) (.im (.int x)) (.im (.int (m : Int))) (.im (.int y))) = .ok (.int p) (T8 a b p l (.im (.int (i : Int))) (.im (.int x)) (.im (.int (m : Int))) (.im (.int y))) := rfl
      generalize T8 a b p l (.im (.int (i : Int))) (.im (.int x)) (.im (.int (m : Int))) (.im (.int y)) = U at *
      have hcm : CMul x y := cmulS (by omega)
      generalize op2 (varE 4) (varE 6) addO = G at *
      simp [hix, v5, v7, v2, hcm, hp0])
    obtain ⟨_, y6, y7, rfl⟩ := f2
    refine ⟨y6, y7, ?_⟩
    rw [forS_run, hit, R.stmt_ok, f1, zfold]
    rfl
  have hit : itEn (aCons (varE 0) aNil) (T8 a b p (List.replicate (a.length + b.length) 0) .no .no .no .no) = .ok (a.zipIdx.map enq) (T8 a b p (List.replicate (a.length + b.length) 0) .no .no .no .no) := by
    rw [← enumD_ints]
    rfl
  obtain ⟨S', f1, f2⟩ := forL_fold (k := (Tk.tp [4, 5]).k) (body := (forS (itEn (aCons (varE 1) aNil)) (Tk.tp [6, 7]).k (setS 3 (op2 (op2 (ixV 3 (op2 (varE 4) (varE 6) addO)) (op2 (varE 5) (varE 7) mulO) addO) (varE 2) modO) (op2 (varE 4) (varE 6) addO)))) enq (fun _ (l : List Int) S => l.length = a.length + b.length ∧ ∃ y4 y5 y6 y7, S = T8 a b p l y4 y5 y6 y7) (fun l q => rowR p q.1 q.2 b l) a.zipIdx 0 (List.replicate (a.length + b.length) 0) _ ⟨by simp, .no, .no, .no, .no, rfl⟩ (fun j l q S hq hj hI => by
    obtain ⟨hl, y4, y5, y6, y7, rfl⟩ := hI
    obtain ⟨q1, q2, q3⟩ := zipIdx_g hq
    obtain ⟨x, i⟩ := q
    obtain ⟨z6, z7, e⟩ := hin l x i y6 y7 (ha x q3) q1 hl
    exact ⟨_, _, rfl, .inl e, by rw [rowR_len, hl], _, _, _, _, rfl⟩)
  obtain ⟨_, y4, y5, y6, y7, rfl⟩ := f2
  have ht := Ftrim_run (l := mulR p 0 a b (List.replicate (a.length + b.length) 0)) (.inl rfl) (by rw [mulR_len, List.length_replicate]; omega)
  unfold Ftimes runD m34_times
  rw [hst, seqS_run, a0, seq_nx, seqS_run, forS_run, hit, R.stmt_ok, f1, seq_nx, mfold]
  have v3 : varE 3 (T8 a b p (mulR p 0 a b (List.replicate (a.length + b.length) 0)) y4 y5 y6 y7) = .ok (.lst ((mulR p 0 a b (List.replicate (a.length + b.length) 0)).map Dt.int)) { sl := [.im (Wd a), .im (Wd b), .im (.int p), .mu 0, y4, y5, y6, y7], mo := [.fz (.lst ((mulR p 0 a b (List.replicate (a.length + b.length) 0)).map Dt.int))] } := rfl
  rw [retS_run, funE_run, aCons_run, v3]
  simp only [R.bind_ok, aNil_run, List.length_cons, List.length_nil, Nat.zero_add, if_true, ht, R.stmt_ok]
  rfl
theorem range_zip (l : List Int) : ((List.range l.length).map fun (i : Nat) => Dt.int (i : Int)) = l.zipIdx.map fun q => Dt.int (q.2 : Int) := by
  have : List.range l.length = l.zipIdx.map (·.2) := by
    rw [List.zipIdx_map_snd, List.range_eq_range']
  rw [this, List.map_map]
  rfl
theorem ixg3 {l : List Int} {j : Nat} (h : j < l.length) : ixO (Wd l) (.int (j : Int)) = some (.int (g l j)) := by
  have : atI (l.map Dt.int) (j : Int) = some (.int (g l j)) := by
    rw [atI_ofNat, List.getElem?_map, List.getElem?_eq_getElem h]
    unfold g
    rw [List.getD_eq_getElem?_getD, List.getElem?_eq_getElem h]
    rfl
  exact this
def T7 (a b : List Int) (p : Int) (l : List Int) (x4 x5 x6 : Sv) : Ms := { sl := [.im (Wd a), .im (Wd b), .im (.int p), .mu 0, x4, x5, x6], mo := [.ob (.ls (l.map Dt.int))] }
theorem Fltimes_run {p : Int} {a b : List Int} (hp : isP p = true) (ha : Rg p a) (hb : Rg p b) (la : a.length ≤ 400) (lb : b.length ≤ 400) : Fltimes [Wd a, Wd b, .int p] = .ok (Wd (timesP p a b)) := by
  have hc := isP_cases hp
  have hp0 : 0 < p := by omega
  have hst : st0 7 [Wd a, Wd b, .int p] = { sl := [.im (Wd a), .im (Wd b), .im (.int p), .no, .no, .no, .no], mo := [] } := rfl
  have l1 : lenO [Wd a] = some (.int (a.length : Int)) := lenO_wd _
  have l2 : lenO [Wd b] = some (.int (b.length : Int)) := lenO_wd _
  have a0 : (asgN 3 (lcE (itR1 (aCons (op2 (calE (aCons (varE 0) aNil) lenO) (calE (aCons (varE 1) aNil) lenO) addO) aNil)) (Tk.nm 6).k yesT (cE (.int 0)) [6])) { sl := [.im (Wd a), .im (Wd b), .im (.int p), .no, .no, .no, .no], mo := [] } = .nx (T7 a b p (List.replicate (a.length + b.length) 0) .no .no .no) := by
    have hit : itR1 (aCons (op2 (calE (aCons (varE 0) aNil) lenO) (calE (aCons (varE 1) aNil) lenO) addO) aNil) { sl := [.im (Wd a), .im (Wd b), .im (.int p), .no, .no, .no, .no], mo := [] } = .ok ((List.range (a.length + b.length)).map fun (i : Nat) => Dt.int (i : Int)) { sl := [.im (Wd a), .im (Wd b), .im (.int p), .no, .no, .no, .no], mo := [] } := itR1_run (by
      have v0 : varE 0 { sl := [.im (Wd a), .im (Wd b), .im (.int p), .no, .no, .no, .no], mo := [] } = .ok (Wd a) { sl := [.im (Wd a), .im (Wd b), .im (.int p), .no, .no, .no, .no], mo := [] } := rfl
      have v1 : varE 1 { sl := [.im (Wd a), .im (Wd b), .im (.int p), .no, .no, .no, .no], mo := [] } = .ok (Wd b) { sl := [.im (Wd a), .im (Wd b), .im (.int p), .no, .no, .no, .no], mo := [] } := rfl
      rw [Int.natCast_add]
      generalize ({ sl := [.im (Wd a), .im (Wd b), .im (.int p), .no, .no, .no, .no], mo := [] } : Ms) = U at *
      have had : addO (.int (a.length : Int)) (.int (b.length : Int)) = some (.int ((a.length : Int) + (b.length : Int))) := rfl
      simp only [aCons_run, op2_run, calE_run, v0, v1, aNil_run, R.bind_ok, l1, l2, R.of_some, had]) (by omega)
    have key := lcE_map (k := (Tk.nm 6).k) (e := cE (.int 0)) (own := [6]) (fun (i : Nat) => Dt.int (i : Int)) (fun _ => Dt.int 0) (List.range (a.length + b.length)) hit (fun k hk => ⟨_, kNm _ _ _, _, rfl, rfl⟩) (fun d T T' => Tk.mo) (by simp; omega)
    rw [List.map_const', List.length_range] at key
    have e2 : List.replicate (a.length + b.length) (Dt.int 0) = (List.replicate (a.length + b.length) (0 : Int)).map Dt.int := by rw [List.map_replicate]
    rw [e2] at key
    rw [asgN_run', key]
    rfl
  have hin : ∀ (l : List Int) (i : Nat) (x5 x6 : Sv), i < a.length → l.length = a.length + b.length → ∃ y5 y6, forS (itR1 (aCons (calE (aCons (varE 1) aNil) lenO) aNil)) (Tk.nm 5).k (setS 3 (op2 (calE (aCons (op2 (ixV 3 (op2 (varE 4) (varE 5) addO)) (op2 (op2 (varE 0) (varE 4) ixO) (op2 (varE 1) (varE 5) ixO) mulO) addO) aNil) intO) (varE 2) modO) (op2 (varE 4) (varE 5) addO)) (T7 a b p l (.im (.int (i : Int))) x5 x6) = .nx (T7 a b p (rowR p (g a i) i b l) (.im (.int (i : Int))) y5 y6) := by
    intro l i x5 x6 hi hl
    have hit : itR1 (aCons (calE (aCons (varE 1) aNil) lenO) aNil) (T7 a b p l (.im (.int (i : Int))) x5 x6) = .ok (b.zipIdx.map fun q => Dt.int (q.2 : Int)) (T7 a b p l (.im (.int (i : Int))) x5 x6) := by
      rw [← range_zip]
      refine itR1_run ?_ (by omega)
      have v1 : varE 1 (T7 a b p l (.im (.int (i : Int))) x5 x6) = .ok (Wd b) (T7 a b p l (.im (.int (i : Int))) x5 x6) := rfl
      rw [aCons_run, calE_run, aCons_run, v1]
      simp only [R.bind_ok, aNil_run, l2, R.of_some]
    obtain ⟨S', f1, f2⟩ := forL_fold (k := (Tk.nm 5).k) (body := (setS 3 (op2 (calE (aCons (op2 (ixV 3 (op2 (varE 4) (varE 5) addO)) (op2 (op2 (varE 0) (varE 4) ixO) (op2 (varE 1) (varE 5) ixO) mulO) addO) aNil) intO) (varE 2) modO) (op2 (varE 4) (varE 5) addO))) (fun (q : Int × Nat) => Dt.int (q.2 : Int)) (fun _ (l : List Int) S => l.length = a.length + b.length ∧ ∃ y5 y6, S = T7 a b p l (.im (.int (i : Int))) y5 y6) (fun l q => addAt p l (i + q.2) (g a i * q.1)) b.zipIdx 0 l _ ⟨hl, x5, x6, rfl⟩ (fun j l q S hq hj hI => by
      obtain ⟨hl, y5, y6, rfl⟩ := hI
      obtain ⟨q1, q2, q3⟩ := zipIdx_g hq
      obtain ⟨y, m⟩ := q
      dsimp only at q1 q2 q3
      have hx := ha.g hp0 i
      refine ⟨T7 a b p l (.im (.int (i : Int))) (.im (.int (m : Int))) y6, T7 a b p (addAt p l (i + m) (g a i * y)) (.im (.int (i : Int))) (.im (.int (m : Int))) y6, rfl, .inl ?_, by rw [addAt_len, hl], _, _, rfl⟩
      have hat : (op2 (varE 4) (varE 5) addO) (T7 a b p l (.im (.int (i : Int))) (.im (.int (m : Int))) y6) = .ok (.int ((i + m : Nat) : Int)) (T7 a b p l (.im (.int (i : Int))) (.im (.int (m : Int))) y6) := by
        rw [Int.natCast_add]
        rfl
      have hix := ixV_run3 (S := T7 a b p l (.im (.int (i : Int))) (.im (.int (m : Int))) y6) (i := 3) (k := 0) (l := l) rfl hat (by omega)
      refine (setA_run (p := p) (v := g a i * y) (k := 0) (l := l) (j := i + m) ?_ rfl hat (by omega)).trans rfl
      have v0 : varE 0 (T7 a b p l (.im (.int (i : Int))) (.im (.int (m : Int))) y6) = .ok (Wd a) (T7 a b p l (.im (.int (i : Int))) (.im (.int (m : Int))) y6) := rfl
      have v1 : varE 1 (T7 a b p l (.im (.int (i : Int))) (.im (.int (m : Int))) y6) = .ok (Wd b) (T7 a b p l (.im (.int (i : Int))) (.im (.int (m : Int))) y6) := rfl
      have v4 : varE 4 (T7 a b p l (.im (.int (i : Int))) (.im (.int (m : Int))) y6) = .ok (.int (i : Int)) (T7 a b p l (.im (.int (i : Int))) (.im (.int (m : Int))) y6) := rfl
      have v5 : varE 5 (T7 a b p l (.im (.int (i : Int))) (.im (.int (m : Int))) y6) = .ok (.int (m : Int)) (T7 a b p l (.im (.int (i : Int))) (.im (.int (m : Int))) y6) := rfl
      have v2 : varE 2 (T7 a b p l (.im (.int (i : Int))) (.im (.int (m : Int))) y6) = .ok (.int p) (T7 a b p l (.im (.int (i : Int))) (.im (.int (m : Int))) y6) := rfl
      have i1 := ixg3 (l := a) hi
      have i2 := ixg3 (l := b) q1
      rw [← q2] at i2
      generalize T7 a b p l (.im (.int (i : Int))) (.im (.int (m : Int))) y6 = U at *
      have hcm : CMul (g a i) y := cmulS (by omega)
      generalize op2 (varE 4) (varE 5) addO = G at *
      generalize g a i = x at *
      have h8 : ∀ z : Int, intO [.int z] = some (.int z) := fun _ => rfl
      have hmu : mulO (.int x) (.int y) = some (.int (x * y)) := by simp [hcm]
      have had : ∀ u v : Int, addO (.int u) (.int v) = some (.int (u + v)) := fun _ _ => rfl
      have hmo : ∀ u : Int, modO (.int u) (.int p) = some (.int (u % p)) := fun u => by simp [hp0]
      simp only [op2_run, calE_run, aCons_run, aNil_run, hix, v0, v1, v2, v4, v5, i1, i2, R.bind_ok, R.of_some, hmu, had, h8, hmo])
    obtain ⟨_, y5, y6, rfl⟩ := f2
    refine ⟨y5, y6, ?_⟩
    rw [forS_run, hit, R.stmt_ok, f1, zfold]
    rfl
  have hit : itR1 (aCons (calE (aCons (varE 0) aNil) lenO) aNil) (T7 a b p (List.replicate (a.length + b.length) 0) .no .no .no) = .ok (a.zipIdx.map fun q => Dt.int (q.2 : Int)) (T7 a b p (List.replicate (a.length + b.length) 0) .no .no .no) := by
    rw [← range_zip]
    refine itR1_run ?_ (by omega)
    have v0 : varE 0 (T7 a b p (List.replicate (a.length + b.length) 0) .no .no .no) = .ok (Wd a) (T7 a b p (List.replicate (a.length + b.length) 0) .no .no .no) := rfl
    rw [aCons_run, calE_run, aCons_run, v0]
    simp only [R.bind_ok, aNil_run, l1, R.of_some]
  obtain ⟨S', f1, f2⟩ := forL_fold (k := (Tk.nm 4).k) (body := (forS (itR1 (aCons (calE (aCons (varE 1) aNil) lenO) aNil)) (Tk.nm 5).k (setS 3 (op2 (calE (aCons (op2 (ixV 3 (op2 (varE 4) (varE 5) addO)) (op2 (op2 (varE 0) (varE 4) ixO) (op2 (varE 1) (varE 5) ixO) mulO) addO) aNil) intO) (varE 2) modO) (op2 (varE 4) (varE 5) addO)))) (fun (q : Int × Nat) => Dt.int (q.2 : Int)) (fun _ (l : List Int) S => l.length = a.length + b.length ∧ ∃ y4 y5 y6, S = T7 a b p l y4 y5 y6) (fun l q => rowR p q.1 q.2 b l) a.zipIdx 0 (List.replicate (a.length + b.length) 0) _ ⟨by simp, .no, .no, .no, rfl⟩ (fun j l q S hq hj hI => by
    obtain ⟨hl, y4, y5, y6, rfl⟩ := hI
    obtain ⟨q1, q2, q3⟩ := zipIdx_g hq
    obtain ⟨x, i⟩ := q
    dsimp only at q1 q2 q3
    obtain ⟨z5, z6, e⟩ := hin l i y5 y6 q1 hl
    rw [← q2] at e
    exact ⟨_, _, rfl, .inl e, by rw [rowR_len, hl], _, _, _, rfl⟩)
  obtain ⟨_, y4, y5, y6, rfl⟩ := f2
  have ht := Fltrim_run (l := mulR p 0 a b (List.replicate (a.length + b.length) 0)) (.inl rfl) (by rw [mulR_len, List.length_replicate]; omega)
  unfold Fltimes runD m34_law_times
  rw [hst, seqS_run, a0, seq_nx, seqS_run, forS_run, hit, R.stmt_ok, f1, seq_nx, mfold]
  have v3 : varE 3 (T7 a b p (mulR p 0 a b (List.replicate (a.length + b.length) 0)) y4 y5 y6) = .ok (.lst ((mulR p 0 a b (List.replicate (a.length + b.length) 0)).map Dt.int)) { sl := [.im (Wd a), .im (Wd b), .im (.int p), .mu 0, y4, y5, y6], mo := [.fz (.lst ((mulR p 0 a b (List.replicate (a.length + b.length) 0)).map Dt.int))] } := rfl
  rw [retS_run, funE_run, aCons_run, v3]
  simp only [R.bind_ok, aNil_run, List.length_cons, List.length_nil, Nat.zero_add, if_true, ht, R.stmt_ok]
  rfl
theorem rfold (p f : Int) (at_ : Nat) : ∀ (b : List Int) (m : Nat) (l : List Int), (b.zipIdx m).foldl (fun l q => addAt p l (at_ + q.2) (-f * q.1)) l = rowR p (-f) (at_ + m) b l := fun b m l => zfold p (-f) at_ b m l
def downs : Nat → List Nat
  | 0 => []
  | c + 1 => c :: downs c
theorem downs_range (c : Nat) : ((List.range c).map fun (k : Nat) => Dt.int ((c : Int) - 1 - (k : Int))) = (downs c).map fun (i : Nat) => Dt.int (i : Int) := by
  have : ∀ c : Nat, (List.range c).map (fun k => c - 1 - k) = downs c := by
    intro c
    induction c with
    | zero => rfl
    | succ c ih =>
      rw [List.range_succ_eq_map, List.map_cons, downs, ← ih, List.map_map]
      congr 1
      refine List.map_congr_left fun k hk => ?_
      simp only [Function.comp]
      omega
  rw [← this, List.map_map]
  refine List.map_congr_left fun k hk => ?_
  have := List.mem_range.mp hk
  simp only [Function.comp]
  congr 1
  omega
theorem downs_mem {c i : Nat} (h : i ∈ downs c) : i < c := by
  induction c with
  | zero => exact absurd h List.not_mem_nil
  | succ c ih =>
    rw [downs] at h
    rcases List.mem_cons.mp h with rfl | h
    · omega
    · have := ih h; omega
theorem dfold (p h : Int) (b : List Int) : ∀ (c : Nat) (l q : List Int), (downs c).foldl (fun (s : List Int × List Int) at_ => (rowR p (-(g s.1 (at_ + b.length - 1) * h % p)) at_ b s.1, s.2 ++ [g s.1 (at_ + b.length - 1) * h % p])) (l, q) = divR p h b c l q
  | 0, _, _ => rfl
  | c + 1, l, q => by rw [downs, List.foldl_cons, dfold p h b c, divR]
def T10 (a b : List Int) (p h : Int) (l q : List Int) (x6 x7 x8 x9 : Sv) : Ms := { sl := [.im (Wd a), .im (Wd b), .im (.int p), .mu 0, .mu 1, .im (.int h), x6, x7, x8, x9], mo := [.ob (.ls (l.map Dt.int)), .ob (.ls (q.map Dt.int))] }
theorem Fdivd_run {CR : Addr} {p : Int} {a b : List Int} (hp : isP p = true) (ha : Rg p a) (hb : Pol p b) (hn : b ≠ []) (la : a.length ≤ 400) (lb : b.length ≤ 400) : Fdivd CR [Wd a, Wd b, .int p] = .ok (.tup [Wd (quoP p a b), Wd (restP p a b)]) := by
  have hc := isP_cases hp
  have hp0 : 0 < p := by omega
  have hbl : 1 ≤ b.length := List.length_pos_iff.mpr hn
  obtain ⟨_, _, _, _, hql, hdl⟩ := div_main hp ha hb hn
  have hst : st0 10 [Wd a, Wd b, .int p] = { sl := [.im (Wd a), .im (Wd b), .im (.int p), .no, .no, .no, .no, .no, .no, .no], mo := [] } := rfl
  have l1 : lenO [Wd a] = some (.int (a.length : Int)) := lenO_wd _
  have l2 : lenO [Wd b] = some (.int (b.length : Int)) := lenO_wd _
  have hend : ixO (Wd b) (.int (-1)) = some (.int (g b (b.length - 1))) := atI_end hn
  have hinv := Finverse_run hp (hb.last hp hn)
  have had : ∀ u v : Int, addO (.int u) (.int v) = some (.int (u + v)) := fun _ _ => rfl
  have hsu : ∀ u v : Int, subO (.int u) (.int v) = some (.int (u - v)) := fun _ _ => rfl
  have hmo : ∀ u : Int, modO (.int u) (.int p) = some (.int (u % p)) := fun u => by simp [hp0]
  generalize hh : invP p (g b (b.length - 1)) = h at *
  have a0 : (ifS (tst (op2 (calE (aCons (varE 1) aNil) lenO) (cE (.int 0)) eqO)) (raiseS ⟨CR, ["reason"], [.str "zero"]⟩) nilS) { sl := [.im (Wd a), .im (Wd b), .im (.int p), .no, .no, .no, .no, .no, .no, .no], mo := [] } = .nx { sl := [.im (Wd a), .im (Wd b), .im (.int p), .no, .no, .no, .no, .no, .no, .no], mo := [] } := by
    have v1 : varE 1 { sl := [.im (Wd a), .im (Wd b), .im (.int p), .no, .no, .no, .no, .no, .no, .no], mo := [] } = .ok (Wd b) { sl := [.im (Wd a), .im (Wd b), .im (.int p), .no, .no, .no, .no, .no, .no, .no], mo := [] } := rfl
    have hz : decide ((b.length : Int) = 0) = false := decide_eq_false (by omega)
    generalize ({ sl := [.im (Wd a), .im (Wd b), .im (.int p), .no, .no, .no, .no, .no, .no, .no], mo := [] } : Ms) = U at *
    rw [ifS_run, tst_run', op2_run, calE_run, aCons_run, v1]
    simp only [R.bind_ok, aNil_run, l2, R.of_some, cE_run, eqO_int, hz, R.stmt_ok, Bool.false_eq_true, if_false]
    rfl
  have a1 : (asgN 3 (calN (aCons (varE 0) aNil) lstO)) { sl := [.im (Wd a), .im (Wd b), .im (.int p), .no, .no, .no, .no, .no, .no, .no], mo := [] } = .nx { sl := [.im (Wd a), .im (Wd b), .im (.int p), .mu 0, .no, .no, .no, .no, .no, .no], mo := [.ob (.ls (a.map Dt.int))] } := rfl
  have a2 : (asgN 4 (lstE aNil)) { sl := [.im (Wd a), .im (Wd b), .im (.int p), .mu 0, .no, .no, .no, .no, .no, .no], mo := [.ob (.ls (a.map Dt.int))] } = .nx { sl := [.im (Wd a), .im (Wd b), .im (.int p), .mu 0, .mu 1, .no, .no, .no, .no, .no], mo := [.ob (.ls (a.map Dt.int)), .ob (.ls [])] } := rfl
  have a3 : (asgS 5 (funE 2 (aCons (op2 (varE 1) (op1 (cE (.int 1)) negO) ixO) (aCons (varE 2) aNil)) Finverse)) { sl := [.im (Wd a), .im (Wd b), .im (.int p), .mu 0, .mu 1, .no, .no, .no, .no, .no], mo := [.ob (.ls (a.map Dt.int)), .ob (.ls [])] } = .nx (T10 a b p h a [] .no .no .no .no) := by
    have v1 : varE 1 { sl := [.im (Wd a), .im (Wd b), .im (.int p), .mu 0, .mu 1, .no, .no, .no, .no, .no], mo := [.ob (.ls (a.map Dt.int)), .ob (.ls [])] } = .ok (Wd b) { sl := [.im (Wd a), .im (Wd b), .im (.int p), .mu 0, .mu 1, .no, .no, .no, .no, .no], mo := [.ob (.ls (a.map Dt.int)), .ob (.ls [])] } := rfl
    have v2 : varE 2 { sl := [.im (Wd a), .im (Wd b), .im (.int p), .mu 0, .mu 1, .no, .no, .no, .no, .no], mo := [.ob (.ls (a.map Dt.int)), .ob (.ls [])] } = .ok (.int p) { sl := [.im (Wd a), .im (Wd b), .im (.int p), .mu 0, .mu 1, .no, .no, .no, .no, .no], mo := [.ob (.ls (a.map Dt.int)), .ob (.ls [])] } := rfl
    rw [asgS_run', funE_run, aCons_run, op2_run, v1]
    simp only [R.bind_ok, op1_run, cE_run, negO_i, R.of_some, hend, aCons_run, v2, aNil_run, List.length_cons, List.length_nil, Nat.zero_add, Nat.reduceAdd, if_true, hinv, R.stmt_ok]
    rfl
  have hin : ∀ (l q : List Int) (f : Int) (i : Nat) (x8 x9 : Sv), (0 ≤ f ∧ f < p) → i + b.length ≤ l.length → ∃ y8 y9, forS (itEn (aCons (varE 1) aNil)) (Tk.tp [8, 9]).k (setS 3 (op2 (op2 (ixV 3 (op2 (varE 6) (varE 8) addO)) (op2 (varE 7) (varE 9) mulO) subO) (varE 2) modO) (op2 (varE 6) (varE 8) addO)) (T10 a b p h l q (.im (.int (i : Int))) (.im (.int f)) x8 x9) = .nx (T10 a b p h (rowR p (-f) i b l) q (.im (.int (i : Int))) (.im (.int f)) y8 y9) := by
    intro l q f i x8 x9 hf hl
    have hit : itEn (aCons (varE 1) aNil) (T10 a b p h l q (.im (.int (i : Int))) (.im (.int f)) x8 x9) = .ok (b.zipIdx.map enq) (T10 a b p h l q (.im (.int (i : Int))) (.im (.int f)) x8 x9) := by
      rw [← enumD_ints]
      rfl
    have hlen : ∃ n, n = l.length := ⟨_, rfl⟩
    obtain ⟨n, hnl⟩ := hlen
    obtain ⟨S', f1, f2⟩ := forL_fold (k := (Tk.tp [8, 9]).k) (body := (setS 3 (op2 (op2 (ixV 3 (op2 (varE 6) (varE 8) addO)) (op2 (varE 7) (varE 9) mulO) subO) (varE 2) modO) (op2 (varE 6) (varE 8) addO))) enq (fun _ (l : List Int) S => l.length = n ∧ ∃ y8 y9, S = T10 a b p h l q (.im (.int (i : Int))) (.im (.int f)) y8 y9) (fun l q => addAt p l (i + q.2) (-f * q.1)) b.zipIdx 0 l _ ⟨hnl.symm, x8, x9, rfl⟩ (fun j l z S hq hj hI => by
      obtain ⟨hl2, y8, y9, rfl⟩ := hI
      obtain ⟨q1, q2, q3⟩ := zipIdx_g hq
      obtain ⟨y, m⟩ := z
      have hy := hb.1 y q3
      dsimp only at q1 q2 q3
      refine ⟨T10 a b p h l q (.im (.int (i : Int))) (.im (.int f)) (.im (.int (m : Int))) (.im (.int y)), T10 a b p h (addAt p l (i + m) (-f * y)) q (.im (.int (i : Int))) (.im (.int f)) (.im (.int (m : Int))) (.im (.int y)), rfl, .inl ?_, by rw [addAt_len, hl2], _, _, rfl⟩
      have hat : (op2 (varE 6) (varE 8) addO) (T10 a b p h l q (.im (.int (i : Int))) (.im (.int f)) (.im (.int (m : Int))) (.im (.int y))) = .ok (.int ((i + m : Nat) : Int)) (T10 a b p h l q (.im (.int (i : Int))) (.im (.int f)) (.im (.int (m : Int))) (.im (.int y))) := by
        rw [Int.natCast_add]
        rfl
      have hix := ixV_run3 (S := T10 a b p h l q (.im (.int (i : Int))) (.im (.int f)) (.im (.int (m : Int))) (.im (.int y))) (i := 3) (k := 0) (l := l) rfl hat (by omega)
      refine (setA_run (p := p) (v := -f * y) (k := 0) (l := l) (j := i + m) ?_ rfl hat (by omega)).trans rfl
      have v7 : varE 7 (T10 a b p h l q (.im (.int (i : Int))) (.im (.int f)) (.im (.int (m : Int))) (.im (.int y))) = .ok (.int f) (T10 a b p h l q (.im (.int (i : Int))) (.im (.int f)) (.im (.int (m : Int))) (.im (.int y))) := rfl
      have v9 : varE 9 (T10 a b p h l q (.im (.int (i : Int))) (.im (.int f)) (.im (.int (m : Int))) (.im (.int y))) = .ok (.int y) (T10 a b p h l q (.im (.int (i : Int))) (.im (.int f)) (.im (.int (m : Int))) (.im (.int y))) := rfl
      have v2 : varE 2 (T10 a b p h l q (.im (.int (i : Int))) (.im (.int f)) (.im (.int (m : Int))) (.im (.int y))) = .ok (.int p) (T10 a b p h l q (.im (.int (i : Int))) (.im (.int f)) (.im (.int (m : Int))) (.im (.int y))) := rfl
      generalize T10 a b p h l q (.im (.int (i : Int))) (.im (.int f)) (.im (.int (m : Int))) (.im (.int y)) = U at *
      have hcm : CMul f y := cmulS (by omega)
      have hmu : mulO (.int f) (.int y) = some (.int (f * y)) := by simp [hcm]
      generalize op2 (varE 6) (varE 8) addO = G at *
      have hsub : g l (i + m) - f * y = g l (i + m) + -f * y := by grind
      simp only [op2_run, hix, v7, v9, v2, R.bind_ok, hmu, R.of_some, hsu, hmo, hsub])
    obtain ⟨_, y8, y9, rfl⟩ := f2
    refine ⟨y8, y9, ?_⟩
    rw [forS_run, hit, R.stmt_ok, f1, rfold]
    rfl
  have hit : itRv (op2 (op2 (calE (aCons (varE 0) aNil) lenO) (calE (aCons (varE 1) aNil) lenO) subO) (cE (.int 1)) addO) (T10 a b p h a [] .no .no .no .no) = .ok ((downs (a.length + 1 - b.length)).map fun (i : Nat) => Dt.int (i : Int)) (T10 a b p h a [] .no .no .no .no) := by
    have v0 : varE 0 (T10 a b p h a [] .no .no .no .no) = .ok (Wd a) (T10 a b p h a [] .no .no .no .no) := rfl
    have v1 : varE 1 (T10 a b p h a [] .no .no .no .no) = .ok (Wd b) (T10 a b p h a [] .no .no .no .no) := rfl
    generalize T10 a b p h a [] .no .no .no .no = U at *
    unfold itRv
    have hop : (op2 (op2 (calE (aCons (varE 0) aNil) lenO) (calE (aCons (varE 1) aNil) lenO) subO) (cE (.int 1)) addO) U = .ok (.int ((a.length : Int) - (b.length : Int) + 1)) U := by
      simp only [op2_run, calE_run, aCons_run, v0, v1, aNil_run, R.bind_ok, l1, l2, R.of_some, hsu, cE_run, had]
    rw [hop, R.bind_ok]
    dsimp only
    have e2 : (2 : Int) ^ 62 = 4611686018427387904 := by decide
    rw [if_pos (by rw [e2]; omega)]
    have hto : ((a.length : Int) - (b.length : Int) + 1).toNat = a.length + 1 - b.length := by omega
    rw [hto, downs_range]
  obtain ⟨S', f1, f2⟩ := forL_fold (k := (Tk.nm 6).k) (body := (seqS (asgS 7 (op2 (op2 (ixV 3 (op2 (op2 (varE 6) (calE (aCons (varE 1) aNil) lenO) addO) (cE (.int 1)) subO)) (varE 5) mulO) (varE 2) modO))
  (seqS (appS 4 (varE 7))
  (forS (itEn (aCons (varE 1) aNil)) (Tk.tp [8, 9]).k (setS 3 (op2 (op2 (ixV 3 (op2 (varE 6) (varE 8) addO)) (op2 (varE 7) (varE 9) mulO) subO) (varE 2) modO) (op2 (varE 6) (varE 8) addO)))))) (fun (i : Nat) => Dt.int (i : Int)) (fun j (s : List Int × List Int) S => s.1.length = a.length ∧ Rg p s.1 ∧ s.2.length = j ∧ ∃ y6 y7 y8 y9, S = T10 a b p h s.1 s.2 y6 y7 y8 y9) (fun (s : List Int × List Int) at_ => (rowR p (-(g s.1 (at_ + b.length - 1) * h % p)) at_ b s.1, s.2 ++ [g s.1 (at_ + b.length - 1) * h % p])) (downs (a.length + 1 - b.length)) 0 (a, []) _ ⟨rfl, ha, rfl, .no, .no, .no, .no, rfl⟩ (fun j s i S hi hj hI => by
    obtain ⟨l, q⟩ := s
    obtain ⟨hl, hr, hq, y6, y7, y8, y9, rfl⟩ := hI
    dsimp only at hl hr hq
    have him := downs_mem hi
    have hdl : (downs (a.length + 1 - b.length)).length ≤ a.length := by
      have : ∀ c, (downs c).length = c := fun c => by induction c with
        | zero => rfl
        | succ c ih => rw [downs, List.length_cons, ih]
      rw [this]
      omega
    have hfr : 0 ≤ g l (i + b.length - 1) * h % p ∧ g l (i + b.length - 1) * h % p < p := ⟨Int.emod_nonneg _ (by omega), Int.emod_lt_of_pos _ hp0⟩
    have e1 : (asgS 7 (op2 (op2 (ixV 3 (op2 (op2 (varE 6) (calE (aCons (varE 1) aNil) lenO) addO) (cE (.int 1)) subO)) (varE 5) mulO) (varE 2) modO)) (T10 a b p h l q (.im (.int (i : Int))) y7 y8 y9) = .nx (T10 a b p h l q (.im (.int (i : Int))) (.im (.int (g l (i + b.length - 1) * h % p))) y8 y9) := by
      have v6 : varE 6 (T10 a b p h l q (.im (.int (i : Int))) y7 y8 y9) = .ok (.int (i : Int)) (T10 a b p h l q (.im (.int (i : Int))) y7 y8 y9) := rfl
      have v1 : varE 1 (T10 a b p h l q (.im (.int (i : Int))) y7 y8 y9) = .ok (Wd b) (T10 a b p h l q (.im (.int (i : Int))) y7 y8 y9) := rfl
      have v5 : varE 5 (T10 a b p h l q (.im (.int (i : Int))) y7 y8 y9) = .ok (.int h) (T10 a b p h l q (.im (.int (i : Int))) y7 y8 y9) := rfl
      have v2 : varE 2 (T10 a b p h l q (.im (.int (i : Int))) y7 y8 y9) = .ok (.int p) (T10 a b p h l q (.im (.int (i : Int))) y7 y8 y9) := rfl
      have hix := ixV_run3 (S := T10 a b p h l q (.im (.int (i : Int))) y7 y8 y9) (i := 3) (k := 0) (l := l) (j := i + b.length - 1) (h := (op2 (op2 (varE 6) (calE (aCons (varE 1) aNil) lenO) addO) (cE (.int 1)) subO)) rfl (by
        have : ((i + b.length - 1 : Nat) : Int) = (i : Int) + (b.length : Int) - 1 := by omega
        rw [this]
        simp only [op2_run, v6, calE_run, aCons_run, v1, aNil_run, R.bind_ok, l2, R.of_some, had, cE_run, hsu]) (by omega)
      have hgr := hr.g hp0 (i + b.length - 1)
      have hcm : CMul (g l (i + b.length - 1)) h := cmulS (by omega)
      generalize hgv : g l (i + b.length - 1) = v at *
      have hmu : mulO (.int v) (.int h) = some (.int (v * h)) := by simp [hcm]
      have : (op2 (op2 (ixV 3 (op2 (op2 (varE 6) (calE (aCons (varE 1) aNil) lenO) addO) (cE (.int 1)) subO)) (varE 5) mulO) (varE 2) modO) (T10 a b p h l q (.im (.int (i : Int))) y7 y8 y9) = .ok (.int (v * h % p)) (T10 a b p h l q (.im (.int (i : Int))) y7 y8 y9) := by
        generalize T10 a b p h l q (.im (.int (i : Int))) y7 y8 y9 = U at *
        simp only [op2_run] at hix ⊢
        simp only [hix, R.bind_ok, v5, R.of_some, hmu, v2, hmo]
      rw [asgS_run', this]
      rfl
    generalize hfg : g l (i + b.length - 1) * h % p = f at *
    have e2 : (appS 4 (varE 7)) (T10 a b p h l q (.im (.int (i : Int))) (.im (.int f)) y8 y9) = .nx (T10 a b p h l (q ++ [f]) (.im (.int (i : Int))) (.im (.int f)) y8 y9) := by
      rw [appS_run, muAt_run (k := 1) (xs := q.map Dt.int) rfl rfl]
      dsimp only
      rw [varE_im (d := .int f) rfl, R.stmt_ok]
      rw [muAt_run (k := 1) (xs := q.map Dt.int) rfl rfl]
      dsimp only
      rw [List.length_map, if_pos (by omega)]
      simp [T10]
    obtain ⟨z8, z9, e3⟩ := hin l (q ++ [f]) f i y8 y9 hfr (by omega)
    exact ⟨T10 a b p h l q (.im (.int (i : Int))) y7 y8 y9, T10 a b p h (rowR p (-f) i b l) (q ++ [f]) (.im (.int (i : Int))) (.im (.int f)) z8 z9, rfl, .inl (by rw [seqS_run, e1, seq_nx, seqS_run, e2, seq_nx, e3]), by dsimp only; rw [rowR_len, hl], rowR_rg hp0 b i l hr, by dsimp only; rw [List.length_append, hq]; rfl, .im (.int (i : Int)), .im (.int f), z8, z9, rfl⟩)
  rw [dfold] at f2
  have hdp : divP p a b = divR p h b (a.length + 1 - b.length) a [] := by unfold divP; rw [hh]
  rw [← hdp] at f2
  obtain ⟨_, _, hq2, y6, y7, y8, y9, rfl⟩ := f2
  have ht := Ftrim_run (l := (divP p a b).1) (.inl rfl) (by rw [hdl]; omega)
  unfold Fdivd runD m34_divided
  rw [hst, seqS_run, a0, seq_nx, seqS_run, a1, seq_nx, seqS_run, a2, seq_nx, seqS_run, a3, seq_nx, seqS_run, forS_run, hit, R.stmt_ok, f1, seq_nx]
  have v4 : varE 4 (T10 a b p h (divP p a b).1 (divP p a b).2 y6 y7 y8 y9) = .ok (.lst ((divP p a b).2.map Dt.int)) { sl := [.im (Wd a), .im (Wd b), .im (.int p), .mu 0, .mu 1, .im (.int h), y6, y7, y8, y9], mo := [.ob (.ls ((divP p a b).1.map Dt.int)), .fz (.lst ((divP p a b).2.map Dt.int))] } := rfl
  have v3 : varE 3 { sl := [.im (Wd a), .im (Wd b), .im (.int p), .mu 0, .mu 1, .im (.int h), y6, y7, y8, y9], mo := [.ob (.ls ((divP p a b).1.map Dt.int)), .fz (.lst ((divP p a b).2.map Dt.int))] } = .ok (.lst ((divP p a b).1.map Dt.int)) { sl := [.im (Wd a), .im (Wd b), .im (.int p), .mu 0, .mu 1, .im (.int h), y6, y7, y8, y9], mo := [.fz (.lst ((divP p a b).1.map Dt.int)), .fz (.lst ((divP p a b).2.map Dt.int))] } := rfl
  have hrev : frz (revL (varE 4)) (T10 a b p h (divP p a b).1 (divP p a b).2 y6 y7 y8 y9) = .ok (.lst ((quoP p a b).map Dt.int)) { sl := [.im (Wd a), .im (Wd b), .im (.int p), .mu 0, .mu 1, .im (.int h), y6, y7, y8, y9], mo := [.ob (.ls ((divP p a b).1.map Dt.int)), .fz (.lst ((divP p a b).2.map Dt.int))] } := by
    rw [frz_run']
    unfold revL
    rw [v4, R.bind_ok]
    dsimp only
    rw [R.bind_ok, ← List.map_reverse]
    rfl
  rw [retS_run, tupE_run, aCons_run, calE_run, aCons_run, hrev]
  simp only [R.bind_ok, aNil_run, tupO_lst, R.of_some, aCons_run, funE_run, v3, List.length_cons, List.length_nil, Nat.zero_add, Nat.reduceAdd, if_true, ht, Nat.reduceLeDiff, R.stmt_ok]
  rfl
theorem Fdivd_zero {CR : Addr} {p : Int} {a : List Int} : Fdivd CR [Wd a, .tup [], .int p] = .er ⟨CR, ["reason"], [.str "zero"]⟩ := by
  have hst : st0 10 [Wd a, .tup [], .int p] = { sl := [.im (Wd a), .im (.tup []), .im (.int p), .no, .no, .no, .no, .no, .no, .no], mo := [] } := rfl
  have hr : ∀ S, raiseS ⟨CR, ["reason"], [.str "zero"]⟩ S = .er ⟨CR, ["reason"], [.str "zero"]⟩ S := fun _ => rfl
  unfold Fdivd runD m34_divided
  rw [hst]
  have a0 : (ifS (tst (op2 (calE (aCons (varE 1) aNil) lenO) (cE (.int 0)) eqO)) (raiseS ⟨CR, ["reason"], [.str "zero"]⟩) nilS) { sl := [.im (Wd a), .im (.tup []), .im (.int p), .no, .no, .no, .no, .no, .no, .no], mo := [] } = .er ⟨CR, ["reason"], [.str "zero"]⟩ { sl := [.im (Wd a), .im (.tup []), .im (.int p), .no, .no, .no, .no, .no, .no, .no], mo := [] } := by
    have hl : lenO [.tup []] = some (.int 0) := rfl
    have v1 : varE 1 { sl := [.im (Wd a), .im (.tup []), .im (.int p), .no, .no, .no, .no, .no, .no, .no], mo := [] } = .ok (.tup []) { sl := [.im (Wd a), .im (.tup []), .im (.int p), .no, .no, .no, .no, .no, .no, .no], mo := [] } := rfl
    generalize ({ sl := [.im (Wd a), .im (.tup []), .im (.int p), .no, .no, .no, .no, .no, .no, .no], mo := [] } : Ms) = U at *
    rw [ifS_run, tst_run', op2_run, calE_run, aCons_run, v1]
    simp only [R.bind_ok, aNil_run, hl, R.of_some, cE_run, eqO_int, decide_true, R.stmt_ok, if_true, hr]
  rw [seqS_run, a0]
  rfl
theorem itR2_run3 {fs : Ms → R (List Dt)} {S S1 : Ms} {p : Int} (h : fs S = .ok [.int 1, .int p] S1) (hp : 0 < p ∧ p < 100) : itR2 fs S = .ok ((List.range (p - 1).toNat).map fun (k : Nat) => Dt.int (1 + (k : Int))) S1 := by
  have e2 : (2 : Int) ^ 62 = 4611686018427387904 := by decide
  unfold itR2
  rw [h, R.bind_ok]
  dsimp only
  rw [if_pos (by rw [e2]; omega)]
def T8r (a b : List Int) (p h : Int) (l : List Int) (x5 x6 x7 : Sv) : Ms := { sl := [.im (Wd a), .im (Wd b), .im (.int p), .mu 0, .im (.int h), x5, x6, x7], mo := [.ob (.ls (l.map Dt.int))] }
theorem Flrest_run {p : Int} {a b : List Int} (hp : isP p = true) (ha : Rg p a) (hb : Pol p b) (hn : b ≠ []) (la : a.length ≤ 400) (lb : b.length ≤ 400) : Flrest [Wd a, Wd b, .int p] = .ok (Wd (restP p a b)) := by
  have hc := isP_cases hp
  have hp0 : 0 < p := by omega
  have hbl : 1 ≤ b.length := List.length_pos_iff.mpr hn
  obtain ⟨_, _, _, _, hql, hdl⟩ := div_main hp ha hb hn
  have hst : st0 8 [Wd a, Wd b, .int p] = { sl := [.im (Wd a), .im (Wd b), .im (.int p), .no, .no, .no, .no, .no], mo := [] } := rfl
  have l1 : lenO [Wd a] = some (.int (a.length : Int)) := lenO_wd _
  have l2 : lenO [Wd b] = some (.int (b.length : Int)) := lenO_wd _
  have hend : ixO (Wd b) (.int (-1)) = some (.int (g b (b.length - 1))) := atI_end hn
  obtain ⟨c, hc1, _, _⟩ := invF_some hp (hb.last hp hn)
  have hinv : invP p (g b (b.length - 1)) = 1 + (c : Int) := by unfold invP; rw [hc1]
  have had : ∀ u v : Int, addO (.int u) (.int v) = some (.int (u + v)) := fun _ _ => rfl
  have hsu : ∀ u v : Int, subO (.int u) (.int v) = some (.int (u - v)) := fun _ _ => rfl
  have hmo : ∀ u : Int, modO (.int u) (.int p) = some (.int (u % p)) := fun u => by simp [hp0]
  have h8 : ∀ z : Int, intO [.int z] = some (.int z) := fun _ => rfl
  have hble := hb.1.g hp0 (b.length - 1)
  have a1 : (asgN 3 (calN (aCons (varE 0) aNil) lstO)) { sl := [.im (Wd a), .im (Wd b), .im (.int p), .no, .no, .no, .no, .no], mo := [] } = .nx { sl := [.im (Wd a), .im (Wd b), .im (.int p), .mu 0, .no, .no, .no, .no], mo := [.ob (.ls (a.map Dt.int))] } := rfl
  have a3 : (asgS 4 (op2 (frz (lcE (itR2 (aCons (cE (.int 1)) (aCons (varE 2) aNil))) (Tk.nm 7).k (tst (op2 (op2 (calE (aCons (op2 (varE 7) (op2 (varE 1) (op1 (cE (.int 1)) negO) ixO) mulO) aNil) intO) (varE 2) modO) (cE (.int 1)) eqO)) (varE 7) [7])) (cE (.int 0)) ixO)) { sl := [.im (Wd a), .im (Wd b), .im (.int p), .mu 0, .no, .no, .no, .no], mo := [.ob (.ls (a.map Dt.int))] } = .nx (T8r a b p (invP p (g b (b.length - 1))) a .no .no .no) := by
    have hit : itR2 (aCons (cE (.int 1)) (aCons (varE 2) aNil)) { sl := [.im (Wd a), .im (Wd b), .im (.int p), .mu 0, .no, .no, .no, .no], mo := [.ob (.ls (a.map Dt.int))] } = .ok ((List.range (p - 1).toNat).map fun (k : Nat) => Dt.int (1 + (k : Int))) { sl := [.im (Wd a), .im (Wd b), .im (.int p), .mu 0, .no, .no, .no, .no], mo := [.ob (.ls (a.map Dt.int))] } := itR2_run3 rfl (by omega)
    have key := lcE_flt (k := (Tk.nm 7).k) (t := tst (op2 (op2 (calE (aCons (op2 (varE 7) (op2 (varE 1) (op1 (cE (.int 1)) negO) ixO) mulO) aNil) intO) (varE 2) modO) (cE (.int 1)) eqO)) (e := varE 7) (own := [7]) (fun (k : Nat) => Dt.int (1 + (k : Int))) (fun c => decide (g b (b.length - 1) * (1 + (c : Int)) % p = 1)) (fun (k : Nat) => Dt.int (1 + (k : Int))) (List.range (p - 1).toNat) hit (fun k hk => by
      have hkp := List.mem_range.mp hk
      refine ⟨{ sl := [.im (Wd a), .im (Wd b), .im (.int p), .mu 0, .no, .no, .no, .im (.int (1 + (k : Int)))], mo := [.ob (.ls (a.map Dt.int))] }, { sl := [.im (Wd a), .im (Wd b), .im (.int p), .mu 0, .no, .no, .no, .im (.int (1 + (k : Int)))], mo := [.ob (.ls (a.map Dt.int))] }, rfl, ?_, rfl, fun _ => ⟨_, rfl, rfl⟩⟩
      have v7 : varE 7 { sl := [.im (Wd a), .im (Wd b), .im (.int p), .mu 0, .no, .no, .no, .im (.int (1 + (k : Int)))], mo := [.ob (.ls (a.map Dt.int))] } = .ok (.int (1 + (k : Int))) { sl := [.im (Wd a), .im (Wd b), .im (.int p), .mu 0, .no, .no, .no, .im (.int (1 + (k : Int)))], mo := [.ob (.ls (a.map Dt.int))] } := rfl
      have v1 : varE 1 { sl := [.im (Wd a), .im (Wd b), .im (.int p), .mu 0, .no, .no, .no, .im (.int (1 + (k : Int)))], mo := [.ob (.ls (a.map Dt.int))] } = .ok (Wd b) { sl := [.im (Wd a), .im (Wd b), .im (.int p), .mu 0, .no, .no, .no, .im (.int (1 + (k : Int)))], mo := [.ob (.ls (a.map Dt.int))] } := rfl
      have v2 : varE 2 { sl := [.im (Wd a), .im (Wd b), .im (.int p), .mu 0, .no, .no, .no, .im (.int (1 + (k : Int)))], mo := [.ob (.ls (a.map Dt.int))] } = .ok (.int p) { sl := [.im (Wd a), .im (Wd b), .im (.int p), .mu 0, .no, .no, .no, .im (.int (1 + (k : Int)))], mo := [.ob (.ls (a.map Dt.int))] } := rfl
      generalize ({ sl := [.im (Wd a), .im (Wd b), .im (.int p), .mu 0, .no, .no, .no, .im (.int (1 + (k : Int)))], mo := [.ob (.ls (a.map Dt.int))] } : Ms) = U at *
      have hcm : CMul (1 + (k : Int)) (g b (b.length - 1)) := cmulS (by omega)
      generalize g b (b.length - 1) = y at *
      have hmu : mulO (.int (1 + (k : Int))) (.int y) = some (.int (y * (1 + (k : Int)))) := by
        rw [Int.mul_comm]
        simp [hcm]
      simp only [tst_run', op2_run, calE_run, aCons_run, aNil_run, v7, v1, v2, op1_run, cE_run, negO_i, R.bind_ok, R.of_some, hend, hmu, h8, hmo, eqO_int]) (by simp; omega)
    have hhd : atI (((List.range (p - 1).toNat).filter fun (c : Nat) => decide (g b (b.length - 1) * (1 + (c : Int)) % p = 1)).map fun (k : Nat) => Dt.int (1 + (k : Int))) 0 = some (.int (invP p (g b (b.length - 1)))) := by
      have h0 := atI_ofNat (((List.range (p - 1).toNat).filter fun (c : Nat) => decide (g b (b.length - 1) * (1 + (c : Int)) % p = 1)).map fun (k : Nat) => Dt.int (1 + (k : Int))) 0
      rw [show ((0 : Nat) : Int) = 0 from rfl] at h0
      rw [h0, List.getElem?_map, ← List.head?_eq_getElem?, List.head?_filter]
      have : (List.range (p - 1).toNat).find? (fun (c : Nat) => decide (g b (b.length - 1) * (1 + (c : Int)) % p = 1)) = some c := hc1
      rw [this, hinv]
      rfl
    have : op2 (frz (lcE (itR2 (aCons (cE (.int 1)) (aCons (varE 2) aNil))) (Tk.nm 7).k (tst (op2 (op2 (calE (aCons (op2 (varE 7) (op2 (varE 1) (op1 (cE (.int 1)) negO) ixO) mulO) aNil) intO) (varE 2) modO) (cE (.int 1)) eqO)) (varE 7) [7])) (cE (.int 0)) ixO { sl := [.im (Wd a), .im (Wd b), .im (.int p), .mu 0, .no, .no, .no, .no], mo := [.ob (.ls (a.map Dt.int))] } = .ok (.int (invP p (g b (b.length - 1)))) { sl := [.im (Wd a), .im (Wd b), .im (.int p), .mu 0, .no, .no, .no, .no], mo := [.ob (.ls (a.map Dt.int))] } := by
      rw [op2_run, frz_run', key]
      simp only [R.bind_ok, cE_run, ixO_lst, hhd, R.of_some]
    rw [asgS_run', this]
    rfl
  generalize hh : invP p (g b (b.length - 1)) = h at *
  have hin : ∀ (l : List Int) (f : Int) (i : Nat) (x7 : Sv), (0 ≤ f ∧ f < p) → i + b.length ≤ l.length → ∃ y7, forS (itR1 (aCons (calE (aCons (varE 1) aNil) lenO) aNil)) (Tk.nm 7).k (setS 3 (op2 (calE (aCons (op2 (ixV 3 (op2 (varE 5) (varE 7) addO)) (op2 (varE 6) (op2 (varE 1) (varE 7) ixO) mulO) subO) aNil) intO) (varE 2) modO) (op2 (varE 5) (varE 7) addO)) (T8r a b p h l (.im (.int (i : Int))) (.im (.int f)) x7) = .nx (T8r a b p h (rowR p (-f) i b l) (.im (.int (i : Int))) (.im (.int f)) y7) := by
    intro l f i x7 hf hl
    have hit : itR1 (aCons (calE (aCons (varE 1) aNil) lenO) aNil) (T8r a b p h l (.im (.int (i : Int))) (.im (.int f)) x7) = .ok (b.zipIdx.map fun q => Dt.int (q.2 : Int)) (T8r a b p h l (.im (.int (i : Int))) (.im (.int f)) x7) := by
      rw [← range_zip]
      refine itR1_run ?_ (by omega)
      have v1 : varE 1 (T8r a b p h l (.im (.int (i : Int))) (.im (.int f)) x7) = .ok (Wd b) (T8r a b p h l (.im (.int (i : Int))) (.im (.int f)) x7) := rfl
      rw [aCons_run, calE_run, aCons_run, v1]
      simp only [R.bind_ok, aNil_run, l2, R.of_some]
    obtain ⟨n, hnl⟩ : ∃ n, n = l.length := ⟨_, rfl⟩
    obtain ⟨S', f1, f2⟩ := forL_fold (k := (Tk.nm 7).k) (body := (setS 3 (op2 (calE (aCons (op2 (ixV 3 (op2 (varE 5) (varE 7) addO)) (op2 (varE 6) (op2 (varE 1) (varE 7) ixO) mulO) subO) aNil) intO) (varE 2) modO) (op2 (varE 5) (varE 7) addO))) (fun (q : Int × Nat) => Dt.int (q.2 : Int)) (fun _ (l : List Int) S => l.length = n ∧ ∃ y7, S = T8r a b p h l (.im (.int (i : Int))) (.im (.int f)) y7) (fun l q => addAt p l (i + q.2) (-f * q.1)) b.zipIdx 0 l _ ⟨hnl.symm, x7, rfl⟩ (fun j l z S hq hj hI => by
      obtain ⟨hl2, y7, rfl⟩ := hI
      obtain ⟨q1, q2, q3⟩ := zipIdx_g hq
      obtain ⟨y, m⟩ := z
      have hy := hb.1 y q3
      dsimp only at q1 q2 q3
      refine ⟨T8r a b p h l (.im (.int (i : Int))) (.im (.int f)) (.im (.int (m : Int))), T8r a b p h (addAt p l (i + m) (-f * y)) (.im (.int (i : Int))) (.im (.int f)) (.im (.int (m : Int))), rfl, .inl ?_, by rw [addAt_len, hl2], _, rfl⟩
      have hat : (op2 (varE 5) (varE 7) addO) (T8r a b p h l (.im (.int (i : Int))) (.im (.int f)) (.im (.int (m : Int)))) = .ok (.int ((i + m : Nat) : Int)) (T8r a b p h l (.im (.int (i : Int))) (.im (.int f)) (.im (.int (m : Int)))) := by
        rw [Int.natCast_add]
        rfl
      have hix := ixV_run3 (S := T8r a b p h l (.im (.int (i : Int))) (.im (.int f)) (.im (.int (m : Int)))) (i := 3) (k := 0) (l := l) rfl hat (by omega)
      refine (setA_run (p := p) (v := -f * y) (k := 0) (l := l) (j := i + m) ?_ rfl hat (by omega)).trans rfl
      have v6 : varE 6 (T8r a b p h l (.im (.int (i : Int))) (.im (.int f)) (.im (.int (m : Int)))) = .ok (.int f) (T8r a b p h l (.im (.int (i : Int))) (.im (.int f)) (.im (.int (m : Int)))) := rfl
      have v1 : varE 1 (T8r a b p h l (.im (.int (i : Int))) (.im (.int f)) (.im (.int (m : Int)))) = .ok (Wd b) (T8r a b p h l (.im (.int (i : Int))) (.im (.int f)) (.im (.int (m : Int)))) := rfl
      have v7 : varE 7 (T8r a b p h l (.im (.int (i : Int))) (.im (.int f)) (.im (.int (m : Int)))) = .ok (.int (m : Int)) (T8r a b p h l (.im (.int (i : Int))) (.im (.int f)) (.im (.int (m : Int)))) := rfl
      have v2 : varE 2 (T8r a b p h l (.im (.int (i : Int))) (.im (.int f)) (.im (.int (m : Int)))) = .ok (.int p) (T8r a b p h l (.im (.int (i : Int))) (.im (.int f)) (.im (.int (m : Int)))) := rfl
      have i2 := ixg3 (l := b) q1
      rw [← q2] at i2
      generalize T8r a b p h l (.im (.int (i : Int))) (.im (.int f)) (.im (.int (m : Int))) = U at *
      have hcm : CMul f y := cmulS (by omega)
      have hmu : mulO (.int f) (.int y) = some (.int (f * y)) := by simp [hcm]
      generalize op2 (varE 5) (varE 7) addO = G at *
      have hsub : g l (i + m) - f * y = g l (i + m) + -f * y := by grind
      simp only [op2_run, calE_run, aCons_run, aNil_run, hix, v6, v1, v7, v2, i2, R.bind_ok, hmu, R.of_some, hsu, h8, hmo, hsub])
    obtain ⟨_, y7, rfl⟩ := f2
    refine ⟨y7, ?_⟩
    rw [forS_run, hit, R.stmt_ok, f1, rfold]
    rfl
  have hit : itR3 (aCons (op2 (calE (aCons (varE 0) aNil) lenO) (calE (aCons (varE 1) aNil) lenO) subO) (aCons (op1 (cE (.int 1)) negO) (aCons (op1 (cE (.int 1)) negO) aNil))) (T8r a b p h a .no .no .no) = .ok ((downs (a.length + 1 - b.length)).map fun (i : Nat) => Dt.int (i : Int)) (T8r a b p h a .no .no .no) := by
    have v0 : varE 0 (T8r a b p h a .no .no .no) = .ok (Wd a) (T8r a b p h a .no .no .no) := rfl
    have v1 : varE 1 (T8r a b p h a .no .no .no) = .ok (Wd b) (T8r a b p h a .no .no .no) := rfl
    generalize T8r a b p h a .no .no .no = U at *
    unfold itR3
    have hop : (aCons (op2 (calE (aCons (varE 0) aNil) lenO) (calE (aCons (varE 1) aNil) lenO) subO) (aCons (op1 (cE (.int 1)) negO) (aCons (op1 (cE (.int 1)) negO) aNil))) U = .ok [.int ((a.length : Int) - (b.length : Int)), .int (-1), .int (-1)] U := by
      simp only [op2_run, calE_run, aCons_run, v0, v1, aNil_run, R.bind_ok, l1, l2, R.of_some, hsu, cE_run, op1_run, negO_i]
    rw [hop, R.bind_ok]
    dsimp only
    have e2 : (2 : Int) ^ 62 = 4611686018427387904 := by decide
    rw [if_pos (by rw [e2]; omega)]
    have hto : ((a.length : Int) - (b.length : Int) - -1).toNat = a.length + 1 - b.length := by omega
    rw [hto, ← downs_range]
    congr 1
    refine List.map_congr_left fun k hk => ?_
    have := List.mem_range.mp hk
    congr 1
    omega
  obtain ⟨S', f1, f2⟩ := forL_fold (k := (Tk.nm 5).k) (body := (seqS (asgS 6 (op2 (calE (aCons (op2 (ixV 3 (op2 (op2 (varE 5) (calE (aCons (varE 1) aNil) lenO) addO) (cE (.int 1)) subO)) (varE 4) mulO) aNil) intO) (varE 2) modO))
  (forS (itR1 (aCons (calE (aCons (varE 1) aNil) lenO) aNil)) (Tk.nm 7).k (setS 3 (op2 (calE (aCons (op2 (ixV 3 (op2 (varE 5) (varE 7) addO)) (op2 (varE 6) (op2 (varE 1) (varE 7) ixO) mulO) subO) aNil) intO) (varE 2) modO) (op2 (varE 5) (varE 7) addO))))) (fun (i : Nat) => Dt.int (i : Int)) (fun j (s : List Int × List Int) S => s.1.length = a.length ∧ Rg p s.1 ∧ ∃ y5 y6 y7, S = T8r a b p h s.1 y5 y6 y7) (fun (s : List Int × List Int) at_ => (rowR p (-(g s.1 (at_ + b.length - 1) * h % p)) at_ b s.1, s.2 ++ [g s.1 (at_ + b.length - 1) * h % p])) (downs (a.length + 1 - b.length)) 0 (a, []) _ ⟨rfl, ha, .no, .no, .no, rfl⟩ (fun j s i S hi hj hI => by
    obtain ⟨l, q⟩ := s
    obtain ⟨hl, hr, y5, y6, y7, rfl⟩ := hI
    dsimp only at hl hr
    have him := downs_mem hi
    have hfr : 0 ≤ g l (i + b.length - 1) * h % p ∧ g l (i + b.length - 1) * h % p < p := ⟨Int.emod_nonneg _ (by omega), Int.emod_lt_of_pos _ hp0⟩
    have e1 : (asgS 6 (op2 (calE (aCons (op2 (ixV 3 (op2 (op2 (varE 5) (calE (aCons (varE 1) aNil) lenO) addO) (cE (.int 1)) subO)) (varE 4) mulO) aNil) intO) (varE 2) modO)) (T8r a b p h l (.im (.int (i : Int))) y6 y7) = .nx (T8r a b p h l (.im (.int (i : Int))) (.im (.int (g l (i + b.length - 1) * h % p))) y7) := by
      have v5 : varE 5 (T8r a b p h l (.im (.int (i : Int))) y6 y7) = .ok (.int (i : Int)) (T8r a b p h l (.im (.int (i : Int))) y6 y7) := rfl
      have v1 : varE 1 (T8r a b p h l (.im (.int (i : Int))) y6 y7) = .ok (Wd b) (T8r a b p h l (.im (.int (i : Int))) y6 y7) := rfl
      have v4 : varE 4 (T8r a b p h l (.im (.int (i : Int))) y6 y7) = .ok (.int h) (T8r a b p h l (.im (.int (i : Int))) y6 y7) := rfl
      have v2 : varE 2 (T8r a b p h l (.im (.int (i : Int))) y6 y7) = .ok (.int p) (T8r a b p h l (.im (.int (i : Int))) y6 y7) := rfl
      have hix := ixV_run3 (S := T8r a b p h l (.im (.int (i : Int))) y6 y7) (i := 3) (k := 0) (l := l) (j := i + b.length - 1) (h := (op2 (op2 (varE 5) (calE (aCons (varE 1) aNil) lenO) addO) (cE (.int 1)) subO)) rfl (by
        have : ((i + b.length - 1 : Nat) : Int) = (i : Int) + (b.length : Int) - 1 := by omega
        rw [this]
        simp only [op2_run, v5, calE_run, aCons_run, v1, aNil_run, R.bind_ok, l2, R.of_some, had, cE_run, hsu]) (by omega)
      have hgr := hr.g hp0 (i + b.length - 1)
      have hcm : CMul (g l (i + b.length - 1)) h := cmulS (by omega)
      generalize hgv : g l (i + b.length - 1) = v at *
      have hmu : mulO (.int v) (.int h) = some (.int (v * h)) := by simp [hcm]
      have : (op2 (calE (aCons (op2 (ixV 3 (op2 (op2 (varE 5) (calE (aCons (varE 1) aNil) lenO) addO) (cE (.int 1)) subO)) (varE 4) mulO) aNil) intO) (varE 2) modO) (T8r a b p h l (.im (.int (i : Int))) y6 y7) = .ok (.int (v * h % p)) (T8r a b p h l (.im (.int (i : Int))) y6 y7) := by
        generalize T8r a b p h l (.im (.int (i : Int))) y6 y7 = U at *
        generalize (op2 (op2 (varE 5) (calE (aCons (varE 1) aNil) lenO) addO) (cE (.int 1)) subO) = G at *
        simp only [op2_run, calE_run, aCons_run, aNil_run, hix, R.bind_ok, v4, R.of_some, hmu, h8, v2, hmo]
      rw [asgS_run', this]
      rfl
    generalize hfg : g l (i + b.length - 1) * h % p = f at *
    obtain ⟨z7, e3⟩ := hin l f i y7 hfr (by omega)
    exact ⟨T8r a b p h l (.im (.int (i : Int))) y6 y7, T8r a b p h (rowR p (-f) i b l) (.im (.int (i : Int))) (.im (.int f)) z7, rfl, .inl (by rw [seqS_run, e1, seq_nx, e3]), by dsimp only; rw [rowR_len, hl], rowR_rg hp0 b i l hr, .im (.int (i : Int)), .im (.int f), z7, rfl⟩)
  rw [dfold] at f2
  have hdp : divP p a b = divR p h b (a.length + 1 - b.length) a [] := by unfold divP; rw [hh]
  rw [← hdp] at f2
  obtain ⟨_, _, y5, y6, y7, rfl⟩ := f2
  have ht := Fltrim_run (l := (divP p a b).1) (.inl rfl) (by rw [hdl]; omega)
  unfold Flrest runD m34_law_rest
  rw [hst, seqS_run, a1, seq_nx, seqS_run, a3, seq_nx, seqS_run, forS_run, hit, R.stmt_ok, f1, seq_nx]
  have v3 : varE 3 (T8r a b p h (divP p a b).1 y5 y6 y7) = .ok (.lst ((divP p a b).1.map Dt.int)) { sl := [.im (Wd a), .im (Wd b), .im (.int p), .mu 0, .im (.int h), y5, y6, y7], mo := [.fz (.lst ((divP p a b).1.map Dt.int))] } := rfl
  rw [retS_run, funE_run, aCons_run, v3]
  simp only [R.bind_ok, aNil_run, List.length_cons, List.length_nil, Nat.zero_add, if_true, ht, R.stmt_ok]
  rfl
def plusP (p : Int) (a b : List Int) : List Int := trim (addW p (a ++ List.replicate (max a.length b.length - a.length) 0) (b ++ List.replicate (max a.length b.length - b.length) 0))
theorem okW_rg {p : Int} {l : List Int} (h : Rg p l) (hl : l.length ≤ 1000) : okW p l = true := okW_iff.mpr ⟨hl, h⟩
theorem Rg.app {p : Int} {a b : List Int} (ha : Rg p a) (hb : Rg p b) : Rg p (a ++ b) := fun x hx => by
  rcases List.mem_append.mp hx with h | h
  · exact ha x h
  · exact hb x h
theorem Flplus_run {p : Int} {a b : List Int} (hp : isP p = true) (ha : Rg p a) (hb : Rg p b) (la : a.length ≤ 400) (lb : b.length ≤ 400) : Flplus [Wd a, Wd b, .int p] = .ok (Wd (plusP p a b)) := by
  have hc := isP_cases hp
  have hp0 : 0 < p := by omega
  have hst : st0 7 [Wd a, Wd b, .int p] = { sl := [.im (Wd a), .im (Wd b), .im (.int p), .no, .no, .no, .no], mo := [] } := rfl
  have l1 : lenO [Wd a] = some (.int (a.length : Int)) := lenO_wd _
  have l2 : lenO [Wd b] = some (.int (b.length : Int)) := lenO_wd _
  have hsu : ∀ u v : Int, subO (.int u) (.int v) = some (.int (u - v)) := fun _ _ => rfl
  obtain ⟨m, hm⟩ : ∃ m, max a.length b.length = m := ⟨_, rfl⟩
  have hmi : (if (b.length : Int) > (a.length : Int) then (b.length : Int) else (a.length : Int)) = (m : Int) := by split <;> omega
  have hma : maxO [.int (a.length : Int), .int (b.length : Int)] = some (.int (m : Int)) := by
    show some (Dt.int (if (b.length : Int) > (a.length : Int) then (b.length : Int) else (a.length : Int))) = _
    rw [hmi]
  have a1 : (asgS 3 (calE (aCons (calE (aCons (varE 0) aNil) lenO) (aCons (calE (aCons (varE 1) aNil) lenO) aNil)) maxO)) { sl := [.im (Wd a), .im (Wd b), .im (.int p), .no, .no, .no, .no], mo := [] } = .nx { sl := [.im (Wd a), .im (Wd b), .im (.int p), .im (.int (m : Int)), .no, .no, .no], mo := [] } := by
    have v0 : varE 0 { sl := [.im (Wd a), .im (Wd b), .im (.int p), .no, .no, .no, .no], mo := [] } = .ok (Wd a) { sl := [.im (Wd a), .im (Wd b), .im (.int p), .no, .no, .no, .no], mo := [] } := rfl
    have v1 : varE 1 { sl := [.im (Wd a), .im (Wd b), .im (.int p), .no, .no, .no, .no], mo := [] } = .ok (Wd b) { sl := [.im (Wd a), .im (Wd b), .im (.int p), .no, .no, .no, .no], mo := [] } := rfl
    rw [asgS_run', calE_run, aCons_run, calE_run, aCons_run, v0]
    simp only [R.bind_ok, aNil_run, l1, R.of_some, aCons_run, calE_run, v1, l2, hma, R.stmt_ok]
    rfl
  have pad : ∀ (d : List Int) (i : Nat) (x4 x5 : Sv) , d.length ≤ m → m ≤ 400 → lenO [Wd d] = some (.int (d.length : Int)) → varE i { sl := [.im (Wd a), .im (Wd b), .im (.int p), .im (.int (m : Int)), x4, x5, .no], mo := [] } = .ok (Wd d) { sl := [.im (Wd a), .im (Wd b), .im (.int p), .im (.int (m : Int)), x4, x5, .no], mo := [] } → (op2 (calE (aCons (varE i) aNil) tupO) (calE (aCons (frz (lcE (itR1 (aCons (op2 (varE 3) (calE (aCons (varE i) aNil) lenO) subO) aNil)) (Tk.nm 6).k yesT (cE (.int 0)) [6])) aNil) tupO) catT) { sl := [.im (Wd a), .im (Wd b), .im (.int p), .im (.int (m : Int)), x4, x5, .no], mo := [] } = .ok (Wd (d ++ List.replicate (m - d.length) 0)) { sl := [.im (Wd a), .im (Wd b), .im (.int p), .im (.int (m : Int)), x4, x5, .no], mo := [] } := by
    intro d i x4 x5 hd hm4 ld vi
    have v3 : varE 3 { sl := [.im (Wd a), .im (Wd b), .im (.int p), .im (.int (m : Int)), x4, x5, .no], mo := [] } = .ok (.int (m : Int)) { sl := [.im (Wd a), .im (Wd b), .im (.int p), .im (.int (m : Int)), x4, x5, .no], mo := [] } := rfl
    have hit : itR1 (aCons (op2 (varE 3) (calE (aCons (varE i) aNil) lenO) subO) aNil) { sl := [.im (Wd a), .im (Wd b), .im (.int p), .im (.int (m : Int)), x4, x5, .no], mo := [] } = .ok ((List.range (m - d.length)).map fun (i : Nat) => Dt.int (i : Int)) { sl := [.im (Wd a), .im (Wd b), .im (.int p), .im (.int (m : Int)), x4, x5, .no], mo := [] } := itR1_run (by
      have : ((m - d.length : Nat) : Int) = (m : Int) - (d.length : Int) := by omega
      rw [this, aCons_run, op2_run, v3]
      simp only [R.bind_ok, calE_run, aCons_run, vi, aNil_run, ld, R.of_some, hsu]) (by omega)
    have key := lcE_map (k := (Tk.nm 6).k) (e := cE (.int 0)) (own := [6]) (fun (i : Nat) => Dt.int (i : Int)) (fun _ => Dt.int 0) (List.range (m - d.length)) hit (fun k hk => ⟨_, kNm _ _ _, _, rfl, rfl⟩) (fun d T T' => Tk.mo) (by simp; omega)
    rw [List.map_const', List.length_range] at key
    have e2 : List.replicate (m - d.length) (Dt.int 0) = (List.replicate (m - d.length) (0 : Int)).map Dt.int := by rw [List.map_replicate]
    rw [e2] at key
    have hct : catT (Wd d) (.tup ((List.replicate (m - d.length) (0 : Int)).map Dt.int)) = some (Wd (d ++ List.replicate (m - d.length) 0)) := by
      have := catT_run (xs := d.map Dt.int) (ys := (List.replicate (m - d.length) (0 : Int)).map Dt.int) (by simp; omega)
      rw [← List.map_append] at this
      exact this
    have htu : tupO [Wd d] = some (Wd d) := rfl
    rw [op2_run, calE_run, aCons_run, vi]
    simp only [R.bind_ok, aNil_run, htu, R.of_some]
    rw [calE_run, aCons_run, frz_run', key]
    simp only [R.bind_ok, aNil_run, tupO_lst, R.of_some, hct]
  have hm4 : m ≤ 400 := by omega
  have p1 := pad a 0 .no .no (by omega) hm4 l1 rfl
  have a2 : (asgS 4 (op2 (calE (aCons (varE 0) aNil) tupO) (calE (aCons (frz (lcE (itR1 (aCons (op2 (varE 3) (calE (aCons (varE 0) aNil) lenO) subO) aNil)) (Tk.nm 6).k yesT (cE (.int 0)) [6])) aNil) tupO) catT)) { sl := [.im (Wd a), .im (Wd b), .im (.int p), .im (.int (m : Int)), .no, .no, .no], mo := [] } = .nx { sl := [.im (Wd a), .im (Wd b), .im (.int p), .im (.int (m : Int)), .im (Wd (a ++ List.replicate (m - a.length) 0)), .no, .no], mo := [] } := by
    rw [asgS_run', p1]
    rfl
  have p2 := pad b 1 (.im (Wd (a ++ List.replicate (m - a.length) 0))) .no (by omega) hm4 l2 rfl
  have a3 : (asgS 5 (op2 (calE (aCons (varE 1) aNil) tupO) (calE (aCons (frz (lcE (itR1 (aCons (op2 (varE 3) (calE (aCons (varE 1) aNil) lenO) subO) aNil)) (Tk.nm 6).k yesT (cE (.int 0)) [6])) aNil) tupO) catT)) { sl := [.im (Wd a), .im (Wd b), .im (.int p), .im (.int (m : Int)), .im (Wd (a ++ List.replicate (m - a.length) 0)), .no, .no], mo := [] } = .nx { sl := [.im (Wd a), .im (Wd b), .im (.int p), .im (.int (m : Int)), .im (Wd (a ++ List.replicate (m - a.length) 0)), .im (Wd (b ++ List.replicate (m - b.length) 0)), .no], mo := [] } := by
    rw [asgS_run', p2]
    rfl
  have o1 : Rg p (a ++ List.replicate (m - a.length) 0) := ha.app (zeros_rg hp0 _)
  have o2 : Rg p (b ++ List.replicate (m - b.length) 0) := hb.app (zeros_rg hp0 _)
  have n1 : (a ++ List.replicate (m - a.length) 0).length = m := by simp; omega
  have n2 : (b ++ List.replicate (m - b.length) 0).length = m := by simp; omega
  have hadd := FaddW_run (isP_okP hp) (okW_rg o1 (by omega)) (okW_rg o2 (by omega)) (by omega)
  have ht := Fltrim_run (l := addW p (a ++ List.replicate (m - a.length) 0) (b ++ List.replicate (m - b.length) 0)) (.inr rfl) (by rw [addW_len _ _ _ (by omega)]; omega)
  unfold Flplus runD m34_law_plus
  rw [hst, seqS_run, a1, seq_nx, seqS_run, a2, seq_nx, seqS_run, a3, seq_nx]
  have v4 : varE 4 { sl := [.im (Wd a), .im (Wd b), .im (.int p), .im (.int (m : Int)), .im (Wd (a ++ List.replicate (m - a.length) 0)), .im (Wd (b ++ List.replicate (m - b.length) 0)), .no], mo := [] } = .ok (Wd (a ++ List.replicate (m - a.length) 0)) { sl := [.im (Wd a), .im (Wd b), .im (.int p), .im (.int (m : Int)), .im (Wd (a ++ List.replicate (m - a.length) 0)), .im (Wd (b ++ List.replicate (m - b.length) 0)), .no], mo := [] } := rfl
  have v5 : varE 5 { sl := [.im (Wd a), .im (Wd b), .im (.int p), .im (.int (m : Int)), .im (Wd (a ++ List.replicate (m - a.length) 0)), .im (Wd (b ++ List.replicate (m - b.length) 0)), .no], mo := [] } = .ok (Wd (b ++ List.replicate (m - b.length) 0)) { sl := [.im (Wd a), .im (Wd b), .im (.int p), .im (.int (m : Int)), .im (Wd (a ++ List.replicate (m - a.length) 0)), .im (Wd (b ++ List.replicate (m - b.length) 0)), .no], mo := [] } := rfl
  have v2 : varE 2 { sl := [.im (Wd a), .im (Wd b), .im (.int p), .im (.int (m : Int)), .im (Wd (a ++ List.replicate (m - a.length) 0)), .im (Wd (b ++ List.replicate (m - b.length) 0)), .no], mo := [] } = .ok (.int p) { sl := [.im (Wd a), .im (Wd b), .im (.int p), .im (.int (m : Int)), .im (Wd (a ++ List.replicate (m - a.length) 0)), .im (Wd (b ++ List.replicate (m - b.length) 0)), .no], mo := [] } := rfl
  have hpl : plusP p a b = trim (addW p (a ++ List.replicate (m - a.length) 0) (b ++ List.replicate (m - b.length) 0)) := by unfold plusP; rw [hm]
  rw [hpl]
  generalize ({ sl := [.im (Wd a), .im (Wd b), .im (.int p), .im (.int (m : Int)), .im (Wd (a ++ List.replicate (m - a.length) 0)), .im (Wd (b ++ List.replicate (m - b.length) 0)), .no], mo := [] } : Ms) = U at *
  rw [retS_run, funE_run, aCons_run, funE_run, aCons_run, v4]
  simp only [R.bind_ok, aCons_run, v5, v2, aNil_run, List.length_cons, List.length_nil, Nat.zero_add, Nat.reduceAdd, if_true, hadd, ht, R.stmt_ok]
  rfl
theorem g_app0 (a : List Int) (m n : Nat) : g (a ++ List.replicate m 0) n = g a n := by
  unfold g
  rw [List.getD_eq_getElem?_getD, List.getD_eq_getElem?_getD]
  by_cases h : n < a.length
  · rw [List.getElem?_append_left h]
  · rw [List.getElem?_append_right (by omega), List.getElem?_eq_none (l := a) (by omega)]
    by_cases h2 : n - a.length < m
    · rw [List.getElem?_replicate, if_pos h2]; rfl
    · rw [List.getElem?_eq_none (by simp; omega)]
theorem g_addW3 {p : Int} (hp : 0 < p) : ∀ (a b : List Int) (n : Nat), a.length = b.length → g (addW p a b) n = if n < a.length then (g a n + g b n) % p else 0
  | [], [], n, _ => by simp [addW, g_nil]
  | x :: a, y :: b, n, h => by
    have hc : addW p (x :: a) (y :: b) = ((x + y) % p) :: addW p a b := rfl
    rw [hc]
    cases n with
    | zero => rw [g_cons0, g_cons0, g_cons0, if_pos (by simp)]
    | succ n =>
      rw [g_consS, g_consS, g_consS, g_addW3 hp a b n (by simpa using h)]
      simp
  | [], _ :: _, _, h => by simp at h
  | _ :: _, [], _, h => by simp at h
theorem plusP_spec {p : Int} {a b c : List Int} (hp : 0 < p) (ha : Rg p a) (hb : Rg p b) (hc : Pol p c) (h : ∀ n, Cg p (g c n) (g a n + g b n)) : plusP p a b = c := by
  have n1 : (a ++ List.replicate (max a.length b.length - a.length) 0).length = max a.length b.length := by simp; omega
  have n2 : (b ++ List.replicate (max a.length b.length - b.length) 0).length = max a.length b.length := by simp; omega
  rw [← hc.2]
  unfold plusP
  refine trim_ext fun n => ?_
  rw [g_addW3 hp _ _ _ (by rw [n1, n2]), n1, g_app0, g_app0]
  split
  · exact Cg.eq ⟨Int.emod_nonneg _ (by omega), Int.emod_lt_of_pos _ hp⟩ (hc.1.g hp n) ((Cg.mod p _).trans (h n).symm)
  · have h1 := h n
    rw [g_out (l := a) (by omega), g_out (l := b) (by omega)] at h1
    exact (Cg.eq (hc.1.g hp n) ⟨Int.le_refl _, hp⟩ h1).symm
theorem Flpoly_run {p : Int} {m : Nat} (hp : isP p = true) (hm : m ≤ 100) (q : Int × Int) : ∃ a q', Pol p a ∧ a.length ≤ m + 1 ∧ Flpoly (stD q) [.int p, .int (m : Int)] = .ok (Wd a) (stD q') := by
  have hc := isP_cases hp
  have h1 := Ftake_run (m := (m : Int) + 2) q (by omega)
  have hr := takeF_range (m := (m : Int) + 2) (by omega) q
  generalize takeF ((m : Int) + 2) q = u at *
  obtain ⟨v, q1⟩ := u
  dsimp only at h1 hr
  obtain ⟨v, rfl⟩ : ∃ k : Nat, v = (k : Int) := ⟨v.toNat, by omega⟩
  have h2 := Fword_run (n := v) (p := p) q1 (by omega) (by omega)
  have hw : (takeN p v q1).1.length = v ∧ Rg p (takeN p v q1).1 := ⟨takeN_len p v q1, takeN_range (by omega) v q1⟩
  generalize takeN p v q1 = u at *
  obtain ⟨w, q2⟩ := u
  dsimp only at h2 hw
  have hl : w.length = v := hw.1
  have ht := Fltrim_run (l := w) (.inr rfl) (by omega)
  refine ⟨trim w, q2, Pol.trim hw.2, by have := trim_len w; omega, ?_⟩
  unfold Flpoly runM m34_law_poly
  have hst : stM 3 (stD q) [.int p, .int (m : Int)] = { sl := [.mu 0, .im (.int p), .im (.int (m : Int))], mo := [.ob (.ls (stD q))] } := rfl
  rw [hst]
  have had : addO (.int (m : Int)) (.int 2) = some (.int ((m : Int) + 2)) := rfl
  simp [funM, muAt, had, h1, h2, ht, O.foM, mo0]
theorem Fmonic_run {p : Int} {a : List Int} (hp : isP p = true) (ha : Pol p a) (la : a.length ≤ 400) : Fmonic [Wd a, .int p] = .ok (Wd (monP p a)) := by
  have hst : st0 2 [Wd a, .int p] = { sl := [.im (Wd a), .im (.int p)], mo := [] } := rfl
  unfold Fmonic runD m34_monic monP
  rw [hst]
  have v0 : varE 0 { sl := [.im (Wd a), .im (.int p)], mo := [] } = .ok (Wd a) { sl := [.im (Wd a), .im (.int p)], mo := [] } := rfl
  have v1 : varE 1 { sl := [.im (Wd a), .im (.int p)], mo := [] } = .ok (.int p) { sl := [.im (Wd a), .im (.int p)], mo := [] } := rfl
  by_cases e : a = []
  · rw [if_pos e]
    subst e
    rfl
  · rw [if_neg e]
    have htr : truO (Wd a) = some true := by
      have : (a.map Dt.int).isEmpty = false := by simpa using e
      show some (!(a.map Dt.int).isEmpty) = some true
      rw [this]
      rfl
    have hend : ixO (Wd a) (.int (-1)) = some (.int (g a (a.length - 1))) := atI_end e
    have hinv := Finverse_run hp (ha.last hp e)
    have hsc := FscW_run (a := invP p (g a (a.length - 1))) (isP_okP hp) (okW_rg ha.1 (by omega))
    generalize ({ sl := [.im (Wd a), .im (.int p)], mo := [] } : Ms) = U at *
    unfold ifE
    rw [retS_run, truT_run, v0]
    simp only [R.bind_ok, htr, R.of_some, if_true, funE_run, aCons_run, v0, op2_run, op1_run, cE_run, negO_i, hend, v1, aNil_run, List.length_cons, List.length_nil, Nat.zero_add, Nat.reduceAdd, hinv, hsc, R.stmt_ok]
    rfl
def gcdP (p : Int) (a b : List Int) : List Int := monP p (gcdR p 64 a b)
def G7 (a b : List Int) (p : Int) (one other : List Int) (x5 x6 : Sv) : Ms := { sl := [.im (Wd a), .im (Wd b), .im (.int p), .im (Wd one), .im (Wd other), x5, x6], mo := [] }
noncomputable def gcB (CR : Addr) : Ms → O := (seqS (asgT (Tk.tp [5, 6]) (funE 3 (aCons (varE 3) (aCons (varE 4) (aCons (varE 2) aNil))) (Fdivd CR)))
  (seqS (moveS 3 4)
  (moveS 4 6)))
theorem gcd_whl {CR : Addr} {p : Int} {a b : List Int} (hp : isP p = true) : ∀ (n fuel : Nat) (one other : List Int) (x5 x6 : Sv), Pol p one → Pol p other → one.length ≤ 400 → other.length ≤ 400 → other.length < n → n ≤ fuel → ∃ z y5 y6, whl (truT (varE 4)) (gcB CR) fuel (G7 a b p one other x5 x6) = .nx (G7 a b p (gcdR p n one other) z y5 y6)
  | 0, _, _, _, _, _, _, _, _, _, h, _ => absurd h (by omega)
  | n + 1, 0, _, _, _, _, _, _, _, _, _, h => absurd h (by omega)
  | n + 1, fuel + 1, one, other, x5, x6, h1, h2, l1, l2, hlt, hle => by
    have v3 : varE 3 (G7 a b p one other x5 x6) = .ok (Wd one) (G7 a b p one other x5 x6) := rfl
    have v4 : varE 4 (G7 a b p one other x5 x6) = .ok (Wd other) (G7 a b p one other x5 x6) := rfl
    have v2 : varE 2 (G7 a b p one other x5 x6) = .ok (.int p) (G7 a b p one other x5 x6) := rfl
    rw [gcdR]
    by_cases e : other = []
    · rw [if_pos e]
      subst e
      exact ⟨[], x5, x6, rfl⟩
    · rw [if_neg e]
      obtain ⟨_, d2, d3, _⟩ := div_main hp h1.1 h2 e
      have hd := Fdivd_run (CR := CR) hp h1.1 h2 e l1 l2
      obtain ⟨z, y5, y6, ih⟩ := gcd_whl (CR := CR) (a := a) (b := b) hp n fuel other (restP p one other) (.im (Wd (quoP p one other))) (.im (Wd (restP p one other))) h2 d3 l2 (by omega) (by omega) (by omega)
      refine ⟨z, y5, y6, ?_⟩
      rw [← ih]
      have htr : truO (Wd other) = some true := by
        have : (other.map Dt.int).isEmpty = false := by simpa using e
        show some (!(other.map Dt.int).isEmpty) = some true
        rw [this]
        rfl
      have e1 : asgT (Tk.tp [5, 6]) (funE 3 (aCons (varE 3) (aCons (varE 4) (aCons (varE 2) aNil))) (Fdivd CR)) (G7 a b p one other x5 x6) = .nx (G7 a b p one other (.im (Wd (quoP p one other))) (.im (Wd (restP p one other)))) := by
        have : funE 3 (aCons (varE 3) (aCons (varE 4) (aCons (varE 2) aNil))) (Fdivd CR) (G7 a b p one other x5 x6) = .ok (.tup [Wd (quoP p one other), Wd (restP p one other)]) (G7 a b p one other x5 x6) := by
          rw [funE_run, aCons_run, v3, R.bind_ok, aCons_run, v4, R.bind_ok, aCons_run, v2]
          simp only [R.bind_ok, aNil_run, List.length_cons, List.length_nil, Nat.zero_add, Nat.reduceAdd, if_true, hd]
        unfold asgT
        rw [this]
        rfl
      have hb : gcB CR (G7 a b p one other x5 x6) = .nx (G7 a b p other (restP p one other) (.im (Wd (quoP p one other))) (.im (Wd (restP p one other)))) := by
        unfold gcB
        rw [seqS_run, e1, seq_nx]
        rfl
      conv => lhs; unfold whl
      rw [truT_run, v4]
      simp only [R.bind_ok, htr, R.of_some, R.stmt_ok, if_true, hb]
theorem Fgcd_run {CR : Addr} {p : Int} {a b : List Int} (hp : isP p = true) (ha : Pol p a) (hb : Pol p b) (la : a.length ≤ 60) (lb : b.length ≤ 60) : Fgcd CR [Wd a, Wd b, .int p] = .ok (Wd (gcdP p a b)) := by
  have hst : st0 7 [Wd a, Wd b, .int p] = { sl := [.im (Wd a), .im (Wd b), .im (.int p), .no, .no, .no, .no], mo := [] } := rfl
  obtain ⟨z, y5, y6, hw⟩ := gcd_whl (CR := CR) (a := a) (b := b) hp 64 64 a b .no .no ha hb (by omega) (by omega) (by omega) (Nat.le_refl _)
  obtain ⟨g1, g2, g3⟩ := gcdR_spec hp 64 a b ha hb (by omega)
  have hgl : (gcdR p 64 a b).length ≤ 60 := by
    have key : ∀ (n : Nat) (a b : List Int), Pol p a → Pol p b → a.length ≤ 60 → b.length ≤ 60 → (gcdR p n a b).length ≤ 60 := by
      intro n
      induction n with
      | zero => intro a b _ _ h _; exact h
      | succ n ih =>
        intro a b h1 h2 l1 l2
        rw [gcdR]
        by_cases e : b = []
        · rw [if_pos e]; exact l1
        · rw [if_neg e]
          obtain ⟨_, d2, d3, _⟩ := div_main hp h1.1 h2 e
          exact ih _ _ h2 d3 l2 (by omega)
    exact key 64 a b ha hb la lb
  have hm := Fmonic_run hp g1 (by omega)
  unfold Fgcd runD m34_common_divisor
  have a1 : moveS 3 0 (st0 7 [Wd a, Wd b, .int p]) = .nx { sl := [.im (Wd a), .im (Wd b), .im (.int p), .im (Wd a), .no, .no, .no], mo := [] } := rfl
  have a2 : moveS 4 1 { sl := [.im (Wd a), .im (Wd b), .im (.int p), .im (Wd a), .no, .no, .no], mo := [] } = .nx (G7 a b p a b .no .no) := rfl
  have a3 : (whileS (fun _ => 64) (truT (varE 4)) (seqS (asgT (Tk.tp [5, 6]) (funE 3 (aCons (varE 3) (aCons (varE 4) (aCons (varE 2) aNil))) (Fdivd CR)))
  (seqS (moveS 3 4)
  (moveS 4 6)))) (G7 a b p a b .no .no) = .nx (G7 a b p (gcdR p 64 a b) z y5 y6) := hw
  rw [seqS_run, a1, seq_nx, seqS_run, a2, seq_nx, seqS_run, a3, seq_nx]
  have v3 : varE 3 (G7 a b p (gcdR p 64 a b) z y5 y6) = .ok (Wd (gcdR p 64 a b)) (G7 a b p (gcdR p 64 a b) z y5 y6) := rfl
  have v2 : varE 2 (G7 a b p (gcdR p 64 a b) z y5 y6) = .ok (.int p) (G7 a b p (gcdR p 64 a b) z y5 y6) := rfl
  rw [retS_run, funE_run, aCons_run, v3, R.bind_ok, aCons_run, v2]
  simp only [R.bind_ok, aNil_run, List.length_cons, List.length_nil, Nat.zero_add, Nat.reduceAdd, if_true, hm, R.stmt_ok]
  rfl
def monsP (p : Int) (n : Nat) : List (List Int) := (allN p n).map (· ++ [1])
theorem Flmon_run {p : Int} {n : Nat} (hp : isP p = true) (hn : n ≤ 8) (hl : p.toNat ^ n ≤ 10000) : Flmon [.int (n : Int), .int p] = .ok (.lst ((monsP p n).map Wd)) := by
  have hst : st0 3 [.int (n : Int), .int p] = { sl := [.im (.int (n : Int)), .im (.int p), .no], mo := [] } := rfl
  have hf := Fall_run (n := n) (isP_okP hp) (by omega) hl
  have hit : itS (funE 2 (aCons (varE 0) (aCons (varE 1) aNil)) Fall) { sl := [.im (.int (n : Int)), .im (.int p), .no], mo := [] } = .ok ((allN p n).map Wd) { sl := [.im (.int (n : Int)), .im (.int p), .no], mo := [] } := by
    rw [itS_run, funE_run, aCons_run, varE_im (d := .int (n : Int)) rfl, R.bind_ok, aCons_run, varE_im (d := .int p) rfl]
    simp only [R.bind_ok, aNil_run, List.length_cons, List.length_nil, Nat.zero_add, Nat.reduceAdd, if_true, hf, seqOf_lst, R.of_some]
  have key := lcE_map (k := (Tk.nm 2).k) (e := op2 (varE 2) (tupE (aCons (cE (.int 1)) aNil)) catT) (own := [2]) Wd (fun w => Wd (w ++ [1])) (allN p n) hit (fun w hw => ⟨{ sl := [.im (.int (n : Int)), .im (.int p), .im (Wd w)], mo := [] }, rfl, { sl := [.im (.int (n : Int)), .im (.int p), .im (Wd w)], mo := [] }, by
    have hwl := allN_wlen p n w hw
    have hct : catT (Wd w) (.tup [.int 1]) = some (Wd (w ++ [1])) := by
      have := catT_run (xs := w.map Dt.int) (ys := [Dt.int 1]) (by simp; omega)
      rw [show w.map Dt.int ++ [Dt.int 1] = (w ++ [1]).map Dt.int by simp] at this
      exact this
    have v2 : varE 2 { sl := [.im (.int (n : Int)), .im (.int p), .im (Wd w)], mo := [] } = .ok (Wd w) { sl := [.im (.int (n : Int)), .im (.int p), .im (Wd w)], mo := [] } := rfl
    generalize ({ sl := [.im (.int (n : Int)), .im (.int p), .im (Wd w)], mo := [] } : Ms) = U at *
    simp only [op2_run, v2, R.bind_ok, tupE_run, aCons_run, cE_run, aNil_run, List.length_cons, List.length_nil, Nat.zero_add, Nat.reduceLeDiff, if_true, hct, R.of_some], rfl⟩) (fun d T T' => Tk.mo) (by rw [allN_len]; omega)
  unfold Flmon runD m34_law_monics
  rw [hst, retS_run, frz_run', key]
  simp only [R.bind_ok, R.stmt_ok]
  unfold monsP
  rw [List.map_map]
  rfl
theorem Flref34_run {CR : Addr} {p : Int} {a : List Int} : Flref34 CR [Wd a, .int p] = .ok (.bl true) := by
  have hst : st0 3 [Wd a, .int p] = { sl := [.im (Wd a), .im (.int p), .no], mo := [] } := rfl
  have hd := Fdivd_zero (CR := CR) (p := p) (a := a)
  unfold Flref34 runD m34_law_refuses
  rw [hst]
  have e0 : dropS (funE 3 (aCons (varE 0) (aCons (tupE aNil) (aCons (varE 1) aNil))) (Fdivd CR)) { sl := [.im (Wd a), .im (.int p), .no], mo := [] } = .er ⟨CR, ["reason"], [.str "zero"]⟩ { sl := [.im (Wd a), .im (.int p), .no], mo := [] } := by
    have v0 : varE 0 { sl := [.im (Wd a), .im (.int p), .no], mo := [] } = .ok (Wd a) { sl := [.im (Wd a), .im (.int p), .no], mo := [] } := rfl
    have v1 : varE 1 { sl := [.im (Wd a), .im (.int p), .no], mo := [] } = .ok (.int p) { sl := [.im (Wd a), .im (.int p), .no], mo := [] } := rfl
    generalize ({ sl := [.im (Wd a), .im (.int p), .no], mo := [] } : Ms) = U at *
    rw [dropS_run, funE_run, aCons_run, v0]
    simp only [R.bind_ok, aCons_run, tupE_run, aNil_run, List.length_nil, Nat.zero_le, if_true, v1, List.length_cons, Nat.zero_add, Nat.reduceAdd, hd]
    rfl
  rw [seqS_run]
  unfold tryQ
  rw [e0]
  dsimp only
  rw [if_pos ⟨rfl, rfl, by simp⟩]
  simp [O.fo, O.seq]

end Lq

namespace Lq
open PySem PySem.Spec PyProof.Rows L2
def LX34 (ss : List Int) (q : Int × Int) (a2 a3 a4 a5 a6 a7 a8 a9 : Sv) : Ms := { sl := [.im (scrD ss), .mu 0, a2, a3, a4, a5, a6, a7, a8, a9], mo := [.ob (.ls (stD q))] }
theorem neO_wd3 (a b : List Int) : neO (Wd a) (Wd b) = some (.bl (!decide (a = b))) := neO_en a b
theorem eqO_wd3 (a b : List Int) : eqO (Wd a) (Wd b) = some (.bl (decide (a = b))) := eqO_en a b
theorem isT3 (xs : List Dt) : isiO "tuple" (.tup xs) = some (.bl true) := by unfold isiO tyN; rfl
theorem prime_isP3 (q : Int × Int) : isP (primeF q) = true := decide_eq_true (primeF_mem q)
structure Dr (p : Int) (a b : List Int) : Prop where
  pa : Pol p a
  pb : Pol p b
  la : a.length ≤ 7
  lb : b.length ≤ 7
theorem gcdP_spec {p : Int} {a b : List Int} (hp : isP p = true) (h : Dr p a b) : Pol p (gcdP p a b) ∧ (gcdP p a b).length ≤ 60 ∧ (gcdP p a b = [] ↔ a = [] ∧ b = []) ∧ (gcdP p a b ≠ [] → g (gcdP p a b) ((gcdP p a b).length - 1) = 1) ∧ ∀ d, (InI p d (g a) ∧ InI p d (g b)) ↔ InI p d (g (gcdP p a b)) := by
  have l1 := h.la
  have l2 := h.lb
  obtain ⟨g1, g2, g3⟩ := gcdR_spec hp 64 a b h.pa h.pb (by omega)
  obtain ⟨m1, m2, m3, m4⟩ := monP_spec hp g1
  have hgl : ∀ (n : Nat) (a b : List Int), Pol p a → Pol p b → a.length ≤ 60 → b.length ≤ 60 → (gcdR p n a b).length ≤ 60 := by
    intro n
    induction n with
    | zero => intro a b _ _ h _; exact h
    | succ n ih =>
      intro a b h1 h2 l1 l2
      rw [gcdR]
      by_cases e : b = []
      · rw [if_pos e]; exact l1
      · rw [if_neg e]
        obtain ⟨_, d2, d3, _⟩ := div_main hp h1.1 h2 e
        exact ih _ _ h2 d3 l2 (by omega)
  have hg := hgl 64 a b h.pa h.pb (by omega) (by omega)
  have hiff : gcdP p a b = [] ↔ gcdR p 64 a b = [] := by
    unfold gcdP
    rw [← List.length_eq_zero_iff, m2, List.length_eq_zero_iff]
  refine ⟨m1, by unfold gcdP; rw [m2]; exact hg, hiff.trans g3, fun hn => ?_, fun d => (g2 d).trans (m4 d)⟩
  have := m3 (fun e => hn (hiff.mpr e))
  unfold gcdP
  rw [m2]
  exact this
theorem monsP_pol {p : Int} (hp : isP p = true) {n : Nat} : ∀ r ∈ monsP p n, Pol p r ∧ r ≠ [] ∧ r.length = n + 1 := fun r hr => by
  have hc := isP_cases hp
  unfold monsP at hr
  obtain ⟨w, hw, rfl⟩ := List.mem_map.mp hr
  obtain ⟨w1, w2⟩ := allN_mem.mp hw
  refine ⟨⟨fun x hx => ?_, trim_snoc (by decide) w⟩, by simp, by simp [w1]⟩
  rcases List.mem_append.mp hx with hx | hx
  · exact w2 x hx
  · rw [List.mem_singleton.mp hx]; omega

theorem k34_0 {ss : List Int} (h : ss.length ≤ 63) : (asgN 1 (funN 1 (aCons (varE 0) aNil) Fstate)) (st0 10 [scrD ss]) = .nx (LX34 ss (stL ss) .no .no .no .no .no .no .no .no) := by
  have hf := Fstate_run h
  have hst : st0 10 [scrD ss] = { sl := [.im (scrD ss), .no, .no, .no, .no, .no, .no, .no, .no, .no], mo := [] } := rfl
  rw [hst]
  simp [funN, hf, LX34]
theorem k34_1 {ss : List Int} {q : Int × Int} : ∃ p q', isP p = true ∧ (asgS 2 (funM 0 1 aNil Fprime)) (LX34 ss q .no .no .no .no .no .no .no .no) = .nx (LX34 ss q' (.im (.int p)) .no .no .no .no .no .no .no) := by
  have hf : Fprime (stD q) [] = .ok (.int (primeF q)) (stD (takeF 6 q).2) := rfl
  refine ⟨primeF q, (takeF 6 q).2, prime_isP3 q, ?_⟩
  simp [LX34, funM, muAt, hf]
theorem k34_2 {ss : List Int} {q : Int × Int} {p : Int} (hp : isP p = true) : ∃ a q', Pol p a ∧ a.length ≤ 4 ∧ (asgS 3 (funM 2 1 (aCons (varE 2) (aCons (cE (.int 3)) aNil)) Flpoly)) (LX34 ss q (.im (.int p)) .no .no .no .no .no .no .no) = .nx (LX34 ss q' (.im (.int p)) (.im (Wd a)) .no .no .no .no .no .no) := by
  obtain ⟨a, q', h1, h2, hf⟩ := Flpoly_run (m := 3) hp (by decide) q
  refine ⟨a, q', h1, h2, ?_⟩
  have hf' : Flpoly (stD q) [.int p, .int 3] = .ok (Wd a) (stD q') := hf
  simp [LX34, funM, muAt, hf']
theorem k34_3 {ss : List Int} {q : Int × Int} {p : Int} {a : List Int} (hp : isP p = true) : ∃ b q', Pol p b ∧ b.length ≤ 4 ∧ (asgS 4 (funM 2 1 (aCons (varE 2) (aCons (cE (.int 3)) aNil)) Flpoly)) (LX34 ss q (.im (.int p)) (.im (Wd a)) .no .no .no .no .no .no) = .nx (LX34 ss q' (.im (.int p)) (.im (Wd a)) (.im (Wd b)) .no .no .no .no .no) := by
  obtain ⟨b, q', h1, h2, hf⟩ := Flpoly_run (m := 3) hp (by decide) q
  refine ⟨b, q', h1, h2, ?_⟩
  have hf' : Flpoly (stD q) [.int p, .int 3] = .ok (Wd b) (stD q') := hf
  simp [LX34, funM, muAt, hf']
theorem k34_4 {ss : List Int} {q : Int × Int} {p : Int} {a b : List Int} (hp : isP p = true) : ∃ c q', Pol p c ∧ c.length ≤ 3 ∧ (asgS 5 (funM 2 1 (aCons (varE 2) (aCons (cE (.int 2)) aNil)) Flpoly)) (LX34 ss q (.im (.int p)) (.im (Wd a)) (.im (Wd b)) .no .no .no .no .no) = .nx (LX34 ss q' (.im (.int p)) (.im (Wd a)) (.im (Wd b)) (.im (Wd c)) .no .no .no .no) := by
  obtain ⟨c, q', h1, h2, hf⟩ := Flpoly_run (m := 2) hp (by decide) q
  refine ⟨c, q', h1, h2, ?_⟩
  have hf' : Flpoly (stD q) [.int p, .int 2] = .ok (Wd c) (stD q') := hf
  simp [LX34, funM, muAt, hf']
theorem k34_5 {ss : List Int} {q : Int × Int} {p : Int} {a b c : List Int} (hp : isP p = true) (ha : Pol p a) (hb : Pol p b) (hc : Pol p c) (la : a.length ≤ 4) (lb : b.length ≤ 4) (lc : c.length ≤ 3) : ∃ a' b' q', Dr p a' b' ∧ (ifS (tst (op2 (funM 1 1 (aCons (cE (.int 2)) aNil) Ftake) (cE (.int 0)) eqO)) (seqS (asgS 3 (funE 3 (aCons (varE 3) (aCons (varE 5) (aCons (varE 2) aNil))) Fltimes))
  (asgS 4 (funE 3 (aCons (varE 4) (aCons (varE 5) (aCons (varE 2) aNil))) Fltimes))) nilS) (LX34 ss q (.im (.int p)) (.im (Wd a)) (.im (Wd b)) (.im (Wd c)) .no .no .no .no) = .nx (LX34 ss q' (.im (.int p)) (.im (Wd a')) (.im (Wd b')) (.im (Wd c)) .no .no .no .no) := by
  have hc' := isP_cases hp
  have hf := Ftake_run (m := 2) q (by decide)
  generalize takeF 2 q = u at *
  obtain ⟨v, q'⟩ := u
  dsimp only at hf
  by_cases h : v = 0
  · have t1 := Fltimes_run hp ha.1 hc.1 (by omega) (by omega)
    have t2 := Fltimes_run hp hb.1 hc.1 (by omega) (by omega)
    have l1 := timesP_len p a c
    have l2 := timesP_len p b c
    refine ⟨timesP p a c, timesP p b c, q', ⟨⟨timesP_rg (by omega) _ _, timesP_trim _ _ _⟩, ⟨timesP_rg (by omega) _ _, timesP_trim _ _ _⟩, by omega, by omega⟩, ?_⟩
    simp [LX34, funM, muAt, hf, h, t1, t2]
  · refine ⟨a, b, q', ⟨ha, hb, by omega, by omega⟩, ?_⟩
    simp [LX34, funM, muAt, hf, h]
theorem k34_6 (CR : Addr) {ss : List Int} {q : Int × Int} {p : Int} {a b c : List Int} (hp : isP p = true) (h : Dr p a b) : (ifS (orT (tst (op2 (funE 3 (aCons (varE 3) (aCons (varE 4) (aCons (varE 2) aNil))) Ftimes) (funE 3 (aCons (varE 3) (aCons (varE 4) (aCons (varE 2) aNil))) Fltimes) neO)) (notT (truT (funE 2 (aCons (varE 3) (aCons (varE 2) aNil)) (Flref34 CR))))) (retS (cE (.bl false))) nilS) (LX34 ss q (.im (.int p)) (.im (Wd a)) (.im (Wd b)) (.im (Wd c)) .no .no .no .no) = .nx (LX34 ss q (.im (.int p)) (.im (Wd a)) (.im (Wd b)) (.im (Wd c)) .no .no .no .no) := by
  have l1 := h.la
  have l2 := h.lb
  have t1 := Ftimes_run hp h.pa.1 h.pb.1 (by omega) (by omega)
  have t2 := Fltimes_run hp h.pa.1 h.pb.1 (by omega) (by omega)
  have t3 := Flref34_run (CR := CR) (p := p) (a := a)
  have n1 := neO_wd3 (timesP p a b) (timesP p a b)
  rw [decide_eq_true rfl] at n1
  have v3 : varE 3 (LX34 ss q (.im (.int p)) (.im (Wd a)) (.im (Wd b)) (.im (Wd c)) .no .no .no .no) = .ok (Wd a) (LX34 ss q (.im (.int p)) (.im (Wd a)) (.im (Wd b)) (.im (Wd c)) .no .no .no .no) := varE_im rfl
  have v4 : varE 4 (LX34 ss q (.im (.int p)) (.im (Wd a)) (.im (Wd b)) (.im (Wd c)) .no .no .no .no) = .ok (Wd b) (LX34 ss q (.im (.int p)) (.im (Wd a)) (.im (Wd b)) (.im (Wd c)) .no .no .no .no) := varE_im rfl
  have v2 : varE 2 (LX34 ss q (.im (.int p)) (.im (Wd a)) (.im (Wd b)) (.im (Wd c)) .no .no .no .no) = .ok (.int p) (LX34 ss q (.im (.int p)) (.im (Wd a)) (.im (Wd b)) (.im (Wd c)) .no .no .no .no) := varE_im rfl
  generalize (LX34 ss q (.im (.int p)) (.im (Wd a)) (.im (Wd b)) (.im (Wd c)) .no .no .no .no) = U at *
  simp only [ifS_run, orT_run, notT_run, truT_run, tst_run', op2_run, funE_run, aCons_run, aNil_run, v3, v4, v2, R.bind_ok, List.length_cons, List.length_nil, Nat.zero_add, Nat.reduceAdd, if_true, t1, t2, t3, n1, R.of_some, Bool.not_true, Bool.false_eq_true, if_false, truO, R.stmt_ok]
  rfl
theorem k34_7 (CR : Addr) {ss : List Int} {q : Int × Int} {p : Int} {a b c : List Int} (hp : isP p = true) (h : Dr p a b) : ∃ y, (ifS (tst (op2 (calE (aCons (varE 4) aNil) lenO) (cE (.int 0)) gtO)) (seqS (asgS 8 (funE 3 (aCons (varE 3) (aCons (varE 4) (aCons (varE 2) aNil))) (Fdivd CR)))
  (seqS (ifS (orT (notT (truT (op1 (varE 8) (isiO "tuple")))) (orT (tst (op2 (calE (aCons (varE 8) aNil) lenO) (cE (.int 2)) neO)) (tst (op2 (calE (aCons (op2 (varE 8) (cE (.int 1)) ixO) aNil) lenO) (calE (aCons (varE 4) aNil) lenO) geO)))) (retS (cE (.bl false))) nilS)
  (ifS (orT (tst (op2 (funE 3 (aCons (funE 3 (aCons (op2 (varE 8) (cE (.int 0)) ixO) (aCons (varE 4) (aCons (varE 2) aNil))) Fltimes) (aCons (op2 (varE 8) (cE (.int 1)) ixO) (aCons (varE 2) aNil))) Flplus) (varE 3) neO)) (tst (op2 (op2 (varE 8) (cE (.int 1)) ixO) (funE 3 (aCons (varE 3) (aCons (varE 4) (aCons (varE 2) aNil))) Flrest) neO))) (retS (cE (.bl false))) nilS))) nilS) (LX34 ss q (.im (.int p)) (.im (Wd a)) (.im (Wd b)) (.im (Wd c)) .no .no .no .no) = .nx (LX34 ss q (.im (.int p)) (.im (Wd a)) (.im (Wd b)) (.im (Wd c)) .no .no y .no) := by
  have hc := isP_cases hp
  have l1 := h.la
  have l2 := h.lb
  have lb := lenO_wd b
  have v3 : varE 3 (LX34 ss q (.im (.int p)) (.im (Wd a)) (.im (Wd b)) (.im (Wd c)) .no .no .no .no) = .ok (Wd a) (LX34 ss q (.im (.int p)) (.im (Wd a)) (.im (Wd b)) (.im (Wd c)) .no .no .no .no) := varE_im rfl
  have v4 : varE 4 (LX34 ss q (.im (.int p)) (.im (Wd a)) (.im (Wd b)) (.im (Wd c)) .no .no .no .no) = .ok (Wd b) (LX34 ss q (.im (.int p)) (.im (Wd a)) (.im (Wd b)) (.im (Wd c)) .no .no .no .no) := varE_im rfl
  have v2 : varE 2 (LX34 ss q (.im (.int p)) (.im (Wd a)) (.im (Wd b)) (.im (Wd c)) .no .no .no .no) = .ok (.int p) (LX34 ss q (.im (.int p)) (.im (Wd a)) (.im (Wd b)) (.im (Wd c)) .no .no .no .no) := varE_im rfl
  by_cases e : b = []
  · refine ⟨.no, ?_⟩
    have hz : gtO (.int (b.length : Int)) (.int 0) = some (.bl false) := by rw [e]; rfl
    generalize hU : (LX34 ss q (.im (.int p)) (.im (Wd a)) (.im (Wd b)) (.im (Wd c)) .no .no .no .no) = U at *
    rw [ifS_run, tst_run', op2_run, calE_run, aCons_run, v4]
    simp only [R.bind_ok, aNil_run, lb, R.of_some, cE_run, hz, R.stmt_ok, Bool.false_eq_true, if_false]
    rfl
  · refine ⟨.im (.tup [Wd (quoP p a b), Wd (restP p a b)]), ?_⟩
    have hbl : 0 < b.length := List.length_pos_iff.mpr e
    have hz : gtO (.int (b.length : Int)) (.int 0) = some (.bl true) := by
      have : (0 : Int) < (b.length : Int) := by omega
      generalize (b.length : Int) = z at *
      simp [this]
    have hcond : (tst (op2 (calE (aCons (varE 4) aNil) lenO) (cE (.int 0)) gtO)) (LX34 ss q (.im (.int p)) (.im (Wd a)) (.im (Wd b)) (.im (Wd c)) .no .no .no .no) = .ok true (LX34 ss q (.im (.int p)) (.im (Wd a)) (.im (Wd b)) (.im (Wd c)) .no .no .no .no) := by
      generalize (LX34 ss q (.im (.int p)) (.im (Wd a)) (.im (Wd b)) (.im (Wd c)) .no .no .no .no) = U at *
      simp only [tst_run', op2_run, calE_run, aCons_run, v4, R.bind_ok, aNil_run, lb, R.of_some, cE_run, hz]
    obtain ⟨d1, d2, d3, d4, d5, d6⟩ := div_main hp h.pa.1 h.pb e
    have hd := Fdivd_run (CR := CR) hp h.pa.1 h.pb e (by omega) (by omega)
    have hr := Flrest_run hp h.pa.1 h.pb e (by omega) (by omega)
    have hq := Fltimes_run hp d4 h.pb.1 (by omega) (by omega)
    have hl3 := timesP_len p (quoP p a b) b
    have hpl := Flplus_run hp (timesP_rg (p := p) (by omega) (quoP p a b) b) d3.1 (by omega) (by omega)
    have hps := plusP_spec (p := p) (by omega) (timesP_rg (p := p) (by omega) (quoP p a b) b) d3.1 h.pa (fun n => by
      obtain ⟨k, hk⟩ := d1 n
      obtain ⟨m, hm⟩ := g_timesP p (quoP p a b) b n
      exact ⟨k - m, by grind⟩)
    rw [hps] at hpl
    have n1 := neO_wd3 a a
    have n2 := neO_wd3 (restP p a b) (restP p a b)
    rw [decide_eq_true rfl] at n1 n2
    have ltold : lenO [.tup [Wd (quoP p a b), Wd (restP p a b)]] = some (.int 2) := rfl
    have lrest := lenO_wd (restP p a b)
    have hge : geO (.int ((restP p a b).length : Int)) (.int (b.length : Int)) = some (.bl false) := by
      have : ¬ (b.length : Int) ≤ ((restP p a b).length : Int) := by omega
      generalize ((restP p a b).length : Int) = z at *
      generalize (b.length : Int) = y at *
      simp [this]
    have ht1 := isT3 [Wd (quoP p a b), Wd (restP p a b)]
    have x0 : ixO (.tup [Wd (quoP p a b), Wd (restP p a b)]) (.int 0) = some (Wd (quoP p a b)) := rfl
    have x1 : ixO (.tup [Wd (quoP p a b), Wd (restP p a b)]) (.int 1) = some (Wd (restP p a b)) := rfl
    have e1 : (asgS 8 (funE 3 (aCons (varE 3) (aCons (varE 4) (aCons (varE 2) aNil))) (Fdivd CR))) (LX34 ss q (.im (.int p)) (.im (Wd a)) (.im (Wd b)) (.im (Wd c)) .no .no .no .no) = .nx (LX34 ss q (.im (.int p)) (.im (Wd a)) (.im (Wd b)) (.im (Wd c)) .no .no (.im (.tup [Wd (quoP p a b), Wd (restP p a b)])) .no) := by
      have : funE 3 (aCons (varE 3) (aCons (varE 4) (aCons (varE 2) aNil))) (Fdivd CR) (LX34 ss q (.im (.int p)) (.im (Wd a)) (.im (Wd b)) (.im (Wd c)) .no .no .no .no) = .ok (.tup [Wd (quoP p a b), Wd (restP p a b)]) (LX34 ss q (.im (.int p)) (.im (Wd a)) (.im (Wd b)) (.im (Wd c)) .no .no .no .no) := by
        generalize (LX34 ss q (.im (.int p)) (.im (Wd a)) (.im (Wd b)) (.im (Wd c)) .no .no .no .no) = U at *
        simp only [funE_run, aCons_run, v3, v4, v2, R.bind_ok, aNil_run, List.length_cons, List.length_nil, Nat.zero_add, Nat.reduceAdd, if_true, hd]
      rw [asgS_run', this]
      rfl
    have w3 : varE 3 (LX34 ss q (.im (.int p)) (.im (Wd a)) (.im (Wd b)) (.im (Wd c)) .no .no (.im (.tup [Wd (quoP p a b), Wd (restP p a b)])) .no) = .ok (Wd a) (LX34 ss q (.im (.int p)) (.im (Wd a)) (.im (Wd b)) (.im (Wd c)) .no .no (.im (.tup [Wd (quoP p a b), Wd (restP p a b)])) .no) := varE_im rfl
    have w4 : varE 4 (LX34 ss q (.im (.int p)) (.im (Wd a)) (.im (Wd b)) (.im (Wd c)) .no .no (.im (.tup [Wd (quoP p a b), Wd (restP p a b)])) .no) = .ok (Wd b) (LX34 ss q (.im (.int p)) (.im (Wd a)) (.im (Wd b)) (.im (Wd c)) .no .no (.im (.tup [Wd (quoP p a b), Wd (restP p a b)])) .no) := varE_im rfl
    have w2 : varE 2 (LX34 ss q (.im (.int p)) (.im (Wd a)) (.im (Wd b)) (.im (Wd c)) .no .no (.im (.tup [Wd (quoP p a b), Wd (restP p a b)])) .no) = .ok (.int p) (LX34 ss q (.im (.int p)) (.im (Wd a)) (.im (Wd b)) (.im (Wd c)) .no .no (.im (.tup [Wd (quoP p a b), Wd (restP p a b)])) .no) := varE_im rfl
    have w8 : varE 8 (LX34 ss q (.im (.int p)) (.im (Wd a)) (.im (Wd b)) (.im (Wd c)) .no .no (.im (.tup [Wd (quoP p a b), Wd (restP p a b)])) .no) = .ok (.tup [Wd (quoP p a b), Wd (restP p a b)]) (LX34 ss q (.im (.int p)) (.im (Wd a)) (.im (Wd b)) (.im (Wd c)) .no .no (.im (.tup [Wd (quoP p a b), Wd (restP p a b)])) .no) := varE_im rfl
    have e2 : (ifS (orT (notT (truT (op1 (varE 8) (isiO "tuple")))) (orT (tst (op2 (calE (aCons (varE 8) aNil) lenO) (cE (.int 2)) neO)) (tst (op2 (calE (aCons (op2 (varE 8) (cE (.int 1)) ixO) aNil) lenO) (calE (aCons (varE 4) aNil) lenO) geO)))) (retS (cE (.bl false))) nilS) (LX34 ss q (.im (.int p)) (.im (Wd a)) (.im (Wd b)) (.im (Wd c)) .no .no (.im (.tup [Wd (quoP p a b), Wd (restP p a b)])) .no) = .nx (LX34 ss q (.im (.int p)) (.im (Wd a)) (.im (Wd b)) (.im (Wd c)) .no .no (.im (.tup [Wd (quoP p a b), Wd (restP p a b)])) .no) := by
      generalize (LX34 ss q (.im (.int p)) (.im (Wd a)) (.im (Wd b)) (.im (Wd c)) .no .no (.im (.tup [Wd (quoP p a b), Wd (restP p a b)])) .no) = U at *
      generalize Dt.tup [Wd (quoP p a b), Wd (restP p a b)] = D at *
      simp only [ifS_run, orT_run, notT_run, truT_run, op1_run, tst_run', op2_run, calE_run, aCons_run, aNil_run, w8, w4, R.bind_ok, ht1, R.of_some, truO, Bool.not_true, Bool.false_eq_true, if_false, ltold, cE_run, neO_int, decide_true, x1, lrest, lb, hge, R.stmt_ok]
      rfl
    have e3 : (ifS (orT (tst (op2 (funE 3 (aCons (funE 3 (aCons (op2 (varE 8) (cE (.int 0)) ixO) (aCons (varE 4) (aCons (varE 2) aNil))) Fltimes) (aCons (op2 (varE 8) (cE (.int 1)) ixO) (aCons (varE 2) aNil))) Flplus) (varE 3) neO)) (tst (op2 (op2 (varE 8) (cE (.int 1)) ixO) (funE 3 (aCons (varE 3) (aCons (varE 4) (aCons (varE 2) aNil))) Flrest) neO))) (retS (cE (.bl false))) nilS) (LX34 ss q (.im (.int p)) (.im (Wd a)) (.im (Wd b)) (.im (Wd c)) .no .no (.im (.tup [Wd (quoP p a b), Wd (restP p a b)])) .no) = .nx (LX34 ss q (.im (.int p)) (.im (Wd a)) (.im (Wd b)) (.im (Wd c)) .no .no (.im (.tup [Wd (quoP p a b), Wd (restP p a b)])) .no) := by
      generalize (LX34 ss q (.im (.int p)) (.im (Wd a)) (.im (Wd b)) (.im (Wd c)) .no .no (.im (.tup [Wd (quoP p a b), Wd (restP p a b)])) .no) = U at *
      generalize Dt.tup [Wd (quoP p a b), Wd (restP p a b)] = D at *
      simp only [ifS_run, orT_run, tst_run', op2_run, funE_run, aCons_run, aNil_run, w8, w4, w3, w2, cE_run, R.bind_ok, x0, x1, R.of_some, List.length_cons, List.length_nil, Nat.zero_add, Nat.reduceAdd, if_true, hq, hpl, hr, n1, n2, Bool.not_true, Bool.false_eq_true, if_false, R.stmt_ok]
      rfl
    rw [ifS_run, hcond, R.stmt_ok, if_pos rfl, seqS_run, e1, seq_nx, seqS_run, e2, seq_nx, e3]
theorem k34_8 (CR : Addr) {ss : List Int} {q : Int × Int} {p : Int} {a b c : List Int} {y8 : Sv} (hp : isP p = true) (h : Dr p a b) : (asgS 6 (funE 3 (aCons (varE 3) (aCons (varE 4) (aCons (varE 2) aNil))) (Fgcd CR))) (LX34 ss q (.im (.int p)) (.im (Wd a)) (.im (Wd b)) (.im (Wd c)) .no .no y8 .no) = .nx (LX34 ss q (.im (.int p)) (.im (Wd a)) (.im (Wd b)) (.im (Wd c)) (.im (Wd (gcdP p a b))) .no y8 .no) := by
  have l1 := h.la
  have l2 := h.lb
  have hg := Fgcd_run (CR := CR) hp h.pa h.pb (by omega) (by omega)
  have v3 : varE 3 (LX34 ss q (.im (.int p)) (.im (Wd a)) (.im (Wd b)) (.im (Wd c)) .no .no y8 .no) = .ok (Wd a) (LX34 ss q (.im (.int p)) (.im (Wd a)) (.im (Wd b)) (.im (Wd c)) .no .no y8 .no) := varE_im rfl
  have v4 : varE 4 (LX34 ss q (.im (.int p)) (.im (Wd a)) (.im (Wd b)) (.im (Wd c)) .no .no y8 .no) = .ok (Wd b) (LX34 ss q (.im (.int p)) (.im (Wd a)) (.im (Wd b)) (.im (Wd c)) .no .no y8 .no) := varE_im rfl
  have v2 : varE 2 (LX34 ss q (.im (.int p)) (.im (Wd a)) (.im (Wd b)) (.im (Wd c)) .no .no y8 .no) = .ok (.int p) (LX34 ss q (.im (.int p)) (.im (Wd a)) (.im (Wd b)) (.im (Wd c)) .no .no y8 .no) := varE_im rfl
  have : funE 3 (aCons (varE 3) (aCons (varE 4) (aCons (varE 2) aNil))) (Fgcd CR) (LX34 ss q (.im (.int p)) (.im (Wd a)) (.im (Wd b)) (.im (Wd c)) .no .no y8 .no) = .ok (Wd (gcdP p a b)) (LX34 ss q (.im (.int p)) (.im (Wd a)) (.im (Wd b)) (.im (Wd c)) .no .no y8 .no) := by
    generalize (LX34 ss q (.im (.int p)) (.im (Wd a)) (.im (Wd b)) (.im (Wd c)) .no .no y8 .no) = U at *
    simp only [funE_run, aCons_run, v3, v4, v2, R.bind_ok, aNil_run, List.length_cons, List.length_nil, Nat.zero_add, Nat.reduceAdd, if_true, hg]
  rw [asgS_run', this]
  rfl
theorem k34_9a {ss : List Int} {q : Int × Int} {p : Int} {a b c : List Int} {y8 : Sv} (hp : isP p = true) (h : Dr p a b) (e : a = [] ∧ b = []) : ∃ S', (ifS (tst (op2 (op2 (calE (aCons (varE 3) aNil) lenO) (calE (aCons (varE 4) aNil) lenO) addO) (cE (.int 0)) eqO)) (retS (op2 (varE 6) (tupE aNil) eqO)) nilS) (LX34 ss q (.im (.int p)) (.im (Wd a)) (.im (Wd b)) (.im (Wd c)) (.im (Wd (gcdP p a b))) .no y8 .no) = .rt (.bl true) S' := by
  have hg := ((gcdP_spec hp h).2.2.1).mpr e
  have la := lenO_wd a
  have lb := lenO_wd b
  have hz : addO (.int (a.length : Int)) (.int (b.length : Int)) = some (.int 0) := by rw [e.1, e.2]; rfl
  have e1 : eqO (Wd (gcdP p a b)) (.tup []) = some (.bl true) := by
    rw [hg]
    exact (eqO_wd3 [] []).trans (by rw [decide_eq_true rfl])
  have v3 : varE 3 (LX34 ss q (.im (.int p)) (.im (Wd a)) (.im (Wd b)) (.im (Wd c)) (.im (Wd (gcdP p a b))) .no y8 .no) = .ok (Wd a) (LX34 ss q (.im (.int p)) (.im (Wd a)) (.im (Wd b)) (.im (Wd c)) (.im (Wd (gcdP p a b))) .no y8 .no) := varE_im rfl
  have v4 : varE 4 (LX34 ss q (.im (.int p)) (.im (Wd a)) (.im (Wd b)) (.im (Wd c)) (.im (Wd (gcdP p a b))) .no y8 .no) = .ok (Wd b) (LX34 ss q (.im (.int p)) (.im (Wd a)) (.im (Wd b)) (.im (Wd c)) (.im (Wd (gcdP p a b))) .no y8 .no) := varE_im rfl
  have v6 : varE 6 (LX34 ss q (.im (.int p)) (.im (Wd a)) (.im (Wd b)) (.im (Wd c)) (.im (Wd (gcdP p a b))) .no y8 .no) = .ok (Wd (gcdP p a b)) (LX34 ss q (.im (.int p)) (.im (Wd a)) (.im (Wd b)) (.im (Wd c)) (.im (Wd (gcdP p a b))) .no y8 .no) := varE_im rfl
  refine ⟨(LX34 ss q (.im (.int p)) (.im (Wd a)) (.im (Wd b)) (.im (Wd c)) (.im (Wd (gcdP p a b))) .no y8 .no), ?_⟩
  generalize (LX34 ss q (.im (.int p)) (.im (Wd a)) (.im (Wd b)) (.im (Wd c)) (.im (Wd (gcdP p a b))) .no y8 .no) = U at *
  simp only [ifS_run, tst_run', op2_run, calE_run, aCons_run, aNil_run, v3, v4, v6, R.bind_ok, la, lb, R.of_some, hz, cE_run, eqO_int, decide_true, R.stmt_ok, if_true, retS_run, tupE_run, List.length_nil, Nat.zero_le, e1]
theorem k34_9b {ss : List Int} {q : Int × Int} {p : Int} {a b c : List Int} {y8 : Sv} (e : ¬ (a = [] ∧ b = [])) : (ifS (tst (op2 (op2 (calE (aCons (varE 3) aNil) lenO) (calE (aCons (varE 4) aNil) lenO) addO) (cE (.int 0)) eqO)) (retS (op2 (varE 6) (tupE aNil) eqO)) nilS) (LX34 ss q (.im (.int p)) (.im (Wd a)) (.im (Wd b)) (.im (Wd c)) (.im (Wd (gcdP p a b))) .no y8 .no) = .nx (LX34 ss q (.im (.int p)) (.im (Wd a)) (.im (Wd b)) (.im (Wd c)) (.im (Wd (gcdP p a b))) .no y8 .no) := by
  have la := lenO_wd a
  have lb := lenO_wd b
  have hne : decide ((a.length : Int) + (b.length : Int) = 0) = false := decide_eq_false fun h => e ⟨List.length_eq_zero_iff.mp (by omega), List.length_eq_zero_iff.mp (by omega)⟩
  have hz : addO (.int (a.length : Int)) (.int (b.length : Int)) = some (.int ((a.length : Int) + (b.length : Int))) := rfl
  have v3 : varE 3 (LX34 ss q (.im (.int p)) (.im (Wd a)) (.im (Wd b)) (.im (Wd c)) (.im (Wd (gcdP p a b))) .no y8 .no) = .ok (Wd a) (LX34 ss q (.im (.int p)) (.im (Wd a)) (.im (Wd b)) (.im (Wd c)) (.im (Wd (gcdP p a b))) .no y8 .no) := varE_im rfl
  have v4 : varE 4 (LX34 ss q (.im (.int p)) (.im (Wd a)) (.im (Wd b)) (.im (Wd c)) (.im (Wd (gcdP p a b))) .no y8 .no) = .ok (Wd b) (LX34 ss q (.im (.int p)) (.im (Wd a)) (.im (Wd b)) (.im (Wd c)) (.im (Wd (gcdP p a b))) .no y8 .no) := varE_im rfl
  generalize (LX34 ss q (.im (.int p)) (.im (Wd a)) (.im (Wd b)) (.im (Wd c)) (.im (Wd (gcdP p a b))) .no y8 .no) = U at *
  simp only [ifS_run, tst_run', op2_run, calE_run, aCons_run, aNil_run, v3, v4, R.bind_ok, la, lb, R.of_some, hz, cE_run, eqO_int, hne, R.stmt_ok, Bool.false_eq_true, if_false]
  rfl
theorem k34_10 {ss : List Int} {q : Int × Int} {p : Int} {a b c : List Int} {y8 : Sv} (hp : isP p = true) (h : Dr p a b) (e : ¬ (a = [] ∧ b = [])) : (ifS (orT (tst (op2 (calE (aCons (varE 6) aNil) lenO) (cE (.int 0)) eqO)) (orT (tst (op2 (op2 (varE 6) (op1 (cE (.int 1)) negO) ixO) (cE (.int 1)) neO)) (orT (tst (op2 (funE 3 (aCons (varE 3) (aCons (varE 6) (aCons (varE 2) aNil))) Flrest) (tupE aNil) neO)) (tst (op2 (funE 3 (aCons (varE 4) (aCons (varE 6) (aCons (varE 2) aNil))) Flrest) (tupE aNil) neO))))) (retS (cE (.bl false))) nilS) (LX34 ss q (.im (.int p)) (.im (Wd a)) (.im (Wd b)) (.im (Wd c)) (.im (Wd (gcdP p a b))) .no y8 .no) = .nx (LX34 ss q (.im (.int p)) (.im (Wd a)) (.im (Wd b)) (.im (Wd c)) (.im (Wd (gcdP p a b))) .no y8 .no) := by
  have l1 := h.la
  have l2 := h.lb
  obtain ⟨g1, g2, g3, g4, g5⟩ := gcdP_spec hp h
  have hn : gcdP p a b ≠ [] := fun z => e (g3.mp z)
  have hself := (g5 (gcdP p a b)).mpr (InI.self _)
  have r1 := Flrest_run hp h.pa.1 g1 hn (by omega) (by omega)
  have r2 := Flrest_run hp h.pb.1 g1 hn (by omega) (by omega)
  rw [(rest_iff hp h.pa.1 g1 hn).mpr hself.1] at r1
  rw [(rest_iff hp h.pb.1 g1 hn).mpr hself.2] at r2
  have hend : ixO (Wd (gcdP p a b)) (.int (-1)) = some (.int 1) := by
    have := atI_end hn
    rw [g4 hn] at this
    exact this
  have lg := lenO_wd (gcdP p a b)
  have hpos : 0 < (gcdP p a b).length := List.length_pos_iff.mpr hn
  have hz : decide (((gcdP p a b).length : Int) = 0) = false := decide_eq_false (by omega)
  have n1 : neO (Wd []) (.tup []) = some (.bl false) := (neO_wd3 [] []).trans (by rw [decide_eq_true rfl]; rfl)
  have v3 : varE 3 (LX34 ss q (.im (.int p)) (.im (Wd a)) (.im (Wd b)) (.im (Wd c)) (.im (Wd (gcdP p a b))) .no y8 .no) = .ok (Wd a) (LX34 ss q (.im (.int p)) (.im (Wd a)) (.im (Wd b)) (.im (Wd c)) (.im (Wd (gcdP p a b))) .no y8 .no) := varE_im rfl
  have v4 : varE 4 (LX34 ss q (.im (.int p)) (.im (Wd a)) (.im (Wd b)) (.im (Wd c)) (.im (Wd (gcdP p a b))) .no y8 .no) = .ok (Wd b) (LX34 ss q (.im (.int p)) (.im (Wd a)) (.im (Wd b)) (.im (Wd c)) (.im (Wd (gcdP p a b))) .no y8 .no) := varE_im rfl
  have v2 : varE 2 (LX34 ss q (.im (.int p)) (.im (Wd a)) (.im (Wd b)) (.im (Wd c)) (.im (Wd (gcdP p a b))) .no y8 .no) = .ok (.int p) (LX34 ss q (.im (.int p)) (.im (Wd a)) (.im (Wd b)) (.im (Wd c)) (.im (Wd (gcdP p a b))) .no y8 .no) := varE_im rfl
  have v6 : varE 6 (LX34 ss q (.im (.int p)) (.im (Wd a)) (.im (Wd b)) (.im (Wd c)) (.im (Wd (gcdP p a b))) .no y8 .no) = .ok (Wd (gcdP p a b)) (LX34 ss q (.im (.int p)) (.im (Wd a)) (.im (Wd b)) (.im (Wd c)) (.im (Wd (gcdP p a b))) .no y8 .no) := varE_im rfl
  generalize (LX34 ss q (.im (.int p)) (.im (Wd a)) (.im (Wd b)) (.im (Wd c)) (.im (Wd (gcdP p a b))) .no y8 .no) = U at *
  simp only [ifS_run, orT_run, tst_run', op2_run, calE_run, op1_run, funE_run, tupE_run, aCons_run, aNil_run, v3, v4, v2, v6, R.bind_ok, lg, R.of_some, cE_run, eqO_int, hz, Bool.false_eq_true, if_false, negO_i, hend, neO_int, decide_true, Bool.not_true, List.length_cons, List.length_nil, Nat.zero_add, Nat.reduceAdd, if_true, Nat.zero_le, r1, r2, n1, R.stmt_ok]
  rfl
theorem k34_11i {ss : List Int} {q : Int × Int} {p : Int} {a b c : List Int} {y8 : Sv} {n : Nat} {y9 : Sv} (hp : isP p = true) (h : Dr p a b) (e : ¬ (a = [] ∧ b = [])) (hn2 : n ≤ 2) : ∃ z9, (forS (itS (funE 2 (aCons (varE 7) (aCons (varE 2) aNil)) Flmon)) (Tk.nm 9).k (ifS (andT (tst (op2 (funE 3 (aCons (varE 3) (aCons (varE 9) (aCons (varE 2) aNil))) Flrest) (tupE aNil) eqO)) (andT (tst (op2 (funE 3 (aCons (varE 4) (aCons (varE 9) (aCons (varE 2) aNil))) Flrest) (tupE aNil) eqO)) (tst (op2 (funE 3 (aCons (varE 6) (aCons (varE 9) (aCons (varE 2) aNil))) Flrest) (tupE aNil) neO)))) (retS (cE (.bl false))) nilS)) (LX34 ss q (.im (.int p)) (.im (Wd a)) (.im (Wd b)) (.im (Wd c)) (.im (Wd (gcdP p a b))) (.im (.int (n : Int))) y8 y9) = .nx (LX34 ss q (.im (.int p)) (.im (Wd a)) (.im (Wd b)) (.im (Wd c)) (.im (Wd (gcdP p a b))) (.im (.int (n : Int))) y8 z9) := by
  have hc := isP_cases hp
  have l1 := h.la
  have l2 := h.lb
  obtain ⟨g1, g2, g3, g4, g5⟩ := gcdP_spec hp h
  have hpw : p.toNat ^ n ≤ 7 ^ 2 := Nat.le_trans (Nat.pow_le_pow_left (by omega : p.toNat ≤ 7) n) (Nat.pow_le_pow_right (by decide) hn2)
  have hm := Flmon_run (n := n) hp (by omega) (by omega)
  have hit : (itS (funE 2 (aCons (varE 7) (aCons (varE 2) aNil)) Flmon)) (LX34 ss q (.im (.int p)) (.im (Wd a)) (.im (Wd b)) (.im (Wd c)) (.im (Wd (gcdP p a b))) (.im (.int (n : Int))) y8 y9) = .ok ((monsP p n).map Wd) (LX34 ss q (.im (.int p)) (.im (Wd a)) (.im (Wd b)) (.im (Wd c)) (.im (Wd (gcdP p a b))) (.im (.int (n : Int))) y8 y9) := by
    have v7 : varE 7 (LX34 ss q (.im (.int p)) (.im (Wd a)) (.im (Wd b)) (.im (Wd c)) (.im (Wd (gcdP p a b))) (.im (.int (n : Int))) y8 y9) = .ok (.int (n : Int)) (LX34 ss q (.im (.int p)) (.im (Wd a)) (.im (Wd b)) (.im (Wd c)) (.im (Wd (gcdP p a b))) (.im (.int (n : Int))) y8 y9) := varE_im rfl
    have v2 : varE 2 (LX34 ss q (.im (.int p)) (.im (Wd a)) (.im (Wd b)) (.im (Wd c)) (.im (Wd (gcdP p a b))) (.im (.int (n : Int))) y8 y9) = .ok (.int p) (LX34 ss q (.im (.int p)) (.im (Wd a)) (.im (Wd b)) (.im (Wd c)) (.im (Wd (gcdP p a b))) (.im (.int (n : Int))) y8 y9) := varE_im rfl
    generalize (LX34 ss q (.im (.int p)) (.im (Wd a)) (.im (Wd b)) (.im (Wd c)) (.im (Wd (gcdP p a b))) (.im (.int (n : Int))) y8 y9) = U at *
    simp only [itS_run, funE_run, aCons_run, v7, v2, R.bind_ok, aNil_run, List.length_cons, List.length_nil, Nat.zero_add, Nat.reduceAdd, if_true, hm, seqOf_lst, R.of_some]
  obtain ⟨S', f1, f2⟩ := forL_fold (k := (Tk.nm 9).k) (body := (ifS (andT (tst (op2 (funE 3 (aCons (varE 3) (aCons (varE 9) (aCons (varE 2) aNil))) Flrest) (tupE aNil) eqO)) (andT (tst (op2 (funE 3 (aCons (varE 4) (aCons (varE 9) (aCons (varE 2) aNil))) Flrest) (tupE aNil) eqO)) (tst (op2 (funE 3 (aCons (varE 6) (aCons (varE 9) (aCons (varE 2) aNil))) Flrest) (tupE aNil) neO)))) (retS (cE (.bl false))) nilS)) Wd (fun _ (_ : Unit) S => ∃ z9, S = (LX34 ss q (.im (.int p)) (.im (Wd a)) (.im (Wd b)) (.im (Wd c)) (.im (Wd (gcdP p a b))) (.im (.int (n : Int))) y8 z9)) (fun u _ => u) (monsP p n) 0 () _ ⟨y9, rfl⟩ (fun j u r S hr hj hI => by
    obtain ⟨z9, rfl⟩ := hI
    obtain ⟨q1, q2, q3⟩ := monsP_pol hp r hr
    refine ⟨(LX34 ss q (.im (.int p)) (.im (Wd a)) (.im (Wd b)) (.im (Wd c)) (.im (Wd (gcdP p a b))) (.im (.int (n : Int))) y8 (.im (Wd r))), (LX34 ss q (.im (.int p)) (.im (Wd a)) (.im (Wd b)) (.im (Wd c)) (.im (Wd (gcdP p a b))) (.im (.int (n : Int))) y8 (.im (Wd r))), rfl, .inl ?_, _, rfl⟩
    have r1 := Flrest_run hp h.pa.1 q1 q2 (by omega) (by omega)
    have r2 := Flrest_run hp h.pb.1 q1 q2 (by omega) (by omega)
    have r3 := Flrest_run hp g1.1 q1 q2 (by omega) (by omega)
    have himp : restP p a r = [] → restP p b r = [] → restP p (gcdP p a b) r = [] := fun u v =>
      (rest_iff hp g1.1 q1 q2).mpr ((g5 r).mp ⟨(rest_iff hp h.pa.1 q1 q2).mp u, (rest_iff hp h.pb.1 q1 q2).mp v⟩)
    have n1 : eqO (Wd (restP p a r)) (.tup []) = some (.bl (decide (restP p a r = []))) := eqO_wd3 _ []
    have n2 : eqO (Wd (restP p b r)) (.tup []) = some (.bl (decide (restP p b r = []))) := eqO_wd3 _ []
    have n3 : neO (Wd (restP p (gcdP p a b) r)) (.tup []) = some (.bl (!decide (restP p (gcdP p a b) r = []))) := neO_wd3 _ []
    have v3 : varE 3 (LX34 ss q (.im (.int p)) (.im (Wd a)) (.im (Wd b)) (.im (Wd c)) (.im (Wd (gcdP p a b))) (.im (.int (n : Int))) y8 (.im (Wd r))) = .ok (Wd a) (LX34 ss q (.im (.int p)) (.im (Wd a)) (.im (Wd b)) (.im (Wd c)) (.im (Wd (gcdP p a b))) (.im (.int (n : Int))) y8 (.im (Wd r))) := varE_im rfl
    have v4 : varE 4 (LX34 ss q (.im (.int p)) (.im (Wd a)) (.im (Wd b)) (.im (Wd c)) (.im (Wd (gcdP p a b))) (.im (.int (n : Int))) y8 (.im (Wd r))) = .ok (Wd b) (LX34 ss q (.im (.int p)) (.im (Wd a)) (.im (Wd b)) (.im (Wd c)) (.im (Wd (gcdP p a b))) (.im (.int (n : Int))) y8 (.im (Wd r))) := varE_im rfl
    have v6 : varE 6 (LX34 ss q (.im (.int p)) (.im (Wd a)) (.im (Wd b)) (.im (Wd c)) (.im (Wd (gcdP p a b))) (.im (.int (n : Int))) y8 (.im (Wd r))) = .ok (Wd (gcdP p a b)) (LX34 ss q (.im (.int p)) (.im (Wd a)) (.im (Wd b)) (.im (Wd c)) (.im (Wd (gcdP p a b))) (.im (.int (n : Int))) y8 (.im (Wd r))) := varE_im rfl
    have v9 : varE 9 (LX34 ss q (.im (.int p)) (.im (Wd a)) (.im (Wd b)) (.im (Wd c)) (.im (Wd (gcdP p a b))) (.im (.int (n : Int))) y8 (.im (Wd r))) = .ok (Wd r) (LX34 ss q (.im (.int p)) (.im (Wd a)) (.im (Wd b)) (.im (Wd c)) (.im (Wd (gcdP p a b))) (.im (.int (n : Int))) y8 (.im (Wd r))) := varE_im rfl
    have v2 : varE 2 (LX34 ss q (.im (.int p)) (.im (Wd a)) (.im (Wd b)) (.im (Wd c)) (.im (Wd (gcdP p a b))) (.im (.int (n : Int))) y8 (.im (Wd r))) = .ok (.int p) (LX34 ss q (.im (.int p)) (.im (Wd a)) (.im (Wd b)) (.im (Wd c)) (.im (Wd (gcdP p a b))) (.im (.int (n : Int))) y8 (.im (Wd r))) := varE_im rfl
    generalize (LX34 ss q (.im (.int p)) (.im (Wd a)) (.im (Wd b)) (.im (Wd c)) (.im (Wd (gcdP p a b))) (.im (.int (n : Int))) y8 (.im (Wd r))) = U at *
    generalize restP p a r = R1 at *
    generalize restP p b r = R2 at *
    generalize restP p (gcdP p a b) r = R3 at *
    by_cases h1 : R1 = []
    · by_cases h2 : R2 = []
      · have h3 := himp h1 h2
        rw [decide_eq_true h1] at n1
        rw [decide_eq_true h2] at n2
        rw [decide_eq_true h3] at n3
        simp only [ifS_run, andT_run, tst_run', op2_run, funE_run, tupE_run, aCons_run, aNil_run, v3, v4, v6, v9, v2, R.bind_ok, List.length_cons, List.length_nil, Nat.zero_add, Nat.reduceAdd, if_true, Nat.zero_le, r1, r2, r3, n1, n2, n3, R.of_some, Bool.not_true, Bool.false_eq_true, if_false, R.stmt_ok]
        rfl
      · rw [decide_eq_true h1] at n1
        rw [decide_eq_false h2] at n2
        simp only [ifS_run, andT_run, tst_run', op2_run, funE_run, tupE_run, aCons_run, aNil_run, v3, v4, v6, v9, v2, R.bind_ok, List.length_cons, List.length_nil, Nat.zero_add, Nat.reduceAdd, if_true, Nat.zero_le, r1, r2, n1, n2, R.of_some, Bool.false_eq_true, if_false, R.stmt_ok]
        rfl
    · rw [decide_eq_false h1] at n1
      simp only [ifS_run, andT_run, tst_run', op2_run, funE_run, tupE_run, aCons_run, aNil_run, v3, v9, v2, R.bind_ok, List.length_cons, List.length_nil, Nat.zero_add, Nat.reduceAdd, if_true, Nat.zero_le, r1, n1, R.of_some, Bool.false_eq_true, if_false, R.stmt_ok]
      rfl)
  obtain ⟨z9, rfl⟩ := f2
  exact ⟨z9, by rw [forS_run, hit, R.stmt_ok, f1]⟩
theorem k34_11 {ss : List Int} {q : Int × Int} {p : Int} {a b c : List Int} {y8 : Sv} (hp : isP p = true) (h : Dr p a b) (e : ¬ (a = [] ∧ b = [])) : ∃ z7 z9, (forS (itR2 (aCons (cE (.int 1)) (aCons (cE (.int 3)) aNil))) (Tk.nm 7).k (forS (itS (funE 2 (aCons (varE 7) (aCons (varE 2) aNil)) Flmon)) (Tk.nm 9).k (ifS (andT (tst (op2 (funE 3 (aCons (varE 3) (aCons (varE 9) (aCons (varE 2) aNil))) Flrest) (tupE aNil) eqO)) (andT (tst (op2 (funE 3 (aCons (varE 4) (aCons (varE 9) (aCons (varE 2) aNil))) Flrest) (tupE aNil) eqO)) (tst (op2 (funE 3 (aCons (varE 6) (aCons (varE 9) (aCons (varE 2) aNil))) Flrest) (tupE aNil) neO)))) (retS (cE (.bl false))) nilS))) (LX34 ss q (.im (.int p)) (.im (Wd a)) (.im (Wd b)) (.im (Wd c)) (.im (Wd (gcdP p a b))) .no y8 .no) = .nx (LX34 ss q (.im (.int p)) (.im (Wd a)) (.im (Wd b)) (.im (Wd c)) (.im (Wd (gcdP p a b))) z7 y8 z9) := by
  have hit : (itR2 (aCons (cE (.int 1)) (aCons (cE (.int 3)) aNil))) (LX34 ss q (.im (.int p)) (.im (Wd a)) (.im (Wd b)) (.im (Wd c)) (.im (Wd (gcdP p a b))) .no y8 .no) = .ok ([1, 2].map fun (i : Nat) => Dt.int (i : Int)) (LX34 ss q (.im (.int p)) (.im (Wd a)) (.im (Wd b)) (.im (Wd c)) (.im (Wd (gcdP p a b))) .no y8 .no) := itR2_run (i := 1) (j := 3) rfl (by decide) (by decide)
  obtain ⟨S', f1, f2⟩ := forL_fold (k := (Tk.nm 7).k) (body := (forS (itS (funE 2 (aCons (varE 7) (aCons (varE 2) aNil)) Flmon)) (Tk.nm 9).k (ifS (andT (tst (op2 (funE 3 (aCons (varE 3) (aCons (varE 9) (aCons (varE 2) aNil))) Flrest) (tupE aNil) eqO)) (andT (tst (op2 (funE 3 (aCons (varE 4) (aCons (varE 9) (aCons (varE 2) aNil))) Flrest) (tupE aNil) eqO)) (tst (op2 (funE 3 (aCons (varE 6) (aCons (varE 9) (aCons (varE 2) aNil))) Flrest) (tupE aNil) neO)))) (retS (cE (.bl false))) nilS))) (fun (i : Nat) => Dt.int (i : Int)) (fun _ (_ : Unit) S => ∃ z7 z9, S = (LX34 ss q (.im (.int p)) (.im (Wd a)) (.im (Wd b)) (.im (Wd c)) (.im (Wd (gcdP p a b))) z7 y8 z9)) (fun u _ => u) [1, 2] 0 () _ ⟨.no, .no, rfl⟩ (fun j u n S hn hj hI => by
    obtain ⟨z7, z9, rfl⟩ := hI
    obtain ⟨w9, he⟩ := k34_11i (ss := ss) (q := q) (c := c) (y8 := y8) (n := n) (y9 := z9) hp h e (by simp at hn; omega)
    exact ⟨_, _, rfl, .inl he, _, _, rfl⟩)
  obtain ⟨z7, z9, rfl⟩ := f2
  exact ⟨z7, z9, by rw [forS_run, hit, R.stmt_ok, f1]⟩
theorem k34_12 (CR : Addr) {ss : List Int} {q : Int × Int} {p : Int} {a b c : List Int} {y8 : Sv} {z7 z9 : Sv} (hp : isP p = true) (h : Dr p a b) (e : ¬ (a = [] ∧ b = [])) : ∃ S', (retS (op2 (funE 3 (aCons (varE 4) (aCons (varE 3) (aCons (varE 2) aNil))) (Fgcd CR)) (varE 6) eqO)) (LX34 ss q (.im (.int p)) (.im (Wd a)) (.im (Wd b)) (.im (Wd c)) (.im (Wd (gcdP p a b))) z7 y8 z9) = .rt (.bl true) S' := by
  have l1 := h.la
  have l2 := h.lb
  have h' : Dr p b a := ⟨h.pb, h.pa, h.lb, h.la⟩
  obtain ⟨g1, g2, g3, g4, g5⟩ := gcdP_spec hp h
  obtain ⟨k1, k2, k3, k4, k5⟩ := gcdP_spec hp h'
  have hn : gcdP p a b ≠ [] := fun z => e (g3.mp z)
  have hn' : gcdP p b a ≠ [] := fun z => e ⟨(k3.mp z).2, (k3.mp z).1⟩
  have he : gcdP p b a = gcdP p a b := mon_unique hp k1 g1 hn' hn (k4 hn') (g4 hn)
    ((g5 _).mp (((k5 _).mpr (InI.self _)).symm)) ((k5 _).mp (((g5 _).mpr (InI.self _)).symm))
  have hg := Fgcd_run (CR := CR) hp h.pb h.pa (by omega) (by omega)
  rw [he] at hg
  have n1 := eqO_wd3 (gcdP p a b) (gcdP p a b)
  rw [decide_eq_true rfl] at n1
  have v3 : varE 3 (LX34 ss q (.im (.int p)) (.im (Wd a)) (.im (Wd b)) (.im (Wd c)) (.im (Wd (gcdP p a b))) z7 y8 z9) = .ok (Wd a) (LX34 ss q (.im (.int p)) (.im (Wd a)) (.im (Wd b)) (.im (Wd c)) (.im (Wd (gcdP p a b))) z7 y8 z9) := varE_im rfl
  have v4 : varE 4 (LX34 ss q (.im (.int p)) (.im (Wd a)) (.im (Wd b)) (.im (Wd c)) (.im (Wd (gcdP p a b))) z7 y8 z9) = .ok (Wd b) (LX34 ss q (.im (.int p)) (.im (Wd a)) (.im (Wd b)) (.im (Wd c)) (.im (Wd (gcdP p a b))) z7 y8 z9) := varE_im rfl
  have v2 : varE 2 (LX34 ss q (.im (.int p)) (.im (Wd a)) (.im (Wd b)) (.im (Wd c)) (.im (Wd (gcdP p a b))) z7 y8 z9) = .ok (.int p) (LX34 ss q (.im (.int p)) (.im (Wd a)) (.im (Wd b)) (.im (Wd c)) (.im (Wd (gcdP p a b))) z7 y8 z9) := varE_im rfl
  have v6 : varE 6 (LX34 ss q (.im (.int p)) (.im (Wd a)) (.im (Wd b)) (.im (Wd c)) (.im (Wd (gcdP p a b))) z7 y8 z9) = .ok (Wd (gcdP p a b)) (LX34 ss q (.im (.int p)) (.im (Wd a)) (.im (Wd b)) (.im (Wd c)) (.im (Wd (gcdP p a b))) z7 y8 z9) := varE_im rfl
  refine ⟨(LX34 ss q (.im (.int p)) (.im (Wd a)) (.im (Wd b)) (.im (Wd c)) (.im (Wd (gcdP p a b))) z7 y8 z9), ?_⟩
  generalize (LX34 ss q (.im (.int p)) (.im (Wd a)) (.im (Wd b)) (.im (Wd c)) (.im (Wd (gcdP p a b))) z7 y8 z9) = U at *
  simp only [retS_run, op2_run, funE_run, aCons_run, aNil_run, v3, v4, v2, v6, R.bind_ok, List.length_cons, List.length_nil, Nat.zero_add, Nat.reduceAdd, if_true, hg, n1, R.of_some, R.stmt_ok]
noncomputable def m_law34 (CR : Addr) : Ms → O := (seqS (asgN 1 (funN 1 (aCons (varE 0) aNil) Fstate))
  (seqS (asgS 2 (funM 0 1 aNil Fprime))
  (seqS (asgS 3 (funM 2 1 (aCons (varE 2) (aCons (cE (.int 3)) aNil)) Flpoly))
  (seqS (asgS 4 (funM 2 1 (aCons (varE 2) (aCons (cE (.int 3)) aNil)) Flpoly))
  (seqS (asgS 5 (funM 2 1 (aCons (varE 2) (aCons (cE (.int 2)) aNil)) Flpoly))
  (seqS (ifS (tst (op2 (funM 1 1 (aCons (cE (.int 2)) aNil) Ftake) (cE (.int 0)) eqO)) (seqS (asgS 3 (funE 3 (aCons (varE 3) (aCons (varE 5) (aCons (varE 2) aNil))) Fltimes))
  (asgS 4 (funE 3 (aCons (varE 4) (aCons (varE 5) (aCons (varE 2) aNil))) Fltimes))) nilS)
  (seqS (ifS (orT (tst (op2 (funE 3 (aCons (varE 3) (aCons (varE 4) (aCons (varE 2) aNil))) Ftimes) (funE 3 (aCons (varE 3) (aCons (varE 4) (aCons (varE 2) aNil))) Fltimes) neO)) (notT (truT (funE 2 (aCons (varE 3) (aCons (varE 2) aNil)) (Flref34 CR))))) (retS (cE (.bl false))) nilS)
  (seqS (ifS (tst (op2 (calE (aCons (varE 4) aNil) lenO) (cE (.int 0)) gtO)) (seqS (asgS 8 (funE 3 (aCons (varE 3) (aCons (varE 4) (aCons (varE 2) aNil))) (Fdivd CR)))
  (seqS (ifS (orT (notT (truT (op1 (varE 8) (isiO "tuple")))) (orT (tst (op2 (calE (aCons (varE 8) aNil) lenO) (cE (.int 2)) neO)) (tst (op2 (calE (aCons (op2 (varE 8) (cE (.int 1)) ixO) aNil) lenO) (calE (aCons (varE 4) aNil) lenO) geO)))) (retS (cE (.bl false))) nilS)
  (ifS (orT (tst (op2 (funE 3 (aCons (funE 3 (aCons (op2 (varE 8) (cE (.int 0)) ixO) (aCons (varE 4) (aCons (varE 2) aNil))) Fltimes) (aCons (op2 (varE 8) (cE (.int 1)) ixO) (aCons (varE 2) aNil))) Flplus) (varE 3) neO)) (tst (op2 (op2 (varE 8) (cE (.int 1)) ixO) (funE 3 (aCons (varE 3) (aCons (varE 4) (aCons (varE 2) aNil))) Flrest) neO))) (retS (cE (.bl false))) nilS))) nilS)
  (seqS (asgS 6 (funE 3 (aCons (varE 3) (aCons (varE 4) (aCons (varE 2) aNil))) (Fgcd CR)))
  (seqS (ifS (tst (op2 (op2 (calE (aCons (varE 3) aNil) lenO) (calE (aCons (varE 4) aNil) lenO) addO) (cE (.int 0)) eqO)) (retS (op2 (varE 6) (tupE aNil) eqO)) nilS)
  (seqS (ifS (orT (tst (op2 (calE (aCons (varE 6) aNil) lenO) (cE (.int 0)) eqO)) (orT (tst (op2 (op2 (varE 6) (op1 (cE (.int 1)) negO) ixO) (cE (.int 1)) neO)) (orT (tst (op2 (funE 3 (aCons (varE 3) (aCons (varE 6) (aCons (varE 2) aNil))) Flrest) (tupE aNil) neO)) (tst (op2 (funE 3 (aCons (varE 4) (aCons (varE 6) (aCons (varE 2) aNil))) Flrest) (tupE aNil) neO))))) (retS (cE (.bl false))) nilS)
  (seqS (forS (itR2 (aCons (cE (.int 1)) (aCons (cE (.int 3)) aNil))) (Tk.nm 7).k (forS (itS (funE 2 (aCons (varE 7) (aCons (varE 2) aNil)) Flmon)) (Tk.nm 9).k (ifS (andT (tst (op2 (funE 3 (aCons (varE 3) (aCons (varE 9) (aCons (varE 2) aNil))) Flrest) (tupE aNil) eqO)) (andT (tst (op2 (funE 3 (aCons (varE 4) (aCons (varE 9) (aCons (varE 2) aNil))) Flrest) (tupE aNil) eqO)) (tst (op2 (funE 3 (aCons (varE 6) (aCons (varE 9) (aCons (varE 2) aNil))) Flrest) (tupE aNil) neO)))) (retS (cE (.bl false))) nilS)))
  (retS (op2 (funE 3 (aCons (varE 4) (aCons (varE 3) (aCons (varE 2) aNil))) (Fgcd CR)) (varE 6) eqO))))))))))))))
theorem run_law34 (CR : Addr) (ss : List Int) (h : ss.length ≤ 63) : ∃ S', m_law34 CR (st0 10 [scrD ss]) = .rt (.bl true) S' := by
  have e0 := k34_0 h
  obtain ⟨p, q1, hp, e1⟩ := k34_1 (ss := ss) (q := stL ss)
  obtain ⟨a, q2, ha, la, e2⟩ := k34_2 (ss := ss) (q := q1) hp
  obtain ⟨b, q3, hb, lb, e3⟩ := k34_3 (ss := ss) (q := q2) (a := a) hp
  obtain ⟨c, q4, hc, lc, e4⟩ := k34_4 (ss := ss) (q := q3) (a := a) (b := b) hp
  obtain ⟨a', b', q5, hd, e5⟩ := k34_5 (ss := ss) (q := q4) hp ha hb hc la lb lc
  have e6 := k34_6 CR (ss := ss) (q := q5) (c := c) hp hd
  obtain ⟨y8, e7⟩ := k34_7 CR (ss := ss) (q := q5) (c := c) hp hd
  have e8 := k34_8 CR (ss := ss) (q := q5) (c := c) (y8 := y8) hp hd
  unfold m_law34
  rw [seqS_run, e0, seq_nx, seqS_run, e1, seq_nx, seqS_run, e2, seq_nx, seqS_run, e3, seq_nx, seqS_run, e4, seq_nx, seqS_run, e5, seq_nx, seqS_run, e6, seq_nx, seqS_run, e7, seq_nx, seqS_run, e8, seq_nx]
  by_cases e : a' = [] ∧ b' = []
  · obtain ⟨S', e9⟩ := k34_9a (ss := ss) (q := q5) (c := c) (y8 := y8) hp hd e
    exact ⟨S', by rw [seqS_run, e9]; rfl⟩
  · have e9 := k34_9b (ss := ss) (q := q5) (p := p) (c := c) (y8 := y8) e
    have e10 := k34_10 (ss := ss) (q := q5) (c := c) (y8 := y8) hp hd e
    obtain ⟨z7, z9, e11⟩ := k34_11 (ss := ss) (q := q5) (c := c) (y8 := y8) hp hd e
    obtain ⟨S', e12⟩ := k34_12 CR (ss := ss) (q := q5) (c := c) (y8 := y8) (z7 := z7) (z9 := z9) hp hd e
    rw [seqS_run, e9, seq_nx, seqS_run, e10, seq_nx, seqS_run, e11, seq_nx]
    exact ⟨S', e12⟩
end Lq

namespace K34
open PySem PySem.Spec PyProof.Rows L2 Lq
def topS (i : Nat) : Stmt := PySem.Challenge.pw_weightkeepers_k34_polynomials.main.body.getD i (.Pass ⟨0, 0, 0, 0⟩)
noncomputable section
variable {P : Program} {w : World} {K : PySem.W.Frag} {mg : Str → Option Value} {base : Heap}
abbrev s_init_Refused : Stmt := inClass (topS 2) 0
theorem sc_init_Refused : ScC ["self", "reason"] ["self", "reason"] (defScope s_init_Refused) := ⟨rfl, rfl, rfl, by decide +kernel, rfl, by decide +kernel, by decide +kernel, by decide +kernel, by decide +kernel⟩
theorem ok_init_Refused {CX : CXT} {f cda cc D C : Addr} {params : Arguments} {kV doc pm ct oc cl : Value} {an od cld : Option Addr} {osl csl : Array (Option Value)} (lk : K.lookup f = some ⟨oc, od, .func (PySem.W.ksFn "__init__" "Refused.__init__" params (defBody s_init_Refused) (defScope s_init_Refused) .none kV doc pm an (.ref cda) ct cc), osl⟩) (hcd : PySem.W.codeIn K (.ref cda) "Refused.__init__" = true)
    (hcell : K.lookup cc = some ⟨cl, cld, .cell (some (.ref D)), csl⟩) (S : SupF P K mg f cda cc D C (defScope s_init_Refused) "self") (T : OexC K C) (nf : PySem.W.findIn K (.ref C) "reason" = some none) :
    FnOk P w K mg base CX 1 f (PySem.W.ksFn "__init__" "Refused.__init__" params (defBody s_init_Refused) (defScope s_init_Refused) .none kV doc pm an (.ref cda) ct cc) ["self", "reason"] (spI1 C "reason") := by
  refine fnK_of lk hcd sc_init_Refused hcell (fun vs H Q E h => ?_) (fun A outer s s1 H vs Q E hr h I => ?_)
  · obtain ⟨a, y, rfl, _⟩ := h
    rfl
  · obtain ⟨a, y, rfl, hy, he, k⟩ := h
    refine PySem.ks_wpAt_execs_cons (_root_.PySem.wpAt_mono (super_run (Rr := fun H1 => H1 = H) S rfl T I rfl rfl he (pa_cons (pe_joined (.cons pe_str (.cons (pe_fmt (pv 1)) .nil))) pa_nil) ?_) (fun fl s' hq => ?_) (fun _ _ z => z))
    · refine ⟨_, rfl, ?_, _, rfl, .inl ⟨y, rfl, ?_, _, rfl, ?_, ?_, he, rfl⟩⟩
      · decide +kernel
      · exact Nat.le_trans hy (by decide)
      · have e : (Str.empty ++ ("refused: " : Str)).length = 9 := by decide +kernel
        rw [Str.length_append, e]
        exact Nat.le_trans (Nat.add_le_add_left hy 9) (by decide)
      · show 1 ≤ 1000
        decide
    · obtain ⟨rfl, H1, I1, rfl⟩ := hq
      refine _root_.PySem.wpAt_of_wpAny ((pss_one (ps_ost (pv 0) (pv 1))).run [] s' _ _ _ I1 ?_)
      refine ⟨_, rfl, _, rfl, a, C, rfl, T, nf, .inl ⟨he, fun dx h1 h2 => k dx h1 h2⟩⟩
abbrev s_inverse : Stmt := topS 4
abbrev N_inverse : List Str := ["a", "p", "candidate"]
theorem sc_inverse : FnScope N_inverse ["a", "p"] (defScope s_inverse) := ⟨rfl, rfl, rfl, by decide +kernel, rfl, by decide +kernel, by decide +kernel⟩
noncomputable def m_inverse : Ms → O := (seqS (forS (itR2 (aCons (cE (.int 1)) (aCons (varE 1) aNil))) (Tk.nm 2).k (ifS (tst (op2 (op2 (op2 (varE 0) (varE 2) mulO) (varE 1) modO) (cE (.int 1)) eqO)) (retS (varE 2)) nilS))
  noS)
theorem ok_inverse {f : Addr} {fd : FuncData} (F : Fun K "inverse" "inverse" s_inverse f fd) (h_range : mg "range" = none) : FnOk P w K mg base (L2.CX P w) 1 f fd ["a", "p"] (spD K 2 (runD 3 m_inverse)) :=
  defOk F sc_inverse fun cdv A outer s H E hr => by
    have nd : N_inverse.Nodup := sc_inverse.nd
    have tk : Takes (cxOf (L2.CX P w) P w K mg base N_inverse "inverse" (defScope s_inverse) f cdv A outer s H E) (fun cls d _ H' => E cls d H') := takes_of rfl rfl rfl rfl
    have po : PassesOwn (model P w) (cxOf (L2.CX P w) P w K mg base N_inverse "inverse" (defScope s_inverse) f cdv A outer s H E).A (cxOf (L2.CX P w) P w K mg base N_inverse "inverse" (defScope s_inverse) f cdv A outer s H E).env (cxOf (L2.CX P w) P w K mg base N_inverse "inverse" (defScope s_inverse) f cdv A outer s H E).xe := passes_of rfl
    have hu64 := hr.units
    have hu65 := hu65_of hr
    have hu0 := hr.units0
    have hu1 := hu_of hr
    exact (dss_cons (ds_for po (by rfl) (di_range2 (by rfl) h_range (da_cons de_int (da_cons (de_var (pv 1)) da_nil))) (dg_name (pg_name (i := 2) nd (by rfl) (by first | exact Or.inl rfl | exact Or.inr rfl))) (dss_one (ds_if (dt_eq hu64 (de_mod (de_mul (de_var (pv 0)) (de_var (pv 2))) (de_var (pv 1))) de_int) (dss_one (ds_ret (de_var (pv 2)))) dss_nil)))
      (dss_one ds_never))
abbrev s_scaled : Stmt := topS 6
abbrev N_scaled : List Str := ["v", "a", "p", "item"]
theorem sc_scaled : FnScope N_scaled ["v", "a", "p"] (defScope s_scaled) := ⟨rfl, rfl, rfl, by decide +kernel, rfl, by decide +kernel, by decide +kernel⟩
noncomputable def m_scaled : Ms → O := (retS (calE (aCons (frz (lcE (itS (varE 0)) (Tk.nm 3).k yesT (op2 (op2 (varE 3) (varE 1) mulO) (varE 2) modO) [3])) aNil) tupO))
theorem ok_scaled {f : Addr} {fd : FuncData} (F : Fun K "scaled" "scaled" s_scaled f fd) (h_tuple : mg "tuple" = none) : FnOk P w K mg base (L2.CX P w) 1 f fd ["v", "a", "p"] (spD K 3 (runD 4 m_scaled)) :=
  defOk F sc_scaled fun cdv A outer s H E hr => by
    have nd : N_scaled.Nodup := sc_scaled.nd
    have tk : Takes (cxOf (L2.CX P w) P w K mg base N_scaled "scaled" (defScope s_scaled) f cdv A outer s H E) (fun cls d _ H' => E cls d H') := takes_of rfl rfl rfl rfl
    have po : PassesOwn (model P w) (cxOf (L2.CX P w) P w K mg base N_scaled "scaled" (defScope s_scaled) f cdv A outer s H E).A (cxOf (L2.CX P w) P w K mg base N_scaled "scaled" (defScope s_scaled) f cdv A outer s H E).env (cxOf (L2.CX P w) P w K mg base N_scaled "scaled" (defScope s_scaled) f cdv A outer s H E).xe := passes_of rfl
    have hu64 := hr.units
    have hu65 := hu65_of hr
    have hu0 := hr.units0
    have hu1 := hu_of hr
    exact (dss_one (ds_ret (de_tupc (by rfl) h_tuple (de_frz (dn_lc (by rfl) nd (di_seq (de_var (pv 0))) (blkOk_by (own := [("item", 3)]) (N := N_scaled) (sc := defScope s_scaled) (by decide +kernel)) (by decide) (fun _ _ _ _ _ => (dg_name (pg_name (i := 3) nd (by rfl) (by first | exact Or.inl rfl | exact Or.inr rfl)))) (fun _ _ _ _ _ => dts_nil) (fun _ _ _ _ _ => (de_mod (de_mul (de_var (pv 3)) (de_var (pv 1))) (de_var (pv 2)))))))))
abbrev s__trimmed : Stmt := topS 8
abbrev N__trimmed : List Str := ["items", "places", "at", "item"]
theorem sc__trimmed : FnScope N__trimmed ["items"] (defScope s__trimmed) := ⟨rfl, rfl, rfl, by decide +kernel, rfl, by decide +kernel, by decide +kernel⟩
noncomputable def m__trimmed : Ms → O := (seqS (asgS 1 (frz (lcE (itEnA (aCons (varE 0) aNil)) (Tk.tp [2, 3]).k (tst (op2 (varE 3) (cE (.int 0)) neO)) (varE 2) [2, 3])))
  (retS (ifE (truT (varE 1)) (calE (aCons (slA (varE 0) oNone (oSome (op2 (op2 (varE 1) (op1 (cE (.int 1)) negO) ixO) (cE (.int 1)) addO))) aNil) tupO) (tupE aNil))))
theorem ok__trimmed {f : Addr} {fd : FuncData} (F : Fun K "_trimmed" "_trimmed" s__trimmed f fd) (h_enumerate : mg "enumerate" = none) (h_tuple : mg "tuple" = none) : FnOk P w K mg base (L2.CX P w) 1 f fd ["items"] (spD K 1 (runD 4 m__trimmed)) :=
  defOk F sc__trimmed fun cdv A outer s H E hr => by
    have nd : N__trimmed.Nodup := sc__trimmed.nd
    have tk : Takes (cxOf (L2.CX P w) P w K mg base N__trimmed "_trimmed" (defScope s__trimmed) f cdv A outer s H E) (fun cls d _ H' => E cls d H') := takes_of rfl rfl rfl rfl
    have po : PassesOwn (model P w) (cxOf (L2.CX P w) P w K mg base N__trimmed "_trimmed" (defScope s__trimmed) f cdv A outer s H E).A (cxOf (L2.CX P w) P w K mg base N__trimmed "_trimmed" (defScope s__trimmed) f cdv A outer s H E).env (cxOf (L2.CX P w) P w K mg base N__trimmed "_trimmed" (defScope s__trimmed) f cdv A outer s H E).xe := passes_of rfl
    have hu64 := hr.units
    have hu65 := hu65_of hr
    have hu0 := hr.units0
    have hu1 := hu_of hr
    exact (dss_cons (ds_lc (i := 1) (by rfl) nd (by rfl) (by rfl) (sw_true (by rfl) (by rfl) (by rfl) (by decide +kernel)) (di_enumA (by rfl) h_enumerate (da_cons (de_var (pv 0)) da_nil)) (blkOk_by (own := [("at", 2), ("item", 3)]) (N := N__trimmed) (sc := defScope s__trimmed) (by decide +kernel)) (by decide) (fun _ _ _ _ _ => (dg_tup (by rfl) (dgs_cons (pg_name (i := 2) nd (by rfl) (by first | exact Or.inl rfl | exact Or.inr rfl)) (dgs_cons (pg_name (i := 3) nd (by rfl) (by first | exact Or.inl rfl | exact Or.inr rfl)) dgs_nil)))) (fun _ _ _ _ _ => (dts_one (dt_ne hu64 (de_var (pv 3)) de_int))) (fun _ _ _ _ _ => (de_var (pv 2))))
      (dss_one (ds_ret (de_ifx (dt_tru (de_var (pv 1))) (de_tupc (by rfl) h_tuple (de_sliceA (de_var (pv 0)) do_none (do_some (de_add (de_sub1 (de_var (pv 1)) (de_neg de_int)) de_int)))) (de_tup da_nil)))))
abbrev s__monic : Stmt := topS 9
abbrev N__monic : List Str := ["a", "p"]
theorem sc__monic : FnScope N__monic ["a", "p"] (defScope s__monic) := ⟨rfl, rfl, rfl, by decide +kernel, rfl, by decide +kernel, by decide +kernel⟩
noncomputable def m__monic : Ms → O := (retS (ifE (truT (varE 0)) (funE 3 (aCons (varE 0) (aCons (funE 2 (aCons (op2 (varE 0) (op1 (cE (.int 1)) negO) ixO) (aCons (varE 1) aNil)) Finverse) (aCons (varE 1) aNil))) FscW) (varE 0)))
theorem ok__monic {f : Addr} {fd : FuncData} (F : Fun K "_monic" "_monic" s__monic f fd) (c_scaled : Cal P w K mg base "scaled" 1 ["v", "a", "p"] (spD K 3 FscW)) (c_inverse : Cal P w K mg base "inverse" 1 ["a", "p"] (spD K 2 Finverse)) : FnOk P w K mg base (L2.CX P w) 2 f fd ["a", "p"] (spD K 2 (runD 2 m__monic)) :=
  defOk F sc__monic fun cdv A outer s H E hr => by
    have nd : N__monic.Nodup := sc__monic.nd
    have tk : Takes (cxOf (L2.CX P w) P w K mg base N__monic "_monic" (defScope s__monic) f cdv A outer s H E) (fun cls d _ H' => E cls d H') := takes_of rfl rfl rfl rfl
    have po : PassesOwn (model P w) (cxOf (L2.CX P w) P w K mg base N__monic "_monic" (defScope s__monic) f cdv A outer s H E).A (cxOf (L2.CX P w) P w K mg base N__monic "_monic" (defScope s__monic) f cdv A outer s H E).env (cxOf (L2.CX P w) P w K mg base N__monic "_monic" (defScope s__monic) f cdv A outer s H E).xe := passes_of rfl
    have hu64 := hr.units
    have hu65 := hu65_of hr
    have hu0 := hr.units0
    have hu1 := hu_of hr
    exact (dss_one (ds_ret (de_ifx (dt_tru (de_var (pv 0))) (de_cal c_scaled tk hr (by decide) (by rfl) (da_cons (de_var (pv 0)) (da_cons (de_cal c_inverse tk hr (by decide) (by rfl) (da_cons (de_sub1 (de_var (pv 0)) (de_neg de_int)) (da_cons (de_var (pv 1)) da_nil))) (da_cons (de_var (pv 1)) da_nil)))) (de_var (pv 0)))))
abbrev s_times : Stmt := topS 10
abbrev N_times : List Str := ["a", "b", "p", "items", "i", "x", "j", "y"]
theorem sc_times : FnScope N_times ["a", "b", "p"] (defScope s_times) := ⟨rfl, rfl, rfl, by decide +kernel, rfl, by decide +kernel, by decide +kernel⟩
noncomputable def m_times : Ms → O := (seqS (asgN 3 (opN (frz (lstE (aCons (cE (.int 0)) aNil))) (op2 (calE (aCons (varE 0) aNil) lenO) (calE (aCons (varE 1) aNil) lenO) addO) repL))
  (seqS (forS (itEn (aCons (varE 0) aNil)) (Tk.tp [4, 5]).k (forS (itEn (aCons (varE 1) aNil)) (Tk.tp [6, 7]).k (setS 3 (op2 (op2 (ixV 3 (op2 (varE 4) (varE 6) addO)) (op2 (varE 5) (varE 7) mulO) addO) (varE 2) modO) (op2 (varE 4) (varE 6) addO))))
  (retS (funE 1 (aCons (varE 3) aNil) Ftrim))))
theorem ok_times {f : Addr} {fd : FuncData} (F : Fun K "times" "times" s_times f fd) (h_enumerate : mg "enumerate" = none) (h_len : mg "len" = none) (c__trimmed : Cal P w K mg base "_trimmed" 1 ["items"] (spD K 1 Ftrim)) : FnOk P w K mg base (L2.CX P w) 2 f fd ["a", "b", "p"] (spD K 3 (runD 8 m_times)) :=
  defOk F sc_times fun cdv A outer s H E hr => by
    have nd : N_times.Nodup := sc_times.nd
    have tk : Takes (cxOf (L2.CX P w) P w K mg base N_times "times" (defScope s_times) f cdv A outer s H E) (fun cls d _ H' => E cls d H') := takes_of rfl rfl rfl rfl
    have po : PassesOwn (model P w) (cxOf (L2.CX P w) P w K mg base N_times "times" (defScope s_times) f cdv A outer s H E).A (cxOf (L2.CX P w) P w K mg base N_times "times" (defScope s_times) f cdv A outer s H E).env (cxOf (L2.CX P w) P w K mg base N_times "times" (defScope s_times) f cdv A outer s H E).xe := passes_of rfl
    have hu64 := hr.units
    have hu65 := hu65_of hr
    have hu0 := hr.units0
    have hu1 := hu_of hr
    exact (dss_cons (ds_setN (i := 3) nd (by rfl) (by first | exact Or.inl rfl | exact Or.inr rfl) (dn_repL (de_frz (dn_lst (da_cons de_int da_nil))) (de_add (de_len (by rfl) h_len (de_var (pv 0))) (de_len (by rfl) h_len (de_var (pv 1))))))
      (dss_cons (ds_for po (by rfl) (di_enum (by rfl) h_enumerate (da_cons (de_var (pv 0)) da_nil)) (dg_tup (by rfl) (dgs_cons (pg_name (i := 4) nd (by rfl) (by first | exact Or.inl rfl | exact Or.inr rfl)) (dgs_cons (pg_name (i := 5) nd (by rfl) (by first | exact Or.inl rfl | exact Or.inr rfl)) dgs_nil))) (dss_one (ds_for po (by rfl) (di_enum (by rfl) h_enumerate (da_cons (de_var (pv 1)) da_nil)) (dg_tup (by rfl) (dgs_cons (pg_name (i := 6) nd (by rfl) (by first | exact Or.inl rfl | exact Or.inr rfl)) (dgs_cons (pg_name (i := 7) nd (by rfl) (by first | exact Or.inl rfl | exact Or.inr rfl)) dgs_nil))) (dss_one (ds_setI (pv 3) (de_add (de_var (pv 4)) (de_var (pv 6))) (de_mod (de_add (de_ixV (pv 3) (de_add (de_var (pv 4)) (de_var (pv 6)))) (de_mul (de_var (pv 5)) (de_var (pv 7)))) (de_var (pv 2))))))))
      (dss_one (ds_ret (de_cal c__trimmed tk hr (by decide) (by rfl) (da_cons (de_var (pv 3)) da_nil))))))
abbrev s_divided : Stmt := topS 11
abbrev N_divided : List Str := ["a", "b", "p", "left", "quotient", "head", "at", "factor", "j", "y"]
theorem sc_divided : FnScope N_divided ["a", "b", "p"] (defScope s_divided) := ⟨rfl, rfl, rfl, by decide +kernel, rfl, by decide +kernel, by decide +kernel⟩
noncomputable def m_divided (CR : Addr) : Ms → O := (seqS (ifS (tst (op2 (calE (aCons (varE 1) aNil) lenO) (cE (.int 0)) eqO)) (raiseS ⟨CR, ["reason"], [.str "zero"]⟩) nilS)
  (seqS (asgN 3 (calN (aCons (varE 0) aNil) lstO))
  (seqS (asgN 4 (lstE aNil))
  (seqS (asgS 5 (funE 2 (aCons (op2 (varE 1) (op1 (cE (.int 1)) negO) ixO) (aCons (varE 2) aNil)) Finverse))
  (seqS (forS (itRv (op2 (op2 (calE (aCons (varE 0) aNil) lenO) (calE (aCons (varE 1) aNil) lenO) subO) (cE (.int 1)) addO)) (Tk.nm 6).k (seqS (asgS 7 (op2 (op2 (ixV 3 (op2 (op2 (varE 6) (calE (aCons (varE 1) aNil) lenO) addO) (cE (.int 1)) subO)) (varE 5) mulO) (varE 2) modO))
  (seqS (appS 4 (varE 7))
  (forS (itEn (aCons (varE 1) aNil)) (Tk.tp [8, 9]).k (setS 3 (op2 (op2 (ixV 3 (op2 (varE 6) (varE 8) addO)) (op2 (varE 7) (varE 9) mulO) subO) (varE 2) modO) (op2 (varE 6) (varE 8) addO))))))
  (retS (tupE (aCons (calE (aCons (frz (revL (varE 4))) aNil) tupO) (aCons (funE 1 (aCons (varE 3) aNil) Ftrim) aNil)))))))))
theorem ok_divided {f : Addr} {fd : FuncData} (F : Fun K "divided" "divided" s_divided f fd) {CR : Addr} (h_enumerate : mg "enumerate" = none) (h_len : mg "len" = none) (h_list : mg "list" = none) (h_range : mg "range" = none) (h_reversed : mg "reversed" = none) (h_tuple : mg "tuple" = none) (R_Refused : RaS P w K mg base "Refused" CR "reason") (c__trimmed : Cal P w K mg base "_trimmed" 1 ["items"] (spD K 1 Ftrim)) (c_inverse : Cal P w K mg base "inverse" 1 ["a", "p"] (spD K 2 Finverse)) : FnOk P w K mg base (L2.CX P w) 3 f fd ["a", "b", "p"] (spD K 3 (runD 10 (m_divided CR))) :=
  defOk F sc_divided fun cdv A outer s H E hr => by
    have nd : N_divided.Nodup := sc_divided.nd
    have tk : Takes (cxOf (L2.CX P w) P w K mg base N_divided "divided" (defScope s_divided) f cdv A outer s H E) (fun cls d _ H' => E cls d H') := takes_of rfl rfl rfl rfl
    have po : PassesOwn (model P w) (cxOf (L2.CX P w) P w K mg base N_divided "divided" (defScope s_divided) f cdv A outer s H E).A (cxOf (L2.CX P w) P w K mg base N_divided "divided" (defScope s_divided) f cdv A outer s H E).env (cxOf (L2.CX P w) P w K mg base N_divided "divided" (defScope s_divided) f cdv A outer s H E).xe := passes_of rfl
    have hu64 := hr.units
    have hu65 := hu65_of hr
    have hu0 := hr.units0
    have hu1 := hu_of hr
    exact (dss_cons (ds_if (dt_eq hu64 (de_len (by rfl) h_len (de_var (pv 1))) de_int) (dss_one (ds_raiseS R_Refused (by rfl) tk (hr.mono (by decide)) (by rfl) (by decide +kernel))) dss_nil)
      (dss_cons (ds_setN (i := 3) nd (by rfl) (by first | exact Or.inl rfl | exact Or.inr rfl) (dn_list (by rfl) h_list (de_var (pv 0))))
      (dss_cons (ds_setN (i := 4) nd (by rfl) (by first | exact Or.inl rfl | exact Or.inr rfl) (dn_lst da_nil))
      (dss_cons (ds_set (i := 5) nd (by rfl) (by first | exact Or.inl rfl | exact Or.inr rfl) (de_cal c_inverse tk hr (by decide) (by rfl) (da_cons (de_sub1 (de_var (pv 1)) (de_neg de_int)) (da_cons (de_var (pv 2)) da_nil))))
      (dss_cons (ds_for po (by rfl) (di_revR (by rfl) h_reversed (by rfl) h_range (de_add (de_sub (de_len (by rfl) h_len (de_var (pv 0))) (de_len (by rfl) h_len (de_var (pv 1)))) de_int)) (dg_name (pg_name (i := 6) nd (by rfl) (by first | exact Or.inl rfl | exact Or.inr rfl))) (dss_cons (ds_set (i := 7) nd (by rfl) (by first | exact Or.inl rfl | exact Or.inr rfl) (de_mod (de_mul (de_ixV (pv 3) (de_sub (de_add (de_var (pv 6)) (de_len (by rfl) h_len (de_var (pv 1)))) de_int)) (de_var (pv 5))) (de_var (pv 2))))
      (dss_cons (ds_app (pv 4) (de_var (pv 7)))
      (dss_one (ds_for po (by rfl) (di_enum (by rfl) h_enumerate (da_cons (de_var (pv 1)) da_nil)) (dg_tup (by rfl) (dgs_cons (pg_name (i := 8) nd (by rfl) (by first | exact Or.inl rfl | exact Or.inr rfl)) (dgs_cons (pg_name (i := 9) nd (by rfl) (by first | exact Or.inl rfl | exact Or.inr rfl)) dgs_nil))) (dss_one (ds_setI (pv 3) (de_add (de_var (pv 6)) (de_var (pv 8))) (de_mod (de_sub (de_ixV (pv 3) (de_add (de_var (pv 6)) (de_var (pv 8)))) (de_mul (de_var (pv 7)) (de_var (pv 9)))) (de_var (pv 2))))))))))
      (dss_one (ds_ret (de_tup (da_cons (de_tupc (by rfl) h_tuple (de_frz (dn_revL (de_var (pv 4))))) (da_cons (de_cal c__trimmed tk hr (by decide) (by rfl) (da_cons (de_var (pv 3)) da_nil)) da_nil))))))))))
abbrev s_common_divisor : Stmt := topS 12
abbrev N_common_divisor : List Str := ["a", "b", "p", "one", "other", "_", "rest"]
theorem sc_common_divisor : FnScope N_common_divisor ["a", "b", "p"] (defScope s_common_divisor) := ⟨rfl, rfl, rfl, by decide +kernel, rfl, by decide +kernel, by decide +kernel⟩
noncomputable def m_common_divisor (CR : Addr) : Ms → O := (seqS (moveS 3 0)
  (seqS (moveS 4 1)
  (seqS (whileS (fun _ => 64) (truT (varE 4)) (seqS (asgT (Tk.tp [5, 6]) (funE 3 (aCons (varE 3) (aCons (varE 4) (aCons (varE 2) aNil))) (Fdivd CR)))
  (seqS (moveS 3 4)
  (moveS 4 6))))
  (retS (funE 2 (aCons (varE 3) (aCons (varE 2) aNil)) Fmonic)))))
theorem ok_common_divisor {f : Addr} {fd : FuncData} (F : Fun K "common_divisor" "common_divisor" s_common_divisor f fd) {CR : Addr} (c__monic : Cal P w K mg base "_monic" 2 ["a", "p"] (spD K 2 Fmonic)) (c_divided : Cal P w K mg base "divided" 3 ["a", "b", "p"] (spD K 3 (Fdivd CR))) : FnOk P w K mg base (L2.CX P w) 4 f fd ["a", "b", "p"] (spD K 3 (runD 7 (m_common_divisor CR))) :=
  defOk F sc_common_divisor fun cdv A outer s H E hr => by
    have nd : N_common_divisor.Nodup := sc_common_divisor.nd
    have tk : Takes (cxOf (L2.CX P w) P w K mg base N_common_divisor "common_divisor" (defScope s_common_divisor) f cdv A outer s H E) (fun cls d _ H' => E cls d H') := takes_of rfl rfl rfl rfl
    have po : PassesOwn (model P w) (cxOf (L2.CX P w) P w K mg base N_common_divisor "common_divisor" (defScope s_common_divisor) f cdv A outer s H E).A (cxOf (L2.CX P w) P w K mg base N_common_divisor "common_divisor" (defScope s_common_divisor) f cdv A outer s H E).env (cxOf (L2.CX P w) P w K mg base N_common_divisor "common_divisor" (defScope s_common_divisor) f cdv A outer s H E).xe := passes_of rfl
    have hu64 := hr.units
    have hu65 := hu65_of hr
    have hu0 := hr.units0
    have hu1 := hu_of hr
    exact (dss_cons (ds_mov (i := 3) nd (by rfl) (by first | exact Or.inl rfl | exact Or.inr rfl) (pv 0))
      (dss_cons (ds_mov (i := 4) nd (by rfl) (by first | exact Or.inl rfl | exact Or.inr rfl) (pv 1))
      (dss_cons (ds_while (fuel := fun _ => 64) po (dt_tru (de_var (pv 4))) (dss_cons (ds_tgt (de_cal c_divided tk hr (by decide) (by rfl) (da_cons (de_var (pv 3)) (da_cons (de_var (pv 4)) (da_cons (de_var (pv 2)) da_nil)))) (dg_tup (by rfl) (dgs_cons (pg_name (i := 5) nd (by rfl) (by first | exact Or.inl rfl | exact Or.inr rfl)) (dgs_cons (pg_name (i := 6) nd (by rfl) (by first | exact Or.inl rfl | exact Or.inr rfl)) dgs_nil))))
      (dss_cons (ds_mov (i := 3) nd (by rfl) (by first | exact Or.inl rfl | exact Or.inr rfl) (pv 4))
      (dss_one (ds_mov (i := 4) nd (by rfl) (by first | exact Or.inl rfl | exact Or.inr rfl) (pv 6))))))
      (dss_one (ds_ret (de_cal c__monic tk hr (by decide) (by rfl) (da_cons (de_var (pv 3)) (da_cons (de_var (pv 2)) da_nil))))))))
abbrev s__law_state : Stmt := topS 14
abbrev N__law_state : List Str := ["script", "seed", "total", "cell"]
theorem sc__law_state : FnScope N__law_state ["script"] (defScope s__law_state) := ⟨rfl, rfl, rfl, by decide +kernel, rfl, by decide +kernel, by decide +kernel⟩
noncomputable def m__law_state : Ms → ON := (seqN (asgS 1 (cE (.int 0)))
  (seqN (asgS 2 (cE (.int 1)))
  (seqN (forS (itS (frz (slL (varE 0) oNone (oSome (cE (.int 63)))))) (Tk.nm 3).k (seqS (asgS 1 (op2 (op2 (varE 1) (cE (.int 1000003)) mulO) (calE (aCons (varE 3) aNil) absO) addO))
  (asgS 2 (op2 (calE (aCons (op2 (op2 (varE 2) (cE (.int 48271)) mulO) (varE 3) addO) aNil) intO) (cE (.int 2147483647)) modO))))
  (retNL (lstE (aCons (varE 1) (aCons (varE 2) aNil)))))))
theorem ok__law_state {f : Addr} {fd : FuncData} (F : Fun K "_law_state" "_law_state" s__law_state f fd) (h_abs : mg "abs" = none) (h_int : mg "int" = none) : FnOk P w K mg base (L2.CX P w) 1 f fd ["script"] (spN K 1 (runN 4 m__law_state)) :=
  defOkN F sc__law_state fun cdv A outer s H E hr => by
    have nd : N__law_state.Nodup := sc__law_state.nd
    have tk : Takes (cxOf (L2.CX P w) P w K mg base N__law_state "_law_state" (defScope s__law_state) f cdv A outer s H E) (fun cls d _ H' => E cls d H') := takes_of rfl rfl rfl rfl
    have po : PassesOwn (model P w) (cxOf (L2.CX P w) P w K mg base N__law_state "_law_state" (defScope s__law_state) f cdv A outer s H E).A (cxOf (L2.CX P w) P w K mg base N__law_state "_law_state" (defScope s__law_state) f cdv A outer s H E).env (cxOf (L2.CX P w) P w K mg base N__law_state "_law_state" (defScope s__law_state) f cdv A outer s H E).xe := passes_of rfl
    have hu64 := hr.units
    have hu65 := hu65_of hr
    have hu0 := hr.units0
    have hu1 := hu_of hr
    exact (dsN_cons (ds_set (i := 1) nd (by rfl) (by first | exact Or.inl rfl | exact Or.inr rfl) de_int)
      (dsN_cons (ds_set (i := 2) nd (by rfl) (by first | exact Or.inl rfl | exact Or.inr rfl) de_int)
      (dsN_cons (ds_for po (by rfl) (di_seq (de_frz (dn_sliceL (de_var (pv 0)) do_none (do_some de_int)))) (dg_name (pg_name (i := 3) nd (by rfl) (by first | exact Or.inl rfl | exact Or.inr rfl))) (dss_cons (ds_set (i := 1) nd (by rfl) (by first | exact Or.inl rfl | exact Or.inr rfl) (de_add (de_mul (de_var (pv 1)) de_int) (de_abs (by rfl) h_abs (de_var (pv 3)))))
      (dss_one (ds_set (i := 2) nd (by rfl) (by first | exact Or.inl rfl | exact Or.inr rfl) (de_mod (de_intc (by rfl) h_int (de_add (de_mul (de_var (pv 2)) de_int) (de_var (pv 3)))) de_int)))))
      (dsN_retL (dn_lst (da_cons (de_var (pv 1)) (da_cons (de_var (pv 2)) da_nil)))))))
abbrev s__law_take : Stmt := topS 15
abbrev N__law_take : List Str := ["state", "m", "value"]
theorem sc__law_take : FnScope N__law_take ["state", "m"] (defScope s__law_take) := ⟨rfl, rfl, rfl, by decide +kernel, rfl, by decide +kernel, by decide +kernel⟩
noncomputable def m__law_take : Ms → O := (seqS (ifS (tst (op2 (ixV 0 (cE (.int 0))) (cE (.int 0)) gtO)) (seqS (asgS 2 (op2 (calE (aCons (ixV 0 (cE (.int 0))) aNil) intO) (varE 1) modO))
  (seqS (setS 0 (op2 (ixV 0 (cE (.int 0))) (varE 1) divO) (cE (.int 0)))
  (retS (varE 2)))) nilS)
  (seqS (setS 0 (op2 (calE (aCons (op2 (op2 (ixV 0 (cE (.int 1))) (cE (.int 48271)) mulO) (cE (.int 11)) addO) aNil) intO) (cE (.int 2147483647)) modO) (cE (.int 1)))
  (retS (op2 (calE (aCons (op2 (ixV 0 (cE (.int 1))) (cE (.int 7)) divO) aNil) intO) (varE 1) modO))))
theorem ok__law_take {f : Addr} {fd : FuncData} (F : Fun K "_law_take" "_law_take" s__law_take f fd) (h_int : mg "int" = none) : FnOk P w K mg base (L2.CX P w) 1 f fd ["state", "m"] (spM K 1 (runM 3 m__law_take)) :=
  defOkM F sc__law_take fun cdv A outer s H E hr => by
    have nd : N__law_take.Nodup := sc__law_take.nd
    have tk : Takes (cxOf (L2.CX P w) P w K mg base N__law_take "_law_take" (defScope s__law_take) f cdv A outer s H E) (fun cls d _ H' => E cls d H') := takes_of rfl rfl rfl rfl
    have po : PassesOwn (model P w) (cxOf (L2.CX P w) P w K mg base N__law_take "_law_take" (defScope s__law_take) f cdv A outer s H E).A (cxOf (L2.CX P w) P w K mg base N__law_take "_law_take" (defScope s__law_take) f cdv A outer s H E).env (cxOf (L2.CX P w) P w K mg base N__law_take "_law_take" (defScope s__law_take) f cdv A outer s H E).xe := passes_of rfl
    have hu64 := hr.units
    have hu65 := hu65_of hr
    have hu0 := hr.units0
    have hu1 := hu_of hr
    exact (dss_cons (ds_if (dt_gt (de_ixV (pv 0) de_int) de_int) (dss_cons (ds_set (i := 2) nd (by rfl) (by first | exact Or.inl rfl | exact Or.inr rfl) (de_mod (de_intc (by rfl) h_int (de_ixV (pv 0) de_int)) (de_var (pv 1))))
      (dss_cons (ds_setI (pv 0) de_int (de_div (de_ixV (pv 0) de_int) (de_var (pv 1))))
      (dss_one (ds_ret (de_var (pv 2)))))) dss_nil)
      (dss_cons (ds_setI (pv 0) de_int (de_mod (de_intc (by rfl) h_int (de_add (de_mul (de_ixV (pv 0) de_int) de_int) de_int)) de_int))
      (dss_one (ds_ret (de_mod (de_intc (by rfl) h_int (de_div (de_ixV (pv 0) de_int) de_int)) (de_var (pv 1)))))))
abbrev s__law_sum : Stmt := topS 16
abbrev N__law_sum : List Str := ["v", "w", "p", "k"]
theorem sc__law_sum : FnScope N__law_sum ["v", "w", "p"] (defScope s__law_sum) := ⟨rfl, rfl, rfl, by decide +kernel, rfl, by decide +kernel, by decide +kernel⟩
noncomputable def m__law_sum : Ms → O := (retS (calE (aCons (frz (lcE (itR1 (aCons (calE (aCons (varE 0) aNil) lenO) aNil)) (Tk.nm 3).k yesT (op2 (calE (aCons (op2 (op2 (varE 0) (varE 3) ixO) (op2 (varE 1) (varE 3) ixO) addO) aNil) intO) (varE 2) modO) [3])) aNil) tupO))
theorem ok__law_sum {f : Addr} {fd : FuncData} (F : Fun K "_law_sum" "_law_sum" s__law_sum f fd) (h_int : mg "int" = none) (h_len : mg "len" = none) (h_range : mg "range" = none) (h_tuple : mg "tuple" = none) : FnOk P w K mg base (L2.CX P w) 1 f fd ["v", "w", "p"] (spD K 3 (runD 4 m__law_sum)) :=
  defOk F sc__law_sum fun cdv A outer s H E hr => by
    have nd : N__law_sum.Nodup := sc__law_sum.nd
    have tk : Takes (cxOf (L2.CX P w) P w K mg base N__law_sum "_law_sum" (defScope s__law_sum) f cdv A outer s H E) (fun cls d _ H' => E cls d H') := takes_of rfl rfl rfl rfl
    have po : PassesOwn (model P w) (cxOf (L2.CX P w) P w K mg base N__law_sum "_law_sum" (defScope s__law_sum) f cdv A outer s H E).A (cxOf (L2.CX P w) P w K mg base N__law_sum "_law_sum" (defScope s__law_sum) f cdv A outer s H E).env (cxOf (L2.CX P w) P w K mg base N__law_sum "_law_sum" (defScope s__law_sum) f cdv A outer s H E).xe := passes_of rfl
    have hu64 := hr.units
    have hu65 := hu65_of hr
    have hu0 := hr.units0
    have hu1 := hu_of hr
    exact (dss_one (ds_ret (de_tupc (by rfl) h_tuple (de_frz (dn_lc (by rfl) nd (di_range1 (by rfl) h_range (da_cons (de_len (by rfl) h_len (de_var (pv 0))) da_nil)) (blkOk_by (own := [("k", 3)]) (N := N__law_sum) (sc := defScope s__law_sum) (by decide +kernel)) (by decide) (fun _ _ _ _ _ => (dg_name (pg_name (i := 3) nd (by rfl) (by first | exact Or.inl rfl | exact Or.inr rfl)))) (fun _ _ _ _ _ => dts_nil) (fun _ _ _ _ _ => (de_mod (de_intc (by rfl) h_int (de_add (de_sub1 (de_var (pv 0)) (de_var (pv 3))) (de_sub1 (de_var (pv 1)) (de_var (pv 3))))) (de_var (pv 2)))))))))
abbrev s__law_all : Stmt := topS 17
abbrev N__law_all : List Str := ["n", "p", "out", "k", "longer", "word", "a"]
theorem sc__law_all : FnScope N__law_all ["n", "p"] (defScope s__law_all) := ⟨rfl, rfl, rfl, by decide +kernel, rfl, by decide +kernel, by decide +kernel⟩
noncomputable def m__law_all : Ms → O := (seqS (asgS 2 (frz (lstE (aCons (tupE aNil) aNil))))
  (seqS (forS (itR1 (aCons (varE 0) aNil)) (Tk.nm 3).k (seqS (asgS 4 (frz (lstE aNil)))
  (seqS (forS (itS (frz (calN (aCons (varE 2) aNil) lstO))) (Tk.nm 5).k (asgS 4 (frz (opN (varE 4) (frz (lcE (itR1 (aCons (varE 1) aNil)) (Tk.nm 6).k yesT (op2 (varE 5) (tupE (aCons (varE 6) aNil)) catT) [6])) catL))))
  (moveS 2 4))))
  (retS (varE 2))))
theorem ok__law_all {f : Addr} {fd : FuncData} (F : Fun K "_law_all" "_law_all" s__law_all f fd) (h_list : mg "list" = none) (h_range : mg "range" = none) : FnOk P w K mg base (L2.CX P w) 1 f fd ["n", "p"] (spD K 2 (runD 7 m__law_all)) :=
  defOk F sc__law_all fun cdv A outer s H E hr => by
    have nd : N__law_all.Nodup := sc__law_all.nd
    have tk : Takes (cxOf (L2.CX P w) P w K mg base N__law_all "_law_all" (defScope s__law_all) f cdv A outer s H E) (fun cls d _ H' => E cls d H') := takes_of rfl rfl rfl rfl
    have po : PassesOwn (model P w) (cxOf (L2.CX P w) P w K mg base N__law_all "_law_all" (defScope s__law_all) f cdv A outer s H E).A (cxOf (L2.CX P w) P w K mg base N__law_all "_law_all" (defScope s__law_all) f cdv A outer s H E).env (cxOf (L2.CX P w) P w K mg base N__law_all "_law_all" (defScope s__law_all) f cdv A outer s H E).xe := passes_of rfl
    have hu64 := hr.units
    have hu65 := hu65_of hr
    have hu0 := hr.units0
    have hu1 := hu_of hr
    exact (dss_cons (ds_set (i := 2) nd (by rfl) (by first | exact Or.inl rfl | exact Or.inr rfl) (de_frz (dn_lst (da_cons (de_tup da_nil) da_nil))))
      (dss_cons (ds_for po (by rfl) (di_range1 (by rfl) h_range (da_cons (de_var (pv 0)) da_nil)) (dg_name (pg_name (i := 3) nd (by rfl) (by first | exact Or.inl rfl | exact Or.inr rfl))) (dss_cons (ds_set (i := 4) nd (by rfl) (by first | exact Or.inl rfl | exact Or.inr rfl) (de_frz (dn_lst da_nil)))
      (dss_cons (ds_for po (by rfl) (di_seq (de_frz (dn_list (by rfl) h_list (de_var (pv 2))))) (dg_name (pg_name (i := 5) nd (by rfl) (by first | exact Or.inl rfl | exact Or.inr rfl))) (dss_one (ds_set (i := 4) nd (by rfl) (by first | exact Or.inl rfl | exact Or.inr rfl) (de_frz (dn_catL (de_var (pv 4)) (de_frz (dn_lc (by rfl) nd (di_range1 (by rfl) h_range (da_cons (de_var (pv 1)) da_nil)) (blkOk_by (own := [("a", 6)]) (N := N__law_all) (sc := defScope s__law_all) (by decide +kernel)) (by decide) (fun _ _ _ _ _ => (dg_name (pg_name (i := 6) nd (by rfl) (by first | exact Or.inl rfl | exact Or.inr rfl)))) (fun _ _ _ _ _ => dts_nil) (fun _ _ _ _ _ => (de_catT (de_var (pv 5)) (de_tup (da_cons (de_var (pv 6)) da_nil)))))))))))
      (dss_one (ds_mov (i := 2) nd (by rfl) (by first | exact Or.inl rfl | exact Or.inr rfl) (pv 4))))))
      (dss_one (ds_ret (de_var (pv 2))))))
abbrev s__law_word : Stmt := topS 18
abbrev N__law_word : List Str := ["state", "n", "p", "k"]
theorem sc__law_word : FnScope N__law_word ["state", "n", "p"] (defScope s__law_word) := ⟨rfl, rfl, rfl, by decide +kernel, rfl, by decide +kernel, by decide +kernel⟩
noncomputable def m__law_word : Ms → O := (retS (calE (aCons (frz (lcE (itR1 (aCons (varE 1) aNil)) (Tk.nm 3).k yesT (funM 1 0 (aCons (varE 2) aNil) Ftake) [3])) aNil) tupO))
theorem ok__law_word {f : Addr} {fd : FuncData} (F : Fun K "_law_word" "_law_word" s__law_word f fd) (h_range : mg "range" = none) (h_tuple : mg "tuple" = none) (c__law_take : Cal P w K mg base "_law_take" 1 ["state", "m"] (spM K 1 Ftake)) : FnOk P w K mg base (L2.CX P w) 2 f fd ["state", "n", "p"] (spM K 2 (runM 4 m__law_word)) :=
  defOkM F sc__law_word fun cdv A outer s H E hr => by
    have nd : N__law_word.Nodup := sc__law_word.nd
    have tk : Takes (cxOf (L2.CX P w) P w K mg base N__law_word "_law_word" (defScope s__law_word) f cdv A outer s H E) (fun cls d _ H' => E cls d H') := takes_of rfl rfl rfl rfl
    have po : PassesOwn (model P w) (cxOf (L2.CX P w) P w K mg base N__law_word "_law_word" (defScope s__law_word) f cdv A outer s H E).A (cxOf (L2.CX P w) P w K mg base N__law_word "_law_word" (defScope s__law_word) f cdv A outer s H E).env (cxOf (L2.CX P w) P w K mg base N__law_word "_law_word" (defScope s__law_word) f cdv A outer s H E).xe := passes_of rfl
    have hu64 := hr.units
    have hu65 := hu65_of hr
    have hu0 := hr.units0
    have hu1 := hu_of hr
    exact (dss_one (ds_ret (de_tupc (by rfl) h_tuple (de_frz (dn_lc (by rfl) nd (di_range1 (by rfl) h_range (da_cons (de_var (pv 1)) da_nil)) (blkOk_by (own := [("k", 3)]) (N := N__law_word) (sc := defScope s__law_word) (by decide +kernel)) (by decide) (fun _ _ _ _ _ => (dg_name (pg_name (i := 3) nd (by rfl) (by first | exact Or.inl rfl | exact Or.inr rfl)))) (fun _ _ _ _ _ => dts_nil) (fun _ _ _ _ _ => (de_calM c__law_take takes0 hr (by decide) (by rfl) (pv 0) (da_cons (de_var (pv 2)) da_nil))))))))
abbrev s__law_prime : Stmt := topS 19
abbrev N__law_prime : List Str := ["state"]
theorem sc__law_prime : FnScope N__law_prime ["state"] (defScope s__law_prime) := ⟨rfl, rfl, rfl, by decide +kernel, rfl, by decide +kernel, by decide +kernel⟩
noncomputable def m__law_prime : Ms → O := (retS (op2 (frz (lstE (aCons (cE (.int 2)) (aCons (cE (.int 2)) (aCons (cE (.int 3)) (aCons (cE (.int 3)) (aCons (cE (.int 5)) (aCons (cE (.int 7)) aNil)))))))) (funM 1 0 (aCons (cE (.int 6)) aNil) Ftake) ixO))
theorem ok__law_prime {f : Addr} {fd : FuncData} (F : Fun K "_law_prime" "_law_prime" s__law_prime f fd) (c__law_take : Cal P w K mg base "_law_take" 1 ["state", "m"] (spM K 1 Ftake)) : FnOk P w K mg base (L2.CX P w) 2 f fd ["state"] (spM K 0 (runM 1 m__law_prime)) :=
  defOkM F sc__law_prime fun cdv A outer s H E hr => by
    have nd : N__law_prime.Nodup := sc__law_prime.nd
    have tk : Takes (cxOf (L2.CX P w) P w K mg base N__law_prime "_law_prime" (defScope s__law_prime) f cdv A outer s H E) (fun cls d _ H' => E cls d H') := takes_of rfl rfl rfl rfl
    have po : PassesOwn (model P w) (cxOf (L2.CX P w) P w K mg base N__law_prime "_law_prime" (defScope s__law_prime) f cdv A outer s H E).A (cxOf (L2.CX P w) P w K mg base N__law_prime "_law_prime" (defScope s__law_prime) f cdv A outer s H E).env (cxOf (L2.CX P w) P w K mg base N__law_prime "_law_prime" (defScope s__law_prime) f cdv A outer s H E).xe := passes_of rfl
    have hu64 := hr.units
    have hu65 := hu65_of hr
    have hu0 := hr.units0
    have hu1 := hu_of hr
    exact (dss_one (ds_ret (de_sub1 (de_frz (dn_lst (da_cons de_int (da_cons de_int (da_cons de_int (da_cons de_int (da_cons de_int (da_cons de_int da_nil)))))))) (de_calM c__law_take tk hr (by decide) (by rfl) (pv 0) (da_cons de_int da_nil)))))
abbrev s__law_trimmed : Stmt := topS 20
abbrev N__law_trimmed : List Str := ["row", "out", "k"]
theorem sc__law_trimmed : FnScope N__law_trimmed ["row"] (defScope s__law_trimmed) := ⟨rfl, rfl, rfl, by decide +kernel, rfl, by decide +kernel, by decide +kernel⟩
noncomputable def m__law_trimmed : Ms → O := (seqS (asgS 1 (frz (calN (aCons (varE 0) aNil) lstO)))
  (seqS (forS (itR1 (aCons (calE (aCons (varE 0) aNil) lenO) aNil)) (Tk.nm 2).k (ifS (andT (tst (op2 (calE (aCons (varE 1) aNil) lenO) (cE (.int 0)) gtO)) (tst (op2 (op2 (varE 1) (op1 (cE (.int 1)) negO) ixO) (cE (.int 0)) eqO))) (asgS 1 (frz (slL (varE 1) oNone (oSome (op1 (cE (.int 1)) negO))))) nilS))
  (retS (calE (aCons (varE 1) aNil) tupO))))
theorem ok__law_trimmed {f : Addr} {fd : FuncData} (F : Fun K "_law_trimmed" "_law_trimmed" s__law_trimmed f fd) (h_len : mg "len" = none) (h_list : mg "list" = none) (h_range : mg "range" = none) (h_tuple : mg "tuple" = none) : FnOk P w K mg base (L2.CX P w) 1 f fd ["row"] (spD K 1 (runD 3 m__law_trimmed)) :=
  defOk F sc__law_trimmed fun cdv A outer s H E hr => by
    have nd : N__law_trimmed.Nodup := sc__law_trimmed.nd
    have tk : Takes (cxOf (L2.CX P w) P w K mg base N__law_trimmed "_law_trimmed" (defScope s__law_trimmed) f cdv A outer s H E) (fun cls d _ H' => E cls d H') := takes_of rfl rfl rfl rfl
    have po : PassesOwn (model P w) (cxOf (L2.CX P w) P w K mg base N__law_trimmed "_law_trimmed" (defScope s__law_trimmed) f cdv A outer s H E).A (cxOf (L2.CX P w) P w K mg base N__law_trimmed "_law_trimmed" (defScope s__law_trimmed) f cdv A outer s H E).env (cxOf (L2.CX P w) P w K mg base N__law_trimmed "_law_trimmed" (defScope s__law_trimmed) f cdv A outer s H E).xe := passes_of rfl
    have hu64 := hr.units
    have hu65 := hu65_of hr
    have hu0 := hr.units0
    have hu1 := hu_of hr
    exact (dss_cons (ds_set (i := 1) nd (by rfl) (by first | exact Or.inl rfl | exact Or.inr rfl) (de_frz (dn_list (by rfl) h_list (de_var (pv 0)))))
      (dss_cons (ds_for po (by rfl) (di_range1 (by rfl) h_range (da_cons (de_len (by rfl) h_len (de_var (pv 0))) da_nil)) (dg_name (pg_name (i := 2) nd (by rfl) (by first | exact Or.inl rfl | exact Or.inr rfl))) (dss_one (ds_if (PW.pt (dw_and (dt_gt (de_len (by rfl) h_len (de_var (pv 1))) de_int) (dw_and1 (dt_eq hu64 (de_sub1 (de_var (pv 1)) (de_neg de_int)) de_int)))) (dss_one (ds_set (i := 1) nd (by rfl) (by first | exact Or.inl rfl | exact Or.inr rfl) (de_frz (dn_sliceL (de_var (pv 1)) do_none (do_some (de_neg de_int)))))) dss_nil)))
      (dss_one (ds_ret (de_tupc (by rfl) h_tuple (de_var (pv 1)))))))
abbrev s__law_times : Stmt := topS 21
abbrev N__law_times : List Str := ["a", "b", "p", "out", "i", "j", "k"]
theorem sc__law_times : FnScope N__law_times ["a", "b", "p"] (defScope s__law_times) := ⟨rfl, rfl, rfl, by decide +kernel, rfl, by decide +kernel, by decide +kernel⟩
noncomputable def m__law_times : Ms → O := (seqS (asgN 3 (lcE (itR1 (aCons (op2 (calE (aCons (varE 0) aNil) lenO) (calE (aCons (varE 1) aNil) lenO) addO) aNil)) (Tk.nm 6).k yesT (cE (.int 0)) [6]))
  (seqS (forS (itR1 (aCons (calE (aCons (varE 0) aNil) lenO) aNil)) (Tk.nm 4).k (forS (itR1 (aCons (calE (aCons (varE 1) aNil) lenO) aNil)) (Tk.nm 5).k (setS 3 (op2 (calE (aCons (op2 (ixV 3 (op2 (varE 4) (varE 5) addO)) (op2 (op2 (varE 0) (varE 4) ixO) (op2 (varE 1) (varE 5) ixO) mulO) addO) aNil) intO) (varE 2) modO) (op2 (varE 4) (varE 5) addO))))
  (retS (funE 1 (aCons (varE 3) aNil) Fltrim))))
theorem ok__law_times {f : Addr} {fd : FuncData} (F : Fun K "_law_times" "_law_times" s__law_times f fd) (h_int : mg "int" = none) (h_len : mg "len" = none) (h_range : mg "range" = none) (c__law_trimmed : Cal P w K mg base "_law_trimmed" 1 ["row"] (spD K 1 Fltrim)) : FnOk P w K mg base (L2.CX P w) 2 f fd ["a", "b", "p"] (spD K 3 (runD 7 m__law_times)) :=
  defOk F sc__law_times fun cdv A outer s H E hr => by
    have nd : N__law_times.Nodup := sc__law_times.nd
    have tk : Takes (cxOf (L2.CX P w) P w K mg base N__law_times "_law_times" (defScope s__law_times) f cdv A outer s H E) (fun cls d _ H' => E cls d H') := takes_of rfl rfl rfl rfl
    have po : PassesOwn (model P w) (cxOf (L2.CX P w) P w K mg base N__law_times "_law_times" (defScope s__law_times) f cdv A outer s H E).A (cxOf (L2.CX P w) P w K mg base N__law_times "_law_times" (defScope s__law_times) f cdv A outer s H E).env (cxOf (L2.CX P w) P w K mg base N__law_times "_law_times" (defScope s__law_times) f cdv A outer s H E).xe := passes_of rfl
    have hu64 := hr.units
    have hu65 := hu65_of hr
    have hu0 := hr.units0
    have hu1 := hu_of hr
    exact (dss_cons (ds_lcN (i := 3) (by rfl) nd (by rfl) (by rfl) (sw_true (by rfl) (by rfl) (by rfl) (by decide +kernel)) (di_range1 (by rfl) h_range (da_cons (de_add (de_len (by rfl) h_len (de_var (pv 0))) (de_len (by rfl) h_len (de_var (pv 1)))) da_nil)) (blkOk_by (own := [("k", 6)]) (N := N__law_times) (sc := defScope s__law_times) (by decide +kernel)) (by decide) (fun _ _ _ _ _ => (dg_name (pg_name (i := 6) nd (by rfl) (by first | exact Or.inl rfl | exact Or.inr rfl)))) (fun _ _ _ _ _ => dts_nil) (fun _ _ _ _ _ => de_int))
      (dss_cons (ds_for po (by rfl) (di_range1 (by rfl) h_range (da_cons (de_len (by rfl) h_len (de_var (pv 0))) da_nil)) (dg_name (pg_name (i := 4) nd (by rfl) (by first | exact Or.inl rfl | exact Or.inr rfl))) (dss_one (ds_for po (by rfl) (di_range1 (by rfl) h_range (da_cons (de_len (by rfl) h_len (de_var (pv 1))) da_nil)) (dg_name (pg_name (i := 5) nd (by rfl) (by first | exact Or.inl rfl | exact Or.inr rfl))) (dss_one (ds_setI (pv 3) (de_add (de_var (pv 4)) (de_var (pv 5))) (de_mod (de_intc (by rfl) h_int (de_add (de_ixV (pv 3) (de_add (de_var (pv 4)) (de_var (pv 5)))) (de_mul (de_sub1 (de_var (pv 0)) (de_var (pv 4))) (de_sub1 (de_var (pv 1)) (de_var (pv 5)))))) (de_var (pv 2))))))))
      (dss_one (ds_ret (de_cal c__law_trimmed tk hr (by decide) (by rfl) (da_cons (de_var (pv 3)) da_nil))))))
abbrev s__law_plus : Stmt := topS 22
abbrev N__law_plus : List Str := ["a", "b", "p", "size", "one", "two", "k"]
theorem sc__law_plus : FnScope N__law_plus ["a", "b", "p"] (defScope s__law_plus) := ⟨rfl, rfl, rfl, by decide +kernel, rfl, by decide +kernel, by decide +kernel⟩
noncomputable def m__law_plus : Ms → O := (seqS (asgS 3 (calE (aCons (calE (aCons (varE 0) aNil) lenO) (aCons (calE (aCons (varE 1) aNil) lenO) aNil)) maxO))
  (seqS (asgS 4 (op2 (calE (aCons (varE 0) aNil) tupO) (calE (aCons (frz (lcE (itR1 (aCons (op2 (varE 3) (calE (aCons (varE 0) aNil) lenO) subO) aNil)) (Tk.nm 6).k yesT (cE (.int 0)) [6])) aNil) tupO) catT))
  (seqS (asgS 5 (op2 (calE (aCons (varE 1) aNil) tupO) (calE (aCons (frz (lcE (itR1 (aCons (op2 (varE 3) (calE (aCons (varE 1) aNil) lenO) subO) aNil)) (Tk.nm 6).k yesT (cE (.int 0)) [6])) aNil) tupO) catT))
  (retS (funE 1 (aCons (funE 3 (aCons (varE 4) (aCons (varE 5) (aCons (varE 2) aNil))) FaddW) aNil) Fltrim)))))
theorem ok__law_plus {f : Addr} {fd : FuncData} (F : Fun K "_law_plus" "_law_plus" s__law_plus f fd) (h_len : mg "len" = none) (h_max : mg "max" = none) (h_range : mg "range" = none) (h_tuple : mg "tuple" = none) (c__law_trimmed : Cal P w K mg base "_law_trimmed" 1 ["row"] (spD K 1 Fltrim)) (c__law_sum : Cal P w K mg base "_law_sum" 1 ["v", "w", "p"] (spD K 3 FaddW)) : FnOk P w K mg base (L2.CX P w) 2 f fd ["a", "b", "p"] (spD K 3 (runD 7 m__law_plus)) :=
  defOk F sc__law_plus fun cdv A outer s H E hr => by
    have nd : N__law_plus.Nodup := sc__law_plus.nd
    have tk : Takes (cxOf (L2.CX P w) P w K mg base N__law_plus "_law_plus" (defScope s__law_plus) f cdv A outer s H E) (fun cls d _ H' => E cls d H') := takes_of rfl rfl rfl rfl
    have po : PassesOwn (model P w) (cxOf (L2.CX P w) P w K mg base N__law_plus "_law_plus" (defScope s__law_plus) f cdv A outer s H E).A (cxOf (L2.CX P w) P w K mg base N__law_plus "_law_plus" (defScope s__law_plus) f cdv A outer s H E).env (cxOf (L2.CX P w) P w K mg base N__law_plus "_law_plus" (defScope s__law_plus) f cdv A outer s H E).xe := passes_of rfl
    have hu64 := hr.units
    have hu65 := hu65_of hr
    have hu0 := hr.units0
    have hu1 := hu_of hr
    exact (dss_cons (ds_set (i := 3) nd (by rfl) (by first | exact Or.inl rfl | exact Or.inr rfl) (de_max (by rfl) (by rfl) h_max (de_len (by rfl) h_len (de_var (pv 0))) (de_len (by rfl) h_len (de_var (pv 1)))))
      (dss_cons (ds_set (i := 4) nd (by rfl) (by first | exact Or.inl rfl | exact Or.inr rfl) (de_catT (de_tupc (by rfl) h_tuple (de_var (pv 0))) (de_tupc (by rfl) h_tuple (de_frz (dn_lc (by rfl) nd (di_range1 (by rfl) h_range (da_cons (de_sub (de_var (pv 3)) (de_len (by rfl) h_len (de_var (pv 0)))) da_nil)) (blkOk_by (own := [("k", 6)]) (N := N__law_plus) (sc := defScope s__law_plus) (by decide +kernel)) (by decide) (fun _ _ _ _ _ => (dg_name (pg_name (i := 6) nd (by rfl) (by first | exact Or.inl rfl | exact Or.inr rfl)))) (fun _ _ _ _ _ => dts_nil) (fun _ _ _ _ _ => de_int))))))
      (dss_cons (ds_set (i := 5) nd (by rfl) (by first | exact Or.inl rfl | exact Or.inr rfl) (de_catT (de_tupc (by rfl) h_tuple (de_var (pv 1))) (de_tupc (by rfl) h_tuple (de_frz (dn_lc (by rfl) nd (di_range1 (by rfl) h_range (da_cons (de_sub (de_var (pv 3)) (de_len (by rfl) h_len (de_var (pv 1)))) da_nil)) (blkOk_by (own := [("k", 6)]) (N := N__law_plus) (sc := defScope s__law_plus) (by decide +kernel)) (by decide) (fun _ _ _ _ _ => (dg_name (pg_name (i := 6) nd (by rfl) (by first | exact Or.inl rfl | exact Or.inr rfl)))) (fun _ _ _ _ _ => dts_nil) (fun _ _ _ _ _ => de_int))))))
      (dss_one (ds_ret (de_cal c__law_trimmed tk hr (by decide) (by rfl) (da_cons (de_cal c__law_sum tk hr (by decide) (by rfl) (da_cons (de_var (pv 4)) (da_cons (de_var (pv 5)) (da_cons (de_var (pv 2)) da_nil)))) da_nil)))))))
abbrev s__law_poly : Stmt := topS 23
abbrev N__law_poly : List Str := ["state", "p", "most"]
theorem sc__law_poly : FnScope N__law_poly ["state", "p", "most"] (defScope s__law_poly) := ⟨rfl, rfl, rfl, by decide +kernel, rfl, by decide +kernel, by decide +kernel⟩
noncomputable def m__law_poly : Ms → O := (retS (funE 1 (aCons (funM 2 0 (aCons (funM 1 0 (aCons (op2 (varE 2) (cE (.int 2)) addO) aNil) Ftake) (aCons (varE 1) aNil)) Fword) aNil) Fltrim))
theorem ok__law_poly {f : Addr} {fd : FuncData} (F : Fun K "_law_poly" "_law_poly" s__law_poly f fd) (c__law_trimmed : Cal P w K mg base "_law_trimmed" 1 ["row"] (spD K 1 Fltrim)) (c__law_word : Cal P w K mg base "_law_word" 2 ["state", "n", "p"] (spM K 2 Fword)) (c__law_take : Cal P w K mg base "_law_take" 1 ["state", "m"] (spM K 1 Ftake)) : FnOk P w K mg base (L2.CX P w) 3 f fd ["state", "p", "most"] (spM K 2 (runM 3 m__law_poly)) :=
  defOkM F sc__law_poly fun cdv A outer s H E hr => by
    have nd : N__law_poly.Nodup := sc__law_poly.nd
    have tk : Takes (cxOf (L2.CX P w) P w K mg base N__law_poly "_law_poly" (defScope s__law_poly) f cdv A outer s H E) (fun cls d _ H' => E cls d H') := takes_of rfl rfl rfl rfl
    have po : PassesOwn (model P w) (cxOf (L2.CX P w) P w K mg base N__law_poly "_law_poly" (defScope s__law_poly) f cdv A outer s H E).A (cxOf (L2.CX P w) P w K mg base N__law_poly "_law_poly" (defScope s__law_poly) f cdv A outer s H E).env (cxOf (L2.CX P w) P w K mg base N__law_poly "_law_poly" (defScope s__law_poly) f cdv A outer s H E).xe := passes_of rfl
    have hu64 := hr.units
    have hu65 := hu65_of hr
    have hu0 := hr.units0
    have hu1 := hu_of hr
    exact (dss_one (ds_ret (de_cal c__law_trimmed tk hr (by decide) (by rfl) (da_cons (de_calM c__law_word tk hr (by decide) (by rfl) (pv 0) (da_cons (de_calM c__law_take tk hr (by decide) (by rfl) (pv 0) (da_cons (de_add (de_var (pv 2)) de_int) da_nil)) (da_cons (de_var (pv 1)) da_nil))) da_nil))))
abbrev s__law_rest : Stmt := topS 24
abbrev N__law_rest : List Str := ["a", "b", "p", "rest", "head", "at", "factor", "k"]
theorem sc__law_rest : FnScope N__law_rest ["a", "b", "p"] (defScope s__law_rest) := ⟨rfl, rfl, rfl, by decide +kernel, rfl, by decide +kernel, by decide +kernel⟩
noncomputable def m__law_rest : Ms → O := (seqS (asgN 3 (calN (aCons (varE 0) aNil) lstO))
  (seqS (asgS 4 (op2 (frz (lcE (itR2 (aCons (cE (.int 1)) (aCons (varE 2) aNil))) (Tk.nm 7).k (tst (op2 (op2 (calE (aCons (op2 (varE 7) (op2 (varE 1) (op1 (cE (.int 1)) negO) ixO) mulO) aNil) intO) (varE 2) modO) (cE (.int 1)) eqO)) (varE 7) [7])) (cE (.int 0)) ixO))
  (seqS (forS (itR3 (aCons (op2 (calE (aCons (varE 0) aNil) lenO) (calE (aCons (varE 1) aNil) lenO) subO) (aCons (op1 (cE (.int 1)) negO) (aCons (op1 (cE (.int 1)) negO) aNil)))) (Tk.nm 5).k (seqS (asgS 6 (op2 (calE (aCons (op2 (ixV 3 (op2 (op2 (varE 5) (calE (aCons (varE 1) aNil) lenO) addO) (cE (.int 1)) subO)) (varE 4) mulO) aNil) intO) (varE 2) modO))
  (forS (itR1 (aCons (calE (aCons (varE 1) aNil) lenO) aNil)) (Tk.nm 7).k (setS 3 (op2 (calE (aCons (op2 (ixV 3 (op2 (varE 5) (varE 7) addO)) (op2 (varE 6) (op2 (varE 1) (varE 7) ixO) mulO) subO) aNil) intO) (varE 2) modO) (op2 (varE 5) (varE 7) addO)))))
  (retS (funE 1 (aCons (varE 3) aNil) Fltrim)))))
theorem ok__law_rest {f : Addr} {fd : FuncData} (F : Fun K "_law_rest" "_law_rest" s__law_rest f fd) (h_int : mg "int" = none) (h_len : mg "len" = none) (h_list : mg "list" = none) (h_range : mg "range" = none) (c__law_trimmed : Cal P w K mg base "_law_trimmed" 1 ["row"] (spD K 1 Fltrim)) : FnOk P w K mg base (L2.CX P w) 2 f fd ["a", "b", "p"] (spD K 3 (runD 8 m__law_rest)) :=
  defOk F sc__law_rest fun cdv A outer s H E hr => by
    have nd : N__law_rest.Nodup := sc__law_rest.nd
    have tk : Takes (cxOf (L2.CX P w) P w K mg base N__law_rest "_law_rest" (defScope s__law_rest) f cdv A outer s H E) (fun cls d _ H' => E cls d H') := takes_of rfl rfl rfl rfl
    have po : PassesOwn (model P w) (cxOf (L2.CX P w) P w K mg base N__law_rest "_law_rest" (defScope s__law_rest) f cdv A outer s H E).A (cxOf (L2.CX P w) P w K mg base N__law_rest "_law_rest" (defScope s__law_rest) f cdv A outer s H E).env (cxOf (L2.CX P w) P w K mg base N__law_rest "_law_rest" (defScope s__law_rest) f cdv A outer s H E).xe := passes_of rfl
    have hu64 := hr.units
    have hu65 := hu65_of hr
    have hu0 := hr.units0
    have hu1 := hu_of hr
    exact (dss_cons (ds_setN (i := 3) nd (by rfl) (by first | exact Or.inl rfl | exact Or.inr rfl) (dn_list (by rfl) h_list (de_var (pv 0))))
      (dss_cons (ds_set (i := 4) nd (by rfl) (by first | exact Or.inl rfl | exact Or.inr rfl) (de_sub1 (de_frz (dn_lc (by rfl) nd (di_range2 (by rfl) h_range (da_cons de_int (da_cons (de_var (pv 2)) da_nil))) (blkOk_by (own := [("k", 7)]) (N := N__law_rest) (sc := defScope s__law_rest) (by decide +kernel)) (by decide) (fun _ _ _ _ _ => (dg_name (pg_name (i := 7) nd (by rfl) (by first | exact Or.inl rfl | exact Or.inr rfl)))) (fun _ _ _ _ _ => (dts_one (dt_eq hu64 (de_mod (de_intc (by rfl) h_int (de_mul (de_var (pv 7)) (de_sub1 (de_var (pv 1)) (de_neg de_int)))) (de_var (pv 2))) de_int))) (fun _ _ _ _ _ => (de_var (pv 7))))) de_int))
      (dss_cons (ds_for po (by rfl) (di_range3 (by rfl) h_range (da_cons (de_sub (de_len (by rfl) h_len (de_var (pv 0))) (de_len (by rfl) h_len (de_var (pv 1)))) (da_cons (de_neg de_int) (da_cons (de_neg de_int) da_nil)))) (dg_name (pg_name (i := 5) nd (by rfl) (by first | exact Or.inl rfl | exact Or.inr rfl))) (dss_cons (ds_set (i := 6) nd (by rfl) (by first | exact Or.inl rfl | exact Or.inr rfl) (de_mod (de_intc (by rfl) h_int (de_mul (de_ixV (pv 3) (de_sub (de_add (de_var (pv 5)) (de_len (by rfl) h_len (de_var (pv 1)))) de_int)) (de_var (pv 4)))) (de_var (pv 2))))
      (dss_one (ds_for po (by rfl) (di_range1 (by rfl) h_range (da_cons (de_len (by rfl) h_len (de_var (pv 1))) da_nil)) (dg_name (pg_name (i := 7) nd (by rfl) (by first | exact Or.inl rfl | exact Or.inr rfl))) (dss_one (ds_setI (pv 3) (de_add (de_var (pv 5)) (de_var (pv 7))) (de_mod (de_intc (by rfl) h_int (de_sub (de_ixV (pv 3) (de_add (de_var (pv 5)) (de_var (pv 7)))) (de_mul (de_var (pv 6)) (de_sub1 (de_var (pv 1)) (de_var (pv 7)))))) (de_var (pv 2)))))))))
      (dss_one (ds_ret (de_cal c__law_trimmed tk hr (by decide) (by rfl) (da_cons (de_var (pv 3)) da_nil)))))))
abbrev s__law_monics : Stmt := topS 25
abbrev N__law_monics : List Str := ["degree", "p", "word"]
theorem sc__law_monics : FnScope N__law_monics ["degree", "p"] (defScope s__law_monics) := ⟨rfl, rfl, rfl, by decide +kernel, rfl, by decide +kernel, by decide +kernel⟩
noncomputable def m__law_monics : Ms → O := (retS (frz (lcE (itS (funE 2 (aCons (varE 0) (aCons (varE 1) aNil)) Fall)) (Tk.nm 2).k yesT (op2 (varE 2) (tupE (aCons (cE (.int 1)) aNil)) catT) [2])))
theorem ok__law_monics {f : Addr} {fd : FuncData} (F : Fun K "_law_monics" "_law_monics" s__law_monics f fd) (c__law_all : Cal P w K mg base "_law_all" 1 ["n", "p"] (spD K 2 Fall)) : FnOk P w K mg base (L2.CX P w) 2 f fd ["degree", "p"] (spD K 2 (runD 3 m__law_monics)) :=
  defOk F sc__law_monics fun cdv A outer s H E hr => by
    have nd : N__law_monics.Nodup := sc__law_monics.nd
    have tk : Takes (cxOf (L2.CX P w) P w K mg base N__law_monics "_law_monics" (defScope s__law_monics) f cdv A outer s H E) (fun cls d _ H' => E cls d H') := takes_of rfl rfl rfl rfl
    have po : PassesOwn (model P w) (cxOf (L2.CX P w) P w K mg base N__law_monics "_law_monics" (defScope s__law_monics) f cdv A outer s H E).A (cxOf (L2.CX P w) P w K mg base N__law_monics "_law_monics" (defScope s__law_monics) f cdv A outer s H E).env (cxOf (L2.CX P w) P w K mg base N__law_monics "_law_monics" (defScope s__law_monics) f cdv A outer s H E).xe := passes_of rfl
    have hu64 := hr.units
    have hu65 := hu65_of hr
    have hu0 := hr.units0
    have hu1 := hu_of hr
    exact (dss_one (ds_ret (de_frz (dn_lc (by rfl) nd (di_seq (de_cal c__law_all tk hr (by decide) (by rfl) (da_cons (de_var (pv 0)) (da_cons (de_var (pv 1)) da_nil)))) (blkOk_by (own := [("word", 2)]) (N := N__law_monics) (sc := defScope s__law_monics) (by decide +kernel)) (by decide) (fun _ _ _ _ _ => (dg_name (pg_name (i := 2) nd (by rfl) (by first | exact Or.inl rfl | exact Or.inr rfl)))) (fun _ _ _ _ _ => dts_nil) (fun _ _ _ _ _ => (de_catT (de_var (pv 2)) (de_tup (da_cons de_int da_nil))))))))
abbrev s__law_refuses : Stmt := topS 26
abbrev N__law_refuses : List Str := ["a", "p", "e"]
theorem sc__law_refuses : FnScope N__law_refuses ["a", "p"] (defScope s__law_refuses) := ⟨rfl, rfl, rfl, by decide +kernel, rfl, by decide +kernel, by decide +kernel⟩
noncomputable def m__law_refuses (CR : Addr) : Ms → O := (seqS (tryQ CR "reason" "zero" 2 (dropS (funE 3 (aCons (varE 0) (aCons (tupE aNil) (aCons (varE 1) aNil))) (Fdivd CR))))
  (retS (cE (.bl false))))
theorem ok__law_refuses {f : Addr} {fd : FuncData} (F : Fun K "_law_refuses" "_law_refuses" s__law_refuses f fd) {CR : Addr} (R_Refused : RaS P w K mg base "Refused" CR "reason") (c_divided : Cal P w K mg base "divided" 3 ["a", "b", "p"] (spD K 3 (Fdivd CR))) : FnOk P w K mg base (L2.CX P w) 4 f fd ["a", "p"] (spD K 2 (runD 3 (m__law_refuses CR))) :=
  defOk F sc__law_refuses fun cdv A outer s H E hr => by
    have nd : N__law_refuses.Nodup := sc__law_refuses.nd
    have tk : Takes (cxOf (L2.CX P w) P w K mg base N__law_refuses "_law_refuses" (defScope s__law_refuses) f cdv A outer s H E) (fun cls d _ H' => E cls d H') := takes_of rfl rfl rfl rfl
    have po : PassesOwn (model P w) (cxOf (L2.CX P w) P w K mg base N__law_refuses "_law_refuses" (defScope s__law_refuses) f cdv A outer s H E).A (cxOf (L2.CX P w) P w K mg base N__law_refuses "_law_refuses" (defScope s__law_refuses) f cdv A outer s H E).env (cxOf (L2.CX P w) P w K mg base N__law_refuses "_law_refuses" (defScope s__law_refuses) f cdv A outer s H E).xe := passes_of rfl
    have hu64 := hr.units
    have hu65 := hu65_of hr
    have hu0 := hr.units0
    have hu1 := hu_of hr
    exact (dss_cons (ds_tryQ (i := 2) ⟨R_Refused.gC, R_Refused.xc, R_Refused.nf, R_Refused.e1⟩ (by rfl) (by rfl) nd (by rfl) (by rfl) (by rfl) tk (fun W pn xe tk po => (dss_one (ds_drop (de_cal c_divided tk hr (by decide) (by rfl) (da_cons (de_var (pv 0)) (da_cons (de_tup da_nil) (da_cons (de_var (pv 1)) da_nil))))))) (fun _ _ _ => pv 2))
      (dss_one (ds_ret de_bl)))
abbrev s_law : Stmt := topS 27
abbrev N_law : List Str := ["script", "state", "p", "a", "b", "c", "g", "degree", "told", "row"]
theorem sc_law : FnScope N_law ["script"] (defScope s_law) := ⟨rfl, rfl, rfl, by decide +kernel, rfl, by decide +kernel, by decide +kernel⟩
theorem ok_law {f : Addr} {fd : FuncData} (F : Fun K "law" "law" s_law f fd) {CR : Addr} (h_isinstance : mg "isinstance" = none) (h_len : mg "len" = none) (h_range : mg "range" = none) (h_tuple : mg "tuple" = none) (c_common_divisor : Cal P w K mg base "common_divisor" 4 ["a", "b", "p"] (spD K 3 (Fgcd CR))) (c__law_monics : Cal P w K mg base "_law_monics" 2 ["degree", "p"] (spD K 2 Flmon)) (c__law_rest : Cal P w K mg base "_law_rest" 2 ["a", "b", "p"] (spD K 3 Flrest)) (c__law_plus : Cal P w K mg base "_law_plus" 2 ["a", "b", "p"] (spD K 3 Flplus)) (c__law_times : Cal P w K mg base "_law_times" 2 ["a", "b", "p"] (spD K 3 Fltimes)) (c_divided : Cal P w K mg base "divided" 3 ["a", "b", "p"] (spD K 3 (Fdivd CR))) (c__law_refuses : Cal P w K mg base "_law_refuses" 4 ["a", "p"] (spD K 2 (Flref34 CR))) (c_times : Cal P w K mg base "times" 2 ["a", "b", "p"] (spD K 3 Ftimes)) (c__law_take : Cal P w K mg base "_law_take" 1 ["state", "m"] (spM K 1 Ftake)) (c__law_poly : Cal P w K mg base "_law_poly" 3 ["state", "p", "most"] (spM K 2 Flpoly)) (c__law_prime : Cal P w K mg base "_law_prime" 2 ["state"] (spM K 0 Fprime)) (c__law_state : Cal P w K mg base "_law_state" 1 ["script"] (spN K 1 Fstate)) : FnOk P w K mg base (L2.CX P w) 5 f fd ["script"] (Lq.spLaw K) :=
  lawOk F sc_law (fun ns h => run_law34 CR ns h) fun cdv A outer s H E hr => by
    have nd : N_law.Nodup := sc_law.nd
    have tk : Takes (cxOf (L2.CX P w) P w K mg base N_law "law" (defScope s_law) f cdv A outer s H E) (fun cls d _ H' => E cls d H') := takes_of rfl rfl rfl rfl
    have po : PassesOwn (model P w) (cxOf (L2.CX P w) P w K mg base N_law "law" (defScope s_law) f cdv A outer s H E).A (cxOf (L2.CX P w) P w K mg base N_law "law" (defScope s_law) f cdv A outer s H E).env (cxOf (L2.CX P w) P w K mg base N_law "law" (defScope s_law) f cdv A outer s H E).xe := passes_of rfl
    have hu64 := hr.units
    have hu65 := hu65_of hr
    have hu0 := hr.units0
    have hu1 := hu_of hr
    exact (dss_cons (ds_setN (i := 1) nd (by rfl) (by first | exact Or.inl rfl | exact Or.inr rfl) (dn_cal c__law_state tk hr (by decide) (by rfl) (da_cons (de_var (pv 0)) da_nil)))
      (dss_cons (ds_set (i := 2) nd (by rfl) (by first | exact Or.inl rfl | exact Or.inr rfl) (de_calM c__law_prime tk hr (by decide) (by rfl) (pv 1) da_nil))
      (dss_cons (ds_set (i := 3) nd (by rfl) (by first | exact Or.inl rfl | exact Or.inr rfl) (de_calM c__law_poly tk hr (by decide) (by rfl) (pv 1) (da_cons (de_var (pv 2)) (da_cons de_int da_nil))))
      (dss_cons (ds_set (i := 4) nd (by rfl) (by first | exact Or.inl rfl | exact Or.inr rfl) (de_calM c__law_poly tk hr (by decide) (by rfl) (pv 1) (da_cons (de_var (pv 2)) (da_cons de_int da_nil))))
      (dss_cons (ds_set (i := 5) nd (by rfl) (by first | exact Or.inl rfl | exact Or.inr rfl) (de_calM c__law_poly tk hr (by decide) (by rfl) (pv 1) (da_cons (de_var (pv 2)) (da_cons de_int da_nil))))
      (dss_cons (ds_if (dt_eq hu64 (de_calM c__law_take tk hr (by decide) (by rfl) (pv 1) (da_cons de_int da_nil)) de_int) (dss_cons (ds_set (i := 3) nd (by rfl) (by first | exact Or.inl rfl | exact Or.inr rfl) (de_cal c__law_times tk hr (by decide) (by rfl) (da_cons (de_var (pv 3)) (da_cons (de_var (pv 5)) (da_cons (de_var (pv 2)) da_nil)))))
      (dss_one (ds_set (i := 4) nd (by rfl) (by first | exact Or.inl rfl | exact Or.inr rfl) (de_cal c__law_times tk hr (by decide) (by rfl) (da_cons (de_var (pv 4)) (da_cons (de_var (pv 5)) (da_cons (de_var (pv 2)) da_nil))))))) dss_nil)
      (dss_cons (ds_if (PW.pt (dw_or (dt_ne hu64 (de_cal c_times tk hr (by decide) (by rfl) (da_cons (de_var (pv 3)) (da_cons (de_var (pv 4)) (da_cons (de_var (pv 2)) da_nil)))) (de_cal c__law_times tk hr (by decide) (by rfl) (da_cons (de_var (pv 3)) (da_cons (de_var (pv 4)) (da_cons (de_var (pv 2)) da_nil))))) (dw_or1 (dt_not (dt_tru (de_cal c__law_refuses tk hr (by decide) (by rfl) (da_cons (de_var (pv 3)) (da_cons (de_var (pv 2)) da_nil)))))))) (dss_one (ds_ret de_bl)) dss_nil)
      (dss_cons (ds_if (dt_gt (de_len (by rfl) h_len (de_var (pv 4))) de_int) (dss_cons (ds_set (i := 8) nd (by rfl) (by first | exact Or.inl rfl | exact Or.inr rfl) (de_cal c_divided tk hr (by decide) (by rfl) (da_cons (de_var (pv 3)) (da_cons (de_var (pv 4)) (da_cons (de_var (pv 2)) da_nil)))))
      (dss_cons (ds_if (PW.pt (dw_or (dt_not (dt_tru (de_isi (T := "tuple") (by decide +kernel) (by rfl) h_isinstance (by rfl) h_tuple (by constructor) (de_var (pv 8))))) (dw_or (dt_ne hu64 (de_len (by rfl) h_len (de_var (pv 8))) de_int) (dw_or1 (dt_ge (de_len (by rfl) h_len (de_sub1 (de_var (pv 8)) de_int)) (de_len (by rfl) h_len (de_var (pv 4)))))))) (dss_one (ds_ret de_bl)) dss_nil)
      (dss_one (ds_if (PW.pt (dw_or (dt_ne hu64 (de_cal c__law_plus tk hr (by decide) (by rfl) (da_cons (de_cal c__law_times tk hr (by decide) (by rfl) (da_cons (de_sub1 (de_var (pv 8)) de_int) (da_cons (de_var (pv 4)) (da_cons (de_var (pv 2)) da_nil)))) (da_cons (de_sub1 (de_var (pv 8)) de_int) (da_cons (de_var (pv 2)) da_nil)))) (de_var (pv 3))) (dw_or1 (dt_ne hu64 (de_sub1 (de_var (pv 8)) de_int) (de_cal c__law_rest tk hr (by decide) (by rfl) (da_cons (de_var (pv 3)) (da_cons (de_var (pv 4)) (da_cons (de_var (pv 2)) da_nil)))))))) (dss_one (ds_ret de_bl)) dss_nil)))) dss_nil)
      (dss_cons (ds_set (i := 6) nd (by rfl) (by first | exact Or.inl rfl | exact Or.inr rfl) (de_cal c_common_divisor tk hr (by decide) (by rfl) (da_cons (de_var (pv 3)) (da_cons (de_var (pv 4)) (da_cons (de_var (pv 2)) da_nil)))))
      (dss_cons (ds_if (dt_eq hu64 (de_add (de_len (by rfl) h_len (de_var (pv 3))) (de_len (by rfl) h_len (de_var (pv 4)))) de_int) (dss_one (ds_ret (de_eq hu64 (de_var (pv 6)) (de_tup da_nil)))) dss_nil)
      (dss_cons (ds_if (PW.pt (dw_or (dt_eq hu64 (de_len (by rfl) h_len (de_var (pv 6))) de_int) (dw_or (dt_ne hu64 (de_sub1 (de_var (pv 6)) (de_neg de_int)) de_int) (dw_or (dt_ne hu64 (de_cal c__law_rest tk hr (by decide) (by rfl) (da_cons (de_var (pv 3)) (da_cons (de_var (pv 6)) (da_cons (de_var (pv 2)) da_nil)))) (de_tup da_nil)) (dw_or1 (dt_ne hu64 (de_cal c__law_rest tk hr (by decide) (by rfl) (da_cons (de_var (pv 4)) (da_cons (de_var (pv 6)) (da_cons (de_var (pv 2)) da_nil)))) (de_tup da_nil))))))) (dss_one (ds_ret de_bl)) dss_nil)
      (dss_cons (ds_for po (by rfl) (di_range2 (by rfl) h_range (da_cons de_int (da_cons de_int da_nil))) (dg_name (pg_name (i := 7) nd (by rfl) (by first | exact Or.inl rfl | exact Or.inr rfl))) (dss_one (ds_for po (by rfl) (di_seq (de_cal c__law_monics tk hr (by decide) (by rfl) (da_cons (de_var (pv 7)) (da_cons (de_var (pv 2)) da_nil)))) (dg_name (pg_name (i := 9) nd (by rfl) (by first | exact Or.inl rfl | exact Or.inr rfl))) (dss_one (ds_if (PW.pt (dw_and (dt_eq hu64 (de_cal c__law_rest tk hr (by decide) (by rfl) (da_cons (de_var (pv 3)) (da_cons (de_var (pv 9)) (da_cons (de_var (pv 2)) da_nil)))) (de_tup da_nil)) (dw_and (dt_eq hu64 (de_cal c__law_rest tk hr (by decide) (by rfl) (da_cons (de_var (pv 4)) (da_cons (de_var (pv 9)) (da_cons (de_var (pv 2)) da_nil)))) (de_tup da_nil)) (dw_and1 (dt_ne hu64 (de_cal c__law_rest tk hr (by decide) (by rfl) (da_cons (de_var (pv 6)) (da_cons (de_var (pv 9)) (da_cons (de_var (pv 2)) da_nil)))) (de_tup da_nil)))))) (dss_one (ds_ret de_bl)) dss_nil)))))
      (dss_one (ds_ret (de_eq hu64 (de_cal c_common_divisor tk hr (by decide) (by rfl) (da_cons (de_var (pv 4)) (da_cons (de_var (pv 3)) (da_cons (de_var (pv 2)) da_nil)))) (de_var (pv 6)))))))))))))))))
theorem all_mk {l : PySem.W.OpenLaw} {w : World} {K : PySem.W.Frag} {h : Heap} {mg : Str → Option Value} {fa f1 f2 f3 f4 f5 f6 f7 f8 f9 f10 f11 f12 f13 f14 f15 f16 f17 f18 f19 f20 f21 : Addr} (X : K.In h) (G : h.Ns mainGlobals mg) (hfa : mg "law" = some (.ref fa))
    {od1 an1 od2 an2 od3 an3 od4 an4 od5 an5 od6 an6 od7 an7 od8 an8 od9 an9 od10 an10 od11 an11 od12 an12 od13 an13 od14 an14 od15 an15 od16 an16 od17 an17 od18 an18 od19 an19 od20 an20 od21 an21 : Option Addr} {sl1 sl2 sl3 sl4 sl5 sl6 sl7 sl8 sl9 sl10 sl11 sl12 sl13 sl14 sl15 sl16 sl17 sl18 sl19 sl20 sl21 : Array (Option Value)} {oc1 kV1 dc1 pm1 cd1 ct1 oc2 kV2 dc2 pm2 cd2 ct2 oc3 kV3 dc3 pm3 cd3 ct3 oc4 kV4 dc4 pm4 cd4 ct4 oc5 kV5 dc5 pm5 cd5 ct5 oc6 kV6 dc6 pm6 cd6 ct6 oc7 kV7 dc7 pm7 cd7 ct7 oc8 kV8 dc8 pm8 cd8 ct8 oc9 kV9 dc9 pm9 cd9 ct9 oc10 kV10 dc10 pm10 cd10 ct10 oc11 kV11 dc11 pm11 cd11 ct11 oc12 kV12 dc12 pm12 cd12 ct12 oc13 kV13 dc13 pm13 cd13 ct13 oc14 kV14 dc14 pm14 cd14 ct14 oc15 kV15 dc15 pm15 cd15 ct15 oc16 kV16 dc16 pm16 cd16 ct16 oc17 kV17 dc17 pm17 cd17 ct17 oc18 kV18 dc18 pm18 cd18 ct18 oc19 kV19 dc19 pm19 cd19 ct19 oc20 kV20 dc20 pm20 cd20 ct20 oc21 kV21 dc21 pm21 cd21 ct21 : Value}
    (a1 : PySem.W.nsIn K mainGlobals "inverse" = some (some (.ref f1))) (l1 : K.lookup f1 = some ⟨oc1, od1, .func (PySem.W.fnOf "inverse" "inverse" (defArgs s_inverse) (defBody s_inverse) (defScope s_inverse) .none kV1 dc1 pm1 an1 cd1 ct1), sl1⟩) (c1 : PySem.W.codeIn K cd1 "inverse" = true) (k1 : PySem.W.keepIn K (.ref f1) = true)
    (a2 : PySem.W.nsIn K mainGlobals "scaled" = some (some (.ref f2))) (l2 : K.lookup f2 = some ⟨oc2, od2, .func (PySem.W.fnOf "scaled" "scaled" (defArgs s_scaled) (defBody s_scaled) (defScope s_scaled) .none kV2 dc2 pm2 an2 cd2 ct2), sl2⟩) (c2 : PySem.W.codeIn K cd2 "scaled" = true) (k2 : PySem.W.keepIn K (.ref f2) = true)
    (a3 : PySem.W.nsIn K mainGlobals "_trimmed" = some (some (.ref f3))) (l3 : K.lookup f3 = some ⟨oc3, od3, .func (PySem.W.fnOf "_trimmed" "_trimmed" (defArgs s__trimmed) (defBody s__trimmed) (defScope s__trimmed) .none kV3 dc3 pm3 an3 cd3 ct3), sl3⟩) (c3 : PySem.W.codeIn K cd3 "_trimmed" = true) (k3 : PySem.W.keepIn K (.ref f3) = true)
    (a4 : PySem.W.nsIn K mainGlobals "_monic" = some (some (.ref f4))) (l4 : K.lookup f4 = some ⟨oc4, od4, .func (PySem.W.fnOf "_monic" "_monic" (defArgs s__monic) (defBody s__monic) (defScope s__monic) .none kV4 dc4 pm4 an4 cd4 ct4), sl4⟩) (c4 : PySem.W.codeIn K cd4 "_monic" = true) (k4 : PySem.W.keepIn K (.ref f4) = true)
    (a5 : PySem.W.nsIn K mainGlobals "times" = some (some (.ref f5))) (l5 : K.lookup f5 = some ⟨oc5, od5, .func (PySem.W.fnOf "times" "times" (defArgs s_times) (defBody s_times) (defScope s_times) .none kV5 dc5 pm5 an5 cd5 ct5), sl5⟩) (c5 : PySem.W.codeIn K cd5 "times" = true) (k5 : PySem.W.keepIn K (.ref f5) = true)
    (a6 : PySem.W.nsIn K mainGlobals "divided" = some (some (.ref f6))) (l6 : K.lookup f6 = some ⟨oc6, od6, .func (PySem.W.fnOf "divided" "divided" (defArgs s_divided) (defBody s_divided) (defScope s_divided) .none kV6 dc6 pm6 an6 cd6 ct6), sl6⟩) (c6 : PySem.W.codeIn K cd6 "divided" = true) (k6 : PySem.W.keepIn K (.ref f6) = true)
    (a7 : PySem.W.nsIn K mainGlobals "common_divisor" = some (some (.ref f7))) (l7 : K.lookup f7 = some ⟨oc7, od7, .func (PySem.W.fnOf "common_divisor" "common_divisor" (defArgs s_common_divisor) (defBody s_common_divisor) (defScope s_common_divisor) .none kV7 dc7 pm7 an7 cd7 ct7), sl7⟩) (c7 : PySem.W.codeIn K cd7 "common_divisor" = true) (k7 : PySem.W.keepIn K (.ref f7) = true)
    (a8 : PySem.W.nsIn K mainGlobals "_law_state" = some (some (.ref f8))) (l8 : K.lookup f8 = some ⟨oc8, od8, .func (PySem.W.fnOf "_law_state" "_law_state" (defArgs s__law_state) (defBody s__law_state) (defScope s__law_state) .none kV8 dc8 pm8 an8 cd8 ct8), sl8⟩) (c8 : PySem.W.codeIn K cd8 "_law_state" = true) (k8 : PySem.W.keepIn K (.ref f8) = true)
    (a9 : PySem.W.nsIn K mainGlobals "_law_take" = some (some (.ref f9))) (l9 : K.lookup f9 = some ⟨oc9, od9, .func (PySem.W.fnOf "_law_take" "_law_take" (defArgs s__law_take) (defBody s__law_take) (defScope s__law_take) .none kV9 dc9 pm9 an9 cd9 ct9), sl9⟩) (c9 : PySem.W.codeIn K cd9 "_law_take" = true) (k9 : PySem.W.keepIn K (.ref f9) = true)
    (a10 : PySem.W.nsIn K mainGlobals "_law_sum" = some (some (.ref f10))) (l10 : K.lookup f10 = some ⟨oc10, od10, .func (PySem.W.fnOf "_law_sum" "_law_sum" (defArgs s__law_sum) (defBody s__law_sum) (defScope s__law_sum) .none kV10 dc10 pm10 an10 cd10 ct10), sl10⟩) (c10 : PySem.W.codeIn K cd10 "_law_sum" = true) (k10 : PySem.W.keepIn K (.ref f10) = true)
    (a11 : PySem.W.nsIn K mainGlobals "_law_all" = some (some (.ref f11))) (l11 : K.lookup f11 = some ⟨oc11, od11, .func (PySem.W.fnOf "_law_all" "_law_all" (defArgs s__law_all) (defBody s__law_all) (defScope s__law_all) .none kV11 dc11 pm11 an11 cd11 ct11), sl11⟩) (c11 : PySem.W.codeIn K cd11 "_law_all" = true) (k11 : PySem.W.keepIn K (.ref f11) = true)
    (a12 : PySem.W.nsIn K mainGlobals "_law_word" = some (some (.ref f12))) (l12 : K.lookup f12 = some ⟨oc12, od12, .func (PySem.W.fnOf "_law_word" "_law_word" (defArgs s__law_word) (defBody s__law_word) (defScope s__law_word) .none kV12 dc12 pm12 an12 cd12 ct12), sl12⟩) (c12 : PySem.W.codeIn K cd12 "_law_word" = true) (k12 : PySem.W.keepIn K (.ref f12) = true)
    (a13 : PySem.W.nsIn K mainGlobals "_law_prime" = some (some (.ref f13))) (l13 : K.lookup f13 = some ⟨oc13, od13, .func (PySem.W.fnOf "_law_prime" "_law_prime" (defArgs s__law_prime) (defBody s__law_prime) (defScope s__law_prime) .none kV13 dc13 pm13 an13 cd13 ct13), sl13⟩) (c13 : PySem.W.codeIn K cd13 "_law_prime" = true) (k13 : PySem.W.keepIn K (.ref f13) = true)
    (a14 : PySem.W.nsIn K mainGlobals "_law_trimmed" = some (some (.ref f14))) (l14 : K.lookup f14 = some ⟨oc14, od14, .func (PySem.W.fnOf "_law_trimmed" "_law_trimmed" (defArgs s__law_trimmed) (defBody s__law_trimmed) (defScope s__law_trimmed) .none kV14 dc14 pm14 an14 cd14 ct14), sl14⟩) (c14 : PySem.W.codeIn K cd14 "_law_trimmed" = true) (k14 : PySem.W.keepIn K (.ref f14) = true)
    (a15 : PySem.W.nsIn K mainGlobals "_law_times" = some (some (.ref f15))) (l15 : K.lookup f15 = some ⟨oc15, od15, .func (PySem.W.fnOf "_law_times" "_law_times" (defArgs s__law_times) (defBody s__law_times) (defScope s__law_times) .none kV15 dc15 pm15 an15 cd15 ct15), sl15⟩) (c15 : PySem.W.codeIn K cd15 "_law_times" = true) (k15 : PySem.W.keepIn K (.ref f15) = true)
    (a16 : PySem.W.nsIn K mainGlobals "_law_plus" = some (some (.ref f16))) (l16 : K.lookup f16 = some ⟨oc16, od16, .func (PySem.W.fnOf "_law_plus" "_law_plus" (defArgs s__law_plus) (defBody s__law_plus) (defScope s__law_plus) .none kV16 dc16 pm16 an16 cd16 ct16), sl16⟩) (c16 : PySem.W.codeIn K cd16 "_law_plus" = true) (k16 : PySem.W.keepIn K (.ref f16) = true)
    (a17 : PySem.W.nsIn K mainGlobals "_law_poly" = some (some (.ref f17))) (l17 : K.lookup f17 = some ⟨oc17, od17, .func (PySem.W.fnOf "_law_poly" "_law_poly" (defArgs s__law_poly) (defBody s__law_poly) (defScope s__law_poly) .none kV17 dc17 pm17 an17 cd17 ct17), sl17⟩) (c17 : PySem.W.codeIn K cd17 "_law_poly" = true) (k17 : PySem.W.keepIn K (.ref f17) = true)
    (a18 : PySem.W.nsIn K mainGlobals "_law_rest" = some (some (.ref f18))) (l18 : K.lookup f18 = some ⟨oc18, od18, .func (PySem.W.fnOf "_law_rest" "_law_rest" (defArgs s__law_rest) (defBody s__law_rest) (defScope s__law_rest) .none kV18 dc18 pm18 an18 cd18 ct18), sl18⟩) (c18 : PySem.W.codeIn K cd18 "_law_rest" = true) (k18 : PySem.W.keepIn K (.ref f18) = true)
    (a19 : PySem.W.nsIn K mainGlobals "_law_monics" = some (some (.ref f19))) (l19 : K.lookup f19 = some ⟨oc19, od19, .func (PySem.W.fnOf "_law_monics" "_law_monics" (defArgs s__law_monics) (defBody s__law_monics) (defScope s__law_monics) .none kV19 dc19 pm19 an19 cd19 ct19), sl19⟩) (c19 : PySem.W.codeIn K cd19 "_law_monics" = true) (k19 : PySem.W.keepIn K (.ref f19) = true)
    (a20 : PySem.W.nsIn K mainGlobals "_law_refuses" = some (some (.ref f20))) (l20 : K.lookup f20 = some ⟨oc20, od20, .func (PySem.W.fnOf "_law_refuses" "_law_refuses" (defArgs s__law_refuses) (defBody s__law_refuses) (defScope s__law_refuses) .none kV20 dc20 pm20 an20 cd20 ct20), sl20⟩) (c20 : PySem.W.codeIn K cd20 "_law_refuses" = true) (k20 : PySem.W.keepIn K (.ref f20) = true)
    (a21 : PySem.W.nsIn K mainGlobals "law" = some (some (.ref f21))) (l21 : K.lookup f21 = some ⟨oc21, od21, .func (PySem.W.fnOf "law" "law" (defArgs s_law) (defBody s_law) (defScope s_law) .none kV21 dc21 pm21 an21 cd21 ct21), sl21⟩) (c21 : PySem.W.codeIn K cd21 "law" = true) (k21 : PySem.W.keepIn K (.ref f21) = true)
    (z_abs : PySem.W.nsIn K mainGlobals "abs" = some none)
    (z_enumerate : PySem.W.nsIn K mainGlobals "enumerate" = some none)
    (z_int : PySem.W.nsIn K mainGlobals "int" = some none)
    (z_isinstance : PySem.W.nsIn K mainGlobals "isinstance" = some none)
    (z_len : PySem.W.nsIn K mainGlobals "len" = some none)
    (z_list : PySem.W.nsIn K mainGlobals "list" = some none)
    (z_max : PySem.W.nsIn K mainGlobals "max" = some none)
    (z_range : PySem.W.nsIn K mainGlobals "range" = some none)
    (z_reversed : PySem.W.nsIn K mainGlobals "reversed" = some none)
    (z_tuple : PySem.W.nsIn K mainGlobals "tuple" = some none)
    {CF : Addr} {CR fI_Refused cda_Refused cc_Refused N_Refused : Addr} {nm_Refused qn_Refused file_Refused : Str} {bs_Refused : List Value} {sn_Refused : List Str} {sub_Refused : List Value} {ab_Refused : Bool} {col_Refused : Option Bool} {dd_Refused odI_Refused anI_Refused cdd_Refused ecd_Refused : Option Addr} {m0_Refused m1_Refused m2_Refused m3_Refused m5_Refused : Option Value} {ocI_Refused kVI_Refused dcI_Refused pmI_Refused ctI_Refused ccl_Refused ecl_Refused : Value} {slI_Refused ccs_Refused ecs_Refused : Array (Option Value)} {cvs_Refused : Array Value} {tf_Refused : Tok}
    (zS : PySem.W.nsIn K mainGlobals "super" = some none)
    (an_ : PySem.W.nsIn K PySem.cStatics "thirdparty.any" = some none)
    (tp : (l.prog.main.scope.names.lookup ("super" : Str)).isSome = false)
    (gC_Refused : PySem.W.nsIn K mainGlobals "Refused" = some (some (.ref CR)))
    (xC_Refused : K.lookup CR = some (excClassObj nm_Refused qn_Refused CR N_Refused bs_Refused [.ref CF, .type "ValueError", .type "Exception", .type "BaseException", .type "object"] true sn_Refused sub_Refused ab_Refused col_Refused dd_Refused m0_Refused m1_Refused m2_Refused m3_Refused m5_Refused "ValueError.__new__"))
    (sa_Refused : PySem.W.findIn K (.ref CR) "__setattr__" = some (some (.builtin "object.__setattr__")))
    (ga_Refused : PySem.W.findIn K (.ref CR) "__getattribute__" = some (some (.builtin "BaseException.__getattribute__")))
    (gg_Refused : PySem.W.findIn K (.ref CR) "__getattr__" = some none)
    (nr_Refused : PySem.W.findIn K (.ref CR) "reason" = some none)
    (eC_Refused : PySem.W.subIn K (.ref CR) (.type "BaseException") = some true)
    (tC_Refused : PySem.W.typeIn K (.ref CR) = some (.type "type"))
    (kC_Refused : PySem.W.keepIn K (.ref CR) = true)
    (hC_Refused : PySem.W.hasDictIn K CR = true)
    (sC_Refused : PySem.W.subIn K (.ref CR) (.ref CR) = some true)
    (aI_Refused : PySem.W.findIn K (.ref CR) "__init__" = some (some (.ref fI_Refused)))
    (tI_Refused : PySem.W.typeIn K (.ref fI_Refused) = some (.type "function"))
    (lI_Refused : K.lookup fI_Refused = some ⟨ocI_Refused, odI_Refused, .func (PySem.W.ksFn "__init__" "Refused.__init__" (defArgs s_init_Refused) (defBody s_init_Refused) (defScope s_init_Refused) .none kVI_Refused dcI_Refused pmI_Refused anI_Refused (.ref cda_Refused) ctI_Refused cc_Refused), slI_Refused⟩)
    (cI_Refused : PySem.W.codeIn K (.ref cda_Refused) "Refused.__init__" = true)
    (lc_Refused : K.lookup cda_Refused = some ⟨ccl_Refused, cdd_Refused, .fields cvs_Refused, ccs_Refused⟩)
    (lf_Refused : cvs_Refused[2]? = some (.str file_Refused tf_Refused))
    (lq_Refused : ((l.prog.main.file : Str) == file_Refused) = true)
    (cl_Refused : K.lookup cc_Refused = some ⟨ecl_Refused, ecd_Refused, .cell (some (.ref CR)), ecs_Refused⟩)
    (mC_Refused : PySem.W.mroIn K CR (.ref CR) = some true)
    (up_Refused : PySem.W.ks_superIn K CR CR "__init__" = some (some (.builtin "ValueError.__init__")))
    (bsv_Refused : PySem.W.subIn K (.ref CR) (.type "ValueError") = some true)
    : ∃ fd : FuncData, (∀ (s : Shared) (v : Value), BindsTo s fd ⟨[v], []⟩ [("script", v)]) ∧ ∀ base : Heap, K.In base → base.Ns mainGlobals mg → FnOk l.prog w K mg base (L2.CX l.prog w) 5 fa fd ["script"] (Lq.spLaw K) := by
  have e := hfa.symm.trans (PySem.W.mg_of X G a21)
  cases e
  have h_abs := PySem.W.mg_none_of X G z_abs
  have h_enumerate := PySem.W.mg_none_of X G z_enumerate
  have h_int := PySem.W.mg_none_of X G z_int
  have h_isinstance := PySem.W.mg_none_of X G z_isinstance
  have h_len := PySem.W.mg_none_of X G z_len
  have h_list := PySem.W.mg_none_of X G z_list
  have h_max := PySem.W.mg_none_of X G z_max
  have h_range := PySem.W.mg_none_of X G z_range
  have h_reversed := PySem.W.mg_none_of X G z_reversed
  have h_tuple := PySem.W.mg_none_of X G z_tuple
  have F1 := fun_mk (st := s_inverse) l1 c1 k1
  have F2 := fun_mk (st := s_scaled) l2 c2 k2
  have F3 := fun_mk (st := s__trimmed) l3 c3 k3
  have F4 := fun_mk (st := s__monic) l4 c4 k4
  have F5 := fun_mk (st := s_times) l5 c5 k5
  have F6 := fun_mk (st := s_divided) l6 c6 k6
  have F7 := fun_mk (st := s_common_divisor) l7 c7 k7
  have F8 := fun_mk (st := s__law_state) l8 c8 k8
  have F9 := fun_mk (st := s__law_take) l9 c9 k9
  have F10 := fun_mk (st := s__law_sum) l10 c10 k10
  have F11 := fun_mk (st := s__law_all) l11 c11 k11
  have F12 := fun_mk (st := s__law_word) l12 c12 k12
  have F13 := fun_mk (st := s__law_prime) l13 c13 k13
  have F14 := fun_mk (st := s__law_trimmed) l14 c14 k14
  have F15 := fun_mk (st := s__law_times) l15 c15 k15
  have F16 := fun_mk (st := s__law_plus) l16 c16 k16
  have F17 := fun_mk (st := s__law_poly) l17 c17 k17
  have F18 := fun_mk (st := s__law_rest) l18 c18 k18
  have F19 := fun_mk (st := s__law_monics) l19 c19 k19
  have F20 := fun_mk (st := s__law_refuses) l20 c20 k20
  have F21 := fun_mk (st := s_law) l21 c21 k21
  have b1 := F1.binds (ps := ["a", "p"]) fun _ _ _ _ _ _ us hl => match us, hl with | [_, _], _ => rfl
  have b2 := F2.binds (ps := ["v", "a", "p"]) fun _ _ _ _ _ _ us hl => match us, hl with | [_, _, _], _ => rfl
  have b3 := F3.binds (ps := ["items"]) fun _ _ _ _ _ _ us hl => match us, hl with | [_], _ => rfl
  have b4 := F4.binds (ps := ["a", "p"]) fun _ _ _ _ _ _ us hl => match us, hl with | [_, _], _ => rfl
  have b5 := F5.binds (ps := ["a", "b", "p"]) fun _ _ _ _ _ _ us hl => match us, hl with | [_, _, _], _ => rfl
  have b6 := F6.binds (ps := ["a", "b", "p"]) fun _ _ _ _ _ _ us hl => match us, hl with | [_, _, _], _ => rfl
  have b7 := F7.binds (ps := ["a", "b", "p"]) fun _ _ _ _ _ _ us hl => match us, hl with | [_, _, _], _ => rfl
  have b8 := F8.binds (ps := ["script"]) fun _ _ _ _ _ _ us hl => match us, hl with | [_], _ => rfl
  have b9 := F9.binds (ps := ["state", "m"]) fun _ _ _ _ _ _ us hl => match us, hl with | [_, _], _ => rfl
  have b10 := F10.binds (ps := ["v", "w", "p"]) fun _ _ _ _ _ _ us hl => match us, hl with | [_, _, _], _ => rfl
  have b11 := F11.binds (ps := ["n", "p"]) fun _ _ _ _ _ _ us hl => match us, hl with | [_, _], _ => rfl
  have b12 := F12.binds (ps := ["state", "n", "p"]) fun _ _ _ _ _ _ us hl => match us, hl with | [_, _, _], _ => rfl
  have b13 := F13.binds (ps := ["state"]) fun _ _ _ _ _ _ us hl => match us, hl with | [_], _ => rfl
  have b14 := F14.binds (ps := ["row"]) fun _ _ _ _ _ _ us hl => match us, hl with | [_], _ => rfl
  have b15 := F15.binds (ps := ["a", "b", "p"]) fun _ _ _ _ _ _ us hl => match us, hl with | [_, _, _], _ => rfl
  have b16 := F16.binds (ps := ["a", "b", "p"]) fun _ _ _ _ _ _ us hl => match us, hl with | [_, _, _], _ => rfl
  have b17 := F17.binds (ps := ["state", "p", "most"]) fun _ _ _ _ _ _ us hl => match us, hl with | [_, _, _], _ => rfl
  have b18 := F18.binds (ps := ["a", "b", "p"]) fun _ _ _ _ _ _ us hl => match us, hl with | [_, _, _], _ => rfl
  have b19 := F19.binds (ps := ["degree", "p"]) fun _ _ _ _ _ _ us hl => match us, hl with | [_, _], _ => rfl
  have b20 := F20.binds (ps := ["a", "p"]) fun _ _ _ _ _ _ us hl => match us, hl with | [_, _], _ => rfl
  refine ⟨PySem.W.fnOf "law" "law" (defArgs s_law) (defBody s_law) (defScope s_law) .none kV21 dc21 pm21 an21 cd21 ct21, fun s v => .of_eq rfl, fun base _ _ => ?_⟩
  have T_Refused : OexC K CR := ⟨⟨nm_Refused, qn_Refused, N_Refused, bs_Refused, _, sn_Refused, sub_Refused, ab_Refused, col_Refused, dd_Refused, m0_Refused, m1_Refused, m2_Refused, m3_Refused, m5_Refused, xC_Refused, rfl⟩, sa_Refused, eC_Refused, tC_Refused, kC_Refused⟩
  have hcl_Refused : ∃ cd, PySem.W.clsIn K CR = some cd := by
    obtain ⟨cd, hc, _⟩ := PySem.W.any_some hC_Refused
    exact ⟨cd, hc⟩
  have SF_Refused : SupF l.prog K mg fI_Refused cda_Refused cc_Refused CR CR (defScope s_init_Refused) "self" := ⟨⟨_, _, _, _, _, lI_Refused, rfl, rfl⟩, ⟨_, _, _, _, _, _, lc_Refused, lf_Refused, lq_Refused⟩, ⟨_, _, _, cl_Refused⟩, hcl_Refused, mC_Refused, up_Refused, bsv_Refused, an_, PySem.W.mg_none_of X G zS, rfl, rfl, rfl, tp⟩
  have R_Refused : RaS l.prog w K mg base "Refused" CR "reason" := ⟨T_Refused, ⟨fI_Refused, _, aI_Refused, tI_Refused, ok_init_Refused lI_Refused cI_Refused cl_Refused SF_Refused T_Refused nr_Refused, .all fun us hl => match us, hl with | [_, _], _ => rfl⟩, PySem.W.mg_of X G gC_Refused, ⟨ga_Refused, gg_Refused, eC_Refused, hC_Refused⟩, nr_Refused, PySem.W.exm_ref eC_Refused hC_Refused tC_Refused sC_Refused⟩
  have C_inverse : Cal l.prog w K mg base "inverse" 1 ["a", "p"] (spD K 2 Finverse) := ⟨f1, _, Lq.FnOk.toF (ok_inverse (P := l.prog) (w := w) (mg := mg) (base := base) F1 (h_range := h_range)) (fun ds h => Lq.run_inverse ds h), PySem.W.mg_of X G a1, k1, b1⟩
  have C_scaled : Cal l.prog w K mg base "scaled" 1 ["v", "a", "p"] (spD K 3 FscW) := ⟨f2, _, Lq.FnOk.toF (ok_scaled (P := l.prog) (w := w) (mg := mg) (base := base) F2 (h_tuple := h_tuple)) (fun ds h => Lq.run_scaled ds h), PySem.W.mg_of X G a2, k2, b2⟩
  have C__trimmed : Cal l.prog w K mg base "_trimmed" 1 ["items"] (spD K 1 Ftrim) := ⟨f3, _, Lq.FnOk.toF (ok__trimmed (P := l.prog) (w := w) (mg := mg) (base := base) F3 (h_enumerate := h_enumerate) (h_tuple := h_tuple)) (fun _ _ => rfl), PySem.W.mg_of X G a3, k3, b3⟩
  have C__law_state : Cal l.prog w K mg base "_law_state" 1 ["script"] (spN K 1 Fstate) := ⟨f8, _, Lq.FnOk.toN (ok__law_state (P := l.prog) (w := w) (mg := mg) (base := base) F8 (h_abs := h_abs) (h_int := h_int)) (fun _ _ => rfl), PySem.W.mg_of X G a8, k8, b8⟩
  have C__law_take : Cal l.prog w K mg base "_law_take" 1 ["state", "m"] (spM K 1 Ftake) := ⟨f9, _, Lq.FnOk.toM (ok__law_take (P := l.prog) (w := w) (mg := mg) (base := base) F9 (h_int := h_int)) (fun xs ds h => Lq.run__law_take xs ds h), PySem.W.mg_of X G a9, k9, b9⟩
  have C__law_sum : Cal l.prog w K mg base "_law_sum" 1 ["v", "w", "p"] (spD K 3 FaddW) := ⟨f10, _, Lq.FnOk.toF (ok__law_sum (P := l.prog) (w := w) (mg := mg) (base := base) F10 (h_int := h_int) (h_len := h_len) (h_range := h_range) (h_tuple := h_tuple)) (fun ds h => Lq.run__law_sum ds h), PySem.W.mg_of X G a10, k10, b10⟩
  have C__law_all : Cal l.prog w K mg base "_law_all" 1 ["n", "p"] (spD K 2 Fall) := ⟨f11, _, Lq.FnOk.toF (ok__law_all (P := l.prog) (w := w) (mg := mg) (base := base) F11 (h_list := h_list) (h_range := h_range)) (fun ds h => Lq.run__law_all ds h), PySem.W.mg_of X G a11, k11, b11⟩
  have C__law_trimmed : Cal l.prog w K mg base "_law_trimmed" 1 ["row"] (spD K 1 Fltrim) := ⟨f14, _, Lq.FnOk.toF (ok__law_trimmed (P := l.prog) (w := w) (mg := mg) (base := base) F14 (h_len := h_len) (h_list := h_list) (h_range := h_range) (h_tuple := h_tuple)) (fun _ _ => rfl), PySem.W.mg_of X G a14, k14, b14⟩
  have C__monic : Cal l.prog w K mg base "_monic" 2 ["a", "p"] (spD K 2 Fmonic) := ⟨f4, _, Lq.FnOk.toF (ok__monic (P := l.prog) (w := w) (mg := mg) (base := base) F4 (c_scaled := C_scaled) (c_inverse := C_inverse)) (fun _ _ => rfl), PySem.W.mg_of X G a4, k4, b4⟩
  have C_times : Cal l.prog w K mg base "times" 2 ["a", "b", "p"] (spD K 3 Ftimes) := ⟨f5, _, Lq.FnOk.toF (ok_times (P := l.prog) (w := w) (mg := mg) (base := base) F5 (h_enumerate := h_enumerate) (h_len := h_len) (c__trimmed := C__trimmed)) (fun _ _ => rfl), PySem.W.mg_of X G a5, k5, b5⟩
  have C__law_word : Cal l.prog w K mg base "_law_word" 2 ["state", "n", "p"] (spM K 2 Fword) := ⟨f12, _, Lq.FnOk.toM (ok__law_word (P := l.prog) (w := w) (mg := mg) (base := base) F12 (h_range := h_range) (h_tuple := h_tuple) (c__law_take := C__law_take)) (fun xs ds h => Lq.run__law_word xs ds h), PySem.W.mg_of X G a12, k12, b12⟩
  have C__law_prime : Cal l.prog w K mg base "_law_prime" 2 ["state"] (spM K 0 Fprime) := ⟨f13, _, Lq.FnOk.toM (ok__law_prime (P := l.prog) (w := w) (mg := mg) (base := base) F13 (c__law_take := C__law_take)) (fun xs ds h => Lq.run__law_prime xs ds h), PySem.W.mg_of X G a13, k13, b13⟩
  have C__law_times : Cal l.prog w K mg base "_law_times" 2 ["a", "b", "p"] (spD K 3 Fltimes) := ⟨f15, _, Lq.FnOk.toF (ok__law_times (P := l.prog) (w := w) (mg := mg) (base := base) F15 (h_int := h_int) (h_len := h_len) (h_range := h_range) (c__law_trimmed := C__law_trimmed)) (fun _ _ => rfl), PySem.W.mg_of X G a15, k15, b15⟩
  have C__law_plus : Cal l.prog w K mg base "_law_plus" 2 ["a", "b", "p"] (spD K 3 Flplus) := ⟨f16, _, Lq.FnOk.toF (ok__law_plus (P := l.prog) (w := w) (mg := mg) (base := base) F16 (h_len := h_len) (h_max := h_max) (h_range := h_range) (h_tuple := h_tuple) (c__law_trimmed := C__law_trimmed) (c__law_sum := C__law_sum)) (fun _ _ => rfl), PySem.W.mg_of X G a16, k16, b16⟩
  have C__law_rest : Cal l.prog w K mg base "_law_rest" 2 ["a", "b", "p"] (spD K 3 Flrest) := ⟨f18, _, Lq.FnOk.toF (ok__law_rest (P := l.prog) (w := w) (mg := mg) (base := base) F18 (h_int := h_int) (h_len := h_len) (h_list := h_list) (h_range := h_range) (c__law_trimmed := C__law_trimmed)) (fun _ _ => rfl), PySem.W.mg_of X G a18, k18, b18⟩
  have C__law_monics : Cal l.prog w K mg base "_law_monics" 2 ["degree", "p"] (spD K 2 Flmon) := ⟨f19, _, Lq.FnOk.toF (ok__law_monics (P := l.prog) (w := w) (mg := mg) (base := base) F19 (c__law_all := C__law_all)) (fun _ _ => rfl), PySem.W.mg_of X G a19, k19, b19⟩
  have C_divided : Cal l.prog w K mg base "divided" 3 ["a", "b", "p"] (spD K 3 (Fdivd CR)) := ⟨f6, _, Lq.FnOk.toF (ok_divided (P := l.prog) (w := w) (mg := mg) (base := base) F6 (h_enumerate := h_enumerate) (h_len := h_len) (h_list := h_list) (h_range := h_range) (h_reversed := h_reversed) (h_tuple := h_tuple) (R_Refused := R_Refused) (c__trimmed := C__trimmed) (c_inverse := C_inverse)) (fun _ _ => rfl), PySem.W.mg_of X G a6, k6, b6⟩
  have C__law_poly : Cal l.prog w K mg base "_law_poly" 3 ["state", "p", "most"] (spM K 2 Flpoly) := ⟨f17, _, Lq.FnOk.toM (ok__law_poly (P := l.prog) (w := w) (mg := mg) (base := base) F17 (c__law_trimmed := C__law_trimmed) (c__law_word := C__law_word) (c__law_take := C__law_take)) (fun _ _ _ => rfl), PySem.W.mg_of X G a17, k17, b17⟩
  have C_common_divisor : Cal l.prog w K mg base "common_divisor" 4 ["a", "b", "p"] (spD K 3 (Fgcd CR)) := ⟨f7, _, Lq.FnOk.toF (ok_common_divisor (P := l.prog) (w := w) (mg := mg) (base := base) F7 (c__monic := C__monic) (c_divided := C_divided)) (fun _ _ => rfl), PySem.W.mg_of X G a7, k7, b7⟩
  have C__law_refuses : Cal l.prog w K mg base "_law_refuses" 4 ["a", "p"] (spD K 2 (Flref34 CR)) := ⟨f20, _, Lq.FnOk.toF (ok__law_refuses (P := l.prog) (w := w) (mg := mg) (base := base) F20 (R_Refused := R_Refused) (c_divided := C_divided)) (fun _ _ => rfl), PySem.W.mg_of X G a20, k20, b20⟩
  exact ok_law (P := l.prog) (w := w) (mg := mg) (base := base) F21 (h_isinstance := h_isinstance) (h_len := h_len) (h_range := h_range) (h_tuple := h_tuple) (c_common_divisor := C_common_divisor) (c__law_monics := C__law_monics) (c__law_rest := C__law_rest) (c__law_plus := C__law_plus) (c__law_times := C__law_times) (c_divided := C_divided) (c__law_refuses := C__law_refuses) (c_times := C_times) (c__law_take := C__law_take) (c__law_poly := C__law_poly) (c__law_prime := C__law_prime) (c__law_state := C__law_state)
end
end K34
open PySem PySem.W PyProof.Rows L2 in
set_option maxRecDepth 100000 in
set_option maxHeartbeats 0 in
theorem PySem.Challenge.cw_weightkeepers_k34_polynomials_holds : PySem.Challenge.rw_weightkeepers_k34_polynomials.Holds := by
  w_on; o_law; k_head; (case hw => w_witness2)
  k_fill
  refine L2.walk_of (l := PySem.Challenge.rw_weightkeepers_k34_polynomials) (n := 63) (k := 5) (x := "script") (CX := fun w => L2.CX (PySem.Challenge.rw_weightkeepers_k34_polynomials).prog w) (sp := fun w => Lq.spLaw _) rfl (by decide) rfl ⟨rfl, by decide, by decide⟩ (fun w h Y => PySem.W.kIn_of Y) ?F (fun _ _ a ns hl _ hS => ⟨a, ns, rfl, hS, hl, fun _ => rfl⟩) (fun _ _ _ _ _ ⟨_, _, _, _, _, _, _, _, _, _, _, _, z⟩ => z)
  case F =>
    intro w mg fa h KX G hmg
    refine' K34.all_mk KX G hmg ?a1 ?l1 ?c1 ?k1 ?a2 ?l2 ?c2 ?k2 ?a3 ?l3 ?c3 ?k3 ?a4 ?l4 ?c4 ?k4 ?a5 ?l5 ?c5 ?k5 ?a6 ?l6 ?c6 ?k6 ?a7 ?l7 ?c7 ?k7 ?a8 ?l8 ?c8 ?k8 ?a9 ?l9 ?c9 ?k9 ?a10 ?l10 ?c10 ?k10 ?a11 ?l11 ?c11 ?k11 ?a12 ?l12 ?c12 ?k12 ?a13 ?l13 ?c13 ?k13 ?a14 ?l14 ?c14 ?k14 ?a15 ?l15 ?c15 ?k15 ?a16 ?l16 ?c16 ?k16 ?a17 ?l17 ?c17 ?k17 ?a18 ?l18 ?c18 ?k18 ?a19 ?l19 ?c19 ?k19 ?a20 ?l20 ?c20 ?k20 ?a21 ?l21 ?c21 ?k21 ?z_abs ?z_enumerate ?z_int ?z_isinstance ?z_len ?z_list ?z_max ?z_range ?z_reversed ?z_tuple ?zS ?an_ ?tp ?gC_Refused ?xC_Refused ?sa_Refused ?ga_Refused ?gg_Refused ?nr_Refused ?eC_Refused ?tC_Refused ?kC_Refused ?hC_Refused ?sC_Refused ?aI_Refused ?tI_Refused ?lI_Refused ?cI_Refused ?lc_Refused ?lf_Refused ?lq_Refused ?cl_Refused ?mC_Refused ?up_Refused ?bsv_Refused
    (case gC_Refused => k_is)
    (case a1 => k_is)
    (case l1 => k_is)
    (case c1 => k_is)
    (case k1 => k_is)
    (case a2 => k_is)
    (case l2 => k_is)
    (case c2 => k_is)
    (case k2 => k_is)
    (case a3 => k_is)
    (case l3 => k_is)
    (case c3 => k_is)
    (case k3 => k_is)
    (case a4 => k_is)
    (case l4 => k_is)
    (case c4 => k_is)
    (case k4 => k_is)
    (case a5 => k_is)
    (case l5 => k_is)
    (case c5 => k_is)
    (case k5 => k_is)
    (case a6 => k_is)
    (case l6 => k_is)
    (case c6 => k_is)
    (case k6 => k_is)
    (case a7 => k_is)
    (case l7 => k_is)
    (case c7 => k_is)
    (case k7 => k_is)
    (case a8 => k_is)
    (case l8 => k_is)
    (case c8 => k_is)
    (case k8 => k_is)
    (case a9 => k_is)
    (case l9 => k_is)
    (case c9 => k_is)
    (case k9 => k_is)
    (case a10 => k_is)
    (case l10 => k_is)
    (case c10 => k_is)
    (case k10 => k_is)
    (case a11 => k_is)
    (case l11 => k_is)
    (case c11 => k_is)
    (case k11 => k_is)
    (case a12 => k_is)
    (case l12 => k_is)
    (case c12 => k_is)
    (case k12 => k_is)
    (case a13 => k_is)
    (case l13 => k_is)
    (case c13 => k_is)
    (case k13 => k_is)
    (case a14 => k_is)
    (case l14 => k_is)
    (case c14 => k_is)
    (case k14 => k_is)
    (case a15 => k_is)
    (case l15 => k_is)
    (case c15 => k_is)
    (case k15 => k_is)
    (case a16 => k_is)
    (case l16 => k_is)
    (case c16 => k_is)
    (case k16 => k_is)
    (case a17 => k_is)
    (case l17 => k_is)
    (case c17 => k_is)
    (case k17 => k_is)
    (case a18 => k_is)
    (case l18 => k_is)
    (case c18 => k_is)
    (case k18 => k_is)
    (case a19 => k_is)
    (case l19 => k_is)
    (case c19 => k_is)
    (case k19 => k_is)
    (case a20 => k_is)
    (case l20 => k_is)
    (case c20 => k_is)
    (case k20 => k_is)
    (case a21 => k_is)
    (case l21 => k_is)
    (case c21 => k_is)
    (case k21 => k_is)
    (case z_abs => k_is)
    (case z_enumerate => k_is)
    (case z_int => k_is)
    (case z_isinstance => k_is)
    (case z_len => k_is)
    (case z_list => k_is)
    (case z_max => k_is)
    (case z_range => k_is)
    (case z_reversed => k_is)
    (case z_tuple => k_is)
    (case zS => k_is)
    (case an_ => k_is)
    (case tp => first | rfl | decide +kernel)
    (case xC_Refused => k_is)
    (case sa_Refused => k_is)
    (case ga_Refused => k_is)
    (case gg_Refused => k_is)
    (case nr_Refused => k_is)
    (case eC_Refused => k_is)
    (case tC_Refused => k_is)
    (case kC_Refused => k_is)
    (case hC_Refused => k_is)
    (case sC_Refused => first | k_is | rfl)
    (case aI_Refused => k_is)
    (case tI_Refused => k_is)
    (case lI_Refused => k_is)
    (case cI_Refused => k_is)
    (case lc_Refused => k_is)
    (case lf_Refused => rfl)
    (case lq_Refused => first | rfl | decide +kernel)
    (case cl_Refused => k_is)
    (case mC_Refused => first | k_is | rfl)
    (case up_Refused => first | k_is | rfl | decide +kernel)
    (case bsv_Refused => k_is)



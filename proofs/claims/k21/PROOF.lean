import PyProof.Rows.All
import Wide.All
import OpenK.AllK
import Wide.FinOn
import HandS.ForMost
import HandS.Evl
import HandS.Zip
import HandS.Exc
import HandS.ExcOwn
import HandS.TryOnly
import HandS.WordsExc
import HandS.TupAny
import HandS.IsInst
import HandS.Style
import HandS.Deep
import HandS.Wide
import HandS.Steps
import HandS.Walk
import HandS.TupSets
import HandS.Conv
import HandS.SortRule
import KE.KDictDisplayH
import KE.SortData
import HandS.TupMul
import KE.KMathGC
import HandS.Gcd
import KE.KSuper
import KE.KExcSuper
import HandS.ExcInit
import HandS.ExcIs
import HandS.ExcField
import KE.KSortTup
import HandS.FStr
import HandS.TryMany
import HandS.Iter
import HandS.GenList
import PyProof.Rows.CallKwBuiltin
import KE.DataMinMax
import KE.DataAny
import HandS.OwnEq
import HandS.RevRange
import HandS.SortInts
import KE.OsSort
import KE.DataCmp
import KE.KDictZip
import KE.GoesZip
import KE.GoesMore
import HandS.ListItems
import KE.GoesEnum
import HandS.Text
import KE.KCallOwn
import KE.KFmtOwn
import PyProof.InstEq
import PyProof.FactsAll.object_2
import HandS.DictTup
import KE.KDictSum
import PyProof.DictMoreH
import PyProof.StrLawsChain
import PyProof.Rows.StrLawsPart
import PySem.Challenge.RW_weightkeepers_k21_whole_cosets
set_option Elab.async false
set_option linter.all false
set_option maxRecDepth 100000
set_option maxHeartbeats 4000000
namespace Lq
open PySem PySem.Spec PyProof.Rows L2
open Evl (Ex)

inductive Dt where
  | non | bl (b : Bool) | int (i : Int) | str (x : Str) | lst (xs : List Dt) | tup (xs : List Dt) | obj (C : Addr) (ks : List Str) (xs : List Dt)
  /-- a list (false) or a tuple (true) that is only read: the script, a constant of a module -/
  | scr (t : Bool) (xs : List Dt)

def TupAt (K : PySem.W.Frag) (F : Hp) (a : Addr) (xs : List V) : Prop := F a = some (.tup xs)
theorem TupAt.up {K : PySem.W.Frag} {F F' : Hp} {a : Addr} {xs : List V} (h : TupAt K F a xs) (e : Ex F F') : TupAt K F' a xs := e _ _ h
theorem TupAt.sq {K : PySem.W.Frag} {F : Hp} {a : Addr} {xs : List V} (h : TupAt K F a xs) : SqT K F a xs := .inl (.inl h)

def SqB (K : PySem.W.Frag) (F : Hp) (t : Bool) (a : Addr) (xs : List V) : Prop := if t = true then SqT K F a xs else SqL K F a xs
theorem SqB.up {K : PySem.W.Frag} {F F' : Hp} {t : Bool} {a : Addr} {xs : List V} (h : SqB K F t a xs) (e : Ex F F') : SqB K F' t a xs := by
  unfold SqB at *
  cases t with
  | true => exact Evl.ex_t e h
  | false => exact Evl.ex_l e h
mutual
inductive Rp (K : PySem.W.Frag) (F : Hp) : V → Dt → Prop
  | non : Rp K F .non .non
  | bl (b : Bool) : Rp K F (.bl b) (.bl b)
  | int (i : Int) : Rp K F (.int i) (.int i)
  | str (x : Str) : Rp K F (.str x) (.str x)
  | lst {a : Addr} {xs : List V} {ds : List Dt} : F a = some (.lst xs) → RpA K F xs ds → Rp K F (.ref a) (.lst ds)
  | tup {a : Addr} {xs : List V} {ds : List Dt} : TupAt K F a xs → RpA K F xs ds → Rp K F (.ref a) (.tup ds)
  | obj {a C dx : Addr} {fs : List (Str × V)} {ks : List Str} {ds : List Dt} : F a = some (.ins C dx fs) → fs.map (·.1) = ks → RpA K F (fs.map (·.2)) ds → Rp K F (.ref a) (.obj C ks ds)
  | scr {a : Addr} {xs : List V} {ds : List Dt} (t : Bool) : SqB K F t a xs → RpA K F xs ds → Rp K F (.ref a) (.scr t ds)
inductive RpA (K : PySem.W.Frag) (F : Hp) : List V → List Dt → Prop
  | nil : RpA K F [] []
  | cons {v : V} {vs : List V} {d : Dt} {ds : List Dt} : Rp K F v d → RpA K F vs ds → RpA K F (v :: vs) (d :: ds)
end
mutual
theorem Rp.mono {K : PySem.W.Frag} {F F' : Hp} (e : Ex F F') : ∀ (d : Dt) (v : V), Rp K F v d → Rp K F' v d
  | .non, _, h => by cases h; exact .non
  | .bl b, _, h => by cases h; exact .bl _
  | .int i, _, h => by cases h; exact .int _
  | .str x, _, h => by cases h; exact .str _
  | .lst ds, _, h => by
    cases h with
    | lst hs ha => exact .lst (e _ _ hs) (RpA.mono e ds _ ha)
  | .tup ds, _, h => by
    cases h with
    | tup hs ha => exact .tup (hs.up e) (RpA.mono e ds _ ha)
  | .obj C ks ds, _, h => by
    cases h with
    | obj hs hk ha => exact .obj (e _ _ hs) hk (RpA.mono e ds _ ha)
  | .scr t ds, _, h => by
    cases h with
    | scr _ hs ha => exact .scr t (hs.up e) (RpA.mono e ds _ ha)
theorem RpA.mono {K : PySem.W.Frag} {F F' : Hp} (e : Ex F F') : ∀ (ds : List Dt) (vs : List V), RpA K F vs ds → RpA K F' vs ds
  | [], _, h => by cases h; exact .nil
  | d :: ds, _, h => by
    cases h with
    | cons h1 h2 => exact .cons (Rp.mono e d _ h1) (RpA.mono e ds _ h2)
end
section
variable {K : PySem.W.Frag} {F : Hp} {vs ws : List V} {ds es : List Dt}
theorem Rp.up {F' : Hp} {d : Dt} {v : V} (h : Rp K F v d) (e : Ex F F') : Rp K F' v d := Rp.mono e d v h
theorem RpA.up {F' : Hp} (h : RpA K F vs ds) (e : Ex F F') : RpA K F' vs ds := RpA.mono e ds vs h
theorem RpA.length : ∀ {vs : List V} {ds : List Dt}, RpA K F vs ds → vs.length = ds.length
  | _, _, .nil => rfl
  | _, _, .cons _ t => by simp [RpA.length t]
theorem RpA.get : ∀ {vs : List V} {ds : List Dt} {i : Nat} {d : Dt}, RpA K F vs ds → ds[i]? = some d → ∃ v, vs[i]? = some v ∧ Rp K F v d
  | _, _, i, _, .nil, h => by simp at h
  | _, _, 0, _, .cons h1 _, h => by simp at h; subst h; exact ⟨_, rfl, h1⟩
  | _, _, i + 1, _, .cons _ t, h => by
    obtain ⟨v, q, r⟩ := RpA.get (i := i) t (by simpa using h)
    exact ⟨v, by simpa using q, r⟩
theorem RpA.getv : ∀ {vs : List V} {ds : List Dt} {i : Nat} {v : V}, RpA K F vs ds → vs[i]? = some v → ∃ d, ds[i]? = some d ∧ Rp K F v d
  | _, _, i, _, .nil, h => by simp at h
  | _, _, 0, _, .cons h1 _, h => by simp at h; subst h; exact ⟨_, rfl, h1⟩
  | _, _, i + 1, _, .cons _ t, h => by
    obtain ⟨v, q, r⟩ := RpA.getv (i := i) t (by simpa using h)
    exact ⟨v, by simpa using q, r⟩
theorem RpA.app : ∀ {vs ws : List V} {ds es : List Dt}, RpA K F vs ds → RpA K F ws es → RpA K F (vs ++ ws) (ds ++ es)
  | _, _, _, _, .nil, h => h
  | _, _, _, _, .cons h1 h2, h => .cons h1 (RpA.app h2 h)
theorem RpA.snoc {v : V} {d : Dt} (h : RpA K F vs ds) (h1 : Rp K F v d) : RpA K F (vs ++ [v]) (ds ++ [d]) := h.app (.cons h1 .nil)
theorem RpA.set : ∀ {vs : List V} {ds : List Dt} {v : V} {d : Dt} (i : Nat), RpA K F vs ds → Rp K F v d → RpA K F (vs.set i v) (ds.set i d)
  | _, _, _, _, _, .nil, _ => .nil
  | _, _, _, _, 0, .cons _ t, h => .cons h t
  | _, _, _, _, i + 1, .cons q t, h => .cons q (RpA.set i t h)
theorem RpA.take : ∀ {vs : List V} {ds : List Dt} (n : Nat), RpA K F vs ds → RpA K F (vs.take n) (ds.take n)
  | _, _, 0, _ => .nil
  | _, _, _ + 1, .nil => .nil
  | _, _, n + 1, .cons r t => .cons r (RpA.take n t)
theorem RpA.drop : ∀ {vs : List V} {ds : List Dt} (n : Nat), RpA K F vs ds → RpA K F (vs.drop n) (ds.drop n)
  | _, _, 0, r => r
  | _, _, _ + 1, .nil => .nil
  | _, _, n + 1, .cons _ t => RpA.drop n t
theorem RpA.ints : ∀ ns : List Int, RpA K F (ns.map V.int) (ns.map Dt.int)
  | [] => .nil
  | n :: ns => .cons (.int n) (RpA.ints ns)
theorem Rp.intv {v : V} {i : Int} (h : Rp K F v (.int i)) : v = .int i := by cases h; rfl
theorem Rp.blv {v : V} {i : Bool} (h : Rp K F v (.bl i)) : v = .bl i := by cases h; rfl
theorem RpA.intsv : ∀ {vs : List V} {ns : List Int}, RpA K F vs (ns.map Dt.int) → vs = ns.map V.int
  | _, [], .nil => rfl
  | _, n :: ns, .cons h t => by rw [h.intv, RpA.intsv t]; rfl
end

inductive Sv where | no | im (d : Dt) | mu (k : Nat)
inductive Ob where | ls (xs : List Dt) | dc (kvs : List (List Int × Dt)) | io (C : Addr) (ks : List Str) (ds : List Dt)
  /-- a dict whose values are mutable lists; a list of mutable lists -/
  | dm (kvs : List (List Int × Nat)) | lm (ks : List Nat)
inductive Mo where | ob (c : Ob) | fz (d : Dt)
structure Ms where
  sl : List Sv
  mo : List Mo := []
structure Er where
  C : Addr
  ks : List Str
  ds : List Dt
theorem nrfl0 {α : Type} {a b : α} (h : a = b) : a = b := h
inductive R (α : Type) where | ok (a : α) (s : Ms) | er (e : Er) (s : Ms) | no
def R.bind {α β : Type} : R α → (α → Ms → R β) → R β
  | .ok a s, f => f a s
  | .er e s, _ => .er e s
  | .no, _ => .no
@[simp] theorem R.bind_ok {α β : Type} (a : α) (s : Ms) (f : α → Ms → R β) : (R.ok a s).bind f = f a s := nrfl0 rfl
@[simp] theorem R.bind_er {α β : Type} (e : Er) (s : Ms) (f : α → Ms → R β) : (R.er e s : R α).bind f = .er e s := nrfl0 rfl
@[simp] theorem R.bind_no {α β : Type} (f : α → Ms → R β) : (R.no : R α).bind f = .no := nrfl0 rfl
def R.of {α : Type} (o : Option α) (s : Ms) : R α := match o with | some a => .ok a s | none => .no
@[simp] theorem R.of_some {α : Type} (a : α) (s : Ms) : R.of (some a) s = .ok a s := nrfl0 rfl
@[simp] theorem R.of_none {α : Type} (s : Ms) : R.of (none : Option α) s = .no := nrfl0 rfl

def SvR (K : PySem.W.Frag) (F : Hp) (as : List Addr) : Option V → Sv → Prop
  | _, .no => True
  | some v, .im d => Rp K F v d
  | some v, .mu k => ∃ a, as[k]? = some a ∧ v = .ref a
  | none, .im _ => False
  | none, .mu _ => False
def AtK (as : List Addr) (v : V) (k : Nat) : Prop := ∃ a, as[k]? = some a ∧ v = .ref a
theorem AtK.up {as : List Addr} {v : V} {k : Nat} (h : AtK as v k) (t : List Addr) : AtK (as ++ t) v k := by
  obtain ⟨a, q, rfl⟩ := h
  exact ⟨a, by rw [List.getElem?_append_left]; exact q; exact (List.getElem?_eq_some_iff.mp q).1, rfl⟩
inductive ObR (K : PySem.W.Frag) (F : Hp) (as : List Addr) : HO → Ob → Prop
  | ls {vs : List V} {ds : List Dt} : RpA K F vs ds → ObR K F as (.lst vs) (.ls ds)
  | dc {ws : List (List Key × V)} {kvs : List (List Int × Dt)} : Paired (fun p q => p.1 = q.1.map Sum.inl ∧ Rp K F p.2 q.2) ws kvs → ObR K F as (.dT ws) (.dc kvs)
  | io {C dx : Addr} {fs : List (Str × V)} {ks : List Str} {ds : List Dt} : fs.map (·.1) = ks → RpA K F (fs.map (·.2)) ds → ObR K F as (.ins C dx fs) (.io C ks ds)
  | dm {ws : List (List Key × V)} {kvs : List (List Int × Nat)} : Paired (fun p q => p.1 = q.1.map Sum.inl ∧ AtK as p.2 q.2) ws kvs → ObR K F as (.dT ws) (.dm kvs)
  | lm {vs : List V} {ks : List Nat} : Paired (AtK as) vs ks → ObR K F as (.lst vs) (.lm ks)
def Ext (F F' : Hp) (as as' : List Addr) : Prop := Ex F F' ∧ ∃ t, as' = as ++ t
theorem ObR.up {K : PySem.W.Frag} {F F' : Hp} {as as' : List Addr} {o : HO} {c : Ob} (h : ObR K F as o c) (ee : Ext F F' as as') : ObR K F' as' o c := by
  obtain ⟨e, t, rfl⟩ := ee
  cases h with
  | ls h => exact .ls (h.up e)
  | dc h => exact .dc (h.mono fun _ _ q => ⟨q.1, q.2.up e⟩)
  | io h1 h2 => exact .io h1 (h2.up e)
  | dm h => exact .dm (h.mono fun _ _ q => ⟨q.1, q.2.up t⟩)
  | lm h => exact .lm (h.mono fun _ _ q => q.up t)
def NT : HO → Prop | .tup _ => False | _ => True
theorem ObR.nt {K : PySem.W.Frag} {F : Hp} {as : List Addr} {o : HO} {c : Ob} (h : ObR K F as o c) : NT o := by cases h <;> trivial
def MoR (K : PySem.W.Frag) (B F H : Hp) (as : List Addr) (a : Addr) : Mo → Prop
  | .ob c => B a = none ∧ F a = none ∧ ∃ o, H a = some o ∧ ObR K F as o c
  | .fz d => (∃ o, F a = some o) ∧ Rp K F (.ref a) d
theorem MoR.ext {K : PySem.W.Frag} {B F H : Hp} {as as' : List Addr} {a : Addr} (m : Mo) (h : MoR K B F H as a m) (ee : Ext F F as as') : MoR K B F H as' a m := by
  cases m with
  | ob c =>
    obtain ⟨q1, q2, o, q3, q4⟩ := h
    exact ⟨q1, q2, o, q3, q4.up ee⟩
  | fz d => exact h
structure Rep (K : PySem.W.Frag) (B F H : Hp) (as : List Addr) (σ : L2.St) (S : Ms) : Prop where
  fh : Ex F H
  bh : ∀ a o, B a = some o → H a = some o ∧ F a = none ∧ NT o
  sl : Paired (SvR K F as) σ S.sl
  mo : Paired (MoR K B F H as) as S.mo
  nd : as.Nodup
theorem Ext.refl {F : Hp} {as : List Addr} : Ext F F as as := ⟨Ex.refl F, [], by simp⟩
theorem Ext.trans {F F1 F2 : Hp} {as as1 as2 : List Addr} (a : Ext F F1 as as1) (b : Ext F1 F2 as1 as2) : Ext F F2 as as2 := by
  obtain ⟨a1, t, rfl⟩ := a
  obtain ⟨b1, u, rfl⟩ := b
  exact ⟨a1.trans b1, t ++ u, by simp⟩

theorem pairedGet {α β : Type} {G : α → β → Prop} : ∀ {xs : List α} {ys : List β} {i : Nat} {y : β}, Paired G xs ys → ys[i]? = some y → ∃ x, xs[i]? = some x ∧ G x y
  | _, _, i, _, .nil, h => by simp at h
  | _, _, 0, _, .cons r _, h => by simp at h; subst h; exact ⟨_, rfl, r⟩
  | _, _, i + 1, _, .cons _ t, h => by
    obtain ⟨x, q, r⟩ := pairedGet (i := i) t (by simpa using h)
    exact ⟨x, by simpa using q, r⟩
theorem pairedGetL {α β : Type} {G : α → β → Prop} : ∀ {xs : List α} {ys : List β} {i : Nat} {x : α}, Paired G xs ys → xs[i]? = some x → ∃ y, ys[i]? = some y ∧ G x y
  | _, _, i, _, .nil, h => by simp at h
  | _, _, 0, _, .cons r _, h => by simp at h; subst h; exact ⟨_, rfl, r⟩
  | _, _, i + 1, _, .cons _ t, h => by
    obtain ⟨x, q, r⟩ := pairedGetL (i := i) t (by simpa using h)
    exact ⟨x, by simpa using q, r⟩
theorem pairedSet {α β : Type} {G : α → β → Prop} {x : α} {y : β} : ∀ {xs : List α} {ys : List β} (i : Nat), Paired G xs ys → G x y → Paired G (xs.set i x) (ys.set i y)
  | _, _, _, .nil, _ => .nil
  | _, _, 0, .cons _ t, h => .cons h t
  | _, _, i + 1, .cons q t, h => .cons q (pairedSet i t h)
theorem pairedAt {α β : Type} {G G' : α → β → Prop} {y : β} : ∀ {xs : List α} {ys : List β} (i : Nat), Paired G xs ys → (∀ (j : Nat) (x : α) (z : β), j ≠ i → xs[j]? = some x → ys[j]? = some z → G x z → G' x z) → (∀ x, xs[i]? = some x → G' x y) → Paired G' xs (ys.set i y)
  | _, _, _, .nil, _, _ => .nil
  | x :: xs, z :: ys, 0, .cons r t, h, h1 => by
    refine .cons (h1 x rfl) ?_
    have : ∀ {xs : List α} {ys : List β}, Paired G xs ys → (∀ (j : Nat) (x : α) (z : β), xs[j]? = some x → ys[j]? = some z → G x z → G' x z) → Paired G' xs ys := by
      intro xs ys p
      induction p with
      | nil => intro _; exact .nil
      | cons q _ ih => exact fun k => .cons (k 0 _ _ rfl rfl q) (ih fun j x z a b => k (j + 1) x z (by simpa using a) (by simpa using b))
    exact this t fun j x z a b => h (j + 1) x z (by omega) (by simpa using a) (by simpa using b)
  | x :: xs, z :: ys, i + 1, .cons r t, h, h1 => by
    refine .cons (h 0 x z (by omega) rfl rfl r) ?_
    exact pairedAt i t (fun j x z hj a b => h (j + 1) x z (by omega) (by simpa using a) (by simpa using b)) fun x a => h1 x (by simpa using a)

section
variable {K : PySem.W.Frag} {B F H F' H' : Hp} {as as' : List Addr} {σ : L2.St} {S S' : Ms}
theorem SvR.up {o : Option V} {s : Sv} (h : SvR K F as o s) (e : Ext F F' as as') : SvR K F' as' o s := by
  obtain ⟨e1, t, rfl⟩ := e
  cases s with
  | no => trivial
  | im d =>
    cases o with
    | none => exact h
    | some v => exact Rp.up h e1
  | mu k =>
    cases o with
    | none => exact h
    | some v =>
      obtain ⟨a, q, rfl⟩ := h
      exact ⟨a, by rw [List.getElem?_append_left]; exact q; exact (List.getElem?_eq_some_iff.mp q).1, rfl⟩
theorem Rep.live (r : Rep K B F H as σ S) {a : Addr} (h : a ∈ as) : ∃ o, H a = some o := by
  obtain ⟨i, q⟩ := List.mem_iff_getElem?.mp h
  obtain ⟨y, _, z⟩ := pairedGetL r.mo q
  cases y with
  | ob ds =>
    obtain ⟨_, _, vs, z, _⟩ := z
    exact ⟨_, z⟩
  | fz d =>
    obtain ⟨⟨o, z⟩, _⟩ := z
    exact ⟨o, r.fh _ _ z⟩
theorem Rep.fresh (r : Rep K B F H as σ S) {p : Addr} (h : H p = none) : F p = none ∧ B p = none ∧ p ∉ as := by
  refine ⟨?_, ?_, fun z => ?_⟩
  · cases q : F p with
    | none => rfl
    | some o => rw [r.fh _ _ q] at h; cases h
  · cases q : B p with
    | none => rfl
    | some o => rw [(r.bh _ _ q).1] at h; cases h
  · obtain ⟨o, q⟩ := r.live z
    rw [q] at h; cases h
theorem Rep.new (r : Rep K B F H as σ S) {p : Addr} (h : H p = none) (o : HO) : Ext F (upd F p o) as as ∧ Rep K B (upd F p o) (upd H p o) as σ S := by
  obtain ⟨f1, f2, f3⟩ := r.fresh h
  have e : Ex F (upd F p o) := Ex.new f1
  have ee : Ext F (upd F p o) as as := ⟨e, [], by simp⟩
  refine ⟨ee, fun a u hu => ?_, fun a u hu => ?_, r.sl.mono fun _ _ q => SvR.up q ee, ?_, r.nd⟩
  · by_cases q : a = p
    · subst q
      rw [upd_same] at hu ⊢
      exact hu
    · rw [upd_ne q] at hu ⊢
      exact r.fh _ _ hu
  · obtain ⟨q1, q2, q3⟩ := r.bh a u hu
    have n : a ≠ p := by
      rintro rfl
      rw [h] at q1; cases q1
    rw [upd_ne n, upd_ne n]
    exact ⟨q1, q2, q3⟩
  · refine r.mo.mono fun a m q => ?_
    cases m with
    | ob ds =>
      obtain ⟨q1, q2, vs, q3, q4⟩ := q
      have n : a ≠ p := by
        rintro rfl
        rw [h] at q3; cases q3
      exact ⟨q1, by rw [upd_ne n]; exact q2, vs, by rw [upd_ne n]; exact q3, q4.up ee⟩
    | fz d =>
      obtain ⟨⟨u, q1⟩, q2⟩ := q
      exact ⟨⟨u, e _ _ q1⟩, q2.up e⟩
theorem Rep.freeze (r : Rep K B F H as σ S) {k : Nat} {ds : List Dt} (h : S.mo[k]? = some (.ob (.ls ds))) : ∃ a F1, as[k]? = some a ∧ Ext F F1 as as ∧ Rep K B F1 H as σ { S with mo := S.mo.set k (.fz (.lst ds)) } ∧ Rp K F1 (.ref a) (.lst ds) := by
  obtain ⟨a, ha, q1, q2, ob, q3, q4⟩ := pairedGet r.mo h
  cases q4
  rename_i vs q4
  have e : Ex F (upd F a (.lst vs)) := Ex.new q2
  have ee : Ext F (upd F a (.lst vs)) as as := ⟨e, [], by simp⟩
  have rr : Rp K (upd F a (.lst vs)) (.ref a) (.lst ds) := .lst upd_same (q4.up e)
  refine ⟨a, _, ha, ee, ⟨fun b u hu => ?_, fun b u hu => ?_, r.sl.mono fun _ _ q => SvR.up q ee, ?_, r.nd⟩, rr⟩
  · by_cases q : b = a
    · subst q
      rw [upd_same] at hu
      rw [q3]; exact hu
    · rw [upd_ne q] at hu
      exact r.fh _ _ hu
  · obtain ⟨z1, z2, z3⟩ := r.bh b u hu
    have n : b ≠ a := by
      rintro rfl
      rw [q1] at hu; cases hu
    rw [upd_ne n]
    exact ⟨z1, z2, z3⟩
  · refine pairedAt k r.mo (fun j b m hj hb hm q => ?_) fun b hb => ?_
    · cases m with
      | ob ds =>
        obtain ⟨z1, z2, ws, z3, z4⟩ := q
        have n : b ≠ a := fun z => by
          subst z
          exact hj (nd_ix r.nd hb ha)
        exact ⟨z1, by rw [upd_ne n]; exact z2, ws, z3, z4.up ee⟩
      | fz d =>
        obtain ⟨⟨u, z1⟩, z2⟩ := q
        exact ⟨⟨u, e _ _ z1⟩, z2.up e⟩
    · rw [ha] at hb
      cases hb
      exact ⟨⟨_, upd_same⟩, rr⟩
theorem Rep.newL (r : Rep K B F H as σ S) {p : Addr} {o : HO} {c : Ob} (f1 : F p = none) (f2 : B p = none) (f3 : p ∉ as) (hp : H p = some o) (hv : ObR K F as o c) : Ext F F as (as ++ [p]) ∧ Rep K B F H (as ++ [p]) σ { S with mo := S.mo ++ [.ob c] } := by
  have ee : Ext F F as (as ++ [p]) := ⟨Ex.refl F, [p], rfl⟩
  refine ⟨ee, r.fh, r.bh, r.sl.mono fun _ _ q => SvR.up q ee, (r.mo.mono fun _ m q => MoR.ext m q ee).snoc ⟨f2, f1, o, hp, hv.up ee⟩, ?_⟩
  rw [List.nodup_append]
  exact ⟨r.nd, by simp, fun a ha b hb => by simp at hb; subst hb; rintro rfl; exact f3 ha⟩
theorem Rep.put (r : Rep K B F H as σ S) {k : Nat} {a : Addr} {o : HO} {c0 c : Ob} (h : S.mo[k]? = some (.ob c0)) (ha : as[k]? = some a) (hv : ObR K F as o c) : Rep K B F (upd H a o) as σ { S with mo := S.mo.set k (.ob c) } := by
  obtain ⟨a', ha', q1, q2, ws, q3, q4⟩ := pairedGet r.mo h
  rw [ha] at ha'
  cases ha'
  refine ⟨fun b u hu => ?_, fun b u hu => ?_, r.sl, ?_, r.nd⟩
  · have n : b ≠ a := by
      rintro rfl
      rw [q2] at hu; cases hu
    rw [upd_ne n]
    exact r.fh _ _ hu
  · obtain ⟨z1, z2, z3⟩ := r.bh b u hu
    have n : b ≠ a := by
      rintro rfl
      rw [q1] at hu; cases hu
    rw [upd_ne n]
    exact ⟨z1, z2, z3⟩
  · refine pairedAt k r.mo (fun j b m hj hb hm q => ?_) fun b hb => ?_
    · cases m with
      | ob ds =>
        obtain ⟨z1, z2, ws, z3, z4⟩ := q
        have n : b ≠ a := fun z => by
          subst z
          exact hj (nd_ix r.nd hb ha)
        exact ⟨z1, z2, ws, by rw [upd_ne n]; exact z3, z4⟩
      | fz d => exact q
    · rw [ha] at hb
      cases hb
      exact ⟨q1, q2, o, upd_same, hv⟩
theorem Rep.know (r : Rep K B F H as σ S) {p : Addr} {xs : List V} (h : H p = some (.tup xs)) (hf : F p = none) : Ext F (upd F p (.tup xs)) as as ∧ Rep K B (upd F p (.tup xs)) H as σ S := by
  have e : Ex F (upd F p (.tup xs)) := Ex.new hf
  have ee : Ext F (upd F p (.tup xs)) as as := ⟨e, [], by simp⟩
  refine ⟨ee, fun a u hu => ?_, fun a u hu => ?_, r.sl.mono fun _ _ q => SvR.up q ee, r.mo.mono fun a m q => ?_, r.nd⟩
  · by_cases q : a = p
    · subst q
      rw [upd_same] at hu
      rw [h]; exact hu
    · rw [upd_ne q] at hu
      exact r.fh _ _ hu
  · obtain ⟨q1, q2, q3⟩ := r.bh a u hu
    have n : a ≠ p := by
      rintro rfl
      rw [h] at q1; cases q1; exact q3
    rw [upd_ne n]
    exact ⟨q1, q2, q3⟩
  · cases m with
    | ob ds =>
      obtain ⟨q1, q2, o, q3, q4⟩ := q
      have n : a ≠ p := by
        rintro rfl
        rw [h] at q3; cases q3
        exact q4.nt
      exact ⟨q1, by rw [upd_ne n]; exact q2, o, q3, q4.up ee⟩
    | fz d =>
      obtain ⟨⟨u, q1⟩, q2⟩ := q
      exact ⟨⟨u, e _ _ q1⟩, q2.up e⟩
theorem Rep.slot (r : Rep K B F H as σ S) (i : Nat) {v : V} {s : Sv} (h : SvR K F as (some v) s) : Rep K B F H as (σ.set i (some v)) { S with sl := S.sl.set i s } :=
  ⟨r.fh, r.bh, pairedSet i r.sl h, r.mo, r.nd⟩
end

def DictR (H : Hp) (dx : Option Addr) (fs : List (Str × V)) : Prop := match dx with | some d => H d = some (.xd fs) | none => fs = []
theorem DictR.some {H : Hp} {dx : Option Addr} {fs : List (Str × V)} (h : DictR H dx fs) (hf : fs ≠ []) : ∃ d, dx = some d ∧ H d = some (.xd fs) := by
  cases dx with
  | none => exact absurd h hf
  | some d => exact ⟨d, rfl, h⟩
section
variable (K : PySem.W.Frag) (W : WX) (B F : Hp) (as : List Addr) (σ : L2.St)
def OutE (e : Er) (S' : Ms) : Prop := ∀ F' H' as' dx fs, Ext F F' as as' → Rep K B F' H' as' σ S' → DictR H' dx fs → fs.map (·.1) = e.ks → RpA K F' (fs.map (·.2)) e.ds → W (.ref e.C) dx σ H'
def Out {α : Type} (r : R α) (Q : α → Hp → Hp → List Addr → Ms → Prop) : Prop := match r with
  | .ok a S' => ∀ F' H' as', Ext F F' as as' → Rep K B F' H' as' σ S' → Q a F' H' as' S'
  | .er e S' => OutE K W B F as σ e S'
  | .no => False
end
theorem Out.bind {K : PySem.W.Frag} {W : WX} {B F : Hp} {as : List Addr} {σ : L2.St} {α β : Type} {r : R α} {g : α → Ms → R β} {Q : β → Hp → Hp → List Addr → Ms → Prop} (h : Out K W B F as σ (r.bind g) Q) :
    Out K W B F as σ r fun a F1 H1 as1 S1 => Rep K B F1 H1 as1 σ S1 ∧ Ext F F1 as as1 ∧ Out K W B F1 as1 σ (g a S1) Q := by
  cases r with
  | ok a S1 =>
    intro F1 H1 as1 e1 r1
    refine ⟨r1, e1, ?_⟩
    have h : Out K W B F as σ (g a S1) Q := h
    revert h
    cases g a S1 with
    | ok b S2 => exact fun h F2 H2 as2 e2 r2 => h F2 H2 as2 (e1.trans e2) r2
    | er e S2 => exact fun h F2 H2 as2 dx fs e2 r2 => h F2 H2 as2 dx fs (e1.trans e2) r2
    | no => exact fun h => h
  | er e S1 => exact h
  | no => exact h
theorem Out.mono {K : PySem.W.Frag} {W : WX} {B F : Hp} {as : List Addr} {σ : L2.St} {α : Type} {r : R α} {Q Q' : α → Hp → Hp → List Addr → Ms → Prop} (h : Out K W B F as σ r Q) (hq : ∀ a F' H' as' S', Q a F' H' as' S' → Q' a F' H' as' S') : Out K W B F as σ r Q' := by
  cases r with
  | ok a S1 => exact fun F1 H1 as1 e1 r1 => hq _ _ _ _ _ (h F1 H1 as1 e1 r1)
  | er e S1 => exact h
  | no => exact h
theorem Out.now {K : PySem.W.Frag} {W : WX} {B F H : Hp} {as : List Addr} {σ : L2.St} {α : Type} {a : α} {S : Ms} {Q : α → Hp → Hp → List Addr → Ms → Prop} (h : Out K W B F as σ (.ok a S) Q) (r : Rep K B F H as σ S) : Q a F H as S := h F H as Ext.refl r

def tD (K : PySem.W.Frag) (W : WX) (f : Ms → R Dt) : TE := fun σ H Q => ∃ B F as S, Rep K B F H as σ S ∧ Out K W B F as σ (f S) fun d F' H' _ _ => ∀ v, Rp K F' v d → Q v H'
def tN (K : PySem.W.Frag) (W : WX) (f : Ms → R (List Dt)) : TE := fun σ H Q => ∃ B F as S, Rep K B F H as σ S ∧ Out K W B F as σ (f S) fun ds F' H' as' _ => ∀ p vs, F' p = none → B p = none → p ∉ as' → H' p = some (.lst vs) → RpA K F' vs ds → Q (.ref p) H'
def tT (K : PySem.W.Frag) (W : WX) (f : Ms → R Bool) : TT := fun σ H Q => ∃ B F as S, Rep K B F H as σ S ∧ Out K W B F as σ (f S) fun b _ H' _ _ => Q b H'
def tA (K : PySem.W.Frag) (W : WX) (f : Ms → R (List Dt)) : TA := fun σ H Q => ∃ B F as S, Rep K B F H as σ S ∧ Out K W B F as σ (f S) fun ds F' H' _ _ => ∀ vs, RpA K F' vs ds → Q vs H'

inductive O where | nx (s : Ms) | rt (d : Dt) (s : Ms) | bk (s : Ms) | ct (s : Ms) | er (e : Er) (s : Ms) | no
def OutS (K : PySem.W.Frag) (W : WX) (B F : Hp) (as : List Addr) (o : O) (D : Ends) : Prop := match o with
  | .nx S' => ∀ σ' F' H' as', Ext F F' as as' → Rep K B F' H' as' σ' S' → D.nx σ' H'
  | .rt d S' => ∀ σ' F' H' as' v, Ext F F' as as' → Rep K B F' H' as' σ' S' → Rp K F' v d → D.rt v H'
  | .bk S' => ∀ σ' F' H' as', Ext F F' as as' → Rep K B F' H' as' σ' S' → D.bk σ' H'
  | .ct S' => ∀ σ' F' H' as', Ext F F' as as' → Rep K B F' H' as' σ' S' → D.ct σ' H'
  | .er e S' => ∀ σ', OutE K W B F as σ' e S'
  | .no => False
def sD (K : PySem.W.Frag) (W : WX) (m : Ms → O) : TS := fun D σ H => ∃ B F as S, Rep K B F H as σ S ∧ OutS K W B F as (m S) D
theorem OutS.ext {K : PySem.W.Frag} {W : WX} {B F F1 : Hp} {as as1 : List Addr} {o : O} {D : Ends} (h : OutS K W B F as o D) (e : Ext F F1 as as1) : OutS K W B F1 as1 o D := by
  cases o with
  | nx S' => exact fun σ' F' H' as' e' r => h σ' F' H' as' (e.trans e') r
  | rt d S' => exact fun σ' F' H' as' v e' r => h σ' F' H' as' v (e.trans e') r
  | bk S' => exact fun σ' F' H' as' e' r => h σ' F' H' as' (e.trans e') r
  | ct S' => exact fun σ' F' H' as' e' r => h σ' F' H' as' (e.trans e') r
  | er x S' => exact fun σ' F' H' as' dx fs e' r => h σ' F' H' as' dx fs (e.trans e') r
  | no => exact h
def R.stmt {α : Type} : R α → (α → Ms → O) → O
  | .ok a s, f => f a s
  | .er e s, _ => .er e s
  | .no, _ => .no
@[simp] theorem R.stmt_ok {α : Type} (a : α) (s : Ms) (f : α → Ms → O) : (R.ok a s).stmt f = f a s := nrfl0 rfl
@[simp] theorem R.stmt_er {α : Type} (e : Er) (s : Ms) (f : α → Ms → O) : (R.er e s : R α).stmt f = .er e s := nrfl0 rfl
@[simp] theorem R.stmt_no {α : Type} (f : α → Ms → O) : (R.no : R α).stmt f = .no := nrfl0 rfl
def O.seq : O → (Ms → O) → O
  | .nx s, f => f s
  | .rt d s, _ => .rt d s
  | .bk s, _ => .bk s
  | .ct s, _ => .ct s
  | .er e s, _ => .er e s
  | .no, _ => .no
theorem OutS.stmt {K : PySem.W.Frag} {W : WX} {B F : Hp} {as : List Addr} {σ : L2.St} {α : Type} {r : R α} {g : α → Ms → O} {D : Ends} (h : OutS K W B F as (r.stmt g) D) :
    Out K W B F as σ r fun a F1 H1 as1 S1 => Rep K B F1 H1 as1 σ S1 ∧ Ext F F1 as as1 ∧ OutS K W B F1 as1 (g a S1) D := by
  cases r with
  | ok a S1 => exact fun F1 H1 as1 e1 r1 => ⟨r1, e1, OutS.ext h e1⟩
  | er e S1 => exact h σ
  | no => exact h
theorem OutS.seq {K : PySem.W.Frag} {W : WX} {B F : Hp} {as : List Addr} {o : O} {m : Ms → O} {D : Ends} (h : OutS K W B F as (o.seq m) D) : OutS K W B F as o { D with nx := sD K W m D } := by
  cases o with
  | nx S' => exact fun σ' F' H' as' e' r => ⟨B, F', as', S', r, OutS.ext h e'⟩
  | rt d S' => exact h
  | bk S' => exact h
  | ct S' => exact h
  | er e S' => exact h
  | no => exact h
theorem monoE {X : Cx} {e : Expr} {t t' : TE} (h : PE X e t) (m : ∀ σ H Q, t' σ H Q → t σ H Q) : PE X e t' := ⟨fun pins s σ H Q I q => h.run pins s σ H Q I (m σ H Q q)⟩
theorem monoT {X : Cx} {e : Expr} {t t' : TT} (h : PT X e t) (m : ∀ σ H Q, t' σ H Q → t σ H Q) : PT X e t' := ⟨fun pins s σ H Q I q => h.run pins s σ H Q I (m σ H Q q)⟩
theorem monoA {X : Cx} {e : List Expr} {t t' : TA} (h : PA X e t) (m : ∀ σ H Q, t' σ H Q → t σ H Q) : PA X e t' := ⟨fun pos pins s σ H Q I q => h.run pos pins s σ H Q I (m σ H Q q)⟩
theorem monoS {X : Cx} {st : Stmt} {t t' : TS} (h : PS X st t) (m : ∀ D σ H, t' D σ H → t D σ H) : PS X st t' := ⟨fun pins s σ H D I q => h.run pins s σ H D I (m D σ H q)⟩
theorem monoSs {X : Cx} {st : List Stmt} {t t' : TS} (h : PSs X st t) (m : ∀ D σ H, t' D σ H → t D σ H) : PSs X st t' := ⟨fun pins s σ H D I q => h.run pins s σ H D I (m D σ H q)⟩
theorem monoPT {X : Cx} {e : List Expr} {t t' : TT} (h : PTs X e t) (m : ∀ σ H Q, t' σ H Q → t σ H Q) : PTs X e t' := ⟨fun pins s σ H Q I q => h.run pins s σ H Q I (m σ H Q q)⟩
end Lq

namespace Lq
open PySem PySem.Spec PyProof.Rows L2
open Evl (Ex)

def Gv (K : PySem.W.Frag) (F H : Hp) (z : Dt) (Q : VK) : Prop :=
  (∀ u, Rp K F u z → Q u H) ∧ ∀ p o, H p = none → Rp K (upd F p o) (.ref p) z → Q (.ref p) (upd H p o)
def GvL (K : PySem.W.Frag) (F H : Hp) (z : List Dt) (Q : VK) : Prop := ∀ p vs, H p = none → RpA K F vs z → Q (.ref p) (upd H p (.lst vs))
theorem gv_of {K : PySem.W.Frag} {W : WX} {B F H : Hp} {as : List Addr} {σ : L2.St} {S : Ms} {z : Dt} {Q : VK} (h : Out K W B F as σ (.ok z S) fun d F' H' _ _ => ∀ v, Rp K F' v d → Q v H') (r : Rep K B F H as σ S) : Gv K F H z Q :=
  ⟨fun u hu => h F H as Ext.refl r u hu, fun p o hp hu => by
    obtain ⟨e1, r1⟩ := r.new hp o
    exact h _ _ as e1 r1 _ hu⟩
theorem gvl_of {K : PySem.W.Frag} {W : WX} {B F H : Hp} {as : List Addr} {σ : L2.St} {S : Ms} {z : List Dt} {Q : VK}
    (h : Out K W B F as σ (.ok z S) fun ds F' H' as' _ => ∀ p vs, F' p = none → B p = none → p ∉ as' → H' p = some (.lst vs) → RpA K F' vs ds → Q (.ref p) H') (r : Rep K B F H as σ S) : GvL K F H z Q := fun p vs hp hv => by
  obtain ⟨f1, f2, f3⟩ := r.fresh hp
  have r1 : Rep K B F (upd H p (.lst vs)) as σ S := by
    refine ⟨fun a o e => ?_, fun a o e => ?_, r.sl, r.mo.mono fun a m q => ?_, r.nd⟩
    · rw [upd_ne (ne_of_none (r.fh _ _ e) hp)]
      exact r.fh _ _ e
    · obtain ⟨z1, z2, z3⟩ := r.bh a o e
      exact ⟨by rw [upd_ne (ne_of_none z1 hp)]; exact z1, z2, z3⟩
    · cases m with
      | ob ds =>
        obtain ⟨z1, z2, ws, z3, z4⟩ := q
        exact ⟨z1, z2, ws, by rw [upd_ne (ne_of_none z3 hp)]; exact z3, z4⟩
      | fz d => exact q
  exact h F _ as Ext.refl r1 p vs f1 f2 f3 upd_same hv
def frz (f : Ms → R (List Dt)) : Ms → R Dt := fun S => (f S).bind fun ds S1 => .ok (.lst ds) S1
theorem frz_run {K : PySem.W.Frag} {W : WX} {f : Ms → R (List Dt)} {σ : L2.St} {H : Hp} {Q : VK} (q : tD K W (frz f) σ H Q) : tN K W f σ H Q := by
  obtain ⟨B, F, as, S, r, o⟩ := q
  refine ⟨B, F, as, S, r, Out.mono (Out.bind o) fun ds F' H' as' S' ⟨r1, e1, o1⟩ => ?_⟩
  intro p vs f1 f2 f3 hp hv
  have e : Ex F' (upd F' p (.lst vs)) := Ex.new f1
  have ee : Ext F' (upd F' p (.lst vs)) as' as' := ⟨e, [], by simp⟩
  refine o1 (upd F' p (.lst vs)) H' as' ee ⟨fun a u hu => ?_, fun a u hu => ?_, r1.sl.mono fun _ _ q => SvR.up q ee, ?_, r1.nd⟩ _ (.lst upd_same (hv.up e))
  · by_cases q : a = p
    · subst q
      rw [upd_same] at hu
      rw [hp]; exact hu
    · rw [upd_ne q] at hu
      exact r1.fh _ _ hu
  · have n : a ≠ p := by
      rintro rfl
      rw [f2] at hu; cases hu
    rw [upd_ne n]
    exact r1.bh a u hu
  · have : ∀ {xs : List Addr} {ys : List Mo}, (∀ a ∈ xs, a ≠ p) → Paired (MoR K B F' H' as') xs ys → Paired (MoR K B (upd F' p (.lst vs)) H' as') xs ys := by
      intro xs ys hn z
      induction z with
      | nil => exact .nil
      | @cons a b l1 l2 z zs ih =>
        refine .cons ?_ (ih fun a ha => hn a (List.mem_cons_of_mem _ ha))
        cases b with
        | ob ds =>
          obtain ⟨z1, z2, ws, z3, z4⟩ := z
          exact ⟨z1, by rw [upd_ne (hn _ List.mem_cons_self)]; exact z2, ws, z3, z4.up ee⟩
        | fz d =>
          obtain ⟨⟨u, z1⟩, z2⟩ := z
          exact ⟨⟨u, e _ _ z1⟩, z2.up e⟩
    exact this (fun a ha z => f3 (z ▸ ha)) r1.mo
theorem de_frz {X : Cx} {W : WX} {e : Expr} {f : Ms → R (List Dt)} (h : PE X e (tN X.K W f)) : PE X e (tD X.K W (frz f)) := monoE h fun σ H Q q => frz_run q

def cE (d : Dt) : Ms → R Dt := fun S => .ok d S
def varE (i : Nat) : Ms → R Dt := fun S => match S.sl[i]? with
  | some (.im d) => .ok d S
  | some (.mu k) => match S.mo[k]? with
    | some (.ob (.ls xs)) => .ok (.lst xs) { S with mo := S.mo.set k (.fz (.lst xs)) }
    | some (.fz d) => .ok d S
    | _ => .no
  | _ => .no
section
variable {X : Cx} {W : WX} {a b c e : Expr} {pos : Pos}
theorem de_var {i : Nat} (h : PE X e (tVar i)) : PE X e (tD X.K W (varE i)) := monoE h fun σ H Q q => by
  obtain ⟨B, F, as, S, r, o⟩ := q
  unfold varE at o
  cases hs : S.sl[i]? with
  | none => rw [hs] at o; exact o.elim
  | some s =>
    rw [hs] at o
    cases s with
    | no => exact o.elim
    | im d =>
      obtain ⟨ov, hv, z⟩ := pairedGet r.sl hs
      cases ov with
      | none => exact z.elim
      | some v => exact ⟨v, hv, Out.now o r v z⟩
    | mu k =>
      obtain ⟨ov, hv, z⟩ := pairedGet r.sl hs
      cases ov with
      | none => exact z.elim
      | some v =>
        obtain ⟨x, hx, rfl⟩ := z
        refine ⟨_, hv, ?_⟩
        dsimp only at o
        cases hm : S.mo[k]? with
        | none => rw [hm] at o; exact o.elim
        | some m =>
          rw [hm] at o
          cases m with
          | ob c =>
           cases c with
           | dc kvs => exact o.elim
           | io _ _ _ => exact o.elim
           | dm _ => exact o.elim
           | lm _ => exact o.elim
           | ls xs =>
            obtain ⟨y, F1, hy, e1, r1, q1⟩ := r.freeze hm
            rw [hx] at hy
            cases hy
            exact o F1 H as e1 r1 _ q1
          | fz d =>
            obtain ⟨y, hy, _, q1⟩ := pairedGet r.mo hm
            rw [hx] at hy
            cases hy
            exact Out.now o r _ q1
theorem de_c {v : V} {d : Dt} (h : PE X e (tC v)) (hd : ∀ F, Rp X.K F v d) : PE X e (tD X.K W (cE d)) := monoE h fun σ H Q q => by
  obtain ⟨B, F, as, S, r, o⟩ := q
  exact Out.now o r v (hd F)
theorem de_int {i j} : PE X (.Constant (.int i) j pos) (tD X.K W (cE (.int i))) := de_c pe_int fun _ => .int i
theorem de_bl {i j} : PE X (.Constant (.bool i) j pos) (tD X.K W (cE (.bl i))) := de_c pe_bl fun _ => .bl i
theorem de_str {x j} : PE X (.Constant (.str x) j pos) (tD X.K W (cE (.str x))) := de_c pe_str fun _ => .str x

def op2 (f g : Ms → R Dt) (h : Dt → Dt → Option Dt) : Ms → R Dt := fun S => (f S).bind fun d S1 => (g S1).bind fun e S2 => R.of (h d e) S2
def RulD (K : PySem.W.Frag) (r : R2) (h : Dt → Dt → Option Dt) : Prop := ∀ F H v w d e z Q, Ex F H → Rp K F v d → Rp K F w e → h d e = some z → Gv K F H z Q → r v w H Q
theorem dt_op {r : R2} {f g : Ms → R Dt} {h : Dt → Dt → Option Dt} {K : PySem.W.Frag} (hr : RulD K r h) (σ : L2.St) (H : Hp) (Q : VK) (q : tD K W (op2 f g h) σ H Q) : tOp r (tD K W f) (tD K W g) σ H Q := by
  obtain ⟨B, F, as, S, r0, o⟩ := q
  refine ⟨B, F, as, S, r0, Out.mono (Out.bind o) fun d F1 H1 as1 S1 ⟨r1, e1, o1⟩ v hv => ?_⟩
  refine ⟨B, F1, as1, S1, r1, ?_⟩
  have o2 := Out.bind o1
  revert o2
  cases g S1 with
  | ok e S2 =>
    intro o2 F2 H2 as2 e2 r2 w hw
    obtain ⟨_, _, o3⟩ := o2 F2 H2 as2 e2 r2
    cases hz : h d e with
    | none => rw [hz] at o3; exact o3.elim
    | some z =>
      rw [hz] at o3
      exact hr F2 H2 v w d e z Q r2.fh (hv.up e2.1) hw hz (gv_of o3 r2)
  | er x S2 => exact fun o2 => o2
  | no => exact fun o2 => o2
theorem de_op {op : Operator} {r : R2} {f g : Ms → R Dt} {h : Dt → Dt → Option Dt} (ho : OpR X (binaryOp op) r) (hr : RulD X.K r h) (ha : PE X a (tD X.K W f)) (hb : PE X b (tD X.K W g)) : PE X (.BinOp a op b pos) (tD X.K W (op2 f g h)) :=
  monoE (pe_op ho ha hb) (dt_op hr)
theorem de_cmp {op : CmpOp} {r : R2} {f g : Ms → R Dt} {h : Dt → Dt → Option Dt} (ho : OpR X (compareOp op) r) (hr : RulD X.K r h) (ha : PE X a (tD X.K W f)) (hb : PE X b (tD X.K W g)) (hm : behindInMarks op b = false) : PE X (.Compare a [op] [b] pos) (tD X.K W (op2 f g h)) :=
  monoE (pe_cmpR ho ha hb hm) (dt_op hr)
theorem de_ix {r : R2} {f g : Ms → R Dt} {h : Dt → Dt → Option Dt} (ho : IxR X r) (hr : RulD X.K r h) (ha : PE X a (tD X.K W f)) (hb : PE X b (tD X.K W g)) (hs : PlainIx b) : PE X (.Subscript a b pos) (tD X.K W (op2 f g h)) :=
  monoE (pe_ix ho ha hb hs) (dt_op hr)
def op1 (f : Ms → R Dt) (h : Dt → Option Dt) : Ms → R Dt := fun S => (f S).bind fun d S1 => R.of (h d) S1
theorem de_un {op : UnaryOp} {r : V → Hp → VK → Prop} {f : Ms → R Dt} {h : Dt → Option Dt} (ho : UnR X (unaryOp op) r) (hr : ∀ F H v d z Q, Ex F H → Rp X.K F v d → h d = some z → Gv X.K F H z Q → r v H Q) (ha : PE X a (tD X.K W f)) :
    PE X (.UnaryOp op a pos) (tD X.K W (op1 f h)) := monoE (pe_un ho ha) fun σ H Q q => by
  obtain ⟨B, F, as, S, r0, o⟩ := q
  refine ⟨B, F, as, S, r0, Out.mono (Out.bind o) fun d F1 H1 as1 S1 ⟨r1, e1, o1⟩ v hv => ?_⟩
  cases hz : h d with
  | none => rw [hz] at o1; exact o1.elim
  | some z =>
    rw [hz] at o1
    exact hr F1 H1 v d z Q r1.fh hv hz (gv_of o1 r1)
def opN (f g : Ms → R Dt) (h : Dt → Dt → Option (List Dt)) : Ms → R (List Dt) := fun S => (f S).bind fun d S1 => (g S1).bind fun e S2 => R.of (h d e) S2
def RulN (K : PySem.W.Frag) (r : R2) (h : Dt → Dt → Option (List Dt)) : Prop := ∀ F H v w d e z Q, Ex F H → Rp K F v d → Rp K F w e → h d e = some z → GvL K F H z Q → r v w H Q
theorem dn_op {op : Operator} {r : R2} {f g : Ms → R Dt} {h : Dt → Dt → Option (List Dt)} (ho : OpR X (binaryOp op) r) (hr : RulN X.K r h) (ha : PE X a (tD X.K W f)) (hb : PE X b (tD X.K W g)) : PE X (.BinOp a op b pos) (tN X.K W (opN f g h)) :=
  monoE (pe_op ho ha hb) fun σ H Q q => by
    obtain ⟨B, F, as, S, r0, o⟩ := q
    refine ⟨B, F, as, S, r0, Out.mono (Out.bind o) fun d F1 H1 as1 S1 ⟨r1, e1, o1⟩ v hv => ?_⟩
    refine ⟨B, F1, as1, S1, r1, ?_⟩
    have o2 := Out.bind o1
    revert o2
    cases g S1 with
    | ok e S2 =>
      intro o2 F2 H2 as2 e2 r2 w hw
      obtain ⟨_, _, o3⟩ := o2 F2 H2 as2 e2 r2
      cases hz : h d e with
      | none => rw [hz] at o3; exact o3.elim
      | some z =>
        rw [hz] at o3
        exact hr F2 H2 v w d e z Q r2.fh (hv.up e2.1) hw hz (gvl_of o3 r2)
    | er x S2 => exact fun o2 => o2
    | no => exact fun o2 => o2

def iOp (g : Int → Int → Int) : Dt → Dt → Option Dt | .int i, .int j => some (.int (g i j)) | _, _ => none
theorem rd_I0 {K : PySem.W.Frag} {g : Int → Int → Int} : RulD K (rI0 fun i j => .int (g i j)) (iOp g) := fun F H v w d e z Q _ hv hw hz q => by
  cases d <;> cases e <;> simp only [iOp] at hz <;> cases hz
  cases hv; cases hw
  exact ⟨_, _, rfl, rfl, q.1 _ (.int _)⟩
def iOpC (C : Int → Int → Prop) [∀ i j, Decidable (C i j)] (g : Int → Int → Int) : Dt → Dt → Option Dt | .int i, .int j => if C i j then some (.int (g i j)) else none | _, _ => none
theorem rd_I {K : PySem.W.Frag} {C : Int → Int → Prop} [∀ i j, Decidable (C i j)] {g : Int → Int → Int} : RulD K (rI C fun i j => .int (g i j)) (iOpC C g) := fun F H v w d e z Q _ hv hw hz q => by
  cases d <;> cases e <;> simp only [iOpC] at hz <;> try cases hz
  split at hz
  · cases hz
    cases hv; cases hw
    exact ⟨_, _, rfl, rfl, by assumption, q.1 _ (.int _)⟩
  · cases hz
def iCmp (g : Int → Int → Bool) : Dt → Dt → Option Dt | .int i, .int j => some (.bl (g i j)) | _, _ => none
theorem rd_C {K : PySem.W.Frag} {g : Int → Int → Bool} : RulD K (rI0 fun i j => .bl (g i j)) (iCmp g) := fun F H v w d e z Q _ hv hw hz q => by
  cases d <;> cases e <;> simp only [iCmp] at hz <;> cases hz
  cases hv; cases hw
  exact ⟨_, _, rfl, rfl, q.1 _ (.bl _)⟩
instance : ∀ i j, Decidable (CMul i j) := fun i j => by unfold CMul; infer_instance
instance : ∀ i j, Decidable (CDiv i j) := fun i j => by unfold CDiv; infer_instance
abbrev addO := iOp fun i j => i + j
abbrev subO := iOp fun i j => i - j
abbrev mulO := iOpC CMul fun i j => i * j
abbrev modO := iOpC (fun _ j => 0 < j) fun i j => i % j
abbrev divO := iOpC CDiv fun i j => i / j
abbrev ltO := iCmp fun i j => decide (i < j)
abbrev leO := iCmp fun i j => decide (i ≤ j)
abbrev gtO := iCmp fun i j => decide (j < i)
section
variable {f g : Ms → R Dt}
theorem de_add (ha : PE X a (tD X.K W f)) (hb : PE X b (tD X.K W g)) : PE X (.BinOp a .Add b pos) (tD X.K W (op2 f g addO)) := de_op op_add rd_I0 ha hb
theorem de_sub (ha : PE X a (tD X.K W f)) (hb : PE X b (tD X.K W g)) : PE X (.BinOp a .Sub b pos) (tD X.K W (op2 f g subO)) := de_op op_sub rd_I0 ha hb
theorem de_mul (ha : PE X a (tD X.K W f)) (hb : PE X b (tD X.K W g)) : PE X (.BinOp a .Mult b pos) (tD X.K W (op2 f g mulO)) := de_op op_mul rd_I ha hb
theorem de_mod (ha : PE X a (tD X.K W f)) (hb : PE X b (tD X.K W g)) : PE X (.BinOp a .Mod b pos) (tD X.K W (op2 f g modO)) := de_op op_mod rd_I ha hb
theorem de_div (ha : PE X a (tD X.K W f)) (hb : PE X b (tD X.K W g)) : PE X (.BinOp a .FloorDiv b pos) (tD X.K W (op2 f g divO)) := de_op op_fdiv rd_I ha hb
theorem de_gt (ha : PE X a (tD X.K W f)) (hb : PE X b (tD X.K W g)) : PE X (.Compare a [.Gt] [b] pos) (tD X.K W (op2 f g gtO)) := de_cmp op_gt rd_C ha hb (nomark _)
def negO : Dt → Option Dt | .int i => some (.int (-i)) | _ => none
theorem de_neg (ha : PE X a (tD X.K W f)) : PE X (.UnaryOp .USub a pos) (tD X.K W (op1 f negO)) := de_un un_neg (fun F H v d z Q _ hv hz q => by
  cases d <;> simp only [negO] at hz <;> cases hz
  cases hv
  exact ⟨_, rfl, q.1 _ (.int _)⟩) ha

mutual
def toPy : Dt → PyData
  | .non => .none | .bl b => .bool b | .int i => .int i | .str x => .str x | .lst xs => .list (toPys xs) | .tup xs => .tuple (toPys xs) | .obj _ _ _ => .none | .scr _ _ => .none
def toPys : List Dt → List PyData
  | [] => [] | d :: ds => toPy d :: toPys ds
end
mutual
def plain : Dt → Bool
  | .lst xs => plains xs | .tup xs => plains xs | .obj _ _ _ => false | .scr _ _ => false | _ => true
def plains : List Dt → Bool
  | [] => true | d :: ds => plain d && plains ds
end
mutual
theorem Rp.dp {K : PySem.W.Frag} {F : Hp} : ∀ (d : Dt) (v : V), plain d = true → Rp K F v d → Dp K F v (toPy d)
  | .non, _, _, h => by cases h; exact .non
  | .bl b, _, _, h => by cases h; exact .bl _
  | .int i, _, _, h => by cases h; exact .int _
  | .str x, _, _, h => by cases h; exact .str _
  | .lst ds, _, p, h => by
    cases h with
    | lst hs ha => rw [toPy]; exact .lst (Evl.sq_of hs) (RpA.dp ds _ (by simpa [plain] using p) ha)
  | .tup ds, _, p, h => by
    cases h with
    | tup hs ha => rw [toPy]; exact .tup hs.sq (RpA.dp ds _ (by simpa [plain] using p) ha)
  | .obj C ks ds, _, p, h => by simp [plain] at p
  | .scr t ds, _, p, h => by simp [plain] at p
theorem RpA.dp {K : PySem.W.Frag} {F : Hp} : ∀ (ds : List Dt) (vs : List V), plains ds = true → RpA K F vs ds → DpAll K F vs (toPys ds)
  | [], _, _, h => by cases h; rw [toPys]; exact .nil
  | d :: ds, _, p, h => by
    cases h with
    | cons h1 h2 =>
      rw [plains, Bool.and_eq_true] at p
      rw [toPys]
      exact .cons (Rp.dp d _ p.1 h1) (RpA.dp ds _ p.2 h2)
end
def shp (d : Dt) : Bool := plain d && SeqAt.shaped (toPy d)
def eqO (d e : Dt) : Option Dt := if shp d && shp e then some (.bl (PyData.eqv (toPy d) (toPy e))) else none
def neO (d e : Dt) : Option Dt := if shp d && shp e then some (.bl (!PyData.eqv (toPy d) (toPy e))) else none
theorem Dp.up {K : PySem.W.Frag} {F H : Hp} (e : Ex F H) {v : V} {d : Dt} (p : plain d = true) (h : Rp K F v d) : Dp K H v (toPy d) := Rp.dp d v p (h.up e)
theorem de_eq (hu : X.A.units + 64 < cLine) (ha : PE X a (tD X.K W f)) (hb : PE X b (tD X.K W g)) : PE X (.Compare a [.Eq] [b] pos) (tD X.K W (op2 f g eqO)) := de_cmp (op_eqD hu) (fun F H v w d e z Q ex hv hw hz q => by
  unfold eqO at hz
  split at hz
  · rename_i h
    simp only [Bool.and_eq_true, shp] at h
    cases hz
    exact ⟨_, _, Dp.up ex h.1.1 hv, Dp.up ex h.2.1 hw, h.1.2, h.2.2, q.1 _ (.bl _)⟩
  · cases hz) ha hb (nomark _)
def ixO : Dt → Dt → Option Dt | .lst xs, .int i => atI xs i | .tup xs, .int i => atI xs i | .scr _ xs, .int i => atI xs i | _, _ => none
theorem atI_get' {α : Type} {xs : List α} {i : Int} {z : α} (h : atI xs i = some z) : ∃ j, ixN xs.length i = some j ∧ xs[j]? = some z := by
  unfold atI at h
  cases e : ixN xs.length i with
  | none => rw [e] at h; cases h
  | some j => rw [e] at h; exact ⟨j, rfl, h⟩
theorem atI_rp {K : PySem.W.Frag} {F : Hp} {vs : List V} {ds : List Dt} {i : Int} {z : Dt} (hv : RpA K F vs ds) (h : atI ds i = some z) : ∃ v, atI vs i = some v ∧ Rp K F v z := by
  obtain ⟨j, h1, h2⟩ := atI_get' h
  obtain ⟨v, h3, h4⟩ := hv.get h2
  refine ⟨v, ?_, h4⟩
  unfold atI
  rw [hv.length, h1]
  exact h3
theorem rd_ix {K : PySem.W.Frag} : RulD K (rIx K) ixO := fun F H v w d e z Q ex hv hw hz q => by
  cases d <;> cases e <;> simp only [ixO] at hz <;> try cases hz
  · cases hw
    cases hv with
    | lst hs ha =>
      obtain ⟨u, h1, h2⟩ := atI_rp ha hz
      exact .inl ⟨_, _, _, u, rfl, rfl, Evl.ex_l ex (Evl.sq_of hs), h1, q.1 _ h2⟩
  · cases hw
    cases hv with
    | tup hs ha =>
      obtain ⟨u, h1, h2⟩ := atI_rp ha hz
      exact .inr (.inl ⟨_, _, _, u, rfl, rfl, Evl.ex_t ex hs.sq, h1, q.1 _ h2⟩)
  · cases hw
    rename_i t xs i
    cases hv with
    | scr _ hs ha =>
      obtain ⟨u, h1, h2⟩ := atI_rp ha hz
      have hs' := hs.up ex
      unfold SqB at hs'
      cases t with
      | true => exact .inr (.inl ⟨_, _, _, u, rfl, rfl, hs', h1, q.1 _ h2⟩)
      | false => exact .inl ⟨_, _, _, u, rfl, rfl, hs', h1, q.1 _ h2⟩
theorem de_sub1 (ha : PE X a (tD X.K W f)) (hb : PE X b (tD X.K W g)) (hs : PlainIx b := by exact fun _ _ => rfl) : PE X (.Subscript a b pos) (tD X.K W (op2 f g ixO)) := de_ix ix_seq rd_ix ha hb hs
end
end
end Lq

namespace Lq
open PySem PySem.Spec PyProof.Rows L2
open Evl (Ex)
theorem monoW {X : Cx} {e : Expr} {t t' : TT} (h : PW X e t) (m : ∀ σ H Q, t' σ H Q → t σ H Q) : PW X e t' := ⟨fun wh pins s σ H Q I q => h.run wh pins s σ H Q I (m σ H Q q)⟩
section
variable {X : Cx} {W : WX} {a b c e : Expr} {pos : Pos} {f g : Ms → R Dt} {p q : Ms → R Bool}

def tst (f : Ms → R Dt) : Ms → R Bool := fun S => (f S).bind fun d S1 => match d with | .bl b => .ok b S1 | _ => .no
theorem tst_run {K : PySem.W.Frag} {σ : L2.St} {H : Hp} {Q : Bool → Hp → Prop} (h : tT K W (tst f) σ H Q) : tD K W f σ H fun x H' => ∃ k, x = .bl k ∧ Q k H' := by
  obtain ⟨B, F, as, S, r, o⟩ := h
  refine ⟨B, F, as, S, r, Out.mono (Out.bind o) fun d F1 H1 as1 S1 ⟨r1, e1, o1⟩ v hv => ?_⟩
  cases d with
  | bl b => cases hv; exact ⟨b, rfl, Out.now o1 r1⟩
  | _ => exact o1.elim
theorem dt_cmp {op : CmpOp} {r : R2} {h : Dt → Dt → Option Dt} (ho : OpR X (compareOp op) r) (hr : RulD X.K r h) (ha : PE X a (tD X.K W f)) (hb : PE X b (tD X.K W g)) (hm : behindInMarks op b = false) : PT X (.Compare a [op] [b] pos) (tT X.K W (tst (op2 f g h))) :=
  monoT (pt_cmpR ho ha hb hm) fun σ H Q q => dt_op hr σ H _ (tst_run q)
theorem dt_lt (ha : PE X a (tD X.K W f)) (hb : PE X b (tD X.K W g)) : PT X (.Compare a [.Lt] [b] pos) (tT X.K W (tst (op2 f g ltO))) := dt_cmp op_lt rd_C ha hb (nomark _)
theorem dt_gt (ha : PE X a (tD X.K W f)) (hb : PE X b (tD X.K W g)) : PT X (.Compare a [.Gt] [b] pos) (tT X.K W (tst (op2 f g gtO))) := dt_cmp op_gt rd_C ha hb (nomark _)
theorem rd_eq {K : PySem.W.Frag} : RulD K (rEqD K) eqO := fun F H v w d e z Q ex hv hw hz q => by
  unfold eqO at hz
  split at hz
  · rename_i h
    simp only [Bool.and_eq_true, shp] at h
    cases hz
    exact ⟨_, _, Dp.up ex h.1.1 hv, Dp.up ex h.2.1 hw, h.1.2, h.2.2, q.1 _ (.bl _)⟩
  · cases hz
theorem rd_ne {K : PySem.W.Frag} : RulD K (rNeD K) neO := fun F H v w d e z Q ex hv hw hz q => by
  unfold neO at hz
  split at hz
  · rename_i h
    simp only [Bool.and_eq_true, shp] at h
    cases hz
    exact ⟨_, _, Dp.up ex h.1.1 hv, Dp.up ex h.2.1 hw, h.1.2, h.2.2, q.1 _ (.bl _)⟩
  · cases hz
theorem dt_eq (hu : X.A.units + 64 < cLine) (ha : PE X a (tD X.K W f)) (hb : PE X b (tD X.K W g)) : PT X (.Compare a [.Eq] [b] pos) (tT X.K W (tst (op2 f g eqO))) := dt_cmp (op_eqD hu) rd_eq ha hb (nomark _)
theorem dt_ne (hu : X.A.units + 64 < cLine) (ha : PE X a (tD X.K W f)) (hb : PE X b (tD X.K W g)) : PT X (.Compare a [.NotEq] [b] pos) (tT X.K W (tst (op2 f g neO))) := dt_cmp (op_neD hu) rd_ne ha hb (nomark _)
def intsOf : List Dt → Option (List Int)
  | [] => some [] | .int i :: ds => (intsOf ds).map (i :: ·) | _ => none
theorem intsOf_map (ns : List Int) : intsOf (ns.map Dt.int) = some ns := by
  induction ns with
  | nil => rfl
  | cons n ns ih => simp [intsOf, ih]
theorem intsOf_eq : ∀ {ds : List Dt} {ns : List Int}, intsOf ds = some ns → ds = ns.map Dt.int
  | [], ns, h => by simp [intsOf] at h; subst h; rfl
  | d :: ds, ns, h => by
    cases d <;> simp only [intsOf] at h <;> try cases h
    cases hh : intsOf ds with
    | none => rw [hh] at h; cases h
    | some ms =>
      rw [hh] at h
      cases h
      rw [intsOf_eq hh]; rfl
def seqOf : Dt → Option (List Dt) | .lst xs => some xs | .tup xs => some xs | .scr _ xs => some xs | _ => none
def inI (neg : Bool) : Dt → Dt → Option Dt
  | .int i, d => (seqOf d).bind fun xs => (intsOf xs).map fun ns => .bl (if neg then !ns.contains i else ns.contains i)
  | _, _ => none
theorem inV_ints (i : Int) : ∀ ns : List Int, inV (.int i) (ns.map V.int) = ns.contains i
  | [] => rfl
  | n :: ns => by
    have ih := inV_ints i ns
    unfold inV at ih ⊢
    rw [List.map_cons, List.any_cons, ih, List.contains_cons]
    congr 1
    show (n == i) = (i == n)
    rw [Bool.beq_comm]
theorem flat_ints : ∀ ns : List Int, (ns.map V.int).all flatV = true
  | [] => rfl
  | n :: ns => by rw [List.map_cons, List.all_cons, flat_ints ns]; rfl
theorem rd_in {K : PySem.W.Frag} {neg : Bool} : RulD K (rIn K neg) (inI neg) := fun F H v w d e z Q ex hv hw hz q => by
  cases d <;> simp only [inI] at hz <;> try cases hz
  rename_i i
  cases hs : seqOf e with
  | none => rw [hs] at hz; cases hz
  | some xs =>
    rw [hs] at hz
    dsimp only [Option.bind] at hz
    cases hn : intsOf xs with
    | none => rw [hn] at hz; cases hz
    | some ns =>
      rw [hn] at hz
      cases hz
      cases hv
      have ex1 := intsOf_eq hn
      subst ex1
      cases e <;> simp only [seqOf] at hs <;> cases hs
      · cases hw with
        | lst hs ha =>
          rw [ha.intsv] at hs
          refine ⟨_, _, rfl, .inl (Evl.ex_l ex (Evl.sq_of hs)), rfl, flat_ints _, ?_⟩
          rw [inV_ints]
          exact q.1 _ (.bl _)
      · cases hw with
        | tup hs ha =>
          rw [ha.intsv] at hs
          refine ⟨_, _, rfl, .inr (Evl.ex_t ex hs.sq), rfl, flat_ints _, ?_⟩
          rw [inV_ints]
          exact q.1 _ (.bl _)
      · rename_i t
        cases hw with
        | scr _ hs ha =>
          rw [ha.intsv] at hs
          have hs' := hs.up ex
          unfold SqB at hs'
          cases t with
          | true =>
            refine ⟨_, _, rfl, .inr hs', rfl, flat_ints _, ?_⟩
            rw [inV_ints]
            exact q.1 _ (.bl _)
          | false =>
            refine ⟨_, _, rfl, .inl hs', rfl, flat_ints _, ?_⟩
            rw [inV_ints]
            exact q.1 _ (.bl _)
theorem dt_nin (ha : PE X a (tD X.K W f)) (hb : PE X b (tD X.K W g)) (hm : behindInMarks .NotIn b = false := by rfl) : PT X (.Compare a [.NotIn] [b] pos) (tT X.K W (tst (op2 f g (inI true)))) := dt_cmp op_notIn_seq rd_in ha hb hm
theorem de_in (ha : PE X a (tD X.K W f)) (hb : PE X b (tD X.K W g)) (hm : behindInMarks .In b = false := by rfl) : PE X (.Compare a [.In] [b] pos) (tD X.K W (op2 f g (inI false))) := de_cmp op_in_seq rd_in ha hb hm
def notT (p : Ms → R Bool) : Ms → R Bool := fun S => (p S).bind fun b S1 => .ok (!b) S1
def andT (p q : Ms → R Bool) : Ms → R Bool := fun S => (p S).bind fun b S1 => if b then q S1 else .ok false S1
def orT (p q : Ms → R Bool) : Ms → R Bool := fun S => (p S).bind fun b S1 => if b then .ok true S1 else q S1
theorem dt_not (ha : PT X a (tT X.K W p)) : PT X (.UnaryOp .Not a pos) (tT X.K W (notT p)) := monoT (pt_not ha) fun σ H Q q => by
  obtain ⟨B, F, as, S, r, o⟩ := q
  exact ⟨B, F, as, S, r, Out.mono (Out.bind o) fun d F1 H1 as1 S1 ⟨r1, e1, o1⟩ => Out.now o1 r1⟩
theorem or_run {K : PySem.W.Frag} {σ : L2.St} {H : Hp} {Q : Bool → Hp → Prop} (h : tT K W (orT p q) σ H Q) : tOr (tT K W p) (tT K W q) σ H Q := by
  obtain ⟨B, F, as, S, r, o⟩ := h
  refine ⟨B, F, as, S, r, Out.mono (Out.bind o) fun b F1 H1 as1 S1 ⟨r1, e1, o1⟩ => ?_⟩
  cases b with
  | true => exact Out.now o1 r1
  | false => exact ⟨B, F1, as1, S1, r1, o1⟩
theorem dw_or1 (ha : PT X a (tT X.K W p)) : PW X (.BoolOp .Or [a] pos) (tT X.K W p) := pw_or1 ha
theorem dw_or {rest : List Expr} (ha : PT X a (tT X.K W p)) (hb : PW X (.BoolOp .Or (b :: rest) pos) (tT X.K W q)) : PW X (.BoolOp .Or (a :: b :: rest) pos) (tT X.K W (orT p q)) := monoW (pw_or ha hb) fun σ H Q h => or_run h
def andV (f g : Ms → R Dt) : Ms → R Dt := fun S => (f S).bind fun d S1 => match d with | .bl true => g S1 | .bl false => .ok (.bl false) S1 | _ => .no
def orV (f g : Ms → R Dt) : Ms → R Dt := fun S => (f S).bind fun d S1 => match d with | .bl false => g S1 | .bl true => .ok (.bl true) S1 | _ => .no
theorem de_one {op} (h : PE X a (tD X.K W f)) : PE X (.BoolOp op [a] pos) (tD X.K W f) := pe_one h
theorem de_and {rest : List Expr} (ha : PE X a (tD X.K W f)) (hb : PE X (.BoolOp .And (b :: rest) pos) (tD X.K W g)) : PE X (.BoolOp .And (a :: b :: rest) pos) (tD X.K W (andV f g)) := monoE (pe_and ha hb) fun σ H Q q => by
  obtain ⟨B, F, as, S, r, o⟩ := q
  refine ⟨B, F, as, S, r, Out.mono (Out.bind o) fun d F1 H1 as1 S1 ⟨r1, e1, o1⟩ v hv => ?_⟩
  cases d with
  | bl b =>
    cases hv
    cases b with
    | true => exact ⟨true, rfl, B, F1, as1, S1, r1, o1⟩
    | false => exact ⟨false, rfl, Out.now o1 r1 _ (.bl false)⟩
  | _ => exact o1.elim
def notO : Dt → Option Dt | .bl b => some (.bl (!b)) | _ => none
theorem de_not (ha : PE X a (tD X.K W f)) : PE X (.UnaryOp .Not a pos) (tD X.K W (op1 f notO)) := monoE (pe_not ha) fun σ H Q q => by
  obtain ⟨B, F, as, S, r, o⟩ := q
  refine ⟨B, F, as, S, r, Out.mono (Out.bind o) fun d F1 H1 as1 S1 ⟨r1, e1, o1⟩ v hv => ?_⟩
  cases d with
  | bl b => cases hv; exact ⟨b, rfl, Out.now o1 r1 _ (.bl _)⟩
  | _ => exact o1.elim
def ifE (p : Ms → R Bool) (f g : Ms → R Dt) : Ms → R Dt := fun S => (p S).bind fun b S1 => if b then f S1 else g S1
theorem de_ifx (hp : PT X c (tT X.K W p)) (ha : PE X a (tD X.K W f)) (hb : PE X b (tD X.K W g)) : PE X (.IfExp c a b pos) (tD X.K W (ifE p f g)) := monoE (pe_ifExp hp ha hb) fun σ H Q q => by
  obtain ⟨B, F, as, S, r, o⟩ := q
  refine ⟨B, F, as, S, r, Out.mono (Out.bind o) fun b F1 H1 as1 S1 ⟨r1, e1, o1⟩ => ?_⟩
  cases b with
  | true => exact ⟨B, F1, as1, S1, r1, o1⟩
  | false => exact ⟨B, F1, as1, S1, r1, o1⟩
def truO : Dt → Option Bool | .non => some false | .bl b => some b | .int i => some (i != 0) | .lst xs => some (!xs.isEmpty) | .tup xs => some (!xs.isEmpty) | .str x => if x.length ≤ 100000 then some ((x.length : Int) != 0) else none | .obj _ _ _ => none | .scr _ _ => none
def truT (f : Ms → R Dt) : Ms → R Bool := fun S => (f S).bind fun d S1 => R.of (truO d) S1
theorem emp_rp {K : PySem.W.Frag} {F : Hp} {vs : List V} {ds : List Dt} (h : RpA K F vs ds) : vs.isEmpty = ds.isEmpty := by cases h <;> rfl
theorem dt_tru (ha : PE X a (tD X.K W f)) (he : ∀ whole, isTrue a X.env whole = (do let v ← whole; standAt a.pos; holding [v] (truthy v)) := by exact fun _ => rfl) : PT X a (tT X.K W (truT f)) := monoT (pt_truth ha he) fun σ H Q q => by
  obtain ⟨B, F, as, S, r, o⟩ := q
  refine ⟨B, F, as, S, r, Out.mono (Out.bind o) fun d F1 H1 as1 S1 ⟨r1, e1, o1⟩ v hv => ?_⟩
  cases ht : truO d with
  | none => rw [ht] at o1; exact o1.elim
  | some k =>
    rw [ht] at o1
    refine ⟨k, ?_, Out.now o1 r1⟩
    cases d <;> simp only [truO] at ht <;> try (cases ht; cases hv; rfl)
    · split at ht
      · rename_i hl
        cases ht; cases hv
        exact ⟨Nat.le_trans hl (by decide), rfl⟩
      · cases ht
    · cases ht
      cases hv with
      | lst hs ha => exact .inl ⟨_, Evl.ex_l r1.fh (Evl.sq_of hs), by rw [emp_rp ha]⟩
    · cases ht
      cases hv with
      | tup hs ha => exact .inr (.inl ⟨_, Evl.ex_t r1.fh hs.sq, by rw [emp_rp ha]⟩)
    · cases ht
    · cases ht
def chT (f g h : Ms → R Dt) (o o' : Dt → Dt → Option Dt) : Ms → R Dt := fun S => (f S).bind fun d S1 => (g S1).bind fun e S2 => (R.of (o d e) S2).bind fun k S3 => match k with
  | .bl true => (h S3).bind fun z S4 => R.of (o' e z) S4
  | .bl false => .ok (.bl false) S3
  | _ => .no
theorem ch_run {K : PySem.W.Frag} {r r' : R2} {o o' : Dt → Dt → Option Dt} {h : Ms → R Dt} (h1 : RulD K r o) (h2 : RulD K r' o') {σ : L2.St} {H : Hp} {Q : VK} (q : tD K W (chT f g h o o') σ H Q) : tChain r r' (tD K W f) (tD K W g) (tD K W h) σ H Q := by
  obtain ⟨B, F, as, S, r0, out⟩ := q
  refine ⟨B, F, as, S, r0, Out.mono (Out.bind out) fun d F1 H1 as1 S1 ⟨r1, e1, o1⟩ v hv => ?_⟩
  refine ⟨B, F1, as1, S1, r1, ?_⟩
  have q2 := Out.bind o1
  revert q2
  cases g S1 with
  | ok e S2 =>
    intro q2 F2 H2 as2 e2 r2 w hw
    obtain ⟨_, _, o3⟩ := q2 F2 H2 as2 e2 r2
    cases hz : o d e with
    | none => rw [hz] at o3; exact o3.elim
    | some k =>
      rw [hz] at o3
      have o3 : Out K W B F2 as2 σ (match k with | .bl true => (h S2).bind fun z S4 => R.of (o' e z) S4 | .bl false => .ok (.bl false) S2 | _ => .no) _ := o3
      refine h1 F2 H2 v w d e k _ r2.fh (hv.up e2.1) hw hz ⟨fun u hu => ?_, fun p ob hp hu => ?_⟩
      · cases k with
        | bl b =>
          cases hu
          refine ⟨b, rfl, ?_⟩
          cases b with
          | true =>
            show tD K W h σ H2 _
            refine ⟨B, F2, as2, S2, r2, ?_⟩
            have q3 := Out.bind o3
            revert q3
            cases h S2 with
            | ok z S3 =>
              intro q3 F3 H3 as3 e3 r3 x hx
              obtain ⟨_, _, o4⟩ := q3 F3 H3 as3 e3 r3
              cases hz2 : o' e z with
              | none => rw [hz2] at o4; exact o4.elim
              | some k2 =>
                rw [hz2] at o4
                exact h2 F3 H3 w x e z k2 Q r3.fh (hw.up e3.1) hx hz2 (gv_of o4 r3)
            | er y S3 => exact fun q3 => q3
            | no => exact fun q3 => q3
          | false => exact Out.now o3 r2 _ (.bl false)
        | _ => exact o3.elim
      · cases k with
        | bl b => cases hu
        | _ => exact o3.elim
  | er x S2 => exact fun q2 => q2
  | no => exact fun q2 => q2
theorem de_chain {op op' : CmpOp} {r r' : R2} {o o' : Dt → Dt → Option Dt} {h : Ms → R Dt} (ho : OpR X (compareOp op) r) (h1 : RulD X.K r o) (ho' : OpR X (compareOp op') r') (h2 : RulD X.K r' o') (ha : PE X a (tD X.K W f)) (hb : PE X b (tD X.K W g)) (hc : PE X c (tD X.K W h))
    (hm : lastMarks [op, op'] [b, c] = false := by with_unfolding_all rfl) : PE X (.Compare a [op, op'] [b, c] pos) (tD X.K W (chT f g h o o')) := monoE (pe_chain ho ho' ha hb hc hm) fun σ H Q q => ch_run h1 h2 q
end
end Lq

namespace Lq
open PySem PySem.Spec PyProof.Rows L2
open Evl (Ex)
section
variable {X : Cx} {W : WX} {a b c e : Expr} {es : List Expr} {pos : Pos} {f g : Ms → R Dt} {fs : Ms → R (List Dt)}

def aNil : Ms → R (List Dt) := fun S => .ok [] S
def aCons (f : Ms → R Dt) (fs : Ms → R (List Dt)) : Ms → R (List Dt) := fun S => (f S).bind fun d S1 => (fs S1).bind fun ds S2 => .ok (d :: ds) S2
theorem da_nil : PA X [] (tA X.K W aNil) := monoA pa_nil fun σ H Q q => by
  obtain ⟨B, F, as, S, r, o⟩ := q
  exact Out.now o r _ .nil
theorem da_cons (ha : PE X e (tD X.K W f)) (hr : PA X es (tA X.K W fs)) (hs : starEach (e :: es) X.env = (false, eval e X.env) :: starEach es X.env := by rfl) : PA X (e :: es) (tA X.K W (aCons f fs)) := monoA (pa_cons ha hr hs) fun σ H Q q => by
  obtain ⟨B, F, as, S, r, o⟩ := q
  refine ⟨B, F, as, S, r, Out.mono (Out.bind o) fun d F1 H1 as1 S1 ⟨r1, e1, o1⟩ v hv => ?_⟩
  refine ⟨B, F1, as1, S1, r1, ?_⟩
  have o2 := Out.bind o1
  revert o2
  cases fs S1 with
  | ok ds S2 =>
    intro o2 F2 H2 as2 e2 r2 vs hvs
    obtain ⟨_, _, o3⟩ := o2 F2 H2 as2 e2 r2
    exact Out.now o3 r2 _ (.cons (hv.up e2.1) hvs)
  | er x S2 => exact fun o2 => o2
  | no => exact fun o2 => o2
def tupE (fs : Ms → R (List Dt)) : Ms → R Dt := fun S => (fs S).bind fun ds S1 => if ds.length ≤ 100000 then .ok (.tup ds) S1 else .no
def lstE (fs : Ms → R (List Dt)) : Ms → R (List Dt) := fun S => (fs S).bind fun ds S1 => if ds.length ≤ 100000 then .ok ds S1 else .no
theorem de_tup {x1} (h : PA X es (tA X.K W fs)) : PE X (.Tuple es x1 pos) (tD X.K W (tupE fs)) := monoE (pe_tup h) fun σ H Q q => by
  obtain ⟨B, F, as, S, r, o⟩ := q
  refine ⟨B, F, as, S, r, Out.mono (Out.bind o) fun ds F1 H1 as1 S1 ⟨r1, e1, o1⟩ vs hv => ?_⟩
  split at o1
  · rename_i hl
    refine ⟨Evl.sz_of (by rw [hv.length]; exact hl), fun p hp => ?_⟩
    exact (gv_of o1 r1).2 p _ hp (.tup upd_same (hv.up (Ex.new (r1.fresh hp).1)))
  · exact o1.elim
theorem dn_lst (h : PA X es (tA X.K W fs)) : PE X (.List es pos) (tN X.K W (lstE fs)) := monoE (pe_lst h) fun σ H Q q => by
  obtain ⟨B, F, as, S, r, o⟩ := q
  refine ⟨B, F, as, S, r, Out.mono (Out.bind o) fun ds F1 H1 as1 S1 ⟨r1, e1, o1⟩ vs hv => ?_⟩
  split at o1
  · rename_i hl
    refine ⟨Evl.sz_of (by rw [hv.length]; exact hl), fun p hp => ?_⟩
    exact gvl_of o1 r1 p _ hp hv
  · exact o1.elim

def calE (fs : Ms → R (List Dt)) (h : List Dt → Option Dt) : Ms → R Dt := fun S => (fs S).bind fun ds S1 => R.of (h ds) S1
def calN (fs : Ms → R (List Dt)) (h : List Dt → Option (List Dt)) : Ms → R (List Dt) := fun S => (fs S).bind fun ds S1 => R.of (h ds) S1
def RulC (K : PySem.W.Frag) (r : List V → Hp → VK → Prop) (h : List Dt → Option Dt) : Prop := ∀ F H vs ds z Q, Ex F H → RpA K F vs ds → h ds = some z → Gv K F H z Q → r vs H Q
def RulCN (K : PySem.W.Frag) (r : List V → Hp → VK → Prop) (h : List Dt → Option (List Dt)) : Prop := ∀ F H vs ds z Q, Ex F H → RpA K F vs ds → h ds = some z → GvL K F H z Q → r vs H Q
theorem dt_cal {K : PySem.W.Frag} {r : List V → Hp → VK → Prop} {h : List Dt → Option Dt} (hr : RulC K r h) (σ : L2.St) (H : Hp) (Q : VK) (q : tD K W (calE fs h) σ H Q) : tCB r (tA K W fs) σ H Q := by
  obtain ⟨B, F, as, S, r0, o⟩ := q
  refine ⟨B, F, as, S, r0, Out.mono (Out.bind o) fun ds F1 H1 as1 S1 ⟨r1, e1, o1⟩ vs hv => ?_⟩
  cases hz : h ds with
  | none => rw [hz] at o1; exact o1.elim
  | some z =>
    rw [hz] at o1
    exact hr F1 H1 vs ds z Q r1.fh hv hz (gv_of o1 r1)
theorem dt_calN {K : PySem.W.Frag} {r : List V → Hp → VK → Prop} {h : List Dt → Option (List Dt)} (hr : RulCN K r h) (σ : L2.St) (H : Hp) (Q : VK) (q : tN K W (calN fs h) σ H Q) : tCB r (tA K W fs) σ H Q := by
  obtain ⟨B, F, as, S, r0, o⟩ := q
  refine ⟨B, F, as, S, r0, Out.mono (Out.bind o) fun ds F1 H1 as1 S1 ⟨r1, e1, o1⟩ vs hv => ?_⟩
  cases hz : h ds with
  | none => rw [hz] at o1; exact o1.elim
  | some z =>
    rw [hz] at o1
    exact hr F1 H1 vs ds z Q r1.fh hv hz (gvl_of o1 r1)
section
variable {x : Str} {p : Pos} {id T : String} {r : List V → Hp → VK → Prop} {h : List Dt → Option Dt} {hN : List Dt → Option (List Dt)}
theorem de_calB (hr : RulC X.K r h) (hc : CallR X (.builtin id) r) (hg : Gl X x) (hm : X.mg x = none) (hv : bootBuiltins x = some (.builtin id)) (ha : PA X (e :: es) (tA X.K W fs)) (hn : x ≠ "__name__" := by decide) (hdb : (x == ("__debug__" : Str)) = false := by decide)
    (he : starEach (e :: es) X.env = (false, eval e X.env) :: starEach es X.env := by rfl) (hpl : (backTo pos (starEach es X.env)).any (·.1) = false := by rfl) : PE X (.Call (.Name x p) (e :: es) [] pos) (tD X.K W (calE fs h)) :=
  monoE (pe_callB hc hg hm hv ha hn hdb he hpl) (dt_cal hr)
theorem de_calT (hr : RulC X.K r h) (hc : CallR X (.type T) r) (hg : Gl X x) (hm : X.mg x = none) (hv : bootBuiltins x = some (.type T)) (ha : PA X (e :: es) (tA X.K W fs)) (hn : x ≠ "__name__" := by decide) (hdb : (x == ("__debug__" : Str)) = false := by decide)
    (he : starEach (e :: es) X.env = (false, eval e X.env) :: starEach es X.env := by rfl) (hpl : (backTo pos (starEach es X.env)).any (·.1) = false := by rfl) : PE X (.Call (.Name x p) (e :: es) [] pos) (tD X.K W (calE fs h)) :=
  monoE (pe_callTy hc hg hm hv ha hn hdb he hpl) (dt_cal hr)
theorem dn_calT (hr : RulCN X.K r hN) (hc : CallR X (.type T) r) (hg : Gl X x) (hm : X.mg x = none) (hv : bootBuiltins x = some (.type T)) (ha : PA X (e :: es) (tA X.K W fs)) (hn : x ≠ "__name__" := by decide) (hdb : (x == ("__debug__" : Str)) = false := by decide)
    (he : starEach (e :: es) X.env = (false, eval e X.env) :: starEach es X.env := by rfl) (hpl : (backTo pos (starEach es X.env)).any (·.1) = false := by rfl) : PE X (.Call (.Name x p) (e :: es) [] pos) (tN X.K W (calN fs hN)) :=
  monoE (pe_callTy hc hg hm hv ha hn hdb he hpl) (dt_calN hr)
end
theorem rpa1 {K : PySem.W.Frag} {F : Hp} {vs : List V} {d : Dt} (h : RpA K F vs [d]) : ∃ v, vs = [v] ∧ Rp K F v d := by
  cases h with
  | cons h1 h2 => cases h2; exact ⟨_, rfl, h1⟩
theorem rpa2 {K : PySem.W.Frag} {F : Hp} {vs : List V} {d e : Dt} (h : RpA K F vs [d, e]) : ∃ v w, vs = [v, w] ∧ Rp K F v d ∧ Rp K F w e := by
  cases h with
  | cons h1 h2 =>
    obtain ⟨w, rfl, hw⟩ := rpa1 h2
    exact ⟨_, w, rfl, h1, hw⟩
def lenO : List Dt → Option Dt | [.lst xs] => some (.int xs.length) | [.tup xs] => some (.int xs.length) | [.scr _ xs] => some (.int xs.length) | _ => none
section
variable {p p2 pos2 : Pos}
theorem de_len (hg : Gl X "len") (hm : X.mg "len" = none) (ha : PE X a (tD X.K W f)) (hs : starEach [a] X.env = (false, eval a X.env) :: starEach [] X.env := by rfl) : PE X (.Call (.Name "len" p) [a] [] pos) (tD X.K W (calE (aCons f aNil) lenO)) :=
  de_calB (fun F H vs ds z Q ex hv hz q => by
    unfold lenO at hz
    split at hz <;> cases hz
    · obtain ⟨v, rfl, h1⟩ := rpa1 hv
      cases h1 with
      | lst hs ha =>
        refine ⟨_, _, rfl, .inl (Evl.ex_l ex (Evl.sq_of hs)), ?_⟩
        rw [ha.length]; exact q.1 _ (.int _)
    · obtain ⟨v, rfl, h1⟩ := rpa1 hv
      cases h1 with
      | tup hs ha =>
        refine ⟨_, _, rfl, .inr (Evl.ex_t ex hs.sq), ?_⟩
        rw [ha.length]; exact q.1 _ (.int _)
    · obtain ⟨v, rfl, h1⟩ := rpa1 hv
      rename_i t xs
      cases h1 with
      | scr _ hs ha =>
        have hs' := hs.up ex
        unfold SqB at hs'
        rw [← ha.length] at q
        cases t with
        | true => exact ⟨_, _, rfl, .inr hs', q.1 _ (.int _)⟩
        | false => exact ⟨_, _, rfl, .inl hs', q.1 _ (.int _)⟩) call_len_seq hg hm PySem.boot_len (da_cons ha da_nil hs) (by decide) (by decide) hs (by rfl)
def intO : List Dt → Option Dt | [.int i] => some (.int i) | [.bl b] => some (.int (if b then 1 else 0)) | _ => none
theorem de_intc (hg : Gl X "int") (hm : X.mg "int" = none) (ha : PE X a (tD X.K W f)) (hs : starEach [a] X.env = (false, eval a X.env) :: starEach [] X.env := by rfl) : PE X (.Call (.Name "int" p) [a] [] pos) (tD X.K W (calE (aCons f aNil) intO)) :=
  de_calT (fun F H vs ds z Q ex hv hz q => by
    unfold intO at hz
    split at hz <;> cases hz
    · obtain ⟨v, rfl, h1⟩ := rpa1 hv
      cases h1
      exact .inl ⟨_, rfl, q.1 _ (.int _)⟩
    · obtain ⟨v, rfl, h1⟩ := rpa1 hv
      cases h1
      exact .inr ⟨_, rfl, q.1 _ (.int _)⟩) call_int1 hg hm PyProof.Rows.boot_int (da_cons ha da_nil hs) (by decide) (by decide) hs (by rfl)
def absO : List Dt → Option Dt | [.int i] => some (.int (if i < 0 then -i else i)) | _ => none
theorem de_abs (hg : Gl X "abs") (hm : X.mg "abs" = none) (ha : PE X a (tD X.K W f)) (hs : starEach [a] X.env = (false, eval a X.env) :: starEach [] X.env := by rfl) : PE X (.Call (.Name "abs" p) [a] [] pos) (tD X.K W (calE (aCons f aNil) absO)) :=
  de_calB (fun F H vs ds z Q ex hv hz q => by
    unfold absO at hz
    split at hz <;> cases hz
    obtain ⟨v, rfl, h1⟩ := rpa1 hv
    cases h1
    exact ⟨_, rfl, q.1 _ (.int _)⟩) call_abs hg hm (by decide +kernel) (da_cons ha da_nil hs) (by decide) (by decide) hs (by rfl)
def tupO : List Dt → Option Dt | [.lst xs] => some (.tup xs) | [.tup xs] => some (.tup xs) | _ => none
theorem de_tupc (hg : Gl X "tuple") (hm : X.mg "tuple" = none) (ha : PE X a (tD X.K W f)) (hs : starEach [a] X.env = (false, eval a X.env) :: starEach [] X.env := by rfl) : PE X (.Call (.Name "tuple" p) [a] [] pos) (tD X.K W (calE (aCons f aNil) tupO)) :=
  de_calT (fun F H vs ds z Q ex hv hz q => by
    unfold tupO at hz
    split at hz <;> cases hz
    · obtain ⟨v, rfl, h1⟩ := rpa1 hv
      cases h1 with
      | lst hs ha =>
        refine ⟨_, _, rfl, .inl ⟨Evl.ex_l ex (Evl.sq_of hs), fun p hp => q.2 p _ hp ?_⟩⟩
        have hf : F p = none := by
          cases w : F p with
          | none => rfl
          | some o => rw [ex _ _ w] at hp; cases hp
        exact .tup upd_same (ha.up (Ex.new hf))
    · obtain ⟨v, rfl, h1⟩ := rpa1 hv
      cases h1 with
      | tup hs ha => exact ⟨_, _, rfl, .inr ⟨Evl.ex_t ex hs.sq, q.1 _ (.tup hs ha)⟩⟩) call_tuple_of hg hm (by decide +kernel) (da_cons ha da_nil hs) (by decide) (by decide) hs (by rfl)
def lstO : List Dt → Option (List Dt) | [.lst xs] => some xs | [.tup xs] => some xs | _ => none
theorem dn_list (hg : Gl X "list") (hm : X.mg "list" = none) (ha : PE X a (tD X.K W f)) (hs : starEach [a] X.env = (false, eval a X.env) :: starEach [] X.env := by rfl) : PE X (.Call (.Name "list" p) [a] [] pos) (tN X.K W (calN (aCons f aNil) lstO)) :=
  dn_calT (fun F H vs ds z Q ex hv hz q => by
    unfold lstO at hz
    split at hz <;> cases hz
    · obtain ⟨v, rfl, h1⟩ := rpa1 hv
      cases h1 with
      | lst hs ha => exact ⟨_, _, rfl, .inl (Evl.ex_l ex (Evl.sq_of hs)), fun p hp => q p _ hp ha⟩
    · obtain ⟨v, rfl, h1⟩ := rpa1 hv
      cases h1 with
      | tup hs ha => exact ⟨_, _, rfl, .inr (Evl.ex_t ex hs.sq), fun p hp => q p _ hp ha⟩) call_list_of hg hm (by decide +kernel) (da_cons ha da_nil hs) (by decide) (by decide) hs (by rfl)
def sumO : List Dt → Option Dt | [.lst xs] => (intsOf xs).map fun ns => .int ns.sum | _ => none
theorem de_sum (hcalm : X.calm = true) (hg : Gl X "sum") (hm : X.mg "sum" = none) (ha : PE X a (tD X.K W f)) (hs : starEach [a] X.env = (false, eval a X.env) :: starEach [] X.env := by rfl) : PE X (.Call (.Name "sum" p) [a] [] pos) (tD X.K W (calE (aCons f aNil) sumO)) :=
  de_calB (fun F H vs ds z Q ex hv hz q => by
    unfold sumO at hz
    split at hz <;> try cases hz
    rename_i xs
    cases hn : intsOf xs with
    | none => rw [hn] at hz; cases hz
    | some ns =>
      rw [hn] at hz
      cases hz
      have e1 := intsOf_eq hn
      subst e1
      obtain ⟨v, rfl, h1⟩ := rpa1 hv
      cases h1 with
      | lst hs ha =>
        rw [ha.intsv] at hs
        exact ⟨_, _, rfl, Evl.ex_l ex (Evl.sq_of hs), q.1 _ (.int _)⟩) (cr_sum hcalm) hg hm (by decide +kernel) (da_cons ha da_nil hs) (by decide) (by decide) hs (by rfl)

def tyN : Dt → Option String | .non => some "NoneType" | .bl _ => some "bool" | .int _ => some "int" | .str _ => some "str" | .lst _ => some "list" | .tup _ => some "tuple" | .obj _ _ _ => none | .scr _ _ => none
def isiO (T : String) (d : Dt) : Option Dt := (tyN d).bind fun n => (kitB n T).map .bl
theorem tyx_of {K : PySem.W.Frag} {F H : Hp} {v : V} {d : Dt} {n : String} (ex : Ex F H) (h : Rp K F v d) (hn : tyN d = some n) : TyX K H v (.type n) := by
  cases h with
  | non => cases hn; exact .base .non
  | bl b => cases hn; exact .base (.bl b)
  | int i => cases hn; exact .base (.int i)
  | str x => cases hn; exact .base (.str x)
  | lst hs ha => cases hn; exact .base (.lst (ex _ _ hs))
  | tup hs ha =>
    cases hn
    exact .base (.tup (ex _ _ hs))
  | obj _ _ _ => cases hn
  | scr _ _ _ => cases hn
theorem de_isi {T : String} {y : Str} (hT : bootBuiltins y = some (.type T)) (hg : Gl X "isinstance") (hm : X.mg "isinstance" = none) (hgT : Gl X y) (hmT : X.mg y = none) (hcl : ClsV (.ty T) (.type T)) (ha : PE X a (tD X.K W f)) (hyn : y ≠ "__name__" := by decide) (hyd : (y == ("__debug__" : Str)) = false := by decide)
    (hs : starEach [a, .Name y p2] X.env = (false, eval a X.env) :: starEach [.Name y p2] X.env := by rfl) (hs2 : starEach [.Name y p2] X.env = (false, eval (.Name y p2) X.env) :: starEach [] X.env := by rfl) (hpl : (backTo pos (starEach [.Name y p2] X.env)).any (·.1) = false := by rfl) :
    PE X (.Call (.Name "isinstance" p) [a, .Name y p2] [] pos) (tD X.K W (op1 f (isiO T))) := by
  have hy : PE X (.Name y p2) (tC (.ty T)) := pe_bltn hgT hmT hT rfl hyn hyd
  refine monoE (pe_callB call_isi hg hm (by decide +kernel) (pa_cons ha (pa_cons hy pa_nil hs2) hs) (by decide) (by decide) hs hpl) fun σ H Q q => ?_
  obtain ⟨B, F, as, S, r, o⟩ := q
  refine ⟨B, F, as, S, r, Out.mono (Out.bind o) fun d F1 H1 as1 S1 ⟨r1, e1, o1⟩ v hv => ?_⟩
  show rIsi X.K [v, .ty T] H1 Q
  unfold isiO at o1
  cases hn : tyN d with
  | none => rw [hn] at o1; exact o1.elim
  | some n =>
    rw [hn] at o1
    dsimp only [Option.bind] at o1
    cases hk : kitB n T with
    | none => rw [hk] at o1; exact o1.elim
    | some k =>
      rw [hk] at o1
      exact ⟨v, .ty T, .type n, .type T, k, rfl, hcl, tyx_of r1.fh hv hn, kit_ty hk, Out.now o1 r1 _ (.bl k)⟩
end

def tO (K : PySem.W.Frag) (W : WX) (f : Ms → R (Option Int)) : TO := fun σ H Q => ∃ B F as S, Rep K B F H as σ S ∧ Out K W B F as σ (f S) fun o _ H' _ _ => Q o H'
theorem monoO {X : Cx} {e : Option Expr} {t t' : TO} (h : PO X e t) (m : ∀ σ H Q, t' σ H Q → t σ H Q) : PO X e t' := ⟨fun pins s σ H Q I q => h.run pins s σ H Q I (m σ H Q q)⟩
def oNone : Ms → R (Option Int) := fun S => .ok none S
def oSome (f : Ms → R Dt) : Ms → R (Option Int) := fun S => (f S).bind fun d S1 => match d with | .int i => .ok (some i) S1 | _ => .no
theorem do_none : PO X none (tO X.K W oNone) := monoO po_none fun σ H Q q => by
  obtain ⟨B, F, as, S, r, o⟩ := q
  exact Out.now o r
theorem do_some (h : PE X e (tD X.K W f)) : PO X (some e) (tO X.K W (oSome f)) := monoO (po_some h) fun σ H Q q => by
  obtain ⟨B, F, as, S, r, o⟩ := q
  refine ⟨B, F, as, S, r, Out.mono (Out.bind o) fun d F1 H1 as1 S1 ⟨r1, e1, o1⟩ v hv => ?_⟩
  cases d with
  | int i => cases hv; exact ⟨i, rfl, Out.now o1 r1⟩
  | _ => exact o1.elim
def cut {α : Type} (xs : List α) (lo hi : Option Int) : List α := (xs.drop (HT.sIx xs.length 0 lo)).take (HT.sIx xs.length xs.length hi - HT.sIx xs.length 0 lo)
theorem cut_rp {K : PySem.W.Frag} {F : Hp} {vs : List V} {ds : List Dt} (h : RpA K F vs ds) (lo hi : Option Int) : RpA K F (cutV vs lo hi) (cut ds lo hi) := by
  unfold cutV cut
  rw [h.length]
  exact (h.drop _).take _
def slT (f : Ms → R Dt) (lo hi : Ms → R (Option Int)) : Ms → R Dt := fun S => (f S).bind fun d S1 => (lo S1).bind fun l S2 => (hi S2).bind fun u S3 => match d with | .tup xs => .ok (.tup (cut xs l u)) S3 | _ => .no
def slL (f : Ms → R Dt) (lo hi : Ms → R (Option Int)) : Ms → R (List Dt) := fun S => (f S).bind fun d S1 => (lo S1).bind fun l S2 => (hi S2).bind fun u S3 => match d with | .lst xs => .ok (cut xs l u) S3 | .scr false xs => .ok (cut xs l u) S3 | _ => .no
section
variable {lo hi : Option Expr} {fl fh : Ms → R (Option Int)} {p2 : Pos}
theorem de_sliceT (he : PE X e (tD X.K W f)) (hl : PO X lo (tO X.K W fl)) (hu : PO X hi (tO X.K W fh)) : PE X (.Subscript e (.Slice lo hi none p2) pos) (tD X.K W (slT f fl fh)) := monoE (pe_slice sl_tupA he hl hu) fun σ H Q q => by
  obtain ⟨B, F, as, S, r, o⟩ := q
  refine ⟨B, F, as, S, r, Out.mono (Out.bind o) fun d F1 H1 as1 S1 ⟨r1, e1, o1⟩ v hv => ?_⟩
  refine ⟨B, F1, as1, S1, r1, Out.mono (Out.bind o1) fun l F2 H2 as2 S2 ⟨r2, e2, o2⟩ => ?_⟩
  refine ⟨B, F2, as2, S2, r2, Out.mono (Out.bind o2) fun u F3 H3 as3 S3 ⟨r3, e3, o3⟩ => ?_⟩
  cases d with
  | tup xs =>
    cases (hv.up e2.1).up e3.1 with
    | tup hs ha =>
      have gg := gv_of o3 r3
      refine ⟨_, _, rfl, Evl.ex_t r3.fh hs.sq, fun hw => gg.1 _ ?_, fun hw p hp => gg.2 p _ hp (.tup upd_same ((cut_rp ha l u).up (Ex.new (r3.fresh hp).1)))⟩
      have hc : cut xs l u = xs := by
        unfold cut
        rw [← ha.length, hw.1, hw.2, ha.length]
        simp
      rw [hc]
      exact .tup hs ha
  | _ => exact o3.elim
theorem dn_sliceL (he : PE X e (tD X.K W f)) (hl : PO X lo (tO X.K W fl)) (hu : PO X hi (tO X.K W fh)) : PE X (.Subscript e (.Slice lo hi none p2) pos) (tN X.K W (slL f fl fh)) := monoE (pe_slice sl_list he hl hu) fun σ H Q q => by
  obtain ⟨B, F, as, S, r, o⟩ := q
  refine ⟨B, F, as, S, r, Out.mono (Out.bind o) fun d F1 H1 as1 S1 ⟨r1, e1, o1⟩ v hv => ?_⟩
  refine ⟨B, F1, as1, S1, r1, Out.mono (Out.bind o1) fun l F2 H2 as2 S2 ⟨r2, e2, o2⟩ => ?_⟩
  refine ⟨B, F2, as2, S2, r2, Out.mono (Out.bind o2) fun u F3 H3 as3 S3 ⟨r3, e3, o3⟩ => ?_⟩
  cases d with
  | lst xs =>
    cases (hv.up e2.1).up e3.1 with
    | lst hs ha => exact ⟨_, _, rfl, Evl.ex_l r3.fh (Evl.sq_of hs), fun p hp => gvl_of o3 r3 p _ hp (cut_rp ha l u)⟩
  | scr t xs =>
    cases t with
    | true => exact o3.elim
    | false =>
      cases (hv.up e2.1).up e3.1 with
      | scr _ hs ha => exact ⟨_, _, rfl, hs.up r3.fh, fun p hp => gvl_of o3 r3 p _ hp (cut_rp ha l u)⟩
  | _ => exact o3.elim
end

def catT : Dt → Dt → Option Dt | .tup xs, .tup ys => if xs.length + ys.length ≤ 100000 then some (.tup (xs ++ ys)) else none | _, _ => none
theorem de_catT (ha : PE X a (tD X.K W f)) (hb : PE X b (tD X.K W g)) : PE X (.BinOp a .Add b pos) (tD X.K W (op2 f g catT)) := de_op op_catA (fun F H v w d e z Q ex hv hw hz q => by
  cases d <;> cases e <;> simp only [catT] at hz <;> try cases hz
  split at hz <;> cases hz
  rename_i hl
  cases hv with
  | tup hs ha =>
    cases hw with
    | tup hs2 ha2 =>
      rename_i xs ys _ vs _ ws
      refine ⟨_, _, _, _, rfl, rfl, Evl.ex_t ex hs.sq, Evl.ex_t ex hs2.sq, Nat.le_trans (by rw [ha.length, ha2.length]; exact hl) (by decide), fun hx => q.1 _ ?_, fun hx hy => q.1 _ ?_, fun hx hy p hp => q.2 p _ hp ?_⟩
      · subst hx
        cases ha
        exact .tup hs2 ha2
      · subst hy
        cases ha2
        rw [List.append_nil]
        exact .tup hs ha
      · have hf : F p = none := by
          cases w : F p with
          | none => rfl
          | some o => rw [ex _ _ w] at hp; cases hp
        exact .tup upd_same ((ha.app ha2).up (Ex.new hf))) ha hb
def catL : Dt → Dt → Option (List Dt) | .lst xs, .lst ys => if xs.length + ys.length ≤ 100000 then some (xs ++ ys) else none | _, _ => none
theorem dn_catL (ha : PE X a (tD X.K W f)) (hb : PE X b (tD X.K W g)) : PE X (.BinOp a .Add b pos) (tN X.K W (opN f g catL)) := dn_op op_cat (fun F H v w d e z Q ex hv hw hz q => by
  cases d <;> cases e <;> simp only [catL] at hz <;> try cases hz
  split at hz <;> cases hz
  rename_i hl
  cases hv with
  | lst hs ha =>
    cases hw with
    | lst hs2 ha2 => exact ⟨_, _, _, _, rfl, rfl, ex _ _ hs, ex _ _ hs2, Nat.le_trans (by rw [ha.length, ha2.length]; exact hl) (by decide), fun p hp => q p _ hp (ha.app ha2)⟩) ha hb
def repL : Dt → Dt → Option (List Dt) | .lst xs, .int k => if xs.length ≤ 100 ∧ 0 ≤ k ∧ k ≤ 1000 then some (List.replicate k.toNat xs).flatten else none | _, _ => none
theorem rp_flat {K : PySem.W.Frag} {F : Hp} {vs : List V} {ds : List Dt} (h : RpA K F vs ds) : ∀ n : Nat, RpA K F (List.replicate n vs).flatten (List.replicate n ds).flatten
  | 0 => .nil
  | n + 1 => by
    rw [List.replicate_succ, List.replicate_succ, List.flatten_cons, List.flatten_cons]
    exact h.app (rp_flat h n)
theorem dn_repL (ha : PE X a (tD X.K W f)) (hb : PE X b (tD X.K W g)) : PE X (.BinOp a .Mult b pos) (tN X.K W (opN f g repL)) := dn_op op_rep (fun F H v w d e z Q ex hv hw hz q => by
  cases d <;> cases e <;> simp only [repL] at hz <;> try cases hz
  split at hz <;> cases hz
  rename_i xs ii hl
  cases hw
  cases hv with
  | lst hs ha =>
    refine ⟨_, _, _, rfl, rfl, ex _ _ hs, by omega, by omega, ?_, fun p hp => q p _ hp (rp_flat ha _)⟩
    rw [ha.length]
    have : sizeLine = 16777216 := sizeLine_eq
    rw [this]
    have h2 : ii.toNat ≤ 1000 := by omega
    have h3 := Nat.mul_le_mul hl.1 h2
    omega) ha hb
end
end Lq

namespace Lq
open PySem PySem.Spec PyProof.Rows L2
open Evl (Ex)
open RZ

section
variable {K : PySem.W.Frag} {B F H F' H' : Hp} {as as' : List Addr} {σ : L2.St} {S : Ms}
theorem Rep.hold (r : Rep K B F H as σ S) {D : Addr} {o : HO} (h1 : H D = some o) (h2 : F D = none) (h3 : D ∉ as) (h4 : NT o) : Rep K (upd B D o) F H as σ S := by
  refine ⟨r.fh, fun a u hu => ?_, r.sl, ?_, r.nd⟩
  · by_cases q : a = D
    · subst q
      rw [upd_same] at hu
      cases hu
      exact ⟨h1, h2, h4⟩
    · rw [upd_ne q] at hu
      exact r.bh a u hu
  · have : ∀ {xs : List Addr} {ys : List Mo}, (∀ a ∈ xs, a ≠ D) → Paired (MoR K B F H as) xs ys → Paired (MoR K (upd B D o) F H as) xs ys := by
      intro xs ys hn z
      induction z with
      | nil => exact .nil
      | @cons a b l1 l2 z zs ih =>
        refine .cons ?_ (ih fun a ha => hn a (List.mem_cons_of_mem _ ha))
        cases b with
        | ob ds =>
          obtain ⟨z1, z2, ws, z3, z4⟩ := z
          exact ⟨by rw [upd_ne (hn _ List.mem_cons_self)]; exact z1, z2, ws, z3, z4⟩
        | fz d => exact z
    exact this (fun a ha z => h3 (z ▸ ha)) r.mo
theorem Rep.unhold {D : Addr} {o : HO} (r : Rep K (upd B D o) F H as σ S) (hB : B D = none) : Rep K B F H as σ S ∧ H D = some o ∧ F D = none ∧ D ∉ as := by
  obtain ⟨q1, q2, _⟩ := r.bh D o upd_same
  refine ⟨⟨r.fh, fun a u hu => ?_, r.sl, r.mo.mono fun a m z => ?_, r.nd⟩, q1, q2, fun z => ?_⟩
  · have n : a ≠ D := by
      rintro rfl
      rw [hB] at hu; cases hu
    exact r.bh a u (by rw [upd_ne n]; exact hu)
  · cases m with
    | ob ds =>
      obtain ⟨z1, z2, ws, z3, z4⟩ := z
      have n : a ≠ D := by
        rintro rfl
        rw [upd_same] at z1; cases z1
      rw [upd_ne n] at z1
      exact ⟨z1, z2, ws, z3, z4⟩
    | fz d => exact z
  · obtain ⟨i, hi⟩ := List.mem_iff_getElem?.mp z
    obtain ⟨m, hm, z⟩ := pairedGetL r.mo hi
    cases m with
    | ob ds =>
      obtain ⟨z1, _⟩ := z
      rw [upd_same] at z1; cases z1
    | fz d =>
      obtain ⟨⟨u, z1⟩, _⟩ := z
      rw [q2] at z1; cases z1
theorem Rep.back {σ0 : L2.St} {S0 : Ms} {F0 : Hp} {as0 : List Addr} (r : Rep K B F H as σ S) (h : Paired (SvR K F0 as0) σ0 S0.sl) (e : Ext F0 F as0 as) : Rep K B F H as σ0 { S0 with mo := S.mo } :=
  ⟨r.fh, r.bh, h.mono fun _ _ q => SvR.up q e, r.mo, r.nd⟩
end
def wipeL (l : List Sv) : List Nat → List Sv
  | [] => l
  | v :: vs => (wipeL l vs).set v .no
theorem wipe_rp {K : PySem.W.Frag} {F : Hp} {as : List Addr} {σ : L2.St} {l : List Sv} (h : Paired (SvR K F as) σ l) : ∀ vs, Paired (SvR K F as) (wipe σ vs) (wipeL l vs)
  | [] => h
  | v :: vs => by
    unfold wipe wipeL
    have ih := wipe_rp h vs
    exact pairedSet v ih (by trivial)
theorem wipeL_rp {K : PySem.W.Frag} {F : Hp} {as : List Addr} {σ : L2.St} {l : List Sv} (h : Paired (SvR K F as) σ l) : ∀ vs, Paired (SvR K F as) σ (wipeL l vs)
  | [] => h
  | v :: vs => by
    unfold wipeL
    have ih := wipeL_rp h vs
    exact pairedAt v ih (fun _ _ _ _ _ _ q => q) fun x _ => by cases x <;> trivial
theorem wipe_get {σ : L2.St} : ∀ (vs : List Nat) (j : Nat), (wipe σ vs)[j]? = if j ∈ vs then (σ[j]?).map fun _ => none else σ[j]?
  | [], j => by simp [wipe]
  | v :: vs, j => by
    have ih := wipe_get (σ := σ) vs j
    unfold wipe
    rw [List.getElem?_set]
    by_cases q : v = j
    · subst q
      simp only [List.mem_cons, true_or, if_true]
      rw [wipe_length]
      by_cases hl : v < σ.length
      · rw [if_pos hl, List.getElem?_eq_getElem hl]; rfl
      · rw [if_neg hl, List.getElem?_eq_none (by omega)]; rfl
    · rw [if_neg q, ih]
      have q2 : ¬ j = v := fun z => q z.symm
      simp only [List.mem_cons, q2, false_or]
theorem wipe_set {σ : L2.St} {i : Nat} {x : Option V} {vs : List Nat} (h : i ∈ vs) : wipe (σ.set i x) vs = wipe σ vs := by
  apply List.ext_getElem?
  intro j
  rw [wipe_get, wipe_get]
  by_cases q : j ∈ vs
  · rw [if_pos q, if_pos q, List.getElem?_set]
    by_cases z : i = j
    · subst z
      rw [if_pos rfl]
      by_cases hl : i < σ.length
      · rw [if_pos hl, List.getElem?_eq_getElem hl]; rfl
      · rw [if_neg hl, List.getElem?_eq_none (by omega)]
    · rw [if_neg z]
  · rw [if_neg q, if_neg q, List.getElem?_set]
    have z : ¬ i = j := fun z => q (z ▸ h)
    rw [if_neg z]
theorem wipe_wipe {σ : L2.St} {vs : List Nat} : wipe (wipe σ vs) vs = wipe σ vs := by
  apply List.ext_getElem?
  intro j
  rw [wipe_get, wipe_get]
  by_cases q : j ∈ vs
  · rw [if_pos q, if_pos q]
    cases σ[j]? <;> rfl
  · rw [if_neg q]

inductive Tk where | nm (i : Nat) | tp (is : List Nat)
def gNames : List Nat → TGs
  | [] => gNil
  | i :: is => gCons (gName i) (gNames is)
def Tk.g (K : PySem.W.Frag) : Tk → TG
  | .nm i => gName i
  | .tp is => gTup K is.length (gNames is)
def kNames : List Nat → List Dt → Ms → Option Ms
  | [], [], S => some S
  | i :: is, d :: ds, S => kNames is ds { S with sl := S.sl.set i (.im d) }
  | _, _, _ => none
def Tk.k : Tk → Dt → Ms → Option Ms
  | .nm i, d, S => some { S with sl := S.sl.set i (.im d) }
  | .tp is, .tup ds, S => kNames is ds S
  | _, _, _ => none
def Tk.is : Tk → List Nat
  | .nm i => [i]
  | .tp is => is
structure DG (X : Cx) (tg : Expr) (T : Tk) : Prop where
  pg : PG X tg (T.g X.K)
theorem kNames_len : ∀ {is : List Nat} {ds : List Dt} {S S' : Ms}, kNames is ds S = some S' → ds.length = is.length
  | [], [], _, _, _ => rfl
  | [], _ :: _, _, _, h => by cases h
  | _ :: _, [], _, _, h => by cases h
  | i :: is, d :: ds, S, S', h => by
    have := kNames_len (is := is) (ds := ds) h
    simp [this]
theorem gNames_run {K : PySem.W.Frag} {B F H : Hp} {as : List Addr} : ∀ (is : List Nat) (σ : L2.St) (S : Ms) (vs : List V) (ds : List Dt) (S' : Ms) (Q : L2.St → Hp → Prop), Rep K B F H as σ S → RpA K F vs ds → kNames is ds S = some S' → (∀ σ', Rep K B F H as σ' S' → (∀ ws, (∀ i ∈ is, i ∈ ws) → wipe σ' ws = wipe σ ws) → Q σ' H) → gNames is vs σ H Q
  | [], σ, S, vs, [], S', Q, r, hv, hk, q => by
    cases hv; cases hk
    exact ⟨rfl, q σ r fun _ _ => rfl⟩
  | [], σ, S, vs, _ :: _, S', Q, r, hv, hk, q => by cases hk
  | _ :: _, σ, S, vs, [], S', Q, r, hv, hk, q => by cases hk
  | i :: is, σ, S, vs, d :: ds, S', Q, r, hv, hk, q => by
    cases hv with
    | cons hv hvs =>
      refine ⟨_, _, rfl, ?_⟩
      refine gNames_run is _ _ _ ds S' Q (r.slot (s := .im d) i hv) hvs hk fun σ' r' w => q σ' r' fun ws hi => ?_
      rw [w ws fun j hj => hi j (List.mem_cons_of_mem _ hj)]
      exact wipe_set (hi i List.mem_cons_self)
theorem Tk.run {K : PySem.W.Frag} (T : Tk) {B F H : Hp} {as : List Addr} {σ : L2.St} {S : Ms} {v : V} {d : Dt} {S' : Ms} {Q : L2.St → Hp → Prop} (r : Rep K B F H as σ S) (hv : Rp K F v d) (hk : T.k d S = some S') (q : ∀ σ', Rep K B F H as σ' S' → (∀ vs, (∀ i ∈ T.is, i ∈ vs) → wipe σ' vs = wipe σ vs) → Q σ' H) : T.g K v σ H Q := by
  cases T with
  | nm i =>
    cases hk
    exact q _ (r.slot (s := .im d) i hv) fun vs hi => wipe_set (hi i List.mem_cons_self)
  | tp is =>
    cases d with
    | tup ds =>
      cases hv with
      | tup hs ha => exact ⟨_, _, rfl, Evl.ex_t r.fh hs.sq, by rw [ha.length]; exact kNames_len hk, gNames_run is σ S _ ds S' Q r ha hk q⟩
    | _ => cases hk
theorem dg_name {X : Cx} {i : Nat} {x : Str} {pos : Pos} (h : PG X (.Name x pos) (gName i)) : DG X (.Name x pos) (.nm i) := ⟨h⟩
theorem dgs_nil {X : Cx} : PGs X [] (gNames []) := pgs_nil
theorem dgs_cons {X : Cx} {e : Expr} {ts : List Expr} {i : Nat} {is : List Nat} (h1 : PG X e (gName i)) (h2 : PGs X ts (gNames is)) (hs : (assignEach (e :: ts) X.env).map (·.2) = assign e X.env :: (assignEach ts X.env).map (·.2) := by rfl) : PGs X (e :: ts) (gNames (i :: is)) := pgs_cons h1 h2 hs
theorem dg_tup {X : Cx} {es : List Expr} {k : Nat} {pos : Pos} {is : List Nat} (hc : X.calm = true) (h : PGs X es (gNames is)) (hn : (assignEach es X.env).length = is.length := by rfl) (hst : (assignEach es X.env).findIdx? (·.1) = none := by rfl) : DG X (.Tuple es k pos) (.tp is) := ⟨pg_tup hc h hn hst⟩

structure Walks (K : PySem.W.Frag) (F : Hp) (J : It) (ds : List Dt) : Prop where
  go : ∀ i H, i < ds.length → Ex F H → J.go i H
  stop : ∀ H, Ex F H → J.stop ds.length H
  yld : ∀ i H x H' F1, i < ds.length → Ex F F1 → Ex F1 H → J.yld i H x H' → ∃ d, ds[i]? = some d ∧ ((H' = H ∧ Rp K F1 x d) ∨ ∃ T o, H T = none ∧ H' = upd H T o ∧ Rp K (upd F1 T o) x d)
def tI (K : PySem.W.Frag) (W : WX) (it : Ms → R (List Dt)) : TI := fun σ H R => ∃ B F as S, Rep K B F H as σ S ∧ Out K W B F as σ (it S) fun ds F' H' _ _ => ∀ J, Walks K F' J ds → R J H'
theorem monoI {X : Cx} {tg l : Expr} {wi wi1 wi2 : TI} (h1 : PI X tg l wi1) (h2 : PI X tg l wi2) (h : ∀ σ H R, wi σ H R → wi1 σ H R ∨ wi2 σ H R) : PI X tg l wi :=
  ⟨fun pins s σ H R I q => (h σ H R q).elim (h1.run pins s σ H R I) (h2.run pins s σ H R I)⟩
theorem monoI1 {X : Cx} {tg l : Expr} {wi wi1 : TI} (h1 : PI X tg l wi1) (h : ∀ σ H R, wi σ H R → wi1 σ H R) : PI X tg l wi := ⟨fun pins s σ H R I q => h1.run pins s σ H R I (h σ H R q)⟩
def itS (f : Ms → R Dt) : Ms → R (List Dt) := fun S => (f S).bind fun d S1 => R.of (seqOf d) S1
theorem walksL0 {K : PySem.W.Frag} {F : Hp} {a : Addr} {xs : List V} {ds : List Dt} (hs : SqL K F a xs) (ha : RpA K F xs ds) : Walks K F (Itl K a) ds := by
  refine ⟨fun i H hi e => ?_, fun H e => ⟨xs, Evl.ex_l e hs, by rw [ha.length]; exact Nat.le_refl _⟩, fun i H x H' F1 hi e e2 y => ?_⟩
  · have hi' : i < xs.length := by rw [ha.length]; exact hi
    exact ⟨xs, xs[i], Evl.ex_l e hs, by simp [hi']⟩
  · obtain ⟨y1, y2⟩ := y
    have q := y2 xs (Evl.ex_l (e.trans e2) hs)
    obtain ⟨d, h1, h2⟩ := ha.getv q
    exact ⟨d, h1, .inl ⟨y1, h2.up e⟩⟩
theorem walksT0 {K : PySem.W.Frag} {F : Hp} {a : Addr} {xs : List V} {ds : List Dt} (hs : SqT K F a xs) (ha : RpA K F xs ds) : Walks K F (Itt K a) ds := by
  refine ⟨fun i H hi e => ?_, fun H e => ⟨xs, Evl.ex_t e hs, by rw [ha.length]; exact Nat.le_refl _⟩, fun i H x H' F1 hi e e2 y => ?_⟩
  · have hi' : i < xs.length := by rw [ha.length]; exact hi
    exact ⟨xs, xs[i], Evl.ex_t e hs, by simp [hi']⟩
  · obtain ⟨y1, y2⟩ := y
    have q := y2 xs (Evl.ex_t (e.trans e2) hs)
    obtain ⟨d, h1, h2⟩ := ha.getv q
    exact ⟨d, h1, .inl ⟨y1, h2.up e⟩⟩
theorem walksL {K : PySem.W.Frag} {F : Hp} {a : Addr} {xs : List V} {ds : List Dt} (hs : F a = some (.lst xs)) (ha : RpA K F xs ds) : Walks K F (Itl K a) ds := walksL0 (Evl.sq_of hs) ha
theorem walksT {K : PySem.W.Frag} {F : Hp} {a : Addr} {xs : List V} {ds : List Dt} (hs : TupAt K F a xs) (ha : RpA K F xs ds) : Walks K F (Itt K a) ds := walksT0 hs.sq ha
section
variable {X : Cx} {W : WX} {tg l e e2 : Expr} {f : Ms → R Dt} {fs : Ms → R (List Dt)} {p pos tpos : Pos}
theorem di_seq (h : PE X l (tD X.K W f)) : PI X tg l (tI X.K W (itS f)) := monoI (pi_list h) (pi_tup h) fun σ H R q => by
  obtain ⟨B, F, as, S, r, o⟩ := q
  unfold itS at o
  cases hf : f S with
  | ok d S1 =>
    rw [hf] at o
    cases d with
    | lst ds =>
      refine .inl ⟨B, F, as, S, r, ?_⟩
      rw [hf]
      intro F1 H1 as1 e1 r1 v hv
      cases hv with
      | lst hs ha => exact ⟨_, rfl, ⟨_, Evl.ex_l r1.fh (Evl.sq_of hs)⟩, o F1 H1 as1 e1 r1 _ (walksL hs ha)⟩
    | tup ds =>
      refine .inr ⟨B, F, as, S, r, ?_⟩
      rw [hf]
      intro F1 H1 as1 e1 r1 v hv
      cases hv with
      | tup hs ha => exact ⟨_, rfl, ⟨_, Evl.ex_t r1.fh hs.sq⟩, o F1 H1 as1 e1 r1 _ (walksT hs ha)⟩
    | scr t ds =>
      cases t with
      | true =>
        refine .inr ⟨B, F, as, S, r, ?_⟩
        rw [hf]
        intro F1 H1 as1 e1 r1 v hv
        cases hv with
        | scr _ hs ha => exact ⟨_, rfl, ⟨_, hs.up r1.fh⟩, o F1 H1 as1 e1 r1 _ (walksT0 hs ha)⟩
      | false =>
        refine .inl ⟨B, F, as, S, r, ?_⟩
        rw [hf]
        intro F1 H1 as1 e1 r1 v hv
        cases hv with
        | scr _ hs ha => exact ⟨_, rfl, ⟨_, hs.up r1.fh⟩, o F1 H1 as1 e1 r1 _ (walksL0 hs ha)⟩
    | _ => exact o.elim
  | er x S1 =>
    rw [hf] at o
    exact .inl ⟨B, F, as, S, r, by rw [hf]; exact o⟩
  | no => rw [hf] at o; exact o.elim
def itR1 (fs : Ms → R (List Dt)) : Ms → R (List Dt) := fun S => (fs S).bind fun ds S1 => match ds with
  | [.int j] => if -(2 ^ 62) ≤ j ∧ j < 2 ^ 62 then .ok ((List.range j.toNat).map fun (i : Nat) => Dt.int (i : Int)) S1 else .no
  | _ => .no
def itR2 (fs : Ms → R (List Dt)) : Ms → R (List Dt) := fun S => (fs S).bind fun ds S1 => match ds with
  | [.int i, .int j] => if -(2 ^ 62) ≤ i ∧ i < 2 ^ 62 ∧ -(2 ^ 62) ≤ j ∧ j < 2 ^ 62 then .ok ((List.range (j - i).toNat).map fun (k : Nat) => Dt.int (i + (k : Int))) S1 else .no
  | _ => .no
theorem walksR {K : PySem.W.Frag} {F : Hp} {lo : Int} {n : Nat} {ds : List Dt} (h : ds = (List.range n).map fun (k : Nat) => Dt.int (lo + (k : Int))) : Walks K F (Itr lo n) ds := by
  subst h
  have hl : ((List.range n).map fun (k : Nat) => Dt.int (lo + (k : Int))).length = n := by simp
  refine ⟨fun i H hi e => by rw [hl] at hi; exact hi, fun H e => by rw [hl]; exact Nat.le_refl _, fun i H x H' F1 hi e e2 y => ?_⟩
  rw [hl] at hi
  obtain ⟨rfl, rfl⟩ := y
  refine ⟨.int (lo + i), ?_, .inl ⟨rfl, .int _⟩⟩
  rw [List.getElem?_map, List.getElem?_range hi]
  rfl
theorem di_range1 {a : Expr} (hg : Gl X "range") (hm : X.mg "range" = none) (ha : PA X [a] (tA X.K W fs)) (hs : starEach [a] X.env = [(false, eval a X.env)] := by rfl) : PI X tg (.Call (.Name "range" p) [a] [] pos) (tI X.K W (itR1 fs)) := monoI1 (pi_range1 hg hm ha hs) fun σ H R q => by
  obtain ⟨B, F, as, S, r, o⟩ := q
  refine ⟨B, F, as, S, r, Out.mono (Out.bind o) fun ds F1 H1 as1 S1 ⟨r1, e1, o1⟩ vs hv => ?_⟩
  split at o1
  · rename_i j _
    split at o1
    · rename_i hj
      obtain ⟨v, rfl, h1⟩ := rpa1 hv
      cases h1
      refine ⟨_, rfl, hj.1, hj.2, Out.now o1 r1 _ (walksR ?_)⟩
      apply List.map_congr_left
      intro k _
      rw [Int.zero_add]
    · exact o1.elim
  · exact o1.elim
theorem di_range2 {a b : Expr} (hg : Gl X "range") (hm : X.mg "range" = none) (ha : PA X [a, b] (tA X.K W fs)) (hs : starEach [a, b] X.env = [(false, eval a X.env), (false, eval b X.env)] := by rfl) (hs2 : starEach [b] X.env = [(false, eval b X.env)] := by rfl) : PI X tg (.Call (.Name "range" p) [a, b] [] pos) (tI X.K W (itR2 fs)) := monoI1 (pi_range2 hg hm ha hs hs2) fun σ H R q => by
  obtain ⟨B, F, as, S, r, o⟩ := q
  refine ⟨B, F, as, S, r, Out.mono (Out.bind o) fun ds F1 H1 as1 S1 ⟨r1, e1, o1⟩ vs hv => ?_⟩
  split at o1
  · split at o1
    · rename_i hj
      obtain ⟨v, w, rfl, h1, h2⟩ := rpa2 hv
      cases h1; cases h2
      exact ⟨_, _, rfl, hj, Out.now o1 r1 _ (walksR rfl)⟩
    · exact o1.elim
  · exact o1.elim
def zipD (xs ys : List Dt) : List Dt := List.zipWith (fun d e => Dt.tup [d, e]) xs ys
def itZ (fs : Ms → R (List Dt)) : Ms → R (List Dt) := fun S => (fs S).bind fun ds S1 => match ds with
  | [.lst xs, .lst ys] => .ok (zipD xs ys) S1
  | [.tup xs, .tup ys] => .ok (zipD xs ys) S1
  | _ => .no
theorem zipD_len (xs ys : List Dt) : (zipD xs ys).length = min xs.length ys.length := by simp [zipD]
theorem zipD_get {xs ys : List Dt} {i : Nat} {d e : Dt} (h1 : xs[i]? = some d) (h2 : ys[i]? = some e) : (zipD xs ys)[i]? = some (.tup [d, e]) := by
  unfold zipD
  rw [List.getElem?_zipWith, h1, h2]
theorem walksZ {K : PySem.W.Frag} {F : Hp} {a b : Addr} {xs ys : List V} {ds es : List Dt} (hs : F a = some (.lst xs)) (ha : RpA K F xs ds) (hs2 : F b = some (.lst ys)) (ha2 : RpA K F ys es) : Walks K F (Itz K a b) (zipD ds es) := by
  have w := walk_zip (K := K) (a := a) (b := b) (xs := xs) (ys := ys) rfl
  have hl : (zipD ds es).length = min xs.length ys.length := by rw [zipD_len, ha.length, ha2.length]
  have hh : ∀ {H}, Ex F H → SqL K H a xs ∧ SqL K H b ys := fun e => ⟨Evl.ex_l e (Evl.sq_of hs), Evl.ex_l e (Evl.sq_of hs2)⟩
  refine ⟨fun i H hi e => w.goes i H (by rw [← hl]; exact hi) (hh e), fun H e => by rw [hl]; exact w.stops H (hh e), fun i H x H' F1 hi e e2 y => ?_⟩
  obtain ⟨T, u, v, rfl, h1, rfl, h2, h3⟩ := w.yields i H x H' (by rw [← hl]; exact hi) (hh (e.trans e2)) y
  obtain ⟨d, d1, d2⟩ := ha.getv h2
  obtain ⟨c, c1, c2⟩ := ha2.getv h3
  refine ⟨.tup [d, c], zipD_get d1 c1, .inr ⟨T, .tup [u, v], h1, rfl, ?_⟩⟩
  have ht : F1 T = none := by
    cases w : F1 T with
    | none => rfl
    | some o => rw [e2 _ _ w] at h1; cases h1
  exact .tup upd_same (.cons ((d2.up e).up (Ex.new ht)) (.cons ((c2.up e).up (Ex.new ht)) .nil))
theorem walksZT {K : PySem.W.Frag} {F : Hp} {a b : Addr} {xs ys : List V} {ds es : List Dt} (hs : TupAt K F a xs) (ha : RpA K F xs ds) (hs2 : TupAt K F b ys) (ha2 : RpA K F ys es) : Walks K F (ItzT K a b) (zipD ds es) := by
  have hl : (zipD ds es).length = min xs.length ys.length := by rw [zipD_len, ha.length, ha2.length]
  have hh : ∀ {H}, Ex F H → SqT K H a xs ∧ SqT K H b ys := fun e => ⟨Evl.ex_t e hs.sq, Evl.ex_t e hs2.sq⟩
  refine ⟨fun i H hi e => ?_, fun H e => ?_, fun i H x H' F1 hi e e2 y => ?_⟩
  · rw [hl] at hi
    have h1 : i < xs.length := by omega
    have h2 : i < ys.length := by omega
    obtain ⟨q1, q2⟩ := hh e
    exact ⟨xs, ys, xs[i], ys[i], q1, q2, by simp [h1], by simp [h2]⟩
  · obtain ⟨q1, q2⟩ := hh e
    exact ⟨xs, ys, q1, q2, by rw [hl]; omega⟩
  obtain ⟨q1, q2⟩ := hh (e.trans e2)
  obtain ⟨T, u, v, rfl, h1, rfl, h2, h3⟩ := y
  obtain ⟨d, d1, d2⟩ := ha.getv (h2 _ q1)
  obtain ⟨c, c1, c2⟩ := ha2.getv (h3 _ q2)
  refine ⟨.tup [d, c], zipD_get d1 c1, .inr ⟨T, .tup [u, v], h1, rfl, ?_⟩⟩
  have ht : F1 T = none := by
    cases w : F1 T with
    | none => rfl
    | some o => rw [e2 _ _ w] at h1; cases h1
  exact .tup upd_same (.cons ((d2.up e).up (Ex.new ht)) (.cons ((c2.up e).up (Ex.new ht)) .nil))
theorem di_zip {elts : List Expr} {kk : Nat} (hg : Gl X "zip") (hm : X.mg "zip" = none) (ha : PA X [e, e2] (tA X.K W fs)) (hs : starEach [e, e2] X.env = (false, eval e X.env) :: starEach [e2] X.env := by rfl) (hpl : (backTo pos (starEach [e2] X.env)).any (·.1) = false := by rfl) :
    PI X (.Tuple elts kk tpos) (.Call (.Name "zip" p) [e, e2] [] pos) (tI X.K W (itZ fs)) := monoI1 (pi_zipA hg hm ha hs hpl) fun σ H R q => by
  obtain ⟨B, F, as, S, r, o⟩ := q
  refine ⟨B, F, as, S, r, Out.mono (Out.bind o) fun ds F1 H1 as1 S1 ⟨r1, e1, o1⟩ vs hv => ?_⟩
  split at o1
  · obtain ⟨v, w, rfl, h1, h2⟩ := rpa2 hv
    cases h1 with
    | lst hs ha =>
      cases h2 with
      | lst hs2 ha2 => exact ⟨_, _, _, _, rfl, .inl ⟨Evl.ex_l r1.fh (Evl.sq_of hs), Evl.ex_l r1.fh (Evl.sq_of hs2), Out.now o1 r1 _ (walksZ hs ha hs2 ha2)⟩⟩
  · obtain ⟨v, w, rfl, h1, h2⟩ := rpa2 hv
    cases h1 with
    | tup hs ha =>
      cases h2 with
      | tup hs2 ha2 => exact ⟨_, _, _, _, rfl, .inr ⟨Evl.ex_t r1.fh hs.sq, Evl.ex_t r1.fh hs2.sq, Out.now o1 r1 _ (walksZT hs ha hs2 ha2)⟩⟩
  · exact o1.elim
end

def W0 : WX := fun _ _ _ _ => False
def lcF (sl : List Sv) (k : Dt → Ms → Option Ms) (t : Ms → R Bool) (e : Ms → R Dt) : List Dt → List Mo → List Dt → R (List Dt)
  | [], mo, acc => .ok acc { sl := sl, mo := mo }
  | d :: ds, mo, acc => match k d { sl := sl, mo := mo } with
    | none => .no
    | some S1 => match t S1 with
      | .ok false S2 => lcF sl k t e ds S2.mo acc
      | .ok true S2 => (match e S2 with
        | .ok y S3 => if acc.length < 100000 then lcF sl k t e ds S3.mo (acc ++ [y]) else .no
        | _ => .no)
      | _ => .no
def lcE (it : Ms → R (List Dt)) (k : Dt → Ms → Option Ms) (t : Ms → R Bool) (e : Ms → R Dt) (own : List Nat) : Ms → R (List Dt) := fun S => (it S).bind fun ds S1 => (lcF (wipeL S1.sl own) k t e ds S1.mo []).bind fun ys S2 => .ok ys { sl := S1.sl, mo := S2.mo }
def yesT : Ms → R Bool := fun S => .ok true S
theorem lc_core0 {X : Cx} {W : WX} {T : Tk} {t : Ms → R Bool} {e : Ms → R Dt} {own : List Nat} (hi : ∀ i ∈ T.is, i ∈ own) {σ : L2.St} {H1 : Hp} {Q : VK} {B F1 : Hp} {as1 : List Addr} {S1 : Ms} {ds : List Dt} {J : It} {D : Addr} (r1 : Rep X.K B F1 H1 as1 σ S1)
    (o1 : Out X.K W B F1 as1 σ ((lcF (wipeL S1.sl own) T.k t e ds S1.mo []).bind fun ys S2 => .ok ys { sl := S1.sl, mo := S2.mo }) fun ds F' H' as' _ => ∀ p vs, F' p = none → B p = none → p ∉ as' → H' p = some (.lst vs) → RpA X.K F' vs ds → Q (.ref p) H') (w : Walks X.K F1 J ds) (hD : H1 D = none) :
    ∃ W : Nat → Nat → Hp → Prop, (∃ m, W 0 m (upd H1 D (.lst []))) ∧ ∀ i m H, W i m H →
      (J.stop i H ∧ Q (.ref D) H) ∨ (J.go i H ∧ ∃ Nx : Hp → Prop, (∀ H', Nx H' → ∃ m', m' < m ∧ W (i + 1) m' H') ∧ ∀ x H', J.yld i H x H' → T.g X.K x (wipe σ own) H' fun σ2 H2 => wipe σ2 own = wipe σ own ∧ tT X.K W0 t σ2 H2 fun b H3 =>
        if b = true then tD X.K W0 e σ2 H3 fun y H4 => ∃ acc, H4 D = some (.lst acc) ∧ acc.length < sizeLine ∧ Nx (upd H4 D (.lst (acc ++ [y]))) else Nx H3) := by
  obtain ⟨f1, f2, f3⟩ := r1.fresh hD
  have o2 := Out.bind o1
  refine ⟨fun i m H => m = ds.length - i ∧ i ≤ ds.length ∧ ∃ F2 as2 mo acc accV, Ext F1 F2 as1 as2 ∧ Rep X.K B F2 H as2 σ { S1 with mo := mo } ∧ F2 D = none ∧ D ∉ as2 ∧ H D = some (.lst accV) ∧ RpA X.K F2 accV acc ∧
    Out X.K W B F2 as2 σ (lcF (wipeL S1.sl own) T.k t e (ds.drop i) mo acc) fun ys F' H' as' S' => ∀ vs, (Rep X.K B F' H' as' σ { S1 with mo := S'.mo }) → F' D = none → D ∉ as' → H' D = some (.lst vs) → RpA X.K F' vs ys → Q (.ref D) H', ⟨ds.length, by simp, Nat.zero_le _, F1, as1, S1.mo, [], [], Ext.refl, ?_, f1, f3, upd_same, .nil, ?_⟩, ?_⟩
  · refine ⟨fun a u hu => ?_, fun a u hu => ?_, r1.sl, r1.mo.mono fun a m z => ?_, r1.nd⟩
    · rw [upd_ne (ne_of_none (r1.fh _ _ hu) hD)]
      exact r1.fh _ _ hu
    · obtain ⟨z1, z2, z3⟩ := r1.bh a u hu
      exact ⟨by rw [upd_ne (ne_of_none z1 hD)]; exact z1, z2, z3⟩
    · cases m with
      | ob ds =>
        obtain ⟨z1, z2, ws, z3, z4⟩ := z
        exact ⟨z1, z2, ws, by rw [upd_ne (ne_of_none z3 hD)]; exact z3, z4⟩
      | fz d => exact z
  · refine Out.mono o2 fun ys F' H' as' S' ⟨r', e', o3⟩ vs r'' hF hA hH hv => ?_
    exact o3 F' H' as' Ext.refl r'' D vs hF f2 hA hH hv
  · rintro i m H ⟨rfl, hle, F2, as2, mo, acc, accV, e2, r2, hF, hA, hH, hacc, o3⟩
    by_cases hlt : i < ds.length
    · refine .inr ⟨w.go i H hlt (e2.1.trans r2.fh), ?_⟩
      obtain ⟨d, hd⟩ : ∃ d, ds[i]? = some d := ⟨ds[i], by simp [hlt]⟩
      have hdrop : ds.drop i = d :: ds.drop (i + 1) := by
        rw [List.drop_eq_getElem_cons hlt]
        congr 1
        rw [List.getElem?_eq_getElem hlt] at hd
        exact Option.some.inj hd
      rw [hdrop] at o3
      refine ⟨fun H' => ∃ F2 as2 mo acc accV, Ext F1 F2 as1 as2 ∧ Rep X.K B F2 H' as2 σ { S1 with mo := mo } ∧ F2 D = none ∧ D ∉ as2 ∧ H' D = some (.lst accV) ∧ RpA X.K F2 accV acc ∧
        Out X.K W B F2 as2 σ (lcF (wipeL S1.sl own) T.k t e (ds.drop (i + 1)) mo acc) fun ys F' H' as' S' => ∀ vs, (Rep X.K B F' H' as' σ { S1 with mo := S'.mo }) → F' D = none → D ∉ as' → H' D = some (.lst vs) → RpA X.K F' vs ys → Q (.ref D) H', fun H' h => ⟨ds.length - (i + 1), by omega, rfl, hlt, h⟩, fun x H' hy => ?_⟩
      obtain ⟨d', hd', hx⟩ := w.yld i H x H' F2 hlt e2.1 r2.fh hy
      rw [hd] at hd'
      cases hd'
      have rh : Rep X.K (upd B D (.lst accV)) F2 H as2 σ { S1 with mo := mo } := r2.hold hH hF hA trivial
      -- the state at the turn
      obtain ⟨F3, e3, r3, hv3⟩ : ∃ F3, Ext F2 F3 as2 as2 ∧ Rep X.K (upd B D (.lst accV)) F3 H' as2 σ { S1 with mo := mo } ∧ Rp X.K F3 x d := by
        rcases hx with ⟨rfl, hx⟩ | ⟨T, ob, hT, rfl, hx⟩
        · exact ⟨F2, Ext.refl, rh, hx⟩
        · obtain ⟨ee, rr⟩ := rh.new hT ob
          exact ⟨_, ee, rr, hx⟩
      have r4 : Rep X.K (upd B D (.lst accV)) F3 H' as2 (wipe σ own) { sl := wipeL S1.sl own, mo := mo } := ⟨r3.fh, r3.bh, wipe_rp r3.sl own, r3.mo, r3.nd⟩
      unfold lcF at o3
      cases hk : T.k d { sl := wipeL S1.sl own, mo := mo } with
      | none => rw [hk] at o3; exact o3.elim
      | some S4 =>
        rw [hk] at o3
        dsimp only at o3
        refine T.run r4 hv3 hk fun σ4 r5 hw => ⟨by rw [hw own hi, wipe_wipe], ?_⟩
        refine ⟨_, F3, as2, S4, r5, ?_⟩
        cases ht : t S4 with
        | no => rw [ht] at o3; exact o3.elim
        | er x S5 => rw [ht] at o3; exact o3.elim
        | ok b S5 =>
          rw [ht] at o3
          intro F5 H5 as5 e5 r6
          cases b with
          | false =>
            show ∃ F2 as2 mo acc accV, _
            dsimp only at o3
            obtain ⟨r7, h7, h8, h9⟩ := (Rep.back r6 r3.sl e5).unhold f2
            have e25 := e3.trans e5
            exact ⟨F5, as5, S5.mo, acc, accV, e2.trans e25, r7, h8, h9, h7, hacc.up e25.1, by
              revert o3
              cases lcF (wipeL S1.sl own) T.k t e (ds.drop (i + 1)) S5.mo acc with
              | ok ys S' => exact fun o3 F' H' as' ee rr => o3 F' H' as' (e25.trans ee) rr
              | er y S' => exact fun o3 F' H' as' dx fs ee rr => o3 F' H' as' dx fs (e25.trans ee) rr
              | no => exact fun o3 => o3⟩
          | true =>
            show tD X.K W0 e σ4 H5 _
            dsimp only at o3
            refine ⟨_, F5, as5, S5, r6, ?_⟩
            cases he : e S5 with
            | no => rw [he] at o3; exact o3.elim
            | er x S6 => rw [he] at o3; exact o3.elim
            | ok y S6 =>
              rw [he] at o3
              dsimp only at o3
              split at o3
              · rename_i hlen
                intro F6 H6 as6 e6 r7 v hv
                obtain ⟨r8, h7, h8, h9⟩ := (Rep.back r7 r3.sl (e5.trans e6)).unhold f2
                have e26 := (e3.trans e5).trans e6
                refine ⟨accV, h7, Evl.sz_lt (by rw [hacc.length]; exact hlen), F6, as6, S6.mo, acc ++ [y], accV ++ [v], e2.trans e26, ?_, h8, h9, upd_same, (hacc.up e26.1).snoc hv, ?_⟩
                · refine ⟨fun a u hu => ?_, fun a u hu => ?_, r8.sl, ?_, r8.nd⟩
                  · have n : a ≠ D := by
                      rintro rfl
                      rw [h8] at hu; cases hu
                    rw [upd_ne n]
                    exact r8.fh _ _ hu
                  · have n : a ≠ D := by
                      rintro rfl
                      rw [f2] at hu; cases hu
                    rw [upd_ne n]
                    exact r8.bh a u hu
                  · have : ∀ {xs : List Addr} {ys : List Mo}, (∀ a ∈ xs, a ≠ D) → Paired (MoR X.K B F6 H6 as6) xs ys → Paired (MoR X.K B F6 (upd H6 D (.lst (accV ++ [v]))) as6) xs ys := by
                      intro xs ys hn z
                      induction z with
                      | nil => exact .nil
                      | @cons a b l1 l2 z zs ih =>
                        refine .cons ?_ (ih fun a ha => hn a (List.mem_cons_of_mem _ ha))
                        cases b with
                        | ob ds =>
                          obtain ⟨z1, z2, ws, z3, z4⟩ := z
                          exact ⟨z1, z2, ws, by rw [upd_ne (hn _ List.mem_cons_self)]; exact z3, z4⟩
                        | fz d => exact z
                    exact this (fun a ha z => h9 (z ▸ ha)) r8.mo
                · revert o3
                  cases lcF (wipeL S1.sl own) T.k t e (ds.drop (i + 1)) S6.mo (acc ++ [y]) with
                  | ok ys S' => exact fun o3 F' H' as' ee rr => o3 F' H' as' (e26.trans ee) rr
                  | er y S' => exact fun o3 F' H' as' dx fs ee rr => o3 F' H' as' dx fs (e26.trans ee) rr
                  | no => exact fun o3 => o3
              · exact o3.elim
    · have e : i = ds.length := by omega
      subst e
      rw [List.drop_length] at o3
      unfold lcF at o3
      refine .inl ⟨w.stop H (e2.1.trans r2.fh), ?_⟩
      exact o3 F2 H as2 Ext.refl ⟨r2.fh, r2.bh, wipeL_rp r2.sl own, r2.mo, r2.nd⟩ accV r2 hF hA hH hacc
theorem lc_run {X : Cx} {W : WX} {it : Ms → R (List Dt)} {T : Tk} {t : Ms → R Bool} {e : Ms → R Dt} {own : List Nat} (hi : ∀ i ∈ T.is, i ∈ own) {σ : L2.St} {H : Hp} {Q : VK}
    (q : tN X.K W (lcE it T.k t e own) σ H Q) : tLc (tI X.K W it) (T.g X.K) (tT X.K W0 t) (tD X.K W0 e) own σ H Q := by
  obtain ⟨B, F, as, S, r, o⟩ := q
  exact ⟨B, F, as, S, r, Out.mono (Out.bind o) fun ds F1 H1 as1 S1 ⟨r1, e1, o1⟩ J w D hD => lc_core0 hi r1 o1 w hD⟩
end Lq

namespace Lq
open PySem PySem.Spec PyProof.Rows L2
open Evl (Ex)
def asgS (i : Nat) (f : Ms → R Dt) : Ms → O := fun S => (f S).stmt fun d S1 => .nx { S1 with sl := S1.sl.set i (.im d) }
def asgN (i : Nat) (f : Ms → R (List Dt)) : Ms → O := fun S => (f S).stmt fun ds S1 => .nx { sl := S1.sl.set i (.mu S1.mo.length), mo := S1.mo ++ [.ob (.ls ds)] }
def moveS (i j : Nat) : Ms → O := fun S => match S.sl[j]? with | some (.im d) => .nx { S with sl := S.sl.set i (.im d) } | some (.mu k) => .nx { S with sl := S.sl.set i (.mu k) } | _ => .no
def asgT (T : Tk) (f : Ms → R Dt) : Ms → O := fun S => (f S).stmt fun d S1 => match T.k d S1 with | some S2 => .nx S2 | none => .no
section
variable {K : PySem.W.Frag} {W : WX} {f : Ms → R Dt} {fn : Ms → R (List Dt)} {i j : Nat} {D : Ends} {σ : L2.St} {H : Hp}
theorem asgS_run (q : sD K W (asgS i f) D σ H) : tD K W f σ H fun x H1 => D.nx (σ.set i (some x)) H1 := by
  obtain ⟨B, F, as, S, r, o⟩ := q
  exact ⟨B, F, as, S, r, Out.mono (OutS.stmt o) fun d F1 H1 as1 S1 ⟨r1, e1, o1⟩ v hv => o1 _ F1 H1 as1 Ext.refl (r1.slot (s := .im d) i hv)⟩
theorem asgN_run (q : sD K W (asgN i fn) D σ H) : tN K W fn σ H fun x H1 => D.nx (σ.set i (some x)) H1 := by
  obtain ⟨B, F, as, S, r, o⟩ := q
  refine ⟨B, F, as, S, r, Out.mono (OutS.stmt o) fun ds F1 H1 as1 S1 ⟨r1, e1, o1⟩ p vs f1 f2 f3 hp hv => ?_⟩
  obtain ⟨ee, rr⟩ := r1.newL f1 f2 f3 hp (.ls hv)
  refine o1 _ F1 H1 _ ee (rr.slot (s := .mu S1.mo.length) i ⟨p, ?_, rfl⟩)
  have hl : as1.length = S1.mo.length := r1.mo.length
  rw [← hl, List.getElem?_append_right (Nat.le_refl _), Nat.sub_self]
  rfl
theorem moveS_run (q : sD K W (moveS i j) D σ H) : tVar j σ H fun x H1 => D.nx (σ.set i (some x)) H1 := by
  obtain ⟨B, F, as, S, r, o⟩ := q
  unfold moveS at o
  cases hs : S.sl[j]? with
  | none => rw [hs] at o; exact o.elim
  | some s =>
    rw [hs] at o
    obtain ⟨ov, hv, z⟩ := pairedGet r.sl hs
    cases s with
    | no => exact o.elim
    | im d =>
      cases ov with
      | none => exact z.elim
      | some v => exact ⟨v, hv, o _ F H as Ext.refl (r.slot (s := .im d) i z)⟩
    | mu k =>
      cases ov with
      | none => exact z.elim
      | some v => exact ⟨v, hv, o _ F H as Ext.refl (r.slot (s := .mu k) i z)⟩
end
section
variable {X : Cx} {W : WX} {a b c e : Expr} {es : List Expr} {pos pos' : Pos} {f g : Ms → R Dt} {fn : Ms → R (List Dt)} {fs : Ms → R (List Dt)} {i j : Nat} {x y : Str} {m n : Ms → O} {st : Stmt} {rest : List Stmt}
theorem ds_set (hN : X.N.Nodup) (hi : X.N[i]? = some x) (hx : Loc X.env.scope x) (he : PE X e (tD X.K W f)) (hs : swapsWith e (some (.Name x pos')) pos.line X.env = pure false := by rfl) (hf : X.fn x = true ∨ X.env.scope.names.lookup x = some .local := by first | exact .inl rfl | exact .inr rfl | assumption) :
    PS X (.Assign [.Name x pos'] e pos) (sD X.K W (asgS i f)) := monoS (ps_set hN hi hx he hs hf) fun D σ H q => asgS_run q
theorem ds_setN (hN : X.N.Nodup) (hi : X.N[i]? = some x) (hx : Loc X.env.scope x) (he : PE X e (tN X.K W fn)) (hs : swapsWith e (some (.Name x pos')) pos.line X.env = pure false := by rfl) (hf : X.fn x = true ∨ X.env.scope.names.lookup x = some .local := by first | exact .inl rfl | exact .inr rfl | assumption) :
    PS X (.Assign [.Name x pos'] e pos) (sD X.K W (asgN i fn)) := monoS (ps_set hN hi hx he hs hf) fun D σ H q => asgN_run q
theorem ds_mov (hN : X.N.Nodup) (hi : X.N[i]? = some x) (hx : Loc X.env.scope x) (he : PE X e (tVar j)) (hs : swapsWith e (some (.Name x pos')) pos.line X.env = pure false := by rfl) (hf : X.fn x = true ∨ X.env.scope.names.lookup x = some .local := by first | exact .inl rfl | exact .inr rfl | assumption) :
    PS X (.Assign [.Name x pos'] e pos) (sD X.K W (moveS i j)) := monoS (ps_set hN hi hx he hs hf) fun D σ H q => moveS_run q
theorem ds_tgt {tg : Expr} {T : Tk} (he : PE X e (tD X.K W f)) (hg : DG X tg T) (hs : swapsWithSole [tg] e pos.line X.env = pure false := by rfl) (hw : swappedStores [tg] e X.env = pure none := by rfl)
    (h1 : (assignEach [tg] X.env).map (·.2) = [assign tg X.env] := by rfl) : PS X (.Assign [tg] e pos) (sD X.K W (asgT T f)) := monoS (ps_asg he hg.pg hs hw h1) fun D σ H q => by
  obtain ⟨B, F, as, S, r, o⟩ := q
  refine ⟨B, F, as, S, r, Out.mono (OutS.stmt o) fun d F1 H1 as1 S1 ⟨r1, e1, o1⟩ v hv => ?_⟩
  cases hk : T.k d S1 with
  | none => rw [hk] at o1; exact o1.elim
  | some S2 =>
    rw [hk] at o1
    exact T.run r1 hv hk fun σ' r' _ => o1 σ' F1 H1 as1 Ext.refl r'

section
variable {tg iter elt : Expr} {ifs : List Expr} {scope : Scope} {own : List (Str × Nat)} {it : Ms → R (List Dt)} {T : Tk} {t : Ms → R Bool} {fe : Ms → R Dt}
theorem dn_lc (hc : X.calm = true) (hN : X.N.Nodup) (hi : PI X tg iter (tI X.K W it)) (ok : BlkOk X.N X.env.scope scope own) {vs : List Nat} (hsub : ∀ i ∈ T.is, i ∈ vs)
    (hg : ∀ (s : Shared) (H : Hp) (C : Addr) (cl : List (Str × Addr)) (fp : List Addr), DG (X.blk s H scope (compEnvC scope cl C X.env) fp) tg T) (ht : ∀ (s : Shared) (H : Hp) (C : Addr) (cl : List (Str × Addr)) (fp : List Addr), PTs (X.blk s H scope (compEnvC scope cl C X.env) fp) ifs (tT X.K W0 t))
    (he : ∀ (s : Shared) (H : Hp) (C : Addr) (cl : List (Str × Addr)) (fp : List Addr), PE (X.blk s H scope (compEnvC scope cl C X.env) fp) elt (tD X.K W0 fe)) (hs : ∀ x, foldedSetIterable iter X.env x = pure x := by intro _; rfl) (hvs : own.map (·.2) = vs := by rfl) :
    PE X (.ListComp elt [⟨tg, iter, ifs, 0⟩] scope pos) (tN X.K W (lcE it T.k t fe vs)) :=
  by
  subst hvs
  exact ⟨fun pins s σ H Q I q => (pe_lc hc hN hi ok (fun s H C cl fp => (hg s H C cl fp).pg) ht he hs).run pins s σ H Q I (lc_run hsub q)⟩
theorem ds_lc {py spos : Pos} (hc : X.calm = true) (hN : X.N.Nodup) (hy : X.N[i]? = some y) (hyl : X.env.scope.names.lookup y = some .local)
    (hsw : swapsWith (.ListComp elt [⟨tg, iter, ifs, 0⟩] scope pos) (some (.Name y py)) spos.line X.env = pure true) (hi : PI X tg iter (tI X.K W it)) (ok : BlkOk X.N X.env.scope scope own) {vs : List Nat} (hsub : ∀ i ∈ T.is, i ∈ vs)
    (hg : ∀ (s : Shared) (H : Hp) (C : Addr) (cl : List (Str × Addr)) (fp : List Addr), DG (X.blk s H scope (compEnvC scope cl C X.env) fp) tg T) (ht : ∀ (s : Shared) (H : Hp) (C : Addr) (cl : List (Str × Addr)) (fp : List Addr), PTs (X.blk s H scope (compEnvC scope cl C X.env) fp) ifs (tT X.K W0 t))
    (he : ∀ (s : Shared) (H : Hp) (C : Addr) (cl : List (Str × Addr)) (fp : List Addr), PE (X.blk s H scope (compEnvC scope cl C X.env) fp) elt (tD X.K W0 fe)) (hs : ∀ x, foldedSetIterable iter X.env x = pure x := by intro _; rfl) (hvs : own.map (·.2) = vs := by rfl) :
    PS X (.Assign [.Name y py] (.ListComp elt [⟨tg, iter, ifs, 0⟩] scope pos) spos) (sD X.K W (asgS i (frz (lcE it T.k t fe vs)))) :=
  by
  subst hvs
  exact ⟨fun pins s σ H D I q => (ps_setLc hc hN hy hyl hsw hi ok (fun s H C cl fp => (hg s H C cl fp).pg) ht he hs).run pins s σ H D I (lc_run (Q := fun x H1 => D.nx (σ.set i (some x)) H1) hsub (frz_run (asgS_run q)))⟩
theorem dts_nil : PTs X [] (tT X.K W yesT) := monoPT pts_nil fun σ H Q q => by
  obtain ⟨B, F, as, S, r, o⟩ := q
  exact Out.now o r
theorem dts_one {p : Ms → R Bool} (h : PT X c (tT X.K W p)) : PTs X [c] (tT X.K W p) := pts_one h
end

def muAt (S : Ms) (i : Nat) : Option (Nat × List Dt) := match S.sl[i]? with | some (.mu k) => (match S.mo[k]? with | some (.ob (.ls xs)) => some (k, xs) | _ => none) | _ => none
theorem muAt_rp {K : PySem.W.Frag} {B F H : Hp} {as : List Addr} {σ : L2.St} {S : Ms} (r : Rep K B F H as σ S) {k : Nat} {xs : List Dt} (h : muAt S i = some (k, xs)) :
    ∃ p vs, σ[i]? = some (some (.ref p)) ∧ S.mo[k]? = some (.ob (.ls xs)) ∧ as[k]? = some p ∧ B p = none ∧ F p = none ∧ H p = some (.lst vs) ∧ RpA K F vs xs := by
  unfold muAt at h
  cases hs : S.sl[i]? with
  | none => rw [hs] at h; cases h
  | some s =>
    rw [hs] at h
    cases s with
    | mu k' =>
      dsimp only at h
      cases hm : S.mo[k']? with
      | none => rw [hm] at h; cases h
      | some mm =>
        rw [hm] at h
        cases mm with
        | ob c =>
         cases c with
         | dc kvs => cases h
         | io _ _ _ => cases h
         | dm _ => cases h
         | lm _ => cases h
         | ls ys =>
          cases h
          obtain ⟨ov, hv, z⟩ := pairedGet r.sl hs
          cases ov with
          | none => exact z.elim
          | some v =>
            obtain ⟨p, hp, rfl⟩ := z
            obtain ⟨p', hp', q1, q2, ob, q3, q4⟩ := pairedGet r.mo hm
            rw [hp] at hp'
            cases hp'
            cases q4
            rename_i vs q4
            exact ⟨p, vs, hv, hm, hp, q1, q2, q3, q4⟩
        | fz d => cases h
    | _ => cases h
def appS (i : Nat) (f : Ms → R Dt) : Ms → O := fun S => match muAt S i with
  | none => .no
  | some _ => (f S).stmt fun d S1 => match muAt S1 i with | some (k, xs) => if xs.length < 100000 then .nx { S1 with mo := S1.mo.set k (.ob (.ls (xs ++ [d]))) } else .no | none => .no
theorem ds_app {o : Expr} {apos cpos : Pos} (ho : PE X o (tVar i)) (he : PE X e (tD X.K W f)) (hs0 : starEach [e] X.env = (false, eval e X.env) :: starEach [] X.env := by rfl)
    (hbase : attributeBase o "append" X.env (eval o X.env) = eval o X.env := by rfl)
    (hfew : ((backTo cpos (starEach [e] X.env)).all (fun x => !x.1) && (backToKw cpos (keywordEach [] X.env)).all (fun x => x.1.isSome)
      && decide ([e].length + ([] : List Keyword).length + (if ([] : List Keyword).isEmpty then 0 else 1) < 30)) = true := by rfl)
    (hline : (apos.endLine == cpos.line) = true := by rfl) (hpl : (backTo cpos (starEach [] X.env)).any (·.1) = false := by rfl) (hs : swapsWith (.Call (.Attribute o "append" apos) [e] [] cpos) none pos.line X.env = pure false := by rfl) :
    PS X (.Expr (.Call (.Attribute o "append" apos) [e] [] cpos) pos) (sD X.K W (appS i f)) :=
  monoS (ps_expr (pe_bm PySem.F.plainAttrs_list PySem.F.slot_list_append PySem.F.type_list_append mt_append ho (pa_cons he pa_nil hs0) hbase hfew hline hs0 hpl) hs) fun D σ H q => by
    obtain ⟨B, F, as, S, r, o⟩ := q
    unfold appS at o
    cases hm0 : muAt S i with
    | none => rw [hm0] at o; exact o.elim
    | some km =>
      rw [hm0] at o
      obtain ⟨k0, xs0⟩ := km
      obtain ⟨p, vs0, hp, hmo0, hp0, _, _, hH0, hv0⟩ := muAt_rp r hm0
      refine ⟨_, hp, .inl ⟨rfl, vs0, Evl.sq_of hH0⟩, ?_⟩
      refine ⟨B, F, as, S, r, Out.mono (OutS.stmt o) fun d F1 H1 as1 S1 ⟨r1, e1, o1⟩ v hv => ?_⟩
      cases hm : muAt S1 i with
      | none => rw [hm] at o1; exact o1.elim
      | some km =>
        rw [hm] at o1
        obtain ⟨k, xs⟩ := km
        obtain ⟨p', vs, hp', hmo, ha, _, _, hH, hvs⟩ := muAt_rp r1 hm
        rw [hp] at hp'
        cases hp'
        dsimp only at o1
        split at o1
        · rename_i hl
          exact ⟨p, vs, v, rfl, rfl, hH, Evl.sz_lt (by rw [hvs.length]; exact hl), o1 σ F1 _ as1 Ext.refl (r1.put hmo ha (.ls (hvs.snoc hv)))⟩
        · exact o1.elim
def setS (i : Nat) (f g : Ms → R Dt) : Ms → O := fun S => (f S).stmt fun d S1 => match muAt S1 i with
  | none => .no
  | some _ => (g S1).stmt fun e S2 => match e with
    | .int z => (match muAt S2 i with | some (k, xs) => (match ixN xs.length z with | some j => .nx { S2 with mo := S2.mo.set k (.ob (.ls (xs.set j d))) } | none => .no) | none => .no)
    | _ => .no
theorem ds_setI {o ix : Expr} {ps : Pos} (ho : PE X o (tVar i)) (hx : PE X ix (tD X.K W g)) (he : PE X e (tD X.K W f))
    (ha : ∀ v, assign (.Subscript o ix ps) X.env v = (do
      let ov ← holding [v] (eval o X.env)
      let iv ← holding [v, ov] (eval ix X.env)
      standAt ps
      holding [v, ov, iv] (setItem ov iv v)
      release [v, ov, iv] []) := by intro _; rfl)
    (hs : swapsWithSole [.Subscript o ix ps] e pos.line X.env = pure false := by rfl) (hw : swappedStores [.Subscript o ix ps] e X.env = pure none := by rfl)
    (h1 : (assignEach [.Subscript o ix ps] X.env).map (·.2) = [assign (.Subscript o ix ps) X.env] := by rfl) : PS X (.Assign [.Subscript o ix ps] e pos) (sD X.K W (setS i f g)) :=
  monoS (ps_asg he (pg_sub ho hx set_list ha) hs hw h1) fun D σ H q => by
    obtain ⟨B, F, as, S, r, o⟩ := q
    refine ⟨B, F, as, S, r, Out.mono (OutS.stmt o) fun d F1 H1 as1 S1 ⟨r1, e1, o1⟩ v hv => ?_⟩
    cases hm0 : muAt S1 i with
    | none => rw [hm0] at o1; exact o1.elim
    | some km =>
      rw [hm0] at o1
      obtain ⟨k0, xs0⟩ := km
      obtain ⟨p, vs0, hp, hmo0, hp0, _, _, hH0, hv0⟩ := muAt_rp r1 hm0
      refine ⟨_, hp, ?_⟩
      refine ⟨B, F1, as1, S1, r1, Out.mono (OutS.stmt o1) fun z F2 H2 as2 S2 ⟨r2, e2, o2⟩ w hw => ?_⟩
      cases z with
      | int z =>
        cases hw
        dsimp only at o2
        cases hm : muAt S2 i with
        | none => rw [hm] at o2; exact o2.elim
        | some km =>
          rw [hm] at o2
          obtain ⟨k, xs⟩ := km
          obtain ⟨p', vs, hp', hmo, ha, _, _, hH, hvs⟩ := muAt_rp r2 hm
          rw [hp] at hp'
          cases hp'
          dsimp only at o2
          cases hj : ixN xs.length z with
          | none => rw [hj] at o2; exact o2.elim
          | some j =>
            rw [hj] at o2
            exact ⟨p, vs, z, j, rfl, rfl, hH, by rw [hvs.length]; exact hj, o2 σ F2 _ as2 Ext.refl (r2.put hmo ha (.ls (hvs.set j (hv.up e2.1))))⟩
      | _ => exact o2.elim
def ixV (i : Nat) (g : Ms → R Dt) : Ms → R Dt := fun S => match muAt S i with
  | none => .no
  | some _ => (g S).bind fun e S1 => match e with
    | .int z => (match muAt S1 i with | some (_, xs) => R.of (atI xs z) S1 | none => .no)
    | _ => .no
theorem de_ixV {o ix : Expr} (ho : PE X o (tVar i)) (hx : PE X ix (tD X.K W g)) (hs : PlainIx ix := by exact fun _ _ => rfl) : PE X (.Subscript o ix pos) (tD X.K W (ixV i g)) := monoE (pe_ix ix_list ho hx hs) fun σ H Q q => by
  obtain ⟨B, F, as, S, r, o⟩ := q
  unfold ixV at o
  cases hm0 : muAt S i with
  | none => rw [hm0] at o; exact o.elim
  | some km =>
    rw [hm0] at o
    obtain ⟨k0, xs0⟩ := km
    obtain ⟨p, vs0, hp, hmo0, hp0, _, _, hH0, hv0⟩ := muAt_rp r hm0
    refine ⟨_, hp, ?_⟩
    refine ⟨B, F, as, S, r, Out.mono (Out.bind o) fun z F2 H2 as2 S2 ⟨r2, e2, o2⟩ w hw => ?_⟩
    cases z with
    | int z =>
      cases hw
      dsimp only at o2
      cases hm : muAt S2 i with
      | none => rw [hm] at o2; exact o2.elim
      | some km =>
        rw [hm] at o2
        obtain ⟨k, xs⟩ := km
        obtain ⟨p', vs, hp', hmo, ha, _, _, hH, hvs⟩ := muAt_rp r2 hm
        rw [hp] at hp'
        cases hp'
        dsimp only at o2
        cases hj : atI xs z with
        | none => rw [hj] at o2; exact o2.elim
        | some y =>
          rw [hj] at o2
          obtain ⟨u, h1, h2⟩ := atI_rp hvs hj
          exact ⟨p, vs, z, u, rfl, rfl, Evl.sq_of hH, h1, Out.now o2 r2 _ h2⟩
    | _ => exact o2.elim

def seqS (m n : Ms → O) : Ms → O := fun S => (m S).seq n
def nilS : Ms → O := fun S => .nx S
theorem dss_nil : PSs X [] (sD X.K W nilS) := monoSs pss_nil fun D σ H q => by
  obtain ⟨B, F, as, S, r, o⟩ := q
  exact o σ F H as Ext.refl r
theorem dss_cons (h1 : PS X st (sD X.K W m)) (h2 : PSs X rest (sD X.K W n)) : PSs X (st :: rest) (sD X.K W (seqS m n)) := monoSs (pss_cons h1 h2) fun D σ H q => by
  obtain ⟨B, F, as, S, r, o⟩ := q
  exact ⟨B, F, as, S, r, OutS.seq o⟩
theorem dss_one (h1 : PS X st (sD X.K W m)) : PSs X [st] (sD X.K W m) := pss_one h1
def ifS (p : Ms → R Bool) (m n : Ms → O) : Ms → O := fun S => (p S).stmt fun b S1 => if b then m S1 else n S1
theorem ds_if {p : Ms → R Bool} {sa sb : List Stmt} (hc : PT X c (tT X.K W p)) (ha : PSs X sa (sD X.K W m)) (hb : PSs X sb (sD X.K W n)) : PS X (.If c sa sb pos) (sD X.K W (ifS p m n)) := monoS (ps_if hc ha hb) fun D σ H q => by
  obtain ⟨B, F, as, S, r, o⟩ := q
  refine ⟨B, F, as, S, r, Out.mono (OutS.stmt o) fun b F1 H1 as1 S1 ⟨r1, e1, o1⟩ => ?_⟩
  cases b with
  | true => exact ⟨B, F1, as1, S1, r1, o1⟩
  | false => exact ⟨B, F1, as1, S1, r1, o1⟩
def retS (f : Ms → R Dt) : Ms → O := fun S => (f S).stmt fun d S1 => .rt d S1
theorem ds_ret (h : PE X e (tD X.K W f)) : PS X (.Return (some e) pos) (sD X.K W (retS f)) := monoS (ps_ret h) fun D σ H q => by
  obtain ⟨B, F, as, S, r, o⟩ := q
  exact ⟨B, F, as, S, r, Out.mono (OutS.stmt o) fun d F1 H1 as1 S1 ⟨r1, e1, o1⟩ v hv => o1 σ F1 H1 as1 v Ext.refl r1 hv⟩
def dropS (f : Ms → R Dt) : Ms → O := fun S => (f S).stmt fun _ S1 => .nx S1
theorem ds_drop (h : PE X e (tD X.K W f)) (hs : swapsWith e none pos.line X.env = pure false := by rfl) : PS X (.Expr e pos) (sD X.K W (dropS f)) := monoS (ps_expr h hs) fun D σ H q => by
  obtain ⟨B, F, as, S, r, o⟩ := q
  exact ⟨B, F, as, S, r, Out.mono (OutS.stmt o) fun d F1 H1 as1 S1 ⟨r1, e1, o1⟩ v hv => o1 σ F1 H1 as1 Ext.refl r1⟩
def noS : Ms → O := fun _ => .no
theorem ds_never : PS X st (sD X.K W noS) := monoS ps_never fun D σ H q => by
  obtain ⟨B, F, as, S, r, o⟩ := q
  exact o.elim
def forL (k : Dt → Ms → Option Ms) (body : Ms → O) : List Dt → Ms → O
  | [], S => .nx S
  | d :: ds, S => match k d S with
    | none => .no
    | some S1 => match body S1 with
      | .nx S2 => forL k body ds S2
      | .ct S2 => forL k body ds S2
      | .bk S2 => .nx S2
      | .rt d S2 => .rt d S2
      | .er e S2 => .er e S2
      | .no => .no
def forS (it : Ms → R (List Dt)) (k : Dt → Ms → Option Ms) (body : Ms → O) : Ms → O := fun S => (it S).stmt fun ds S1 => forL k body ds S1
theorem ds_for {tg iter : Expr} {it : Ms → R (List Dt)} {T : Tk} {body : List Stmt} (hp : PassesOwn (model X.prog X.w) X.A X.env X.xe) (hc : X.calm = true) (hi : PI X tg iter (tI X.K W it)) (hg : DG X tg T) (hb : PSs X body (sD X.K W m))
    (hs : ∀ x, foldedSetIterable iter X.env x = pure x := by intro _; rfl) : PS X (.For tg iter body [] pos) (sD X.K W (forS it T.k m)) := monoS (ps_for hp hc hi hg.pg hb hs) fun D σ H q => by
  obtain ⟨B, F, as, S, r, o⟩ := q
  refine ⟨B, F, as, S, r, Out.mono (OutS.stmt o) fun ds F1 H1 as1 S1 ⟨r1, e1, o1⟩ J w => ?_⟩
  refine ⟨fun i m' σ' H' => m' = ds.length - i ∧ i ≤ ds.length ∧ ∃ F2 as2 S2, Ext F1 F2 as1 as2 ∧ Rep X.K B F2 H' as2 σ' S2 ∧ OutS X.K W B F2 as2 (forL T.k m (ds.drop i) S2) D, ⟨_, rfl, Nat.zero_le _, F1, as1, S1, Ext.refl, r1, o1⟩, ?_⟩
  rintro i m' σ' H' ⟨rfl, hle, F2, as2, S2, e2, r2, o2⟩
  by_cases hlt : i < ds.length
  · refine .inr ⟨w.go i H' hlt (e2.1.trans r2.fh), ?_⟩
    obtain ⟨d, hd⟩ : ∃ d, ds[i]? = some d := ⟨ds[i], by simp [hlt]⟩
    have hdrop : ds.drop i = d :: ds.drop (i + 1) := by
      rw [List.drop_eq_getElem_cons hlt]
      congr 1
      rw [List.getElem?_eq_getElem hlt] at hd
      exact Option.some.inj hd
    rw [hdrop] at o2
    refine ⟨fun σ3 H3 => ∃ F2 as2 S2, Ext F1 F2 as1 as2 ∧ Rep X.K B F2 H3 as2 σ3 S2 ∧ OutS X.K W B F2 as2 (forL T.k m (ds.drop (i + 1)) S2) D, fun σ3 H3 h => ⟨_, by omega, rfl, hlt, h⟩, fun x H3 hy => ?_⟩
    obtain ⟨d', hd', hx⟩ := w.yld i H' x H3 F2 hlt e2.1 r2.fh hy
    rw [hd] at hd'
    cases hd'
    obtain ⟨F3, e3, r3, hv3⟩ : ∃ F3, Ext F2 F3 as2 as2 ∧ Rep X.K B F3 H3 as2 σ' S2 ∧ Rp X.K F3 x d := by
      rcases hx with ⟨rfl, hx⟩ | ⟨T, ob, hT, rfl, hx⟩
      · exact ⟨F2, Ext.refl, r2, hx⟩
      · obtain ⟨ee, rr⟩ := r2.new hT ob
        exact ⟨_, ee, rr, hx⟩
    unfold forL at o2
    cases hk : T.k d S2 with
    | none => rw [hk] at o2; exact o2.elim
    | some S3 =>
      rw [hk] at o2
      dsimp only at o2
      refine T.run r3 hv3 hk fun σ4 r4 _ => ⟨B, F3, as2, S3, r4, ?_⟩
      revert o2
      cases m S3 with
      | nx S4 => exact fun o2 σ5 F5 H5 as5 e5 r5 => ⟨F5, as5, S4, e2.trans (e3.trans e5), r5, OutS.ext o2 (e3.trans e5)⟩
      | ct S4 => exact fun o2 σ5 F5 H5 as5 e5 r5 => ⟨F5, as5, S4, e2.trans (e3.trans e5), r5, OutS.ext o2 (e3.trans e5)⟩
      | bk S4 => exact fun o2 σ5 F5 H5 as5 e5 r5 => o2 σ5 F5 H5 as5 (e3.trans e5) r5
      | rt d S4 => exact fun o2 σ5 F5 H5 as5 v e5 r5 => o2 σ5 F5 H5 as5 v (e3.trans e5) r5
      | er e S4 => exact fun o2 σ5 F5 H5 as5 dx fs e5 r5 => o2 σ5 F5 H5 as5 dx fs (e3.trans e5) r5
      | no => exact fun o2 => o2
  · have e : i = ds.length := by omega
    subst e
    rw [List.drop_length] at o2
    exact .inl ⟨w.stop H' (e2.1.trans r2.fh), o2 σ' F2 H' as2 Ext.refl r2⟩
def whl (p : Ms → R Bool) (body : Ms → O) : Nat → Ms → O
  | 0, _ => .no
  | n + 1, S => (p S).stmt fun b S1 => if b then (match body S1 with
      | .nx S2 => whl p body n S2
      | .ct S2 => whl p body n S2
      | .bk S2 => .nx S2
      | .rt d S2 => .rt d S2
      | .er e S2 => .er e S2
      | .no => .no) else .nx S1
def whileS (fuel : Ms → Nat) (p : Ms → R Bool) (body : Ms → O) : Ms → O := fun S => whl p body (fuel S) S
theorem ds_while {fuel : Ms → Nat} {p : Ms → R Bool} {body : List Stmt} (hp : PassesOwn (model X.prog X.w) X.A X.env X.xe) (hc : PT X c (tT X.K W p)) (hb : PSs X body (sD X.K W m)) : PS X (.While c body [] pos) (sD X.K W (whileS fuel p m)) := monoS (ps_while hp hc hb) fun D σ H q => by
  obtain ⟨B, F, as, S, r, o⟩ := q
  refine ⟨fun n σ' H' => ∃ F2 as2 S2, Rep X.K B F2 H' as2 σ' S2 ∧ OutS X.K W B F2 as2 (whl p m n S2) D, ⟨fuel S, F, as, S, r, o⟩, ?_⟩
  rintro n σ' H' ⟨F2, as2, S2, r2, o2⟩
  cases n with
  | zero => exact o2.elim
  | succ n =>
    unfold whl at o2
    refine ⟨B, F2, as2, S2, r2, Out.mono (OutS.stmt o2) fun b F3 H3 as3 S3 ⟨r3, e3, o3⟩ => ?_⟩
    cases b with
    | true =>
      show ∃ N : L2.St → Hp → Prop, _
      refine ⟨fun σ4 H4 => ∃ F2 as2 S2, Rep X.K B F2 H4 as2 σ4 S2 ∧ OutS X.K W B F2 as2 (whl p m n S2) D, fun σ4 H4 h => ⟨n, Nat.lt_succ_self n, h⟩, ?_⟩
      refine ⟨B, F3, as3, S3, r3, ?_⟩
      simp only [if_true] at o3
      revert o3
      cases m S3 with
      | nx S4 => exact fun o3 σ5 F5 H5 as5 e5 r5 => ⟨F5, as5, S4, r5, OutS.ext o3 e5⟩
      | ct S4 => exact fun o3 σ5 F5 H5 as5 e5 r5 => ⟨F5, as5, S4, r5, OutS.ext o3 e5⟩
      | bk S4 => exact fun o3 σ5 F5 H5 as5 e5 r5 => o3 σ5 F5 H5 as5 e5 r5
      | rt d S4 => exact fun o3 => o3
      | er e S4 => exact fun o3 => o3
      | no => exact fun o3 => o3
    | false => exact o3 _ _ _ _ Ext.refl r3
end
end Lq

namespace Lq
open PySem PySem.Spec PyProof.Rows L2
open Evl (Ex)
inductive Fo where | ok (d : Dt) | er (e : Er) | no
inductive FoM where | ok (d : Dt) (xs : List Dt) | er (e : Er) (xs : List Dt) | no
def Kept (B F' H' : Hp) : Prop := ∀ a o, B a = some o → H' a = some o ∧ F' a = none ∧ NT o
def spD (K : PySem.W.Frag) (n : Nat) (f : List Dt → Fo) : Sp := fun vs H Q E => ∃ B F ds, ds.length = n ∧ Ex F H ∧ Kept B F H ∧ RpA K F vs ds ∧ match f ds with
  | .ok d => ∀ v F' H', Ex F F' → Ex F' H' → Kept B F' H' → Rp K F' v d → Q v H'
  | .er e => ∀ F' H' dx fs, Ex F F' → Ex F' H' → Kept B F' H' → DictR H' dx fs → fs.map (·.1) = e.ks → RpA K F' (fs.map (·.2)) e.ds → E (.ref e.C) dx H'
  | .no => False
def spM (K : PySem.W.Frag) (n : Nat) (f : List Dt → List Dt → FoM) : Sp := fun vs H Q E => ∃ B F a ws xs vs' ds, vs = .ref a :: vs' ∧ ds.length = n ∧ Ex F H ∧ Kept B F H ∧ B a = none ∧ F a = none ∧ H a = some (.lst ws) ∧ RpA K F ws xs ∧ RpA K F vs' ds ∧ match f xs ds with
  | .ok d ys => ∀ v F' H' us, Ex F F' → Ex F' H' → Kept B F' H' → F' a = none → H' a = some (.lst us) → RpA K F' us ys → Rp K F' v d → Q v H'
  | .er e ys => ∀ F' H' us dx fs, Ex F F' → Ex F' H' → Kept B F' H' → F' a = none → H' a = some (.lst us) → RpA K F' us ys → DictR H' dx fs → fs.map (·.1) = e.ks → RpA K F' (fs.map (·.2)) e.ds → E (.ref e.C) dx H'
  | .no => False

def O.fo : O → Fo | .nx _ => .ok .non | .rt d _ => .ok d | .er e _ => .er e | _ => .no
def st0 (n : Nat) (ds : List Dt) : Ms := { sl := ds.map Sv.im ++ List.replicate (n - ds.length) .no, mo := [] }
def runD (n : Nat) (m : Ms → O) (ds : List Dt) : Fo := (m (st0 n ds)).fo
def mo0 (S : Ms) : Option (List Dt) := match S.mo[0]? with | some (Mo.ob (.ls xs)) => some xs | _ => none
def O.foM : O → FoM
  | .nx S => (match mo0 S with | some xs => .ok .non xs | none => .no)
  | .rt d S => (match mo0 S with | some xs => .ok d xs | none => .no)
  | .er e S => (match mo0 S with | some xs => .er e xs | none => .no)
  | _ => .no
def stM (n : Nat) (xs ds : List Dt) : Ms := { sl := .mu 0 :: (ds.map Sv.im ++ List.replicate (n - 1 - ds.length) .no), mo := [.ob (.ls xs)] }
def runM (n : Nat) (m : Ms → O) (xs ds : List Dt) : FoM := (m (stM n xs ds)).foM

theorem paired_im {K : PySem.W.Frag} {F : Hp} {as : List Addr} : ∀ {vs : List V} {ds : List Dt}, RpA K F vs ds → ∀ {l : List (Option V)} {r : List Sv}, Paired (SvR K F as) l r → Paired (SvR K F as) (vs.map some ++ l) (ds.map Sv.im ++ r)
  | _, _, .nil, _, _, h => h
  | _, _, .cons h1 h2, _, _, h => .cons h1 (paired_im h2 h)
theorem paired_no {K : PySem.W.Frag} {F : Hp} {as : List Addr} : ∀ n : Nat, Paired (SvR K F as) (List.replicate n none) (List.replicate n Sv.no)
  | 0 => .nil
  | n + 1 => .cons trivial (paired_no n)
section
variable {P : Program} {w : World} {K : PySem.W.Frag} {mg : Str → Option Value} {base : Heap}
theorem defOk {x qual : Str} {st : Stmt} {f : Addr} {fd : FuncData} {N ps : List Str} {k : Nat} {m : Ms → O} (F : Fun K x qual st f fd) (S : FnScope N ps (defScope st))
    (hbody : ∀ (cdv : Value) (A : Around) (outer : List Env) (s : Shared) (H : Hp) (E : XK), Room k (A.deeper (envOfC qual (defScope st) s.heap.objs.size f cdv)) →
      PSs (cxOf (L2.CX P w) P w K mg base N qual (defScope st) f cdv A outer s H E) (defBody st) (sD K (fun cls d _ H' => E cls d H') m)) :
    FnOk P w K mg base (L2.CX P w) (k + 1) f fd ps (spD K ps.length (runD N.length m)) := by
  refine F.okX S (fun vs H Q E h => ?_) (fun cdv A outer s H vs Q E hr h => ⟨_, hbody cdv A outer s H E hr, ?_⟩)
  · obtain ⟨B, F, ds, hn, _, _, hv, _⟩ := h
    rw [hv.length, hn]
  · obtain ⟨B, F, ds, hn, e, kp, hv, q⟩ := h
    refine ⟨B, F, [], st0 N.length ds, ⟨e, kp, ?_, .nil, List.nodup_nil⟩, ?_⟩
    · unfold L2.start st0
      rw [hv.length]
      exact paired_im hv (paired_no _)
    · unfold runD at q
      revert q
      cases m (st0 N.length ds) with
      | nx S' => exact fun q σ' F' H' as' e' r => q .non F' H' e'.1 r.fh r.bh .non
      | rt d S' => exact fun q σ' F' H' as' v e' r hv => q v F' H' e'.1 r.fh r.bh hv
      | er e S' => exact fun q σ' F' H' as' dx fs e' r => q F' H' dx fs e'.1 r.fh r.bh
      | bk S' => exact fun q => q.elim
      | ct S' => exact fun q => q.elim
      | no => exact fun q => q
theorem defOkM {x qual : Str} {st : Stmt} {f : Addr} {fd : FuncData} {N ps : List Str} {p0 : Str} {k : Nat} {m : Ms → O} (F : Fun K x qual st f fd) (S : FnScope N (p0 :: ps) (defScope st))
    (hbody : ∀ (cdv : Value) (A : Around) (outer : List Env) (s : Shared) (H : Hp) (E : XK), Room k (A.deeper (envOfC qual (defScope st) s.heap.objs.size f cdv)) →
      PSs (cxOf (L2.CX P w) P w K mg base N qual (defScope st) f cdv A outer s H E) (defBody st) (sD K (fun cls d _ H' => E cls d H') m)) :
    FnOk P w K mg base (L2.CX P w) (k + 1) f fd (p0 :: ps) (spM K ps.length (runM N.length m)) := by
  refine F.okX S (fun vs H Q E h => ?_) (fun cdv A outer s H vs Q E hr h => ⟨_, hbody cdv A outer s H E hr, ?_⟩)
  · obtain ⟨B, F, a, ws, xs, vs', ds, rfl, hn, _, _, _, _, _, _, hv, _⟩ := h
    rw [List.length_cons, List.length_cons, hv.length, hn]
  · obtain ⟨B, F, a, ws, xs, vs', ds, rfl, hn, e, kp, b0, f0, ha, hw, hv, q⟩ := h
    have hend : ∀ {F' H' : Hp} {as' : List Addr} {σ' : L2.St} {S' : Ms} {ys : List Dt}, Ext F F' [a] as' → Rep K B F' H' as' σ' S' → mo0 S' = some ys → F' a = none ∧ ∃ us, H' a = some (.lst us) ∧ RpA K F' us ys := by
      intro F' H' as' σ' S' ys e' r hm
      obtain ⟨_, t, rfl⟩ := e'
      unfold mo0 at hm
      cases h0 : S'.mo[0]? with
      | none => rw [h0] at hm; cases hm
      | some mm =>
        rw [h0] at hm
        cases mm with
        | ob c =>
         cases c with
         | dc kvs => cases hm
         | io _ _ _ => cases hm
         | dm _ => cases hm
         | lm _ => cases hm
         | ls zs =>
          cases hm
          obtain ⟨p, hp, q1, q2, ob, q3, q4⟩ := pairedGet r.mo h0
          cases hp
          cases q4
          exact ⟨q2, _, q3, by assumption⟩
        | fz d => cases hm
    refine ⟨B, F, [a], stM N.length xs ds, ⟨e, kp, ?_, .cons ⟨b0, f0, _, ha, .ls hw⟩ .nil, by simp⟩, ?_⟩
    · have hl : ps.length + 1 ≤ N.length := by
        have := congrArg List.length S.pre
        rw [List.length_take, List.length_cons] at this
        omega
      unfold L2.start stM
      rw [List.map_cons, List.length_cons, hv.length]
      have e2 : N.length - (ds.length + 1) = N.length - 1 - ds.length := by omega
      rw [e2]
      exact .cons ⟨a, rfl, rfl⟩ (paired_im hv (paired_no _))
    · unfold runM at q
      revert q
      cases m (stM N.length xs ds) with
      | nx S' =>
        intro q
        unfold O.foM at q
        dsimp only at q
        cases hm : mo0 S' with
        | none => rw [hm] at q; exact q.elim
        | some ys =>
          rw [hm] at q
          intro σ' F' H' as' e' r
          obtain ⟨z1, us, z2, z3⟩ := hend e' r hm
          exact q .non F' H' us e'.1 r.fh r.bh z1 z2 z3 .non
      | rt d S' =>
        intro q
        unfold O.foM at q
        dsimp only at q
        cases hm : mo0 S' with
        | none => rw [hm] at q; exact q.elim
        | some ys =>
          rw [hm] at q
          intro σ' F' H' as' v e' r hv
          obtain ⟨z1, us, z2, z3⟩ := hend e' r hm
          exact q v F' H' us e'.1 r.fh r.bh z1 z2 z3 hv
      | er e S' =>
        intro q
        unfold O.foM at q
        dsimp only at q
        cases hm : mo0 S' with
        | none => rw [hm] at q; exact q.elim
        | some ys =>
          rw [hm] at q
          intro σ' F' H' as' dx fs e' r
          obtain ⟨z1, us, z2, z3⟩ := hend e' r hm
          exact q F' H' us dx fs e'.1 r.fh r.bh z1 z2 z3
      | bk S' => exact fun q => q.elim
      | ct S' => exact fun q => q.elim
      | no => exact fun q => q.elim
end
theorem FnOk.toF {P : Program} {w : World} {K : PySem.W.Frag} {mg : Str → Option Value} {base : Heap} {CX : CXT} {k : Nat} {f : Addr} {fd : FuncData} {ps : List Str} {n : Nat} {g h : List Dt → Fo} (F : FnOk P w K mg base CX k f fd ps (spD K n g)) (e : ∀ ds, h ds ≠ .no → g ds = h ds) :
    FnOk P w K mg base CX k f fd ps (spD K n h) := F.imp fun vs H Q E ⟨B, F, ds, hn, h1, h2, h3, h4⟩ => ⟨B, F, ds, hn, h1, h2, h3, by
      have : h ds ≠ .no := by intro z; rw [z] at h4; exact h4
      rw [e ds this]
      exact h4⟩
theorem FnOk.toM {P : Program} {w : World} {K : PySem.W.Frag} {mg : Str → Option Value} {base : Heap} {CX : CXT} {k : Nat} {f : Addr} {fd : FuncData} {ps : List Str} {n : Nat} {g h : List Dt → List Dt → FoM} (F : FnOk P w K mg base CX k f fd ps (spM K n g)) (e : ∀ xs ds, h xs ds ≠ .no → g xs ds = h xs ds) :
    FnOk P w K mg base CX k f fd ps (spM K n h) := F.imp fun vs H Q E ⟨B, F, a, ws, xs, vs', ds, h1, h2, h3, h4, h5, h6, h7, h8, h9, h10⟩ => ⟨B, F, a, ws, xs, vs', ds, h1, h2, h3, h4, h5, h6, h7, h8, h9, by
      have : h xs ds ≠ .no := by intro z; rw [z] at h10; exact h10
      rw [e xs ds this]
      exact h10⟩

def holdB (B F H : Hp) (as : List Addr) : Hp := fun a => if a ∈ as then (if F a = none then H a else none) else B a
theorem hold_kept {K : PySem.W.Frag} {B F H : Hp} {as : List Addr} {σ : L2.St} {S : Ms} (r : Rep K B F H as σ S) : Kept (holdB B F H as) F H := fun a o h => by
  unfold holdB at h
  split at h
  · split at h
    · rename_i hm q
      obtain ⟨i, hi⟩ := List.mem_iff_getElem?.mp hm
      obtain ⟨m, hmm, z⟩ := pairedGetL r.mo hi
      cases m with
      | ob c =>
        obtain ⟨z1, z2, u, z3, z4⟩ := z
        rw [z3] at h
        cases h
        exact ⟨z3, q, z4.nt⟩
      | fz d =>
        obtain ⟨⟨u, z1⟩, _⟩ := z
        rw [q] at z1; cases z1
    · cases h
  · exact r.bh a o h
theorem hold_back {K : PySem.W.Frag} {B F H F' H' : Hp} {as : List Addr} {σ : L2.St} {S : Ms} (r : Rep K B F H as σ S) (e : Ex F F') (e2 : Ex F' H') (k : Kept (holdB B F H as) F' H') : Rep K B F' H' as σ S := by
  have ee : Ext F F' as as := ⟨e, [], by simp⟩
  refine ⟨e2, fun a o h => ?_, r.sl.mono fun _ _ q => SvR.up q ee, ?_, r.nd⟩
  · refine k a o ?_
    unfold holdB
    split
    · rename_i hm
      obtain ⟨i, hi⟩ := List.mem_iff_getElem?.mp hm
      obtain ⟨m, hmm, z⟩ := pairedGetL r.mo hi
      obtain ⟨b1, b2, _⟩ := r.bh a o h
      cases m with
      | ob ds =>
        obtain ⟨z1, _⟩ := z
        rw [z1] at h; cases h
      | fz d =>
        obtain ⟨⟨u, z1⟩, _⟩ := z
        rw [b2] at z1; cases z1
    · exact h
  · have : ∀ {xs : List Addr} {ys : List Mo}, (∀ a ∈ xs, a ∈ as) → Paired (MoR K B F H as) xs ys → Paired (MoR K B F' H' as) xs ys := by
      intro xs ys hn z
      induction z with
      | nil => exact .nil
      | @cons a b l1 l2 z zs ih =>
        refine .cons ?_ (ih fun a ha => hn a (List.mem_cons_of_mem _ ha))
        cases b with
        | ob ds =>
          obtain ⟨z1, z2, ws, z3, z4⟩ := z
          obtain ⟨q1, q2, _⟩ := k a ws (by unfold holdB; rw [if_pos (hn _ List.mem_cons_self), if_pos z2]; exact z3)
          exact ⟨z1, q2, ws, q1, z4.up ee⟩
        | fz d =>
          obtain ⟨⟨u, z1⟩, z2⟩ := z
          exact ⟨⟨u, e _ _ z1⟩, z2.up e⟩
    exact this (fun _ h => h) r.mo
def funE (n : Nat) (fs : Ms → R (List Dt)) (f : List Dt → Fo) : Ms → R Dt := fun S => (fs S).bind fun ds S1 => if ds.length = n then (match f ds with | .ok d => .ok d S1 | .er e => .er e S1 | .no => .no) else .no
section
variable {X : Cx} {W : WX} {e o : Expr} {es : List Expr} {fs : Ms → R (List Dt)} {x : Str} {p pos : Pos} {k n i : Nat} {f : Addr} {fd : FuncData} {ps : List Str} {g : List Dt → Fo} {gm : List Dt → List Dt → FoM}
theorem call_run {K : PySem.W.Frag} {σ : L2.St} {H : Hp} {Q : VK} (q : tD K W (funE n fs g) σ H Q) : tCallS (spD K n g) (WE W) (tA K W fs) σ H Q := by
  obtain ⟨B, F, as, S, r, o⟩ := q
  refine ⟨B, F, as, S, r, Out.mono (Out.bind o) fun ds F1 H1 as1 S1 ⟨r1, e1, o1⟩ vs hv => ?_⟩
  split at o1
  · rename_i hn
    refine ⟨holdB B F1 H1 as1, F1, ds, hn, r1.fh, hold_kept r1, hv, ?_⟩
    cases hg : g ds with
    | ok d =>
      rw [hg] at o1
      exact fun v F' H' ee eh kp hv' => o1 F' H' as1 ⟨ee, [], by simp⟩ (hold_back r1 ee eh kp) v hv'
    | er x =>
      rw [hg] at o1
      exact fun F' H' dx fs ee eh kp h1 h2 h3 => o1 F' H' as1 dx fs ⟨ee, [], by simp⟩ (hold_back r1 ee eh kp) h1 h2 h3
    | no => rw [hg] at o1; exact o1.elim
  · exact o1.elim
theorem de_call (G : FnOk X.prog X.w X.K X.mg X.base (L2.CX X.prog X.w) k f fd ps (spD X.K n g)) (tk : Takes X W) (hr : Room k X.A) (hg : Gl X x) (hm : X.mg x = some (.ref f)) (hk : PySem.W.keepIn X.K (.ref f) = true) (hb : Binds X.K fd ps [])
    (ha : PA X (e :: es) (tA X.K W fs)) (hdb : (x == ("__debug__" : Str)) = false := by decide) (he : starEach (e :: es) X.env = (false, eval e X.env) :: starEach es X.env := by rfl) (hpl : (backTo pos (starEach es X.env)).any (·.1) = false := by rfl) :
    PE X (.Call (.Name x p) (e :: es) [] pos) (tD X.K W (funE n fs g)) := monoE (pe_callS G hr hg hm hk hb (fun σ => passAt tk σ) ha hdb he hpl) fun σ H Q q => call_run q
def funM (n : Nat) (i : Nat) (fs : Ms → R (List Dt)) (f : List Dt → List Dt → FoM) : Ms → R Dt := fun S => match muAt S i with
  | none => .no
  | some _ => (fs S).bind fun ds S1 => match muAt S1 i with
    | some (k, xs) => if ds.length = n then (match f xs ds with | .ok d ys => .ok d { S1 with mo := S1.mo.set k (.ob (.ls ys)) } | _ => .no) else .no
    | none => .no
theorem callM_run {K : PySem.W.Frag} {σ : L2.St} {H : Hp} {Q : VK} (q : tD K W (funM n i fs gm) σ H Q) : tCallS (spM K n gm) (WE W) (tCons (tVar i) (tA K W fs)) σ H Q := by
  obtain ⟨B, F, as, S, r, o⟩ := q
  unfold funM at o
  cases hm0 : muAt S i with
  | none => rw [hm0] at o; exact o.elim
  | some km =>
    rw [hm0] at o
    obtain ⟨k0, xs0⟩ := km
    obtain ⟨p, vs0, hp, hmo0, hp0, _, _, hH0, hv0⟩ := muAt_rp r hm0
    refine ⟨_, hp, ?_⟩
    refine ⟨B, F, as, S, r, Out.mono (Out.bind o) fun ds F1 H1 as1 S1 ⟨r1, e1, o1⟩ vs hv => ?_⟩
    cases hm : muAt S1 i with
    | none => rw [hm] at o1; exact o1.elim
    | some km =>
      rw [hm] at o1
      obtain ⟨k, xs⟩ := km
      obtain ⟨p', ws, hp', hmo, ha, hB, hF, hH, hws⟩ := muAt_rp r1 hm
      rw [hp] at hp'
      cases hp'
      dsimp only at o1
      split at o1
      · rename_i hn
        have hin : p ∈ as1 := List.mem_of_getElem? ha
        -- what is held besides
        refine ⟨fun a => if a = p then none else holdB B F1 H1 as1 a, F1, p, ws, xs, vs, ds, rfl, hn, r1.fh, fun a u hu => ?_, if_pos rfl, hF, hH, hws, hv, ?_⟩
        · dsimp only at hu
          by_cases q : a = p
          · rw [if_pos q] at hu; cases hu
          · rw [if_neg q] at hu
            exact hold_kept r1 a u hu
        · cases hg : gm xs ds with
          | ok d ys =>
            rw [hg] at o1
            intro v F' H' us ee eh kp fa ha' hus hv'
            dsimp only at o1
            have ex : Ext F1 F' as1 as1 := ⟨ee, [], by simp⟩
            refine o1 F' H' as1 ex ⟨eh, fun a u hu => ?_, r1.sl.mono fun _ _ q => SvR.up q ex, ?_, r1.nd⟩ v hv'
            · have hne : a ≠ p := by
                rintro rfl
                rw [hB] at hu; cases hu
              refine kp a u ?_
              show (if a = p then none else holdB B F1 H1 as1 a) = _
              rw [if_neg hne]
              unfold holdB
              split
              · rename_i hm2
                obtain ⟨j, hj⟩ := List.mem_iff_getElem?.mp hm2
                obtain ⟨mm, hmm, z⟩ := pairedGetL r1.mo hj
                obtain ⟨b1, b2, _⟩ := r1.bh a u hu
                cases mm with
                | ob ds =>
                  obtain ⟨z1, _⟩ := z
                  rw [z1] at hu; cases hu
                | fz d =>
                  obtain ⟨⟨u', z1⟩, _⟩ := z
                  rw [b2] at z1; cases z1
              · exact hu
            · refine pairedAt k r1.mo (fun j b mm hj hb hmm q => ?_) fun b hb => ?_
              · cases mm with
                | ob ds =>
                  obtain ⟨z1, z2, us', z3, z4⟩ := q
                  have hne : b ≠ p := fun z => by
                    subst z
                    exact hj (nd_ix r1.nd hb ha)
                  obtain ⟨q1, q2, _⟩ := kp b us' (by
                    show (if b = p then none else holdB B F1 H1 as1 b) = _
                    rw [if_neg hne]
                    unfold holdB
                    rw [if_pos (List.mem_of_getElem? hb), if_pos z2]
                    exact z3)
                  exact ⟨z1, q2, us', q1, z4.up ⟨ee, [], by simp⟩⟩
                | fz d =>
                  obtain ⟨⟨u', z1⟩, z2⟩ := q
                  exact ⟨⟨u', ee _ _ z1⟩, z2.up ee⟩
              · rw [ha] at hb
                cases hb
                exact ⟨hB, fa, _, ha', .ls hus⟩
          | er x ys => rw [hg] at o1; exact o1.elim
          | no => rw [hg] at o1; exact o1.elim
      · exact o1.elim
theorem de_callM (G : FnOk X.prog X.w X.K X.mg X.base (L2.CX X.prog X.w) k f fd ps (spM X.K n gm)) (tk : Takes X W) (hr : Room k X.A) (hg : Gl X x) (hm : X.mg x = some (.ref f)) (hk : PySem.W.keepIn X.K (.ref f) = true) (hb : Binds X.K fd ps [])
    (ho : PE X o (tVar i)) (ha : PA X es (tA X.K W fs)) (hs : starEach (o :: es) X.env = (false, eval o X.env) :: starEach es X.env := by rfl) (hdb : (x == ("__debug__" : Str)) = false := by decide) (hpl : (backTo pos (starEach es X.env)).any (·.1) = false := by rfl) :
    PE X (.Call (.Name x p) (o :: es) [] pos) (tD X.K W (funM n i fs gm)) := monoE (pe_callS G hr hg hm hk hb (fun σ => passAt tk σ) (pa_cons ho ha hs) hdb hs hpl) fun σ H Q q => callM_run q
end
end Lq

namespace Lq
open PySem PySem.Spec PyProof.Rows L2
open Evl (Ex)
def Cal (P : Program) (w : World) (K : PySem.W.Frag) (mg : Str → Option Value) (base : Heap) (x : Str) (k : Nat) (ps : List Str) (sp : Sp) : Prop :=
  ∃ f fd, FnOk P w K mg base (L2.CX P w) k f fd ps sp ∧ mg x = some (.ref f) ∧ PySem.W.keepIn K (.ref f) = true ∧ Binds K fd ps []
theorem hu65_of {A : Around} {k : Nat} (hr : Room k A) : A.units + 65 < cLine := by have := hr.un; omega
section
variable {X : Cx} {W : WX} {e o : Expr} {es : List Expr} {fs : Ms → R (List Dt)} {x : Str} {p pos : Pos} {j k n i : Nat} {ps : List Str} {g : List Dt → Fo} {gm : List Dt → List Dt → FoM}
theorem de_cal (c : Cal X.prog X.w X.K X.mg X.base x k ps (spD X.K n g)) (tk : Takes X W) (hr : Room j X.A) (hk : k ≤ j) (hg : Gl X x)
    (ha : PA X (e :: es) (tA X.K W fs)) (hdb : (x == ("__debug__" : Str)) = false := by decide) (he : starEach (e :: es) X.env = (false, eval e X.env) :: starEach es X.env := by rfl) (hpl : (backTo pos (starEach es X.env)).any (·.1) = false := by rfl) :
    PE X (.Call (.Name x p) (e :: es) [] pos) (tD X.K W (funE n fs g)) := by
  obtain ⟨f, fd, G, hm, kp, hb⟩ := c
  exact de_call G tk (hr.mono hk) hg hm kp hb ha hdb he hpl
theorem de_calM (c : Cal X.prog X.w X.K X.mg X.base x k ps (spM X.K n gm)) (tk : Takes X W) (hr : Room j X.A) (hk : k ≤ j) (hg : Gl X x)
    (ho : PE X o (tVar i)) (ha : PA X es (tA X.K W fs)) (hs : starEach (o :: es) X.env = (false, eval o X.env) :: starEach es X.env := by rfl) (hdb : (x == ("__debug__" : Str)) = false := by decide) (hpl : (backTo pos (starEach es X.env)).any (·.1) = false := by rfl) :
    PE X (.Call (.Name x p) (o :: es) [] pos) (tD X.K W (funM n i fs gm)) := by
  obtain ⟨f, fd, G, hm, kp, hb⟩ := c
  exact de_callM G tk (hr.mono hk) hg hm kp hb ho ha hs hdb hpl
end
end Lq

namespace Lq
open PySem PySem.Spec PyProof.Rows L2
open Evl (Ex)
def Wd (ns : List Int) : Dt := .tup (ns.map .int)
def wordOf : Dt → Option (List Int) | .tup ds => intsOf ds | _ => none
theorem wordOf_eq {d : Dt} {ns : List Int} (h : wordOf d = some ns) : d = Wd ns := by
  cases d <;> simp only [wordOf] at h <;> try cases h
  rw [intsOf_eq h]; rfl
@[simp] theorem wordOf_Wd (ns : List Int) : wordOf (Wd ns) = some ns := intsOf_map ns
theorem Rp.wd {K : PySem.W.Frag} {F : Hp} {v : V} {ns : List Int} (h : Rp K F v (Wd ns)) : ∃ b, v = .ref b ∧ F b = some (.tup (ns.map V.int)) := by
  unfold Wd at h
  cases h with
  | tup hs ha =>
    rw [ha.intsv] at hs
    exact ⟨_, rfl, hs⟩
theorem wd_rp {K : PySem.W.Frag} {F : Hp} {b : Addr} {ns : List Int} (h : F b = some (.tup (ns.map V.int))) : Rp K F (.ref b) (Wd ns) := .tup h (RpA.ints ns)
theorem kv_ints (ns : List Int) : (ns.map (Sum.inl : Int → Key)).map kV = ns.map V.int := by
  rw [List.map_map]; rfl

def tM (K : PySem.W.Frag) (W : WX) (f : Ms → R Ob) : TE := fun σ H Q => ∃ B F as S, Rep K B F H as σ S ∧ Out K W B F as σ (f S) fun c F' H' as' _ => ∀ p o, F' p = none → B p = none → p ∉ as' → H' p = some o → ObR K F' as' o c → Q (.ref p) H'
def asgM (i : Nat) (f : Ms → R Ob) : Ms → O := fun S => (f S).stmt fun c S1 => .nx { sl := S1.sl.set i (.mu S1.mo.length), mo := S1.mo ++ [.ob c] }
theorem asgM_run {K : PySem.W.Frag} {W : WX} {fm : Ms → R Ob} {i : Nat} {D : Ends} {σ : L2.St} {H : Hp} (q : sD K W (asgM i fm) D σ H) : tM K W fm σ H fun x H1 => D.nx (σ.set i (some x)) H1 := by
  obtain ⟨B, F, as, S, r, o⟩ := q
  refine ⟨B, F, as, S, r, Out.mono (OutS.stmt o) fun c F1 H1 as1 S1 ⟨r1, e1, o1⟩ p o f1 f2 f3 hp hv => ?_⟩
  obtain ⟨ee, rr⟩ := r1.newL f1 f2 f3 hp hv
  refine o1 _ F1 H1 _ ee (rr.slot (s := .mu S1.mo.length) i ⟨p, ?_, rfl⟩)
  have hl : as1.length = S1.mo.length := r1.mo.length
  rw [← hl, List.getElem?_append_right (Nat.le_refl _), Nat.sub_self]
  rfl
theorem Rep.grow {K : PySem.W.Frag} {B F H : Hp} {as : List Addr} {σ : L2.St} {S : Ms} (r : Rep K B F H as σ S) {p : Addr} (hp : H p = none) (o : HO) : Rep K B F (upd H p o) as σ S := by
  refine ⟨fun a u e => ?_, fun a u e => ?_, r.sl, r.mo.mono fun a m q => ?_, r.nd⟩
  · rw [upd_ne (ne_of_none (r.fh _ _ e) hp)]
    exact r.fh _ _ e
  · obtain ⟨z1, z2, z3⟩ := r.bh a u e
    exact ⟨by rw [upd_ne (ne_of_none z1 hp)]; exact z1, z2, z3⟩
  · cases m with
    | ob ds =>
      obtain ⟨z1, z2, ws, z3, z4⟩ := q
      exact ⟨z1, z2, ws, by rw [upd_ne (ne_of_none z3 hp)]; exact z3, z4⟩
    | fz d => exact q
section
variable {X : Cx} {W : WX} {e : Expr} {pos pos' : Pos} {x : Str} {i : Nat} {fm : Ms → R Ob} {f g : Ms → R Dt}
theorem ds_setM (hN : X.N.Nodup) (hi : X.N[i]? = some x) (hx : Loc X.env.scope x) (he : PE X e (tM X.K W fm)) (hs : swapsWith e (some (.Name x pos')) pos.line X.env = pure false := by rfl) (hf : X.fn x = true ∨ X.env.scope.names.lookup x = some .local := by first | exact .inl rfl | exact .inr rfl | assumption) :
    PS X (.Assign [.Name x pos'] e pos) (sD X.K W (asgM i fm)) := monoS (ps_set hN hi hx he hs hf) fun D σ H q => asgM_run q
def dct0 : Ms → R Ob := fun S => .ok (.dc []) S
theorem dm_new : PE X (.Dict [] [] pos) (tM X.K W dct0) := monoE pe_dnewT fun σ H Q q => by
  obtain ⟨B, F, as, S, r, o⟩ := q
  intro p hp
  obtain ⟨f1, f2, f3⟩ := r.fresh hp
  exact o F _ as Ext.refl (r.grow hp _) p _ f1 f2 f3 upd_same (.dc .nil)
def tDispT (tk tv : TE) : TE := fun σ H Q => ∀ p, H p = none → tk σ (upd H p (.dT [])) fun x H1 => tv σ H1 fun y H2 => H2 p = some (.dT []) ∧ ∃ b k, x = .ref b ∧ H2 b = some (.tup (k.map kV)) ∧ Q (.ref p) (upd H2 p (.dT [(k, y)]))
theorem pe_dispT {k v : Expr} {tk tv : TE} (hu : X.A.units < cLine) (hk : PE X k tk) (hv : PE X v tv) : PE X (.Dict [some k] [v] pos) (tDispT tk tv) := by
  refine ⟨fun pins s σ H Q I q => ?_⟩
  have hn := I.hok.fresh (Nat.le_refl s.heap.objs.size)
  have I1 := I.laid (a := s.heap.objs.size) (o := .dT []) (h' := s.heap.push { cls := .type "dict", data := .dict #[] }) (t' := s.toks) (fun _ _ q => Heap.get?_push_of_some _ q) (Nat.le_refl _) (dt_empty s.heap I.big)
  have hP : PPs X pos [some k] [v] [(tk, tv)] := pps_cons hk hv pps_nil
  have hn1 := pairTrees_length [some k] [v] X.env pos rfl rfl
  rw [arm_eval_Dict, zip_pairTrees [some k] [v] X.env pos rfl rfl, dictDisplay_pairs _ (by intro he; rw [he] at hn1; cases hn1) (by rw [hn1]; show 1 < 17; decide)]
  refine wpAny_bind (wpAny_standAt (wpAny_bind (wpAny_subDictH (knd := tupleKind (mixKind X.prog X.w)) (Q := fun d s' => wpAny (model X.prog X.w) X.A (pure (Value.ref d)) (EP X pins σ Q) X.xe s') hu (by rw [hn1]; show 1 ≤ 15; decide) ?_)))
  refine thn (hP.run pins _ σ _ (fun ps H2 => match ps with
    | [(x, y)] => H2 s.heap.objs.size = some (.dT []) ∧ ∃ b k, x = .ref b ∧ H2 b = some (.tup (k.map kV)) ∧ Q (.ref s.heap.objs.size) (upd H2 s.heap.objs.size (.dT [(k, y)]))
    | _ => False) I1 (q _ hn)) fun ws s2 ⟨ps, H2, I2, rel, hq⟩ => ?_
  split at hq
  · rename_i x y
    obtain ⟨e2, b, kk, e3, e4, q2⟩ := hq
    subst e3
    cases rel with
    | @cons _ wv _ _ h t =>
      cases t
      obtain ⟨w1, w2⟩ := wv
      obtain ⟨h1, h2⟩ := h
      have h1 : w1 = Value.ref b := h1
      subst h1
      obtain ⟨z, hd, xs, rel0, dd⟩ := dt_of I2.hok e2
      cases rel0
      refine ⟨[(kk, b, w2)], ⟨rfl, rfl, key_of I2.hok e4, trivial⟩, dd, fun h' tkk dd' hs => wpAny_pure ?_⟩
      obtain ⟨qo, es, ep, hq, h2', h3, h4, _, h5⟩ := dd'
      refine ⟨.ref s.heap.objs.size, _, d_write (ob := .dT [(kk, y)]) (t' := tkk) I2 (by rw [e2]; exact True.intro) hs ⟨qo, hq⟩ ⟨by show 1 ≤ sizeLine; rw [sizeLine_eq]; decide, hd, [(kk, b, w2)], .cons ⟨rfl, ?_, h2⟩ .nil, qo, es, ep, hq, h2', h3, h4, h5⟩, rfl, q2⟩
      rw [upd_ne (ne_of e4 e2 (fun z => nomatch z))]
      exact e4
  · exact hq.elim
def dcAt (S : Ms) (i : Nat) : Option (Nat × List (List Int × Dt)) := match S.sl[i]? with | some (.mu k) => (match S.mo[k]? with | some (.ob (.dc kvs)) => some (k, kvs) | _ => none) | _ => none
theorem dcAt_rp {K : PySem.W.Frag} {B F H : Hp} {as : List Addr} {σ : L2.St} {S : Ms} (r : Rep K B F H as σ S) {k : Nat} {kvs : List (List Int × Dt)} (h : dcAt S i = some (k, kvs)) :
    ∃ p ws, σ[i]? = some (some (.ref p)) ∧ S.mo[k]? = some (.ob (.dc kvs)) ∧ as[k]? = some p ∧ B p = none ∧ F p = none ∧ H p = some (.dT ws) ∧ Paired (fun p q => p.1 = q.1.map Sum.inl ∧ Rp K F p.2 q.2) ws kvs := by
  unfold dcAt at h
  cases hs : S.sl[i]? with
  | none => rw [hs] at h; cases h
  | some s =>
    rw [hs] at h
    cases s with
    | mu k' =>
      dsimp only at h
      cases hm : S.mo[k']? with
      | none => rw [hm] at h; cases h
      | some mm =>
        rw [hm] at h
        cases mm with
        | ob c =>
          cases c with
          | ls xs => cases h
          | io _ _ _ => cases h
          | dm _ => cases h
          | lm _ => cases h
          | dc kvs =>
            cases h
            obtain ⟨ov, hv, z⟩ := pairedGet r.sl hs
            cases ov with
            | none => exact z.elim
            | some v =>
              obtain ⟨p, hp, rfl⟩ := z
              obtain ⟨p', hp', q1, q2, ob, q3, q4⟩ := pairedGet r.mo hm
              rw [hp] at hp'
              cases hp'
              cases q4
              exact ⟨p, _, hv, hm, hp, q1, q2, q3, by assumption⟩
        | fz d => cases h
    | _ => cases h
def putD (kvs : List (List Int × Dt)) (k : List Int) (d : Dt) : List (List Int × Dt) :=
  if (kvs.any fun kv => decide (kv.1 = k)) = true then kvs.map (fun kv => if kv.1 = k then (kv.1, d) else kv) else kvs ++ [(k, d)]
theorem inl_inj {a b : List Int} (h : a.map (Sum.inl : Int → Key) = b.map Sum.inl) : a = b :=
  List.map_inj_right (fun _ _ e => Sum.inl.inj e) |>.mp h
theorem put_rp {K : PySem.W.Frag} {F : Hp} {k : List Int} {v : V} {d : Dt} (hv : Rp K F v d) {ws : List (List Key × V)} {kvs : List (List Int × Dt)} (h : Paired (fun p q => p.1 = q.1.map Sum.inl ∧ Rp K F p.2 q.2) ws kvs) :
    Paired (fun p q => p.1 = q.1.map Sum.inl ∧ Rp K F p.2 q.2) (putK ws (k.map Sum.inl) v) (putD kvs k d) := by
  have ha : (ws.any fun kv => decide (kv.1 = k.map Sum.inl)) = kvs.any fun kv => decide (kv.1 = k) := by
    induction h with
    | nil => rfl
    | @cons p q ps qs hp _ ih =>
      rw [List.any_cons, List.any_cons, ih, hp.1]
      congr 1
      by_cases e : q.1 = k
      · simp [e]
      · have e2 : ¬ q.1.map (Sum.inl : Int → Key) = k.map Sum.inl := fun z => e (inl_inj z)
        simp [e, e2]
  unfold putK putD
  rw [ha]
  by_cases q : (kvs.any fun kv => decide (kv.1 = k)) = true
  · rw [if_pos q, if_pos q]
    clear q ha
    induction h with
    | nil => exact .nil
    | @cons p q ps qs hp _ ih =>
      rw [List.map_cons, List.map_cons]
      refine .cons ?_ ih
      by_cases e : q.1 = k
      · have e2 : p.1 = k.map Sum.inl := by rw [hp.1, e]
        rw [if_pos e2, if_pos e]
        exact ⟨hp.1, hv⟩
      · have e2 : ¬ p.1 = k.map Sum.inl := fun z => e (inl_inj (hp.1.symm.trans z))
        rw [if_neg e2, if_neg e]
        exact hp
  · rw [if_neg q, if_neg q]
    exact h.snoc ⟨rfl, hv⟩
def setD (i : Nat) (f g : Ms → R Dt) : Ms → O := fun S => (f S).stmt fun e S1 => match dcAt S1 i with
  | none => .no
  | some _ => (g S1).stmt fun d S2 => match dcAt S2 i, wordOf d with
    | some (k, kvs), some ns => if kvs.length < 100000 then .nx { S2 with mo := S2.mo.set k (.ob (.dc (putD kvs ns e))) } else .no
    | _, _ => .no
theorem ds_setD {o ix : Expr} {ps : Pos} (hu : X.A.units + 1 < cLine) (ho : PE X o (tVar i)) (hx : PE X ix (tD X.K W g)) (he : PE X e (tD X.K W f)) (hs : swapsWith e (some (.Subscript o ix ps)) pos.line X.env = pure false := by rfl) :
    PS X (.Assign [.Subscript o ix ps] e pos) (sD X.K W (setD i f g)) := monoS (ps_dput hu ho hx he hs) fun D σ H q => by
  obtain ⟨B, F, as, S, r, o⟩ := q
  refine ⟨B, F, as, S, r, Out.mono (OutS.stmt o) fun e F1 H1 as1 S1 ⟨r1, e1, o1⟩ v hv => ?_⟩
  cases hm0 : dcAt S1 i with
  | none => rw [hm0] at o1; exact o1.elim
  | some km =>
    rw [hm0] at o1
    obtain ⟨k0, xs0⟩ := km
    obtain ⟨p, vs0, hp, hmo0, hp0, _, _, hH0, hv0⟩ := dcAt_rp r1 hm0
    refine ⟨_, hp, ?_⟩
    refine ⟨B, F1, as1, S1, r1, Out.mono (OutS.stmt o1) fun d F2 H2 as2 S2 ⟨r2, e2, o2⟩ w hw => ?_⟩
    cases hm : dcAt S2 i with
    | none => rw [hm] at o2; exact o2.elim
    | some km =>
      rw [hm] at o2
      obtain ⟨k, kvs⟩ := km
      obtain ⟨p', ws, hp', hmo, ha, _, _, hH, hvs⟩ := dcAt_rp r2 hm
      rw [hp] at hp'
      cases hp'
      cases hwo : wordOf d with
      | none => rw [hwo] at o2; exact o2.elim
      | some ns =>
        rw [hwo] at o2
        dsimp only at o2
        split at o2
        · rename_i hl
          have := wordOf_eq hwo
          subst this
          obtain ⟨b, rfl, hb⟩ := hw.wd
          refine ⟨p, _, rfl, DPut.t (k := ns.map Sum.inl) hH (by rw [kv_ints]; exact r2.fh _ _ hb) (Evl.sz_lt (by rw [Paired.length hvs]; exact hl)), ?_⟩
          exact o2 σ F2 _ as2 Ext.refl (r2.put hmo ha (.dc (put_rp (hv.up e2.1) hvs)))
        · exact o2.elim
theorem knowAll {K : PySem.W.Frag} {B F H : Hp} {as : List Addr} {σ : L2.St} {S : Ms} (r : Rep K B F H as σ S) : ∀ {kvs : List (List Int × Dt)} {bs : List Addr}, Paired (fun b (q : List Int × Dt) => H b = some (.tup (q.1.map V.int))) bs kvs →
    ∃ F', Ext F F' as as ∧ Rep K B F' H as σ S ∧ RpA K F' (bs.map V.ref) (kvs.map fun q => Wd q.1)
  | _, _, .nil => ⟨F, Ext.refl, r, .nil⟩
  | _, _, .cons (a := b) (b := q) h t => by
    obtain ⟨F1, e1, r1, h1⟩ := knowAll r t
    cases hf : F1 b with
    | some o =>
      have := r1.fh _ _ hf
      rw [h] at this
      cases this
      exact ⟨F1, e1, r1, .cons (wd_rp hf) h1⟩
    | none =>
      obtain ⟨e2, r2⟩ := r1.know h hf
      exact ⟨_, e1.trans e2, r2, .cons (wd_rp upd_same) (h1.up e2.1)⟩
end
end Lq

namespace HT
open PySem PySem.Spec PyProof.Rows L2
section
variable {prog : Program} {w : World} {A : Around} {E : Value → Shared → Prop} {s : Shared}
end
end HT
namespace Lq
open PySem PySem.Spec PyProof.Rows L2
open Evl (Ex)
section
variable {X : Cx} {W : WX} {e : Expr} {pos pos' : Pos} {x : Str} {i : Nat} {f g : Ms → R Dt}
def revO : Dt → Option Dt | .tup xs => some (.tup xs.reverse) | _ => none
end

theorem dataLe_wd : PySem.W.dataLe false (fun b : List Int => PyData.tuple (b.map .int)) = fun p q => decide (p ≤ q) := by
  funext p q
  show (!PySem.W.dataLt (.tuple (q.map .int)) (.tuple (p.map .int))) = _
  rw [PySem.W.dataLt_tuple]
  show (!PySem.W.rowLt (q.map .int) (p.map .int)) = _
  rw [PySem.W.dataLt_ints]
  by_cases h : q < p
  · have h' : ¬ p ≤ q := fun r => List.not_lt.mpr r h
    simp [h, h']
  · have h' : p ≤ q := List.not_lt.mp h
    simp [h, h']
def sortW (ws : List (List Int)) : List (List Int) := ws.mergeSort fun a b => decide (a ≤ b)
def rSortW (K : PySem.W.Frag) : List V → Hp → VK → Prop := fun vs H Q => ∃ (a : Addr) (bs : List Addr) (ws : List (List Int)), vs = [V.ref a] ∧ SqL K H a (bs.map V.ref) ∧ Paired (fun b (w : List Int) => H b = some (.tup (w.map V.int))) bs ws ∧ (ws.length ≤ 1 ∨ ∃ n, 1 ≤ n ∧ ∀ w ∈ ws, w.length = n) ∧
  ∀ (cs : List Addr) (p : Addr), Paired (fun b (w : List Int) => H b = some (.tup (w.map V.int))) cs (sortW ws) → H p = none → Q (.ref p) (upd H p (.lst (cs.map V.ref)))
section
variable {X : Cx} {W : WX}
theorem isT_reads {h : Heap} {b : Addr} {us : List Value} {w : List Int} (hi : IntsAre us w) : ∃ as, ReadsAll h us (w.map PyData.int) as := by
  induction hi with
  | nil => exact ⟨_, .nil⟩
  | @cons i t us ns _ ih =>
    obtain ⟨as, q⟩ := ih
    exact ⟨_, .cons (.int i t) q⟩
theorem alike_ints : ∀ a b : List Int, a.length = b.length → PySem.W.alikeAll (a.map .int) (b.map .int) = true
  | [], [], _ => by simp [PySem.W.alikeAll]
  | [], _ :: _, h => by simp at h
  | _ :: _, [], h => by simp at h
  | x :: a, y :: b, h => by
    have := alike_ints a b (by simpa using h)
    simp [PySem.W.alikeAll, PySem.W.alike, this]
theorem refs_vals : ∀ {bs : List Addr} {us : List Value}, Vals (bs.map V.ref) us → us = bs.map Value.ref
  | [], _, .nil => rfl
  | b :: bs, _, .cons h t => by
    rw [refs_vals t, List.map_cons]
    congr 1
theorem depth_ints : ∀ w : List Int, PyData.depthAll (w.map .int) ≤ 1
  | [] => by simp [PyData.depthAll]
  | x :: w => by
    have := depth_ints w
    simp [PyData.depthAll, PyData.depth]
    omega
theorem each_of {R : Value → List Int → Prop} : ∀ {bs : List Addr} {ws : List (List Int)}, Paired (fun b w => R (.ref b) w) bs ws → PySem.W.EachIs R (bs.map Value.ref) ws
  | _, _, .nil => .nil
  | _, _, .cons h t => .cons h (each_of t)
theorem of_each {H : Hp} : ∀ {us : List Value} {ws : List (List Int)}, PySem.W.EachIs (fun (u : Value) (w : List Int) => ∃ b, u = .ref b ∧ H b = some (.tup (w.map V.int))) us ws →
    ∃ cs : List Addr, us = cs.map Value.ref ∧ Paired (fun b (w : List Int) => H b = some (.tup (w.map V.int))) cs ws
  | _, _, .nil => ⟨[], rfl, .nil⟩
  | _, _, .cons h t => by
    obtain ⟨cs, e1, e2⟩ := of_each t
    obtain ⟨b, rfl, hb⟩ := h
    exact ⟨b :: cs, by rw [e1]; rfl, .cons hb e2⟩
theorem cr_sortW (hu : X.A.units + 64 < cLine) : CallR X (.builtin "sorted") (rSortW X.K) := by
  intro pins s σ H vs us Q I r h
  obtain ⟨a, bs, ws, rfl, hs, hp, hlen, q⟩ := h
  obtain ⟨its, rv, hl, hz⟩ := I.list hs
  obtain ⟨u, rfl, ru⟩ := vals1 r
  obtain rfl : u = Value.ref a := ru
  have hits := refs_vals rv
  subst hits
  have hbl : (bs.map Value.ref).length = ws.length := by rw [List.length_map]; exact Paired.length hp
  have hbz : bs.length ≤ sizeLine := by
    rw [List.length_map] at hz
    exact hz
  have fin : ∀ (h' : Heap) (d : Addr) (cs : List Addr), (∀ b o, s.heap.get? b = some o → h'.get? b = some o) → s.heap.objs.size ≤ d → (∃ n, h'.get? d = some (PyProof.Rows.seqObj "list" (cs.map Value.ref).toArray n)) → cs.length = bs.length → Paired (fun b (w : List Int) => H b = some (.tup (w.map V.int))) cs (sortW ws) →
      EP X pins σ Q (.ref d) { s with heap := h' } := fun h' d cs kp hd hn hcl hcs => by
    obtain ⟨n, hn⟩ := hn
    refine ⟨.ref d, upd H d (.lst (cs.map V.ref)), I.laid (t' := s.toks) kp hd ⟨by rw [List.length_map, hcl]; exact hbz, cs.map Value.ref, n, vals_refs cs, hn⟩, rfl, q cs d hcs (I.hok.fresh hd)⟩
  rcases hlen with hlen | ⟨n, hn1, hn⟩
  · refine SrtO.sorted_ord (ltv := fun _ _ => false) ⟨fun _ _ _ => rfl, fun _ _ _ _ _ => rfl⟩ hl.isList (by rw [List.length_map]; exact hbz) (fun h2 => by omega) fun out h1 h2 => ?_
    have e : out = bs.map Value.ref := by
      have hperm := h2.perm
      match hb : bs.map Value.ref, hperm with
      | [], hperm => exact List.Perm.eq_nil hperm
      | [x], hperm => exact List.perm_singleton.mp hperm
      | x :: y :: r, _ => rw [hb] at hbl; simp at hbl; omega
    subst e
    have e2 : sortW ws = ws := by
      match ws, hlen with
      | [], _ => simp [sortW]
      | [w], _ => simp [sortW]
    refine fin _ _ bs (fun b o e => PyProof.Rows.sortedAll_old e) (Nat.le_succ _) (PyProof.Rows.sortedAll_at s.heap _ _) rfl ?_
    rw [e2]; exact hp
  · have hR : PySem.W.EachIs (fun (u : Value) (w : List Int) => ∃ b, u = .ref b ∧ H b = some (.tup (w.map V.int))) (bs.map Value.ref) ws := each_of (hp.mono fun b w h => ⟨b, rfl, h⟩)
    have hReads : PySem.W.EachIs (fun (v : Value) (w : List Int) => ∃ as, Reads s.heap v (.tuple (w.map PyData.int)) as) (bs.map Value.ref) ws := each_of (hp.mono fun b w h => by
      obtain ⟨_, its2, r2, o, ho, hc, m, hd⟩ := I.hok _ _ h
      obtain ⟨as, ra⟩ := isT_reads (h := s.heap) (b := b) (intsAre_of r2)
      exact ⟨_, Reads.tuple ho hc hd ra⟩)
    refine PySem.W.sorted_data (enc := fun w : List Int => PyData.tuple (w.map .int)) hl.isList hR hReads (fun d hd d' hd' => ?_) (.inl fun d hd => ?_) (by rw [← hbl]; rw [List.length_map]; exact hbz) (fun w hw => ?_) fun out ho he => ?_
    · obtain ⟨w, hw, rfl⟩ := List.mem_map.mp hd
      obtain ⟨w', hw', rfl⟩ := List.mem_map.mp hd'
      show PySem.W.alikeAll _ _ = true
      exact alike_ints _ _ (by rw [hn w hw, hn w' hw'])
    · obtain ⟨w, hw, rfl⟩ := List.mem_map.mp hd
      have := hn w hw
      cases w with
      | nil => simp at this; omega
      | cons x r => exact ⟨_, _, rfl⟩
    · have h1 := depth_ints w
      simp only [PyData.depth]
      omega
    · rw [dataLe_wd] at he
      obtain ⟨cs, rfl, hcs⟩ := of_each he
      refine fin _ _ cs (fun b o e => PyProof.Rows.sortedAll_old e) (Nat.le_succ _) (PyProof.Rows.sortedAll_at s.heap _ _) ?_ hcs
      rw [List.length_map] at ho
      rw [ho, ← hbl, List.length_map]
def wordsOf : List Dt → Option (List (List Int))
  | [] => some []
  | d :: ds => match wordOf d, wordsOf ds with | some w, some ws => some (w :: ws) | _, _ => none
theorem wordsOf_eq : ∀ {ds : List Dt} {ws : List (List Int)}, wordsOf ds = some ws → ds = ws.map Wd
  | [], ws, h => by simp [wordsOf] at h; subst h; rfl
  | d :: ds, ws, h => by
    unfold wordsOf at h
    cases h1 : wordOf d with
    | none => rw [h1] at h; cases h
    | some w =>
      rw [h1] at h
      cases h2 : wordsOf ds with
      | none => rw [h2] at h; cases h
      | some r =>
        rw [h2] at h
        cases h
        rw [wordOf_eq h1, wordsOf_eq h2]; rfl
@[simp] theorem wordsOf_map : ∀ ws : List (List Int), wordsOf (ws.map Wd) = some ws
  | [] => rfl
  | w :: ws => by
    have := wordsOf_map ws
    simp [wordsOf, this]
theorem refs_of {K : PySem.W.Frag} {F : Hp} : ∀ {vs : List V} {ws : List (List Int)}, RpA K F vs (ws.map Wd) → ∃ bs : List Addr, vs = bs.map V.ref ∧ Paired (fun b (w : List Int) => F b = some (.tup (w.map V.int))) bs ws
  | _, [], .nil => ⟨[], rfl, .nil⟩
  | _, w :: ws, .cons h t => by
    obtain ⟨bs, e1, e2⟩ := refs_of t
    obtain ⟨b, rfl, hb⟩ := h.wd
    exact ⟨b :: bs, by rw [e1]; rfl, .cons hb e2⟩
end
end Lq

namespace Lq
open PySem PySem.Spec PyProof.Rows L2
class En (α : Type) [DecidableEq α] where
  en : α → Dt
  eqv : ∀ a b, PyData.eqv (toPy (en a)) (toPy (en b)) = decide (a = b)
  pl : ∀ a, plain (en a) = true
  lay : ∀ a, (toPy (en a)).canLay0 = true
  dep : Nat
  depth : ∀ a, (toPy (en a)).depth ≤ dep
open En (en)
section
variable {α β : Type} [DecidableEq α] [En α] [DecidableEq β] [En β]
theorem bdec {α : Type} [BEq α] [LawfulBEq α] [DecidableEq α] (a b : α) : (a == b) = decide (a = b) := by
  rw [Bool.eq_iff_iff, beq_iff_eq, decide_eq_true_eq]
instance : En Int where
  en := .int
  eqv a b := by simp only [toPy, PyData.eqv]; exact bdec a b
  pl _ := by simp [plain]
  lay _ := by simp [toPy, PyData.canLay0]
  dep := 0
  depth _ := by simp [toPy, PyData.depth]
instance : En Bool where
  en := .bl
  eqv a b := by simp only [toPy, PyData.eqv]; exact bdec a b
  pl _ := by simp [plain]
  lay _ := by simp [toPy, PyData.canLay0]
  dep := 0
  depth _ := by simp [toPy, PyData.depth]
theorem plains_all : ∀ xs : List α, plains (xs.map en) = true
  | [] => by simp [plains]
  | x :: xs => by rw [List.map_cons, plains, En.pl x, plains_all xs]; rfl
theorem lays_all : ∀ xs : List α, PyData.canLayAll0 (toPys (xs.map en)) = true
  | [] => by simp [toPys, PyData.canLayAll0]
  | x :: xs => by rw [List.map_cons, toPys, PyData.canLayAll0, En.lay x, lays_all xs]; rfl
theorem deps_all : ∀ xs : List α, PyData.depthAll (toPys (xs.map en)) ≤ En.dep α
  | [] => by simp [toPys, PyData.depthAll]
  | x :: xs => by
    rw [List.map_cons, toPys, PyData.depthAll]
    exact Nat.max_le.mpr ⟨En.depth x, deps_all xs⟩
theorem eqvs_all : ∀ xs ys : List α, PyData.eqvAll (toPys (xs.map en)) (toPys (ys.map en)) = decide (xs = ys)
  | [], [] => by simp [toPys, PyData.eqvAll]
  | [], _ :: _ => by simp [toPys, PyData.eqvAll]
  | _ :: _, [] => by simp [toPys, PyData.eqvAll]
  | x :: xs, y :: ys => by
    rw [List.map_cons, List.map_cons, toPys, toPys, PyData.eqvAll, En.eqv x y, eqvs_all xs ys, ← Bool.decide_and]
    exact decide_eq_decide.mpr (by rw [List.cons.injEq])
instance : En (List α) where
  en xs := .tup (xs.map en)
  eqv a b := by rw [toPy, toPy, PyData.eqv]; exact eqvs_all a b
  pl a := by rw [plain]; exact plains_all a
  lay a := by rw [toPy, PyData.canLay0]; exact lays_all a
  dep := En.dep α + 1
  depth a := by
    rw [toPy, PyData.depth]
    have := deps_all a
    omega
structure Ls (α : Type) where
  l : List α
  deriving DecidableEq
instance : En (Ls α) where
  en xs := .lst (xs.l.map en)
  eqv a b := by
    rw [toPy, toPy, PyData.eqv, eqvs_all]
    exact decide_eq_decide.mpr ⟨fun h => by cases a; cases b; simpa using h, fun h => by rw [h]⟩
  pl a := by rw [plain]; exact plains_all a.l
  lay a := by rw [toPy, PyData.canLay0]; exact lays_all a.l
  dep := En.dep α + 1
  depth a := by
    rw [toPy, PyData.depth]
    have := deps_all a.l
    omega
instance : En (α × β) where
  en p := .tup [en p.1, en p.2]
  eqv a b := by
    rw [toPy, toPy, PyData.eqv]
    simp only [toPys, PyData.eqvAll, En.eqv, Bool.and_true]
    rw [← Bool.decide_and]
    exact decide_eq_decide.mpr (by rw [Prod.ext_iff])
  pl p := by simp [plain, plains, En.pl]
  lay p := by simp [toPy, toPys, PyData.canLay0, PyData.canLayAll0, En.lay]
  dep := max (En.dep α) (En.dep β) + 1
  depth p := by
    have h1 := En.depth p.1
    have h2 := En.depth p.2
    simp only [toPy, toPys, PyData.depth, PyData.depthAll]
    omega
theorem shp_en (h : En.dep α ≤ 64 := by decide) (a : α) : shp (en a) = true := by
  have h1 := En.depth a
  unfold shp SeqAt.shaped
  rw [En.pl, En.lay]
  simp only [Bool.true_and, decide_eq_true_eq]
  omega
theorem eqO_en (a b : α) (h : En.dep α ≤ 64 := by decide) : eqO (en a) (en b) = some (.bl (decide (a = b))) := by
  unfold eqO
  rw [shp_en h a, shp_en h b, En.eqv]
  rfl
theorem neO_en (a b : α) (h : En.dep α ≤ 64 := by decide) : neO (en a) (en b) = some (.bl (!decide (a = b))) := by
  unfold neO
  rw [shp_en h a, shp_en h b, En.eqv]
  rfl
end
@[simp] theorem eqO_int (a b : Int) : eqO (.int a) (.int b) = some (.bl (decide (a = b))) := eqO_en a b
@[simp] theorem neO_int (a b : Int) : neO (.int a) (.int b) = some (.bl (!decide (a = b))) := neO_en a b
theorem nrfl {α : Type} {a b : α} (h : a = b) : a = b := h
@[simp] theorem cE_run (d : Dt) (S : Ms) : cE d S = .ok d S := nrfl rfl
@[simp] theorem varE_im {i : Nat} {S : Ms} {d : Dt} (h : S.sl[i]? = some (.im d)) : varE i S = .ok d S := by unfold varE; rw [h]
@[simp] theorem varE_mu {i k : Nat} {S : Ms} {xs : List Dt} (h : S.sl[i]? = some (.mu k)) (h2 : S.mo[k]? = some (.ob (.ls xs))) : varE i S = .ok (.lst xs) { S with mo := S.mo.set k (.fz (.lst xs)) } := by unfold varE; rw [h]; dsimp only; rw [h2]
@[simp] theorem frz_run' (f : Ms → R (List Dt)) (S : Ms) : frz f S = (f S).bind fun ds S1 => .ok (.lst ds) S1 := nrfl rfl
@[simp] theorem op2_run (f g : Ms → R Dt) (h : Dt → Dt → Option Dt) (S : Ms) : op2 f g h S = (f S).bind fun d S1 => (g S1).bind fun e S2 => R.of (h d e) S2 := nrfl rfl
@[simp] theorem opN_run (f g : Ms → R Dt) (h : Dt → Dt → Option (List Dt)) (S : Ms) : opN f g h S = (f S).bind fun d S1 => (g S1).bind fun e S2 => R.of (h d e) S2 := nrfl rfl
@[simp] theorem op1_run (f : Ms → R Dt) (h : Dt → Option Dt) (S : Ms) : op1 f h S = (f S).bind fun d S1 => R.of (h d) S1 := nrfl rfl
@[simp] theorem iOp_ii (g : Int → Int → Int) (i j : Int) : iOp g (.int i) (.int j) = some (.int (g i j)) := nrfl rfl
@[simp] theorem iOpC_ii (C : Int → Int → Prop) [∀ i j, Decidable (C i j)] (g : Int → Int → Int) (i j : Int) : iOpC C g (.int i) (.int j) = if C i j then some (.int (g i j)) else none := nrfl rfl
@[simp] theorem iCmp_ii (g : Int → Int → Bool) (i j : Int) : iCmp g (.int i) (.int j) = some (.bl (g i j)) := nrfl rfl
@[simp] theorem negO_i (i : Int) : negO (.int i) = some (.int (-i)) := nrfl rfl
@[simp] theorem ixO_lst (xs : List Dt) (i : Int) : ixO (.lst xs) (.int i) = atI xs i := nrfl rfl
@[simp] theorem ixO_tup (xs : List Dt) (i : Int) : ixO (.tup xs) (.int i) = atI xs i := nrfl rfl
@[simp] theorem aNil_run (S : Ms) : aNil S = .ok [] S := nrfl rfl
@[simp] theorem aCons_run (f : Ms → R Dt) (fs : Ms → R (List Dt)) (S : Ms) : aCons f fs S = (f S).bind fun d S1 => (fs S1).bind fun ds S2 => .ok (d :: ds) S2 := nrfl rfl
@[simp] theorem tupE_run (fs : Ms → R (List Dt)) (S : Ms) : tupE fs S = (fs S).bind fun ds S1 => if ds.length ≤ 100000 then .ok (.tup ds) S1 else .no := nrfl rfl
@[simp] theorem lstE_run (fs : Ms → R (List Dt)) (S : Ms) : lstE fs S = (fs S).bind fun ds S1 => if ds.length ≤ 100000 then .ok ds S1 else .no := nrfl rfl
@[simp] theorem calE_run (fs : Ms → R (List Dt)) (h : List Dt → Option Dt) (S : Ms) : calE fs h S = (fs S).bind fun ds S1 => R.of (h ds) S1 := nrfl rfl
@[simp] theorem calN_run (fs : Ms → R (List Dt)) (h : List Dt → Option (List Dt)) (S : Ms) : calN fs h S = (fs S).bind fun ds S1 => R.of (h ds) S1 := nrfl rfl
@[simp] theorem tst_run' (f : Ms → R Dt) (S : Ms) : tst f S = (f S).bind fun d S1 => match d with | .bl b => .ok b S1 | _ => .no := nrfl rfl
@[simp] theorem notT_run (p : Ms → R Bool) (S : Ms) : notT p S = (p S).bind fun b S1 => .ok (!b) S1 := nrfl rfl
@[simp] theorem andT_run (p q : Ms → R Bool) (S : Ms) : andT p q S = (p S).bind fun b S1 => if b then q S1 else .ok false S1 := nrfl rfl
@[simp] theorem orT_run (p q : Ms → R Bool) (S : Ms) : orT p q S = (p S).bind fun b S1 => if b then .ok true S1 else q S1 := nrfl rfl
@[simp] theorem truT_run (f : Ms → R Dt) (S : Ms) : truT f S = (f S).bind fun d S1 => R.of (truO d) S1 := nrfl rfl
@[simp] theorem andV_run (f g : Ms → R Dt) (S : Ms) : andV f g S = (f S).bind fun d S1 => match d with | .bl true => g S1 | .bl false => .ok (.bl false) S1 | _ => .no := nrfl rfl
@[simp] theorem orV_run (f g : Ms → R Dt) (S : Ms) : orV f g S = (f S).bind fun d S1 => match d with | .bl false => g S1 | .bl true => .ok (.bl true) S1 | _ => .no := nrfl rfl
@[simp] theorem yesT_run (S : Ms) : yesT S = .ok true S := nrfl rfl
@[simp] theorem itS_run (f : Ms → R Dt) (S : Ms) : itS f S = (f S).bind fun d S1 => R.of (seqOf d) S1 := nrfl rfl
@[simp] theorem seqOf_lst (xs : List Dt) : seqOf (.lst xs) = some xs := nrfl rfl
@[simp] theorem seqOf_tup (xs : List Dt) : seqOf (.tup xs) = some xs := nrfl rfl
theorem itR1_run {fs : Ms → R (List Dt)} {S S1 : Ms} {n : Nat} (h : fs S = .ok [.int (n : Int)] S1) (hn : n < 2 ^ 62) : itR1 fs S = .ok ((List.range n).map fun (i : Nat) => Dt.int (i : Int)) S1 := by
  unfold itR1
  rw [h, R.bind_ok]
  dsimp only
  rw [if_pos ⟨by omega, by omega⟩, Int.toNat_natCast]
@[simp] theorem itZ_run (fs : Ms → R (List Dt)) (S : Ms) : itZ fs S = (fs S).bind fun ds S1 => match ds with
  | [.lst xs, .lst ys] => .ok (zipD xs ys) S1
  | [.tup xs, .tup ys] => .ok (zipD xs ys) S1
  | _ => .no := nrfl rfl
@[simp] theorem lenO_lst (xs : List Dt) : lenO [.lst xs] = some (.int xs.length) := nrfl rfl
@[simp] theorem lenO_tup (xs : List Dt) : lenO [.tup xs] = some (.int xs.length) := nrfl rfl
@[simp] theorem intO_i (i : Int) : intO [.int i] = some (.int i) := nrfl rfl
@[simp] theorem intO_b (b : Bool) : intO [.bl b] = some (.int (if b then 1 else 0)) := nrfl rfl
@[simp] theorem absO_i (i : Int) : absO [.int i] = some (.int (if i < 0 then -i else i)) := nrfl rfl
@[simp] theorem tupO_lst (xs : List Dt) : tupO [.lst xs] = some (.tup xs) := nrfl rfl
@[simp] theorem tupO_tup (xs : List Dt) : tupO [.tup xs] = some (.tup xs) := nrfl rfl
@[simp] theorem lstO_lst (xs : List Dt) : lstO [.lst xs] = some xs := nrfl rfl
@[simp] theorem lstO_tup (xs : List Dt) : lstO [.tup xs] = some xs := nrfl rfl
@[simp] theorem revO_tup (xs : List Dt) : revO (.tup xs) = some (.tup xs.reverse) := nrfl rfl
@[simp] theorem seqS_run (m n : Ms → O) (S : Ms) : seqS m n S = (m S).seq n := nrfl rfl
@[simp] theorem nilS_run (S : Ms) : nilS S = .nx S := nrfl rfl
@[simp] theorem seq_nx (s : Ms) (f : Ms → O) : (O.nx s).seq f = f s := nrfl rfl
@[simp] theorem seq_rt (d : Dt) (s : Ms) (f : Ms → O) : (O.rt d s).seq f = .rt d s := nrfl rfl
@[simp] theorem seq_ct (s : Ms) (f : Ms → O) : (O.ct s).seq f = .ct s := nrfl rfl
@[simp] theorem seq_bk (s : Ms) (f : Ms → O) : (O.bk s).seq f = .bk s := nrfl rfl
@[simp] theorem asgS_run' (i : Nat) (f : Ms → R Dt) (S : Ms) : asgS i f S = (f S).stmt fun d S1 => .nx { S1 with sl := S1.sl.set i (.im d) } := nrfl rfl
@[simp] theorem asgN_run' (i : Nat) (f : Ms → R (List Dt)) (S : Ms) : asgN i f S = (f S).stmt fun ds S1 => .nx { sl := S1.sl.set i (.mu S1.mo.length), mo := S1.mo ++ [.ob (.ls ds)] } := nrfl rfl
@[simp] theorem asgM_run' (i : Nat) (f : Ms → R Ob) (S : Ms) : asgM i f S = (f S).stmt fun c S1 => .nx { sl := S1.sl.set i (.mu S1.mo.length), mo := S1.mo ++ [.ob c] } := nrfl rfl
@[simp] theorem asgT_run' (T : Tk) (f : Ms → R Dt) (S : Ms) : asgT T f S = (f S).stmt fun d S1 => match T.k d S1 with | some S2 => .nx S2 | none => .no := nrfl rfl
theorem moveS_im {i j : Nat} {S : Ms} {d : Dt} (h : S.sl[j]? = some (.im d)) : moveS i j S = .nx { S with sl := S.sl.set i (.im d) } := by unfold moveS; rw [h]
@[simp] theorem ifS_run (p : Ms → R Bool) (m n : Ms → O) (S : Ms) : ifS p m n S = (p S).stmt fun b S1 => if b then m S1 else n S1 := nrfl rfl
@[simp] theorem retS_run (f : Ms → R Dt) (S : Ms) : retS f S = (f S).stmt fun d S1 => .rt d S1 := nrfl rfl
@[simp] theorem dropS_run (f : Ms → R Dt) (S : Ms) : dropS f S = (f S).stmt fun _ S1 => .nx S1 := nrfl rfl
@[simp] theorem forS_run (it : Ms → R (List Dt)) (k : Dt → Ms → Option Ms) (b : Ms → O) (S : Ms) : forS it k b S = (it S).stmt fun ds S1 => forL k b ds S1 := nrfl rfl
@[simp] theorem kNm (i : Nat) (d : Dt) (S : Ms) : (Tk.nm i).k d S = some { S with sl := S.sl.set i (.im d) } := nrfl rfl
@[simp] theorem kTp (is : List Nat) (ds : List Dt) (S : Ms) : (Tk.tp is).k (.tup ds) S = kNames is ds S := nrfl rfl
theorem muAt_run {S : Ms} {i k : Nat} {xs : List Dt} (h : S.sl[i]? = some (.mu k)) (h2 : S.mo[k]? = some (.ob (.ls xs))) : muAt S i = some (k, xs) := by unfold muAt; rw [h]; dsimp only; rw [h2]
@[simp] theorem appS_run (i : Nat) (f : Ms → R Dt) (S : Ms) : appS i f S = match muAt S i with
  | none => .no
  | some _ => (f S).stmt fun d S1 => match muAt S1 i with | some (k, xs) => if xs.length < 100000 then .nx { S1 with mo := S1.mo.set k (.ob (.ls (xs ++ [d]))) } else .no | none => .no := nrfl rfl
@[simp] theorem funE_run (n : Nat) (fs : Ms → R (List Dt)) (f : List Dt → Fo) (S : Ms) : funE n fs f S = (fs S).bind fun ds S1 => if ds.length = n then (match f ds with | .ok d => .ok d S1 | .er e => .er e S1 | .no => .no) else .no := nrfl rfl
theorem atI_ofNat {α : Type} (xs : List α) (k : Nat) : atI xs (k : Int) = xs[k]? := by
  cases h : xs[k]? with
  | some v => exact atI_nat h
  | none =>
    have hk := List.getElem?_eq_none_iff.mp h
    unfold atI ixN
    rw [if_pos (by omega), if_neg (by omega)]; rfl

theorem lcF_flt {α : Type} {sl : List Sv} {k : Dt → Ms → Option Ms} {t : Ms → R Bool} {e : Ms → R Dt} {mo : List Mo} (enc : α → Dt) (b : α → Bool) (g : α → Dt) : ∀ (xs : List α) (acc : List Dt),
    (∀ x ∈ xs, ∃ S1 S2, k (enc x) { sl := sl, mo := mo } = some S1 ∧ t S1 = .ok (b x) S2 ∧ S2.mo = mo ∧ (b x = true → ∃ S3, e S2 = .ok (g x) S3 ∧ S3.mo = mo)) → acc.length + xs.length ≤ 100000 →
    lcF sl k t e (xs.map enc) mo acc = .ok (acc ++ (xs.filter b).map g) { sl := sl, mo := mo }
  | [], acc, _, _ => by simp [lcF]
  | x :: xs, acc, h, hl => by
    obtain ⟨S1, S2, h1, h2, h3, h4⟩ := h x List.mem_cons_self
    rw [List.map_cons]
    unfold lcF
    rw [h1]
    dsimp only
    rw [h2]
    have hl' : acc.length + (xs.length + 1) ≤ 100000 := hl
    cases hb : b x with
    | false =>
      dsimp only
      rw [h3, lcF_flt enc b g xs acc (fun y hy => h y (List.mem_cons_of_mem _ hy)) (by omega)]
      simp [hb]
    | true =>
      obtain ⟨S3, h5, h6⟩ := h4 hb
      dsimp only
      rw [h5]
      dsimp only
      rw [if_pos (by omega), h6, lcF_flt enc b g xs (acc ++ [g x]) (fun y hy => h y (List.mem_cons_of_mem _ hy)) (by simp; omega)]
      simp [hb]
theorem lcE_flt {α : Type} {it : Ms → R (List Dt)} {k : Dt → Ms → Option Ms} {t : Ms → R Bool} {e : Ms → R Dt} {own : List Nat} {S S1 : Ms} (enc : α → Dt) (b : α → Bool) (g : α → Dt) (xs : List α) (hi : it S = .ok (xs.map enc) S1)
    (h : ∀ x ∈ xs, ∃ T1 T2, k (enc x) { sl := wipeL S1.sl own, mo := S1.mo } = some T1 ∧ t T1 = .ok (b x) T2 ∧ T2.mo = S1.mo ∧ (b x = true → ∃ T3, e T2 = .ok (g x) T3 ∧ T3.mo = S1.mo)) (hl : xs.length ≤ 100000) :
    lcE it k t e own S = .ok ((xs.filter b).map g) S1 := by
  unfold lcE
  rw [hi]
  simp only [R.bind_ok]
  rw [lcF_flt enc b g xs [] h (by simpa using hl)]
  simp
theorem lcE_map {α : Type} {it : Ms → R (List Dt)} {k : Dt → Ms → Option Ms} {e : Ms → R Dt} {own : List Nat} {S S1 : Ms} (enc : α → Dt) (g : α → Dt) (xs : List α) (hi : it S = .ok (xs.map enc) S1)
    (h : ∀ x ∈ xs, ∃ T1, k (enc x) { sl := wipeL S1.sl own, mo := S1.mo } = some T1 ∧ ∃ T3, e T1 = .ok (g x) T3 ∧ T3.mo = S1.mo) (hk : ∀ d T T', k d T = some T' → T'.mo = T.mo) (hl : xs.length ≤ 100000) :
    lcE it k yesT e own S = .ok (xs.map g) S1 := by
  have := lcE_flt (t := yesT) enc (fun _ => true) g xs hi (fun x hx => by
    obtain ⟨T1, h1, T3, h2, h3⟩ := h x hx
    exact ⟨T1, T1, h1, rfl, by rw [hk _ _ _ h1], fun _ => ⟨T3, h2, h3⟩⟩) hl
  rw [this]
  congr 2
  simp
theorem kNames_mo : ∀ {is : List Nat} {ds : List Dt} {S S' : Ms}, kNames is ds S = some S' → S'.mo = S.mo
  | [], [], _, _, h => by cases h; rfl
  | [], _ :: _, _, _, h => by cases h
  | _ :: _, [], _, _, h => by cases h
  | i :: is, d :: ds, S, S', h => by
    have := kNames_mo (is := is) (ds := ds) (S := { S with sl := S.sl.set i (.im d) }) h
    exact this
theorem Tk.mo {T : Tk} {d : Dt} {S S' : Ms} (h : T.k d S = some S') : S'.mo = S.mo := by
  cases T with
  | nm i => cases h; rfl
  | tp is =>
    cases d with
    | tup ds => exact kNames_mo h
    | _ => cases h
theorem forL_inv {k : Dt → Ms → Option Ms} {body : Ms → O} : ∀ (items : List Dt) (I : Nat → Ms → Prop) (S : Ms), I 0 S → (∀ i d S, items[i]? = some d → I i S → ∃ S1 S2, k d S = some S1 ∧ (body S1 = .nx S2 ∨ body S1 = .ct S2) ∧ I (i + 1) S2) → ∃ S', forL k body items S = .nx S' ∧ I items.length S'
  | [], I, S, h0, _ => ⟨S, rfl, h0⟩
  | d :: ds, I, S, h0, h => by
    obtain ⟨S1, S2, h1, h2, h3⟩ := h 0 d S rfl h0
    obtain ⟨S', e1, e2⟩ := forL_inv ds (fun i => I (i + 1)) S2 h3 fun i d S hd hI => h (i + 1) d S (by simpa using hd) hI
    refine ⟨S', ?_, by simpa using e2⟩
    unfold forL
    rw [h1]
    dsimp only
    rcases h2 with h2 | h2 <;> rw [h2] <;> exact e1
end Lq

namespace Lq
open PySem PySem.Spec PyProof.Rows L2
open Evl (Ex)
theorem mul_once (l : Addr) (its : Array Value) (n : Nat) (dd : Option Addr) (sl : Array (Option Value)) (x : Int) (u : Tok) (c0 : (decide (x < -(2 ^ 63)) || decide (x ≥ 2 ^ 63)) = false) (c1 : (its.isEmpty || x == 1) = true) :
    Meets (Builtin.«tuple.__mul__» ⟨[.ref l, .int x u], []⟩) (fun _ R s => s.heap.get? l = some { cls := .type "tuple", dict := dd, data := .seq its n, slots := sl } ∧ R (.ok (.ret (.ref l))) s) :=
  .of_wp fun prog w A R s h => by
    obtain ⟨hp, gg, d, tk, os⟩ := s
    obtain ⟨hl, h⟩ := h
    have f1 := AutoSeq1.idx_int
    wp_walk using wpAny_loadPart' hl
    refine wpAny_ite_false (decide_eq_false fun z => by rw [c0] at z; exact Bool.noConfusion z) ?_
    wp_walk using wpAny_loadPart' hl
    exact ⟨_, rfl, h⟩
theorem mul_none (l : Addr) (its : Array Value) (n : Nat) (dd : Option Addr) (sl : Array (Option Value)) (x : Int) (u : Tok) (c0 : (decide (x < -(2 ^ 63)) || decide (x ≥ 2 ^ 63)) = false) (c1 : (its.isEmpty || x == 1) = false) (c2 : (decide (x ≤ 0) || its.isEmpty) = true) :
    Meets (Builtin.«tuple.__mul__» ⟨[.ref l, .int x u], []⟩) (fun _ R s => s.heap.get? l = some { cls := .type "tuple", dict := dd, data := .seq its n, slots := sl } ∧
      R (.ok (.ret (.ref s.heap.objs.size))) { s with heap := s.heap.push { cls := .type "tuple", data := .seq #[] } }) :=
  .of_wp fun prog w A R s h => by
    obtain ⟨hp, gg, d, tk, os⟩ := s
    obtain ⟨hl, h⟩ := h
    have f1 := AutoSeq1.idx_int
    wp_walk using wpAny_loadPart' hl
    refine wpAny_ite_false (decide_eq_false fun z => by rw [c0] at z; exact Bool.noConfusion z) ?_
    wp_walk using wpAny_loadPart' hl
    exact ⟨_, rfl, h⟩
section
variable {X : Cx}
def rRepA (K : PySem.W.Frag) : R2 := fun x y H Q => ∃ (l : Addr) (k : Int) (xs : List V), x = .ref l ∧ y = .int k ∧ SqT K H l xs ∧ xs ≠ [] ∧ 0 ≤ k ∧ k ≤ 1000 ∧ xs.length ≤ 1000 ∧ (k = 1 → Q (.ref l) H) ∧ (k ≠ 1 → ∀ p, H p = none → Q (.ref p) (upd H p (.tup (List.replicate k.toNat xs).flatten)))
theorem op_repA : OpR X (binaryOp .Mult) (rRepA X.K) := by
  intro pins s σ H x y v u Q I rx ry h
  obtain ⟨l, k, xs, ex, ey, hT, hne, h0, h1, hz, q1, q2⟩ := h
  by_cases hk : 2 ≤ k
  · exact op_repT pins s σ H x y v u Q I rx ry ⟨l, k, xs, ex, ey, hT, hne, hk, h1, hz, q2 (by omega)⟩
  · subst ex ey
    cases rx
    obtain ⟨t, rfl⟩ := ry
    obtain ⟨its, r, ⟨⟨cls, dd, data, sl⟩, ho, hc, n, hd⟩, hs⟩ := I.tuple hT
    simp only at hc hd
    subst hc hd
    have hle := r.length
    have hi : its.toArray.isEmpty = false := by
      cases its with
      | nil => exact absurd (List.eq_nil_of_length_eq_zero hle) hne
      | cons a b => rfl
    have c0 : (decide (k < -(2 ^ 63)) || decide (k ≥ 2 ^ 63)) = false := by
      have e1 : ¬ k < -(2 ^ 63) := by omega
      have e2 : ¬ k ≥ 2 ^ 63 := by omega
      rw [decide_eq_false e1, decide_eq_false e2]
      rfl
    by_cases h1 : k = 1
    · have c1 : (its.toArray.isEmpty || k == 1) = true := by rw [h1, hi]; rfl
      refine wpAny_binaryOp_repeat_ref (U := "int") (T := "tuple") (by decide) ⟨_, ho, rfl⟩ (fun z => typeIs_int z k t) noFill_tuple_mul F.fills_int_mul F.slot_int_rmul repeat_tuple F.slot_int_index.lookup ?_
      refine call_meets F.slot_int_rmul (typeIs_int s k t) F.entry_int_rmul (F.args_int_rmul_2 _ _) (int_rmul_tuple k t l its.toArray n dd sl) ⟨ho, rfl, ⟨_, ho, rfl⟩, ?_⟩
      exact call_meets F.slot_tuple_mul ⟨_, ho, rfl⟩ F.entry_tuple_mul (F.args_tuple_mul_2 _ _) (mul_once l its.toArray n dd sl k t c0 c1) ⟨ho, ⟨.ref l, H, I, rfl, q1 h1⟩⟩
    · have hk0 : k = 0 := by omega
      have c1 : (its.toArray.isEmpty || k == 1) = false := by rw [hk0, hi]; rfl
      have c2 : (decide (k ≤ 0) || its.toArray.isEmpty) = true := by rw [hk0]; rfl
      refine wpAny_binaryOp_repeat_ref (U := "int") (T := "tuple") (by decide) ⟨_, ho, rfl⟩ (fun z => typeIs_int z k t) noFill_tuple_mul F.fills_int_mul F.slot_int_rmul repeat_tuple F.slot_int_index.lookup ?_
      refine call_meets F.slot_int_rmul (typeIs_int s k t) F.entry_int_rmul (F.args_int_rmul_2 _ _) (int_rmul_tuple k t l its.toArray n dd sl) ⟨ho, rfl, ⟨_, ho, rfl⟩, ?_⟩
      refine call_meets F.slot_tuple_mul ⟨_, ho, rfl⟩ F.entry_tuple_mul (F.args_tuple_mul_2 _ _) (mul_none l its.toArray n dd sl k t c0 c1 c2) ⟨ho, ?_⟩
      refine ⟨.ref s.heap.objs.size, upd H s.heap.objs.size (.tup []), I.laid (t' := s.toks) (fun b ob q => Heap.get?_push_of_some _ q) (Nat.le_refl _) ?_, rfl, ?_⟩
      · exact ⟨Nat.zero_le _, [], .nil, IsTup.new _ _⟩
      · have := q2 h1 _ (I.hok.fresh (Nat.le_refl _))
        rw [hk0] at this
        exact this
end
section
variable {X : Cx} {W : WX} {a b e : Expr} {f g : Ms → R Dt} {p pos : Pos}
def repT : Dt → Dt → Option Dt | .tup xs, .int k => if xs ≠ [] ∧ xs.length ≤ 100 ∧ 0 ≤ k ∧ k ≤ 1000 then some (.tup (List.replicate k.toNat xs).flatten) else none | _, _ => none
theorem de_repT (ha : PE X a (tD X.K W f)) (hb : PE X b (tD X.K W g)) : PE X (.BinOp a .Mult b pos) (tD X.K W (op2 f g repT)) := de_op op_repA (fun F H v w d e z Q ex hv hw hz q => by
  unfold repT at hz
  split at hz <;> try cases hz
  split at hz <;> cases hz
  rename_i xs k hl
  obtain ⟨h1, h2, h3, h4⟩ := hl
  cases hw
  cases hv with
  | tup hs ha =>
    refine ⟨_, _, _, rfl, rfl, Evl.ex_t ex hs.sq, ?_, h3, h4, by rw [ha.length]; omega, fun hk => q.1 _ ?_, fun hk p hp => q.2 p _ hp ?_⟩
    · intro z
      rw [z] at ha
      cases ha
      exact h1 rfl
    · subst hk
      have e1 : (List.replicate (Int.toNat 1) xs).flatten = xs := by simp
      rw [e1]
      exact .tup hs ha
    · have hf : F p = none := by
        cases w : F p with
        | none => rfl
        | some o => rw [ex _ _ w] at hp; cases hp
      exact .tup upd_same (RpA.up (rp_flat ha _) (Ex.new hf))) ha hb
def blsOf : List Dt → Option (List Bool)
  | [] => some []
  | .bl b :: ds => (blsOf ds).map (b :: ·)
  | _ => none
theorem blsOf_eq : ∀ {ds : List Dt} {bs : List Bool}, blsOf ds = some bs → ds = bs.map Dt.bl
  | [], bs, h => by cases h; rfl
  | .bl b :: ds, bs, h => by
    unfold blsOf at h
    cases q : blsOf ds with
    | none => rw [q] at h; cases h
    | some cs => rw [q] at h; cases h; rw [blsOf_eq q]; rfl
  | .non :: _, _, h | .int _ :: _, _, h | .str _ :: _, _, h | .lst _ :: _, _, h | .tup _ :: _, _, h | .obj _ _ _ :: _, _, h | .scr _ _ :: _, _, h => by cases h
theorem blsOf_map : ∀ bs : List Bool, blsOf (bs.map Dt.bl) = some bs
  | [] => rfl
  | b :: bs => by rw [List.map_cons, blsOf, blsOf_map bs]; rfl
theorem blsv {K : PySem.W.Frag} {F : Hp} : ∀ {vs : List V} {bs : List Bool}, RpA K F vs (bs.map Dt.bl) → vs = bs.map V.bl
  | _, [], .nil => rfl
  | _, b :: bs, .cons h t => by rw [h.blv, blsv t]; rfl
def allO : List Dt → Option Dt | [.lst xs] => (blsOf xs).map fun bs => .bl (bs.all id) | _ => none
theorem de_all (hcalm : X.calm = true) (hg : Gl X "all") (hm : X.mg "all" = none) (ha : PE X a (tD X.K W f)) (hs : starEach [a] X.env = (false, eval a X.env) :: starEach [] X.env := by rfl) : PE X (.Call (.Name "all" p) [a] [] pos) (tD X.K W (calE (aCons f aNil) allO)) :=
  de_calB (fun F H vs ds z Q ex hv hz q => by
    unfold allO at hz
    split at hz <;> try cases hz
    rename_i xs
    cases hn : blsOf xs with
    | none => rw [hn] at hz; cases hz
    | some bs =>
      rw [hn] at hz
      cases hz
      have e1 := blsOf_eq hn
      subst e1
      obtain ⟨v, rfl, h1⟩ := rpa1 hv
      cases h1 with
      | lst hs ha =>
        rw [blsv ha] at hs
        exact ⟨_, _, rfl, Evl.ex_l ex (Evl.sq_of hs), q.1 _ (.bl _)⟩) (cr_all hcalm) hg hm (by decide +kernel) (da_cons ha da_nil hs) (by decide) (by decide) hs (by rfl)
end
@[simp] theorem allO_run (bs : List Bool) : allO [.lst (bs.map Dt.bl)] = some (.bl (bs.all id)) := by unfold allO; dsimp only; rw [blsOf_map]; rfl
end Lq

namespace Lq
open PySem PySem.Spec PyProof.Rows L2
section
variable {X : Cx} {W : WX} {a b : Expr} {f g : Ms → R Dt} {p pos : Pos}
end
end Lq

namespace Lq
open PySem PySem.Spec PyProof.Rows L2
structure ScC (N ps : List Str) (sc : Scope) : Prop where
  kind : sc.kind = .function
  co : sc.isCoroutine = false
  gen : sc.isGenerator = false
  nd : N.Nodup
  pre : N.take ps.length = ps
  par : ∀ x ∈ ps, sc.names.lookup x = some .local
  cell : ∀ y ∈ sc.names, y.2 ≠ .cell
  free : ∀ y ∈ sc.names, y.2 = .free → y.1 = "__class__"
  kcl : sc.names.lookup ("__class__" : Str) = some .free
abbrev envK (qual : Str) (sc : Scope) (L f : Addr) (cd : Value) (cc : Addr) : Env := PySem.W.envX qual sc L f cd [("__class__", cc)]
def cxK (CX : CXT) (P : Program) (w : World) (K : PySem.W.Frag) (mg : Str → Option Value) (base : Heap) (N : List Str) (qual : Str) (scope : Scope) (f : Addr) (cd : Value) (cc : Addr) (A : Around) (outer : List Env) (s : Shared) (H : Hp) (E : XK) : Cx where
  prog := P
  w := w
  K := K
  mg := mg
  base := base
  A := A.deeper (envK qual scope s.heap.objs.size f cd cc)
  N := N
  s_0 := s
  H_0 := H
  env := envK qual scope s.heap.objs.size f cd cc
  outer := outer
  stack := envK qual scope s.heap.objs.size f cd cc :: outer
  ex := []
  calm := true
  fn := fun x => !(x == "__class__")
  pn := []
  xe := fun e s' => wpAny (model P w) (A.deeper (envK qual scope s.heap.objs.size f cd cc)) (leaving (envK qual scope s.heap.objs.size f cd cc) e) (fun _ s'' => CX outer H s E e s'') (fun e' s'' => CX outer H s E e' s'') s'
theorem mfz {α β : Type} : ∀ {ps : List α} {us : List β}, ps.Nodup → ((ps.zip us).map (·.1)).Nodup
  | [], _, _ => by simp
  | _ :: _, [], _ => by simp
  | p :: ps, u :: us, h => by
    rw [List.zip_cons_cons, List.map_cons, List.nodup_cons]
    obtain ⟨h1, h2⟩ := List.nodup_cons.mp h
    refine ⟨fun hm => ?_, mfz h2⟩
    obtain ⟨q, hq, e⟩ := List.mem_map.mp hm
    have e' : q.1 = p := e
    exact h1 (e' ▸ (List.of_mem_zip hq).1)
theorem lookup_rev {ps : List Str} (hnd : ps.Nodup) : ∀ {us : List Value} {i : Nat} {y : Str} {u : Value}, ps[i]? = some y → us[i]? = some u → (ps.zip us).reverse.lookup y = some u := by
  intro us i y u h1 h2
  have hmem : (y, u) ∈ (ps.zip us).reverse := by
    rw [List.mem_reverse]
    have hi : i < ps.length := (List.getElem?_eq_some_iff.mp h1).1
    have hi2 : i < us.length := (List.getElem?_eq_some_iff.mp h2).1
    refine List.mem_iff_getElem?.mpr ⟨i, ?_⟩
    rw [List.getElem?_zip_eq_some]
    exact ⟨h1, h2⟩
  have hnd2 : (((ps.zip us).reverse).map (·.1)).Nodup := by
    rw [List.map_reverse]
    exact (List.reverse_perm _).nodup_iff.mpr (mfz hnd)
  generalize (ps.zip us).reverse = l at *
  induction l with
  | nil => cases hmem
  | cons a l ih =>
    obtain ⟨k, v⟩ := a
    rw [List.map_cons, List.nodup_cons] at hnd2
    rcases List.mem_cons.mp hmem with h | h
    · cases h
      simp [List.lookup]
    · have hne : y ≠ k := fun e => hnd2.1 (List.mem_map.mpr ⟨(y, u), h, e⟩)
      have : (y == k) = false := by simpa using hne
      rw [List.lookup_cons, this]
      exact ih h hnd2.2
section
variable {CX : CXT} {P : Program} {w : World} {K : PySem.W.Frag} {mg : Str → Option Value} {base : Heap} {N ps : List Str} {qual : Str} {scope : Scope} {f cc D : Addr} {cd cl : Value} {cld : Option Addr} {csl : Array (Option Value)} {A : Around} {outer : List Env} {s : Shared} {H : Hp} {E : XK} {us : List Value} {vs : List V} {h₀ : Heap} {t : Nat}
theorem inv_startK (S : ScC N ps scope) (hd : A.handled = none) (e0 : Env0 P w K mg base A outer s H) (hl : vs.length = ps.length) (r : Vals vs us) (hcell : K.lookup cc = some ⟨cl, cld, .cell (some (.ref D)), csl⟩)
    (hns : h₀.Ns s.heap.objs.size (fun x => (ps.zip us).reverse.lookup x)) (hk : ∀ b o, s.heap.get? b = some o → h₀.get? b = some o) :
    Inv (cxK CX P w K mg base N qual scope f cd cc A outer s H E) [] (L2.start N vs) H { s with heap := h₀, toks := t } := by
  have hpl : ps.length ≤ N.length := by have := congrArg List.length S.pre; rw [List.length_take] at this; omega
  have cl1 : ∀ {x : Str} {c : Addr}, List.lookup x [(("__class__" : Str), cc)] = some c → x = "__class__" ∧ c = cc := fun {x c} h => by
    rw [List.lookup_cons] at h
    split at h
    · rename_i hx
      cases h
      exact ⟨by simpa using hx, rfl⟩
    · cases h
  have cl2 : List.lookup ("__class__" : Str) [(("__class__" : Str), cc)] = some cc := by simp [List.lookup]
  have hb := e0.mod.kin _ _ hcell
  have hbc := e0.bs _ _ hb
  refine ⟨⟨e0.mod, S.kind, rfl, rfl, Nat.le_refl _, fun y z c h1 h2 => (cl1 h1).1.trans (cl1 h2).1.symm, fun y hy => ?_, fun y c hf h => ?_, fun _ => hd, Around.frames_deeper e0.frames, .inr ⟨rfl, rfl⟩, fun b z => absurd z (by exact List.not_mem_nil), e0.bs, e0.bsz, fun b _ _ => by exact List.not_mem_nil, fun b z => absurd z (by exact List.not_mem_nil), e0.funs, e0.frf⟩,
    rfl, e0.bare, Un.kept hk, ⟨_, hns, fun i y v h1 h2 h3 => ?_⟩, fun y c h => ?_, e0.hok.fresh (Nat.le_refl _), fun y c h => ?_, fun p hp => absurd (show p ∈ ([] : List (Addr × Obj)) from hp) (by simp), e0.hok.kept hk, ?_⟩
  · have hy : scope.names.lookup y = some .cell ∨ scope.names.lookup y = some .free := hy
    rcases hy with hy | hy
    · exact absurd rfl (S.cell _ (PySem.mem_of_lookup hy))
    · have e := S.free _ (PySem.mem_of_lookup hy) rfl
      dsimp only at e
      rw [e]
      exact ⟨cc, cl2⟩
  · have e := (cl1 h).1
    rw [e] at hf
    have hf' : (!(("__class__" : Str) == "__class__")) = true := hf
    exact absurd hf' (by decide)
  · have hi : i < vs.length := by
      unfold L2.start at h2
      by_cases hi : i < vs.length
      · exact hi
      · rw [List.getElem?_append_right (by simpa using hi)] at h2
        rw [List.getElem?_replicate] at h2
        split at h2 <;> cases h2
    have ha : vs[i]? = some v := by
      unfold L2.start at h2
      rw [List.getElem?_append_left (by simpa using hi), List.getElem?_map] at h2
      cases e : vs[i]? with
      | none => rw [e] at h2; cases h2
      | some a => rw [e] at h2; cases h2; rfl
    obtain ⟨u, hu, rv⟩ := r.get ha
    have hp : ps[i]? = some y := by
      rw [← S.pre, List.getElem?_take_of_lt (by omega)]
      exact h1
    have ndP : ps.Nodup := by
      rw [← S.pre]
      exact S.nd.sublist (List.take_sublist _ _)
    exact ⟨u, rv, .inl ⟨S.par y (List.mem_of_getElem? hp), lookup_rev ndP hp hu⟩⟩
  · have e := (cl1 h).2
    rw [e]
    exact ⟨some (.ref D), _, hk _ _ hbc.1, rfl⟩
  · have e := (cl1 h).2
    rw [e]
    exact hbc.2
  · unfold L2.start
    show _ = N.length
    rw [List.length_append, List.length_map, List.length_replicate]
    omega
theorem fnK_of {k : Nat} {x : Str} {params : Arguments} {body : List Stmt} {kV doc pm ct oc : Value} {an od : Option Addr} {osl : Array (Option Value)} {sp : Sp} (lk : K.lookup f = some ⟨oc, od, .func (PySem.W.ksFn x qual params body scope .none kV doc pm an cd ct cc), osl⟩) (hcd : PySem.W.codeIn K cd qual = true)
    (S : ScC N ps scope) (hcell : K.lookup cc = some ⟨cl, cld, .cell (some (.ref D)), csl⟩) (len : ∀ vs H Q E, sp vs H Q E → vs.length = ps.length)
    (hbody : ∀ (A : Around) (outer : List Env) (s s1 : Shared) (H : Hp) (vs : List V) (Q : VK) (E : XK), Room k (A.deeper (envK qual scope s.heap.objs.size f cd cc)) → sp vs H Q E → Inv (cxK CX P w K mg base N qual scope f cd cc A outer s H E) [] (L2.start N vs) H s1 →
      _root_.PySem.wpAt (model P w) (A.deeper (envK qual scope s.heap.objs.size f cd cc)) (.func body (envK qual scope s.heap.objs.size f cd cc)) (execs body (envK qual scope s.heap.objs.size f cd cc)) (SP (cxK CX P w K mg base N qual scope f cd cc A outer s H E) [] { nx := fun _ H' => Q .non H', rt := Q }) (cxK CX P w K mg base N qual scope f cd cc A outer s H E).xe s1) :
    FnOk P w K mg base CX (k + 1) f (PySem.W.ksFn x qual params body scope .none kV doc pm an cd ct cc) ps sp := by
  refine ⟨len, fun A outer s H args us vs Q E hr e0 hb r hsp => ?_⟩
  have hl := len _ _ _ _ hsp
  have KX : K.In s.heap := e0.mod.kin.keeps fun b o e => (e0.bs b o e).1
  have lim : s.heap.NoLimit := e0.mod.nolimit.keeps fun b o e => (e0.bs b o e).1
  refine PySem.ks_codeAny_call_defAt (body := body) (binds := ps.zip us) hr.depth (KX _ _ lk) rfl lim (PySem.W.codeRec_of KX hcd) rfl hb S.cell (fun y hy => S.par _ (List.of_mem_zip (show (y.1, y.2) ∈ ps.zip us from hy)).1) (fun h₀ hns hk => ?_) S.co S.gen S.kind
  have I := inv_startK (CX := CX) (E := E) (qual := qual) (f := f) (cd := cd) (t := s.toks + (ps.zip us).length) S hr.hd e0 hl r hcell hns hk
  refine _root_.PySem.wpAt_mono (hbody A outer s _ H vs Q E (hr.deeper _) hsp I) (fun fl s' hs => ?_) fun e s' hs => hs
  have fin : ∀ {σ' : L2.St} {H' : Hp} {v : V} {u : Value}, Inv (cxK CX P w K mg base N qual scope f cd cc A outer s H E) [] σ' H' s' → RelV v u → Q v H' → CE outer P w H s Q u s' :=
    fun {σ' H' v u} J rv q => ⟨v, H', J.os, J.bare, J.base, J.hok, rv, q⟩
  cases fl with
  | ret u =>
    obtain ⟨v, σ', H', J, rv, q⟩ := hs
    exact fin J rv q
  | next =>
    obtain ⟨σ', H', J, q⟩ := hs
    exact fin (v := V.non) (u := Value.none) J rfl q
  | brk =>
    obtain ⟨_, _, _, q⟩ := hs
    exact False.elim q
  | cont =>
    obtain ⟨_, _, _, q⟩ := hs
    exact False.elim q
end
end Lq

namespace Lq
open PySem PySem.Spec PyProof.Rows L2
structure SupF (P : Program) (K : PySem.W.Frag) (mg : Str → Option Value) (f cda cc D C : Addr) (sc : Scope) (me : Str) : Prop where
  fn : ∃ oc od fd osl ar, K.lookup f = some ⟨oc, od, .func fd, osl⟩ ∧ (fd.params.posonlyargs ++ fd.params.args).head? = some ar ∧ ar.arg = me
  code : ∃ ccl cdd vs ccs file tf, K.lookup cda = some ⟨ccl, cdd, .fields vs, ccs⟩ ∧ vs[2]? = some (.str file tf) ∧ ((P.main.file : Str) == file) = true
  cell : ∃ cl cld csl, K.lookup cc = some ⟨cl, cld, .cell (some (.ref D)), csl⟩
  clD : ∃ cdD, PySem.W.clsIn K D = some cdD
  sub : PySem.W.mroIn K C (.ref D) = some true
  up : PySem.W.ks_superIn K C D "__init__" = some (some (.builtin "ValueError.__init__"))
  bas : PySem.W.subIn K (.ref C) (.type "ValueError") = some true
  any : PySem.W.nsIn K PySem.cStatics "thirdparty.any" = some none
  sup : mg "super" = none
  ksu : sc.names.lookup ("super" : Str) = some .globalImplicit
  kcl : sc.names.lookup ("__class__" : Str) = some .free
  ksl : sc.names.lookup me = some .local
  top : (P.main.scope.names.lookup ("super" : Str)).isSome = false
theorem cls_at {K : PySem.W.Frag} {h : Heap} {D : Addr} {cd : ClassData} (X : K.In h) (e : PySem.W.clsIn K D = some cd) : ∃ o, h.get? D = some o ∧ o.data = .cls cd := by
  unfold PySem.W.clsIn at e
  split at e
  · rename_i c d cd' sl ho
    cases e
    exact ⟨_, X _ _ ho, rfl⟩
  · cases e
section
variable {X : Cx} {pins : List (Addr × Obj)} {σ : L2.St} {H : Hp} {s : Shared} {a C : Addr}
theorem exo_inst (T : OexC X.K C) (I : Inv X pins σ H s) (e : H a = some (exo a C none)) : ∃ t1 : Addr, s.heap.get? a = some ({ cls := .ref C, dict := none, data := .fields #[.ref t1, .none, .none, .none, .bool false, .none] } : Obj) := exo_at I.hok e
theorem fresh_fs (I : Inv X pins σ H s) {b : Addr} (hb : s.heap.objs.size ≤ b) : b ≠ X.env.locals ∧ b ∉ X.fs := by
  obtain ⟨m, ⟨oL, es, ep, hL, _⟩, _⟩ := I.loc
  have l1 : X.env.locals < s.heap.objs.size := Heap.lt_size hL
  have l2 := I.ok.above
  refine ⟨fun z => ?_, fun z => ?_⟩
  · rw [z] at hb
    exact absurd l1 (Nat.not_lt.mpr hb)
  · obtain ⟨_, o, ho, _⟩ := I.ok.funs.mem z
    have l3 : b < X.s_0.heap.objs.size := Heap.lt_size ho
    exact absurd (Nat.lt_of_lt_of_le l3 (Nat.le_trans l2 (Nat.le_of_lt l1))) (Nat.not_lt.mpr hb)
end
theorem call_mw {prog : Program} {w : World} {A : Around} {E : Value → Shared → Prop} {h : Heap} {g : Array GenState} {d : Drawn} {t : Nat} {os : OsState} {nm q : Str} {C N u x t0 : Addr} {bs bm : List Value} {hdct : Bool} {sn : List Str} {sub : List Value} {ab : Bool} {col : Option Bool} {dd : Option Addr} {k0 k1 k2 k3 k5 : Option Value} {us : List Value} {Q : Value → Shared → Prop}
    (hC : h.get? C = some (excClassObj nm q C N bs bm hdct sn sub ab col dd k0 k1 k2 k3 k5 "ValueError.__new__")) (hx : h.get? x = some (PySem.HandSPX.excO C t0)) (hu : h.get? u = some (PySem.W.kxs_mw "ValueError.__init__" x)) (hz : us.length ≤ sizeLine)
    (hq : ∀ h' t1, (∀ b o, b ≠ x → h.get? b = some o → h'.get? b = some o) → h'.get? x = some (PySem.HandSPX.excO C t1) → Q .none ⟨h', g, d, t, os⟩) :
    wpAny (model prog w) A (call (.ref u) us) Q E ⟨h, g, d, t, os⟩ := by
  refine (wpAny_call (codeAny_of_tree (?_ : wpAny (model prog w) A.in1 (callAny (.ref u) ⟨us, []⟩) _ _ _)))
  simp only [callAny]
  refine wpAny_bind (wpAny_load hu (?_ : wpAny _ _ _ _ _ _))
  simp only [PySem.W.kxs_mw, show (Value.type "method-wrapper" == Value.type "method" || Value.type "method-wrapper" == Value.type "builtin_function_or_method" || Value.type "method-wrapper" == Value.type "method-wrapper") = true from by decide, if_true]
  refine PySem.W.KFB.if_so (by decide) (wpAny_bind (PySem.W.check_bound_init F.excBase_ValueError.toExcCallFacts hC hx rfl (wpAny_bind (wpAny_pure (wpAny_pure ?_)))))
  refine ⟨Code.quiet_builtin _ (by decide +kernel), codeAny_builtin (F.excBase_ValueError.initEntry) (?_ : wpAny _ _ _ _ _ _)⟩
  rw [Around.under_plainId (F.excBase_ValueError.init.plain) _]
  wp_walk
  refine hq _ h.objs.size (fun b o hb ho => (Heap.get?_update_other _ _ (Ne.symm hb)).trans (Heap.get?_push_of_some _ ho)) ((Heap.get?_update_self _ (Heap.get?_push_of_some _ hx) rfl).trans rfl)
section
variable {CX : CXT} {P : Program} {w : World} {K : PySem.W.Frag} {mg : Str → Option Value} {base : Heap} {N : List Str} {qual me : Str} {scope : Scope} {f cda cc D C a : Addr} {A : Around} {outer : List Env} {s0 s : Shared} {H0 H : Hp} {E : XK} {pins : List (Addr × Obj)} {σ : L2.St} {body : List Stmt} {e : Expr} {p0 p1 p2 p3 p4 : Pos} {ta : TA} {Rr : Hp → Prop} {pl : Sem Bool}
theorem super_run (S : SupF P K mg f cda cc D C scope me) (hk : scope.kind = .function) (T : OexC K C) (I : Inv (cxK CX P w K mg base N qual scope f (.ref cda) cc A outer s0 H0 E) pins σ H s) (hN : N[0]? = some me) (hσ : σ[0]? = some (some (.ref a))) (he : H a = some (exo a C none))
    (ha : PA (cxK CX P w K mg base N qual scope f (.ref cda) cc A outer s0 H0 E) [e] ta) (h : ta σ H fun vs H1 => vs.length ≤ 1000 ∧ H1 a = some (exo a C none) ∧ Rr H1)
    (hev : eval (.Call (.Attribute (.Call (.Name "super" p0) [] [] p1) "__init__" p2) [e] [] p3) (envK qual scope s0.heap.objs.size f (.ref cda) cc) = (do
      let ov ← attributeBase (.Call (.Name "super" p0) [] [] p1) "__init__" (envK qual scope s0.heap.objs.size f (.ref cda) cc) (eval (.Call (.Name "super" p0) [] [] p1) (envK qual scope s0.heap.objs.size f (.ref cda) cc))
      standAt p2.atName
      let (g1, first) ← holding [ov] (getMethod ov "__init__" pl)
      callWith p3 g1 first (backTo p3 (starEach [e] (envK qual scope s0.heap.objs.size f (.ref cda) cc))) []) := by rfl)
    (hi : interactive (envK qual scope s0.heap.objs.size f (.ref cda) cc) = false := by rfl) (hsw : swapsWith (.Call (.Attribute (.Call (.Name "super" p0) [] [] p1) "__init__" p2) [e] [] p3) none p4.line (envK qual scope s0.heap.objs.size f (.ref cda) cc) = pure false := by rfl) (hst : starEach [e] (envK qual scope s0.heap.objs.size f (.ref cda) cc) = (false, eval e (envK qual scope s0.heap.objs.size f (.ref cda) cc)) :: starEach [] (envK qual scope s0.heap.objs.size f (.ref cda) cc) := by rfl) :
    _root_.PySem.wpAt (model P w) (A.deeper (envK qual scope s0.heap.objs.size f (.ref cda) cc)) (.func body (envK qual scope s0.heap.objs.size f (.ref cda) cc)) (exec (.Expr (.Call (.Attribute (.Call (.Name "super" p0) [] [] p1) "__init__" p2) [e] [] p3) p4) (envK qual scope s0.heap.objs.size f (.ref cda) cc))
      (fun fl s' => fl = .next ∧ ∃ H1, Inv (cxK CX P w K mg base N qual scope f (.ref cda) cc A outer s0 H0 E) pins σ H1 s' ∧ Rr H1) (cxK CX P w K mg base N qual scope f (.ref cda) cc A outer s0 H0 E).xe s := by
  obtain ⟨oc, od, fd, osl, ar, lf, hp, har⟩ := S.fn
  obtain ⟨ccl, cdd, vs, ccs, file, tf, lc, hvs, hfile⟩ := S.code
  obtain ⟨cl, cld, csl, lcc⟩ := S.cell
  obtain ⟨cdD, hD⟩ := S.clD
  have KX : K.In s.heap := I.kIn
  obtain ⟨oD, hD1, hD2⟩ := cls_at KX hD
  obtain ⟨t1, hx⟩ := exo_inst T I he
  refine PySem.ks_wpAt_Expr_any (PySem.ks_wpAt_MethodCall (PySem.ks_wpAt_super_base S.ksu S.kcl (by decide) rfl (KX _ _ lf) rfl hp rfl (KX _ _ lc) rfl hvs hfile S.top ?_) hev) hi hsw
  obtain ⟨mb, hb1, hb2⟩ := I.mod.blt
  refine PySem.W.ks_loadName_global hk S.ksu (PySem.Calls.loadGlobal_builtin (I.mod.glob.keeps I.bk) S.sup (hb1.keeps I.bk) ((hb2 _ (by decide +kernel)).trans (by decide +kernel)) ⟨rfl, ?_⟩)
  refine wpAny_loadName_free hk S.kcl rfl ⟨_, KX _ _ lcc, rfl⟩ ?_
  obtain ⟨m, hm1, hm2⟩ := I.loc
  obtain ⟨u, hu1, hu2⟩ := hm2 0 me (.ref a) hN hσ (.inl S.ksl)
  cases hu1
  have hml : m me = some (.ref a) := by
    rcases hu2 with ⟨_, z⟩ | ⟨z, _⟩
    · exact z
    · have k1 : scope.names.lookup me = some .cell ∨ scope.names.lookup me = some .free := z
      rw [S.ksl] at k1
      rcases k1 with k1 | k1 <;> cases k1
  refine wpAny_loadName_local hk (by rw [har]; exact S.ksl) hm1 (by rw [har]; exact hml) ?_
  obtain ⟨hh, g, d, t, os⟩ := s
  refine PySem.ks_wpAny_isType_cls hD1 hD2 ⟨rfl, ?_⟩
  refine PySem.ks_wpAny_call_super hD1 hD2 hx rfl (fun c z => by cases z) (PySem.W.looks_mroIn KX S.sub) (fun h1 e1 k1 => ?_)
  have I1 := I.kept (h' := h1) (t' := t) k1
  obtain ⟨t2, hx1⟩ := exo_inst T I1 he
  have KX1 : K.In h1 := I1.kIn
  obtain ⟨cdC, hcC, hal⟩ : ∃ cdC, PySem.W.clsIn K C = some cdC ∧ PySem.W.alongIn K "__init__" ((cdC.mro.dropWhile (· != .ref D)).drop 1) = some (some (.builtin "ValueError.__init__")) := by
    have q := S.up
    unfold PySem.W.ks_superIn at q
    cases hc : PySem.W.clsIn K C with
    | none => rw [hc] at q; cases q
    | some cd => rw [hc] at q; exact ⟨cd, rfl, q⟩
  obtain ⟨oC, hC1, hC2⟩ := cls_at KX1 hcC
  have inst : PySem.W.InstAt h1 a _ C none := ⟨hx1, rfl, rfl, trivial⟩
  have aC : a ≠ C := fun z => by
    rw [z, hC1] at hx1
    cases hx1
    cases hC2
  refine PySem.W.kxs_getMethod PySem.W.kxs_ValueError e1 (PySem.W.looks_opaque KX1 S.any) (l₀ := cdC.mro) (fun A Q E s k q => wpAny_bind ((PySem.W.looks_clsIn KX1 hcC) A _ E s k (wpAny_pure q))) rfl KX1 hal (inst.type.andThen (PySem.W.looks_subIn KX1 S.bas)) aC (by decide) ?_
  have I2 := I1.kept (h' := h1.push (PySem.W.kxs_mw "ValueError.__init__" a)) (t' := t + 1) (fun b o z => Heap.get?_push_of_some _ z)
  have hu : (h1.push (PySem.W.kxs_mw "ValueError.__init__" a)).get? h1.objs.size = some (PySem.W.kxs_mw "ValueError.__init__" a) := Heap.get?_push_at rfl rfl
  have fr := fresh_fs I1 (Nat.le_refl h1.objs.size)
  have I3 := I2.pins_of (pins' := (h1.objs.size, PySem.W.kxs_mw "ValueError.__init__" a) :: pins) (fun p hp => by
    rcases List.mem_cons.mp hp with rfl | hp
    · exact ⟨hu, I1.hok.fresh (Nat.le_refl _), fr.1, fr.2, fun v z => by cases z⟩
    · exact I2.pin p (List.mem_append_right _ hp))
  refine PySem.W.kxs_callWith (i := "ValueError.__init__") (x := a) (by rw [hst]; rfl) ?_
  rw [hst]
  refine PySem.Calls.evalArgs_plain ?_
  suffices key : wpAny (model P w) (A.deeper (envK qual scope s0.heap.objs.size f (.ref cda) cc)) (spliced (backTo p3 (starEach [e] (envK qual scope s0.heap.objs.size f (.ref cda) cc)))) (fun vs s' => PySem.W.KxsAt "ValueError.__init__" h1.objs.size a s'.heap ∧ wpAny (model P w) (A.deeper (envK qual scope s0.heap.objs.size f (.ref cda) cc)) (call (.ref h1.objs.size) vs) (fun _ s' => Flow.next = Flow.next ∧ ∃ H1, Inv (cxK CX P w K mg base N qual scope f (.ref cda) cc A outer s0 H0 E) pins σ H1 s' ∧ Rr H1) (cxK CX P w K mg base N qual scope f (.ref cda) cc A outer s0 H0 E).xe s') (cxK CX P w K mg base N qual scope f (.ref cda) cc A outer s0 H0 E).xe ⟨h1.push (PySem.W.kxs_mw "ValueError.__init__" a), g, d, t + 1, os⟩ by
    rw [hst] at key
    exact key
  refine thn (ha.run p3 _ _ σ H _ I3 h) fun us s4 ⟨ws, H1, I4, rv, hz, he1, hr⟩ => ?_
  have hu4 := (I4.pin _ (List.mem_append_right _ List.mem_cons_self)).1
  refine ⟨hu4, ?_⟩
  obtain ⟨nm, qn, N', bs, bm, sn, sub, ab, col, dd, k0, k1', k2, k3, k5, hC, hbm⟩ := T.cls
  obtain ⟨t3, hx4⟩ := exo_inst T I4 he1
  obtain ⟨h4, g4, d4, t4, os4⟩ := s4
  refine call_mw (I4.kIn _ _ hC) hx4 hu4 (by rw [← rv.length]; exact Nat.le_trans hz (by decide)) (fun h5 t5 k5' hx5 => ⟨rfl, H1, ?_, hr⟩)
  have J := I4.write (t' := t4) (x := a) (e := a) (o := exo a C none) (by rw [he1]; trivial) (.inl rfl) k5' ⟨_, hx5⟩ (exo_ok hx5)
  have same : upd H1 a (exo a C none) = H1 := funext fun b => by
    by_cases hb : b = a
    · rw [hb, upd_same, he1]
    · exact upd_ne hb
  rw [same] at J
  exact J.pins_of fun p hp => J.pin p (List.mem_append_right _ (List.mem_cons_of_mem _ hp))
end
end Lq

namespace Lq
open PySem PySem.Spec PyProof.Rows L2
open Evl (Ex)
def spI1 (C : Addr) (fld : Str) : Sp := fun vs H Q _ => ∃ (a : Addr) (y : Str), vs = [.ref a, .str y] ∧ y.length ≤ 1000 ∧ H a = some (exo a C none) ∧ ∀ dx, H dx = none → dx ≠ a → Q .non (upd (upd H dx (exd dx [(fld, .str y)])) a (exo a C (some dx)))
def raiseS (e : Er) : Ms → O := fun S => .er e S
theorem ds_raise1 {X : Cx} {W : WX} {CX : CXT} {x m fld : Str} {j : Nat} {p p2 pos pos' : Pos} {C fI : Addr} {k : Nat} {fd : FuncData} (hc : X.calm = true) (tk : Takes X W) (T : OexC X.K C) (iC : PySem.W.findIn X.K (.ref C) "__init__" = some (some (.ref fI))) (tI : PySem.W.typeIn X.K (.ref fI) = some (.type "function"))
    (F1 : FnOk X.prog X.w X.K X.mg X.base CX k fI fd ["self", fld] (spI1 C fld)) (hr : Room (k + 1) X.A) (hb : Binds X.K fd ["self", fld] []) (hx : Passes CX X (fun _ _ _ => False)) (hg : Gl X x) (hm : X.mg x = some (.ref C)) (hl : m.length ≤ 1000) (hdb : (x == ("__debug__" : Str)) = false := by decide)
    (hst : starEach [Expr.Constant (.str m) j p2] X.env = (false, eval (.Constant (.str m) j p2) X.env) :: starEach [] X.env := by rfl) (hpl : (backTo pos (starEach [] X.env)).any (·.1) = false := by rfl) :
    PS X (.Raise (some (.Call (.Name x p) [.Constant (.str m) j p2] [] pos)) none pos') (sD X.K W (raiseS ⟨C, [fld], [.str m]⟩)) :=
  monoS (ps_raise hc tk (pmk_oex T iC tI F1 hr hb .nil hx hg hm (pa_cons pe_str pa_nil hst) hdb hst hpl)) fun D σ H q => by
    obtain ⟨B, F, as, S, r, o⟩ := q
    refine ⟨(show 1 ≤ 1000 by decide), fun a na => ⟨a, m, rfl, hl, upd_same, fun dx h1 h2 => ⟨rfl, dx, [(fld, .str m)], upd_same, (upd_ne h2).trans upd_same, ?_, ?_⟩⟩⟩
    · rwa [upd_ne h2] at h1
    · have h3 : H dx = none := by rwa [upd_ne h2] at h1
      have e : upd (del (upd (upd (upd H a (exo a C none)) dx (exd dx [(fld, .str m)])) a (exo a C (some dx))) a) dx (.xd [(fld, .str m)]) = upd H dx (.xd [(fld, .str m)]) := funext fun b => by
        by_cases hb : b = dx
        · rw [hb, upd_same, upd_same]
        · rw [upd_ne hb, upd_ne hb]
          by_cases ha : b = a
          · rw [ha, del_same, na]
          · rw [del_ne ha, upd_ne ha, upd_ne hb, upd_ne ha]
      rw [e]
      obtain ⟨ee, r2⟩ := r.new h3 (.xd [(fld, .str m)])
      exact o σ _ _ as (some dx) [(fld, .str m)] ee r2 upd_same rfl (.cons (.str m) .nil)
end Lq

namespace PySem.W
open PySem PySem.Spec PySem.Calls PyProof.Rows
section
variable {prog : Program} {w : World} {A : Around} {E : Value → Shared → Prop} {s : Shared} {K : Frag} {x D : Addr} {ox : Obj} {od : Option Obj}
end
end PySem.W
namespace Lq
open PySem PySem.Spec PyProof.Rows L2
section
variable {X : Cx} {a D dx : Addr} {oe : Obj} {pn : List (Addr × Obj)}
end
end Lq

namespace Lq
open PySem PySem.Spec PyProof.Rows L2
open Evl (Ex)
section
variable {X : Cx} {W : WX} {a b c e : Expr} {pos : Pos} {f g : Ms → R Dt}
end
end Lq

namespace Lq
open PySem PySem.Spec PyProof.Rows L2
open Classical in
noncomputable def mkF {α : Type} (args : α → List Dt) (pre : α → Prop) (res : α → Fo) (ds : List Dt) : Fo := if h : ∃ a, pre a ∧ ds = args a then res h.choose else .no
theorem mkF_inv {α : Type} {args : α → List Dt} {pre : α → Prop} {res : α → Fo} {ds : List Dt} (h : mkF args pre res ds ≠ .no) : ∃ a, pre a ∧ ds = args a ∧ mkF args pre res ds = res a := by
  unfold mkF at h ⊢
  split at h
  · rename_i hc
    refine ⟨hc.choose, hc.choose_spec.1, hc.choose_spec.2, ?_⟩
    rw [dif_pos hc]
  · exact absurd rfl h
theorem mkF_run {α : Type} {args : α → List Dt} {pre : α → Prop} {res : α → Fo} (inj : ∀ a b, args a = args b → a = b) (a : α) (ha : pre a) : mkF args pre res (args a) = res a := by
  have hc : ∃ b, pre b ∧ args a = args b := ⟨a, ha, rfl⟩
  unfold mkF
  rw [dif_pos hc, ← inj _ _ hc.choose_spec.2]
theorem Wd_inj {v w : List Int} (h : Wd v = Wd w) : v = w := by
  have := congrArg wordOf h
  rw [wordOf_Wd, wordOf_Wd] at this
  exact Option.some.inj this
theorem nz_run {S : Ms} {a i : Nat} {v : List Int} {d : Dt} (ha : S.sl[a]? = some (.im d)) (hd : seqOf d = some (v.map Dt.int)) (hil : i < S.sl.length) (hl : v.length ≤ 100000) :
    lcE (itS (varE a)) (Tk.nm i).k (tst (op2 (varE i) (cE (.int 0)) neO)) (varE i) [i] S = .ok ((v.filter fun x => decide (x ≠ 0)).map Dt.int) S := by
  refine lcE_flt Dt.int _ Dt.int v ?_ (fun x hx => ?_) hl
  · rw [itS_run, varE_im ha, R.bind_ok, hd, R.of_some]
  · have e1 : ((wipeL S.sl [i]).set i (.im (.int x)))[i]? = some (.im (.int x)) := by
      rw [List.getElem?_set, if_pos rfl, if_pos]
      simpa [wipeL] using hil
    have e2 := varE_im (S := { sl := (wipeL S.sl [i]).set i (.im (.int x)), mo := S.mo }) e1
    refine ⟨_, { sl := (wipeL S.sl [i]).set i (.im (.int x)), mo := S.mo }, kNm _ _ _, ?_, rfl, fun _ => ⟨{ sl := (wipeL S.sl [i]).set i (.im (.int x)), mo := S.mo }, e2, rfl⟩⟩
    rw [tst_run', op2_run, e2, R.bind_ok, cE_run, R.bind_ok, neO_int, R.of_some, R.bind_ok]
    simp
end Lq

namespace Lq
open PySem PySem.Spec PyProof.Rows L2
open Evl (Ex)
def IsE (h : Heap) (v : Value) : Prop := ∃ l, v = .ref l ∧ IsTup h l #[]
section
variable {prog : Program} {w : World} {A : Around} {E : Value → Shared → Prop} {s : Shared}
theorem oneLt_E {a b : Value} {Q : Bool → Shared → Prop} (ha : IsE s.heap a) (hb : IsE s.heap b) (hu : A.units < cLine) (h : Q false s) : wpAny (model prog w) A (oneLt' true a b) Q E s := by
  obtain ⟨l, rfl, ⟨cls, dd, data, sl⟩, ho, hc, n, hd⟩ := ha
  obtain ⟨l2, rfl, ⟨cls2, dd2, data2, sl2⟩, ho2, hc2, n2, hd2⟩ := hb
  simp only at hc hd hc2 hd2
  subst hc hd hc2 hd2
  rw [oneLt'_eq]
  simp only [if_true]
  refine wpAny_bind (wpAny_cRoomFor hu ?_)
  refine wpAny_bind (wpAny_callSpecialIfBound?_slot ⟨_, ho, rfl⟩ PySem.F.slot_tuple_lt (call_meets PySem.F.slot_tuple_lt ⟨_, ho, rfl⟩ PySem.F.entry_tuple_lt (PySem.F.args_tuple_lt_2 _ _) (HT.tuple_lt_ints l l2 #[] #[] n n2 dd dd2 sl sl2 [] [] .nil .nil) ⟨ho, ho2, ?_⟩))
  exact wpAny_truthy_bool h
theorem kind_E {vs : List Value} {Q : SortKind → Shared → Prop} (h2 : 2 ≤ vs.length) (hE : ∀ v ∈ vs, IsE s.heap v) (h : Q oneType' s) : wpAny (model prog w) A (keyKind' vs.toArray) Q E s := by
  have look : ∀ v ∈ vs, PySem.W.Looks (model prog w) s.heap (typeOf v) (.type "tuple") := fun v hv => by
    obtain ⟨l, rfl, o, ho, hc, n, hd⟩ := hE v hv
    exact hc ▸ (PySem.W.Looks.ld ho).andThen .now
  obtain ⟨v₁, v₂, rest, rfl⟩ : ∃ v₁ v₂ rest, vs = v₁ :: v₂ :: rest := by
    match vs, h2 with
    | [], h2 => simp at h2
    | [_], h2 => simp at h2
    | v₁ :: v₂ :: rest, _ => exact ⟨v₁, v₂, rest, rfl⟩
  rw [kat_kind_eq, List.mapM_toArray, map_eq_pure_bind]
  refine wpAny_bind (wpAny_bind (PySem.W.kas_mapM (r := none) _ (fun v hv Q' hq => ?_) (wpAny_pure ?_)))
  · rw [PySem.W.kas_first_eq]
    refine wpAny_bind ((look v hv).here ?_)
    rw [if_neg (by decide)]
    obtain ⟨l, rfl, o, ho, hc, n, hd⟩ := hE v hv
    refine wpAny_bind (listItems_at ho hd (wpAny_pure ?_))
    exact hq
  · rw [if_neg (by simp), if_neg (by simp)]
    rw [oneTypeOnly'_eq, List.mapM_toArray, map_eq_pure_bind]
    refine wpAny_bind (wpAny_bind (wpAny_bind (PySem.W.kas_mapM (r := Value.type "tuple") _ (fun v hv Q' hq => (look v hv).here hq) (wpAny_pure ?_))))
    have hall : ((List.map (fun _ => Value.type "tuple") (v₁ :: v₂ :: rest)).toArray.all fun x => x == Value.type "tuple") = true := by
      simp only [List.all_toArray, List.all_map, List.all_eq_true]
      intro _ _
      exact beq_self_eq_true _
    have h0 : (List.map (fun _ => Value.type "tuple") (v₁ :: v₂ :: rest)).toArray[0]? = some (Value.type "tuple") := by simp
    rw [h0]
    simp only [hall, if_true]
    exact wpAny_pure (wpAny_pure h)
theorem E_sortable {a : Addr} {vs : List Value} (h2 : 2 ≤ vs.length) (hE : ∀ v ∈ vs, IsE s.heap v) (ha : ∀ o, s.heap.get? a = some o → o.cls ≠ .type "tuple") (hu : A.units < cLine) : SrtO.SortableO prog w A s a vs fun _ _ => false := by
  intro h' keep
  have hE' : ∀ v ∈ vs, IsE h' v := fun v hm => by
    obtain ⟨l, rfl, o, ho, hc, n, hd⟩ := hE v hm
    exact ⟨l, rfl, o, keep l o (fun z => by subst z; exact ha o ho hc) ho, hc, n, hd⟩
  refine ⟨oneType', fun Q E hq => kind_E h2 hE' hq, fun p q hm hm' => ?_⟩
  show wpAny (model prog w) A (keyLt' oneType' p.1 q.1) (fun r s' => s' = _ ∧ r = false) (fun _ _ => False) _
  rw [keyLt'_oneType]
  exact oneLt_E (hE' _ hm) (hE' _ hm') hu ⟨rfl, rfl⟩
end
section
variable {X : Cx}
theorem sortW_E {ws : List (List Int)} (h : ∀ w ∈ ws, w = []) : sortW ws = ws := by
  have e : ws = List.replicate ws.length [] := List.eq_replicate_iff.mpr ⟨rfl, h⟩
  have h1 : (sortW ws).Perm ws := List.mergeSort_perm _ _
  have h2 : sortW ws = List.replicate ws.length [] := List.eq_replicate_iff.mpr ⟨h1.length_eq, fun w hw => h w (h1.mem_iff.mp hw)⟩
  rw [h2, ← e]
def rSortW2 (K : PySem.W.Frag) : List V → Hp → VK → Prop := fun vs H Q => ∃ (a : Addr) (bs : List Addr) (ws : List (List Int)), vs = [V.ref a] ∧ SqL K H a (bs.map V.ref) ∧ Paired (fun b (w : List Int) => H b = some (.tup (w.map V.int))) bs ws ∧ (∀ w ∈ ws, w.length = (ws.headD []).length) ∧
  ∀ (cs : List Addr) (p : Addr), Paired (fun b (w : List Int) => H b = some (.tup (w.map V.int))) cs (sortW ws) → H p = none → Q (.ref p) (upd H p (.lst (cs.map V.ref)))
theorem cr_sortW2 (hu : X.A.units + 64 < cLine) : CallR X (.builtin "sorted") (rSortW2 X.K) := by
  intro pins s σ H vs us Q I r h
  obtain ⟨a, bs, ws, rfl, hs, hp, hlen, q⟩ := h
  by_cases hshort : ws.length ≤ 1
  · exact cr_sortW hu pins s σ H _ us Q I r ⟨a, bs, ws, rfl, hs, hp, .inl hshort, q⟩
  by_cases hn : 1 ≤ (ws.headD []).length
  · exact cr_sortW hu pins s σ H _ us Q I r ⟨a, bs, ws, rfl, hs, hp, .inr ⟨_, hn, hlen⟩, q⟩
  -- empty tuples
  have hE : ∀ w ∈ ws, w = [] := fun w hw => List.eq_nil_of_length_eq_zero (by rw [hlen w hw]; omega)
  obtain ⟨its, rv, hl, hz⟩ := I.list hs
  obtain ⟨u, rfl, ru⟩ := vals1 r
  obtain rfl : u = Value.ref a := ru
  have hits := refs_vals rv
  subst hits
  have hbl : (bs.map Value.ref).length = ws.length := by rw [List.length_map]; exact Paired.length hp
  have hbz : bs.length ≤ sizeLine := by
    rw [List.length_map] at hz
    exact hz
  have hH : ∀ b ∈ bs, H b = some (.tup []) := fun b hb => by
    obtain ⟨i, hi⟩ := List.mem_iff_getElem?.mp hb
    obtain ⟨w, hw, z⟩ := pairedGetL hp hi
    rw [hE w (List.mem_of_getElem? hw)] at z
    exact z
  have hIs : ∀ v ∈ bs.map Value.ref, IsE s.heap v := fun v hv => by
    obtain ⟨b, hb, rfl⟩ := List.mem_map.mp hv
    obtain ⟨_, its2, r2, o, ho, hc, m, hd⟩ := I.hok _ _ (hH b hb)
    have : its2 = [] := by cases r2; rfl
    subst this
    exact ⟨b, rfl, o, ho, hc, m, hd⟩
  have hu2 : X.A.in1.in1.units < cLine := by
    have e : X.A.in1.in1.units ≤ X.A.units + 2 := by simp [Around.in1, Around.units] 
    omega
  refine SrtO.sorted_ord (ltv := fun _ _ => false) ⟨fun _ _ _ => rfl, fun _ _ _ _ _ => rfl⟩ hl.isList (by rw [List.length_map]; exact hbz) (fun h2 h₁ a ha kk => ?_) (fun out h1 h2 => ?_)
  · refine E_sortable (s := { s with heap := h₁ }) h2 (fun v hv => ?_) (fun o e => ?_) hu2
    · obtain ⟨l, rfl, o, ho, hc, m, hd⟩ := hIs v hv
      exact ⟨l, rfl, o, (kk l o ho).2, hc, m, hd⟩
    · have e' : some o = some (seqObj "list" (bs.map Value.ref).toArray 0) := e.symm.trans ha
      cases e'
      intro c
      exact absurd (Value.type.inj c) (by decide)
  · obtain ⟨cs, rfl, hcs⟩ : ∃ cs : List Addr, out = cs.map Value.ref ∧ ∀ c ∈ cs, c ∈ bs := by
      have hm : ∀ v ∈ out, ∃ b ∈ bs, v = Value.ref b := fun v hv => by
        obtain ⟨b, hb, rfl⟩ := List.mem_map.mp (h2.perm.mem_iff.mp hv)
        exact ⟨b, hb, rfl⟩
      clear h1 h2
      induction out with
      | nil => exact ⟨[], rfl, fun c hc => by cases hc⟩
      | cons v out ih =>
        obtain ⟨b, hb, rfl⟩ := hm v List.mem_cons_self
        obtain ⟨cs, rfl, hcs⟩ := ih fun v hv => hm v (List.mem_cons_of_mem _ hv)
        exact ⟨b :: cs, rfl, fun c hc => by
          rcases List.mem_cons.mp hc with rfl | hc
          · exact hb
          · exact hcs c hc⟩
    have hcl : cs.length = ws.length := by
      have := h2.perm.length_eq
      rw [List.length_map] at this
      rw [this, hbl]
    have hpair : Paired (fun b (w : List Int) => H b = some (.tup (w.map V.int))) cs (sortW ws) := by
      rw [sortW_E hE]
      clear h1 h2
      have : ∀ (cs : List Addr) (ws : List (List Int)), cs.length = ws.length → (∀ c ∈ cs, c ∈ bs) → (∀ w ∈ ws, w = []) → Paired (fun b (w : List Int) => H b = some (.tup (w.map V.int))) cs ws := by
        intro cs
        induction cs with
        | nil =>
          intro ws hl _ _
          cases ws with
          | nil => exact .nil
          | cons _ _ => simp at hl
        | cons c cs ih =>
          intro ws hl hc hw
          cases ws with
          | nil => simp at hl
          | cons w ws =>
            refine .cons ?_ (ih ws (by simpa using hl) (fun x hx => hc x (List.mem_cons_of_mem _ hx)) (fun x hx => hw x (List.mem_cons_of_mem _ hx)))
            rw [hw w List.mem_cons_self]
            exact hH c (hc c List.mem_cons_self)
      exact this cs ws hcl hcs hE
    obtain ⟨n, hn⟩ := PyProof.Rows.sortedAll_at s.heap (bs.map Value.ref) (cs.map Value.ref).toArray
    refine ⟨.ref _, upd H _ (.lst (cs.map V.ref)), I.laid (t' := s.toks) (fun b o e => PyProof.Rows.sortedAll_old e) (Nat.le_succ _) ⟨by rw [List.length_map, hcl, ← hbl, List.length_map]; exact hbz, cs.map Value.ref, n, vals_refs cs, hn⟩, rfl, q cs _ hpair (I.hok.fresh (Nat.le_succ _))⟩
def sortO2 : List Dt → Option (List Dt)
  | [.lst ds] => (wordsOf ds).bind fun ws => if ∀ w ∈ ws, w.length = (ws.headD []).length then some ((sortW ws).map Wd) else none
  | _ => none
theorem sortO2_run {ws : List (List Int)} {n : Nat} (h : ∀ w ∈ ws, w.length = n) : sortO2 [.lst (ws.map Wd)] = some ((sortW ws).map Wd) := by
  unfold sortO2
  dsimp only
  rw [wordsOf_map]
  dsimp only [Option.bind]
  rw [if_pos]
  intro w hw
  cases ws with
  | nil => cases hw
  | cons x r => rw [h w hw]; exact (h x List.mem_cons_self).symm
theorem dn_sorted2 {W : WX} {e : Expr} {p pos : Pos} {f : Ms → R Dt} (hu : X.A.units + 64 < cLine) (hg : Gl X "sorted") (hm : X.mg "sorted" = none) (ha : PE X e (tD X.K W f)) (hs : starEach [e] X.env = (false, eval e X.env) :: starEach [] X.env := by rfl) : PE X (.Call (.Name "sorted" p) [e] [] pos) (tN X.K W (calN (aCons f aNil) sortO2)) :=
  monoE (pe_callB (cr_sortW2 hu) hg hm (by decide +kernel) (da_cons ha da_nil hs) (by decide) (by decide) hs (by rfl)) fun σ H Q q => by
    obtain ⟨B, F, as, S, r0, o⟩ := q
    refine ⟨B, F, as, S, r0, Out.mono (Out.bind o) fun ds F1 H1 as1 S1 ⟨r1, e1, o1⟩ vs hv => ?_⟩
    cases hz : sortO2 ds with
    | none => rw [hz] at o1; exact o1.elim
    | some z =>
      rw [hz] at o1
      unfold sortO2 at hz
      split at hz
      · rename_i xs _
        cases hw : wordsOf xs with
        | none => rw [hw] at hz; cases hz
        | some ws =>
          rw [hw] at hz
          dsimp only [Option.bind] at hz
          split at hz
          · rename_i hc
            cases hz
            have e2 := wordsOf_eq hw
            subst e2
            obtain ⟨v, rfl, h1⟩ := rpa1 hv
            cases h1 with
            | lst hs ha =>
              obtain ⟨bs, rfl, hb⟩ := refs_of ha
              refine ⟨_, bs, ws, rfl, Evl.ex_l r1.fh (Evl.sq_of hs), hb.mono fun b w h => r1.fh _ _ h, hc, fun cs p hcs hp => ?_⟩
              have : ∀ {cs : List Addr} {us : List (List Int)}, Paired (fun b (w : List Int) => H1 b = some (.tup (w.map V.int))) cs us → ∃ F2, Ext F1 F2 as1 as1 ∧ Rep X.K B F2 H1 as1 σ S1 ∧ RpA X.K F2 (cs.map V.ref) (us.map Wd) := by
                intro cs us h
                have h' : Paired (fun b (q : List Int × Dt) => H1 b = some (.tup (q.1.map V.int))) cs (us.map fun w => (w, Dt.non)) := by
                  clear hcs
                  induction h with
                  | nil => exact .nil
                  | cons h t ih => exact .cons h ih
                obtain ⟨F2, e2, r2, h2⟩ := knowAll r1 h'
                rw [List.map_map] at h2
                exact ⟨F2, e2, r2, h2⟩
              obtain ⟨F2, e2, r2, h2⟩ := this hcs
              obtain ⟨f1, f2, f3⟩ := r2.fresh hp
              exact o1 F2 _ as1 e2 (r2.grow hp _) p _ f1 f2 f3 upd_same h2
          · cases hz
      · cases hz
end
end Lq

namespace Lq
open PySem PySem.Spec PyProof.Rows L2
open Evl (Ex)
section
variable {X : Cx} {W : WX} {a b c e o : Expr} {pos p : Pos} {f g : Ms → R Dt} {i : Nat}
theorem RpA.erase {K : PySem.W.Frag} {F : Hp} : ∀ {vs : List V} {ds : List Dt} (j : Nat), RpA K F vs ds → RpA K F (vs.eraseIdx j) (ds.eraseIdx j)
  | _, _, _, .nil => .nil
  | _, _, 0, .cons _ t => t
  | _, _, j + 1, .cons h t => .cons h (RpA.erase j t)
instance : ∀ i j, Decidable (CPow i j) := fun i j => by unfold CPow; infer_instance
end
inductive FoN where | ok (ys : List Dt) | er (e : Er) | no
def spN (K : PySem.W.Frag) (n : Nat) (f : List Dt → FoN) : Sp := fun vs H Q E => ∃ B F ds, ds.length = n ∧ Ex F H ∧ Kept B F H ∧ RpA K F vs ds ∧ match f ds with
  | .ok ys => ∀ a F' H' us, Ex F F' → Ex F' H' → Kept B F' H' → B a = none → F' a = none → H' a = some (.lst us) → RpA K F' us ys → Q (.ref a) H'
  | .er e => ∀ F' H' dx fs, Ex F F' → Ex F' H' → Kept B F' H' → DictR H' dx fs → fs.map (·.1) = e.ks → RpA K F' (fs.map (·.2)) e.ds → E (.ref e.C) dx H'
  | .no => False
inductive ON where | rt (ys : List Dt) (s : Ms) | er (e : Er) (s : Ms) | no
def sN (K : PySem.W.Frag) (W : WX) (m : Ms → ON) : TS := fun D σ H => ∃ B F as S, Rep K B F H as σ S ∧ match m S with
  | .rt ys S' => ∀ σ' F' H' as' p us, Ext F F' as as' → Rep K B F' H' as' σ' S' → B p = none → F' p = none → H' p = some (.lst us) → RpA K F' us ys → D.rt (.ref p) H'
  | .er e S' => ∀ σ', OutE K W B F as σ' e S'
  | .no => False
def seqN (m : Ms → O) (n : Ms → ON) : Ms → ON := fun S => match m S with | .nx S1 => n S1 | .er e S1 => .er e S1 | _ => .no
def retNV (i : Nat) : Ms → ON := fun S => match muAt S i with | some (_, xs) => .rt xs S | none => .no
def retNL (f : Ms → R (List Dt)) : Ms → ON := fun S => match f S with | .ok ys S1 => .rt ys S1 | .er e S1 => .er e S1 | .no => .no
section
variable {X : Cx} {W : WX} {e o : Expr} {st : Stmt} {rest : List Stmt} {m : Ms → O} {n : Ms → ON} {f : Ms → R (List Dt)} {i : Nat} {pos : Pos}
theorem dsN_cons (h1 : PS X st (sD X.K W m)) (h2 : PSs X rest (sN X.K W n)) : PSs X (st :: rest) (sN X.K W (seqN m n)) := monoSs (pss_cons h1 h2) fun D σ H q => by
  obtain ⟨B, F, as, S, r, o⟩ := q
  refine ⟨B, F, as, S, r, ?_⟩
  unfold seqN at o
  revert o
  cases m S with
  | nx S1 =>
    intro o σ1 F1 H1 as1 e1 r1
    refine ⟨B, F1, as1, S1, r1, ?_⟩
    revert o
    show (match n S1 with | .rt _ _ => _ | .er _ _ => _ | .no => _) → _
    cases n S1 with
    | rt ys S2 => exact fun o σ' F' H' as' p us e' r' => o σ' F' H' as' p us (e1.trans e') r'
    | er x S2 => exact fun o σ' F' H' as' dx fs e' r' => o σ' F' H' as' dx fs (e1.trans e') r'
    | no => exact fun o => o
  | er x S1 => exact fun o => o
  | rt d S1 => exact fun o => o.elim
  | bk S1 => exact fun o => o.elim
  | ct S1 => exact fun o => o.elim
  | no => exact fun o => o.elim
theorem dsN_retL (h : PE X e (tN X.K W f)) : PSs X [.Return (some e) pos] (sN X.K W (retNL f)) := monoSs (pss_one (ps_ret h)) fun D σ H q => by
  obtain ⟨B, F, as, S, r, o⟩ := q
  refine ⟨B, F, as, S, r, ?_⟩
  unfold retNL at o
  revert o
  cases f S with
  | ok ys S1 => exact fun o F' H' as' e' r' p vs h1 h2 h3 h4 h5 => o σ F' H' as' p vs e' r' h2 h1 h4 h5
  | er x S1 => exact fun o => o σ
  | no => exact fun o => o
end
def ON.fo : ON → FoN | .rt ys _ => .ok ys | .er e _ => .er e | .no => .no
def runN (n : Nat) (m : Ms → ON) (ds : List Dt) : FoN := (m (st0 n ds)).fo
section
variable {P : Program} {w : World} {K : PySem.W.Frag} {mg : Str → Option Value} {base : Heap}
theorem defOkN {x qual : Str} {st : Stmt} {f : Addr} {fd : FuncData} {N ps : List Str} {k : Nat} {m : Ms → ON} (F : Fun K x qual st f fd) (S : FnScope N ps (defScope st))
    (hbody : ∀ (cdv : Value) (A : Around) (outer : List Env) (s : Shared) (H : Hp) (E : XK), Room k (A.deeper (envOfC qual (defScope st) s.heap.objs.size f cdv)) →
      PSs (cxOf (L2.CX P w) P w K mg base N qual (defScope st) f cdv A outer s H E) (defBody st) (sN K (fun cls d _ H' => E cls d H') m)) :
    FnOk P w K mg base (L2.CX P w) (k + 1) f fd ps (spN K ps.length (runN N.length m)) := by
  refine F.okX S (fun vs H Q E h => ?_) (fun cdv A outer s H vs Q E hr h => ⟨_, hbody cdv A outer s H E hr, ?_⟩)
  · obtain ⟨B, F, ds, hn, _, _, hv, _⟩ := h
    rw [hv.length, hn]
  · obtain ⟨B, F, ds, hn, e, kp, hv, q⟩ := h
    refine ⟨B, F, [], st0 N.length ds, ⟨e, kp, ?_, .nil, List.nodup_nil⟩, ?_⟩
    · unfold L2.start st0
      rw [hv.length]
      exact paired_im hv (paired_no _)
    · unfold runN at q
      revert q
      cases m (st0 N.length ds) with
      | rt ys S' => exact fun q σ' F' H' as' p us e' r h1 h2 h3 h4 => q p F' H' us e'.1 r.fh r.bh h1 h2 h3 h4
      | er e S' => exact fun q σ' F' H' as' dx fs e' r => q F' H' dx fs e'.1 r.fh r.bh
      | no => exact fun q => q
end
theorem FnOk.toN {P : Program} {w : World} {K : PySem.W.Frag} {mg : Str → Option Value} {base : Heap} {CX : CXT} {k : Nat} {f : Addr} {fd : FuncData} {ps : List Str} {n : Nat} {g h : List Dt → FoN} (F : FnOk P w K mg base CX k f fd ps (spN K n g)) (e : ∀ ds, h ds ≠ .no → g ds = h ds) :
    FnOk P w K mg base CX k f fd ps (spN K n h) := F.imp fun vs H Q E ⟨B, F, ds, hn, h1, h2, h3, h4⟩ => ⟨B, F, ds, hn, h1, h2, h3, by
      have : h ds ≠ .no := by intro z; rw [z] at h4; exact h4
      rw [e ds this]
      exact h4⟩
def funN (n : Nat) (fs : Ms → R (List Dt)) (f : List Dt → FoN) : Ms → R (List Dt) := fun S => (fs S).bind fun ds S1 => if ds.length = n then (match f ds with | .ok ys => .ok ys S1 | .er e => .er e S1 | .no => .no) else .no
section
variable {X : Cx} {W : WX} {e : Expr} {es : List Expr} {fs : Ms → R (List Dt)} {x : Str} {p pos : Pos} {j k n : Nat} {ps : List Str} {g : List Dt → FoN}
theorem callN_run {K : PySem.W.Frag} {σ : L2.St} {H : Hp} {Q : VK} (q : tN K W (funN n fs g) σ H Q) : tCallS (spN K n g) (WE W) (tA K W fs) σ H Q := by
  obtain ⟨B, F, as, S, r, o⟩ := q
  refine ⟨B, F, as, S, r, Out.mono (Out.bind o) fun ds F1 H1 as1 S1 ⟨r1, e1, o1⟩ vs hv => ?_⟩
  split at o1
  · rename_i hn
    refine ⟨holdB B F1 H1 as1, F1, ds, hn, r1.fh, hold_kept r1, hv, ?_⟩
    cases hg : g ds with
    | ok ys =>
      rw [hg] at o1
      intro a F' H' us ee eh kp hB hF hH hu
      refine o1 F' H' as1 ⟨ee, [], by simp⟩ (hold_back r1 ee eh kp) a us hF ?_ ?_ hH hu
      · unfold holdB at hB
        split at hB
        · rename_i hin
          obtain ⟨i, hi⟩ := List.mem_iff_getElem?.mp hin
          obtain ⟨mm, hmm, z⟩ := pairedGetL r1.mo hi
          cases mm with
          | ob c => exact z.1
          | fz d =>
            obtain ⟨⟨u, z1⟩, _⟩ := z
            rw [ee _ _ z1] at hF
            cases hF
        · exact hB
      · intro hin
        unfold holdB at hB
        rw [if_pos hin] at hB
        obtain ⟨i, hi⟩ := List.mem_iff_getElem?.mp hin
        obtain ⟨mm, hmm, z⟩ := pairedGetL r1.mo hi
        cases mm with
        | ob c =>
          obtain ⟨_, z2, u, z3, _⟩ := z
          rw [if_pos z2, z3] at hB
          cases hB
        | fz d =>
          obtain ⟨⟨u, z1⟩, _⟩ := z
          rw [ee _ _ z1] at hF
          cases hF
    | er x =>
      rw [hg] at o1
      exact fun F' H' dx fs ee eh kp h1 h2 h3 => o1 F' H' as1 dx fs ⟨ee, [], by simp⟩ (hold_back r1 ee eh kp) h1 h2 h3
    | no => rw [hg] at o1; exact o1.elim
  · exact o1.elim
theorem dn_cal (c : Cal X.prog X.w X.K X.mg X.base x k ps (spN X.K n g)) (tk : Takes X W) (hr : Room j X.A) (hk : k ≤ j) (hg : Gl X x)
    (ha : PA X (e :: es) (tA X.K W fs)) (hdb : (x == ("__debug__" : Str)) = false := by decide) (he : starEach (e :: es) X.env = (false, eval e X.env) :: starEach es X.env := by rfl) (hpl : (backTo pos (starEach es X.env)).any (·.1) = false := by rfl) :
    PE X (.Call (.Name x p) (e :: es) [] pos) (tN X.K W (funN n fs g)) := by
  obtain ⟨f, fd, G, hm, kp, hb⟩ := c
  exact monoE (pe_callS G (hr.mono hk) hg hm kp hb (fun σ => passAt tk σ) ha hdb he hpl) fun σ H Q q => callN_run q
end
def spLaw (K : PySem.W.Frag) : Sp := fun vs H Q _ => ∃ (a : Addr) (ns : List Int), vs = [.ref a] ∧ SqL K H a (ns.map V.int) ∧ ns.length ≤ 63 ∧ ∀ H', Q (.bl true) H'
def scrD (ns : List Int) : Dt := .scr false (ns.map Dt.int)
theorem sql_one {K : PySem.W.Frag} {H : Hp} {a : Addr} {xs : List V} (h : SqL K H a xs) : SqL K (fun b => if b = a then H a else none) a xs := by
  rcases h with h | h
  · refine .inl ?_
    unfold Rd at *
    simp only [if_pos rfl]
    exact h
  · exact .inr h
section
variable {P : Program} {w : World} {K : PySem.W.Frag} {mg : Str → Option Value} {base : Heap}
theorem lawOk {st : Stmt} {f : Addr} {fd : FuncData} {N : List Str} {k : Nat} {m : Ms → O} (F : Fun K "law" "law" st f fd) (S : FnScope N ["script"] (defScope st))
    (hrun : ∀ ns : List Int, ns.length ≤ 63 → ∃ S', m (st0 N.length [scrD ns]) = .rt (.bl true) S')
    (hbody : ∀ (cdv : Value) (A : Around) (outer : List Env) (s : Shared) (H : Hp) (E : XK), Room k (A.deeper (envOfC "law" (defScope st) s.heap.objs.size f cdv)) →
      PSs (cxOf (L2.CX P w) P w K mg base N "law" (defScope st) f cdv A outer s H E) (defBody st) (sD K (fun cls d _ H' => E cls d H') m)) :
    FnOk P w K mg base (L2.CX P w) (k + 1) f fd ["script"] (spLaw K) := by
  refine F.okX S (fun vs H Q E h => ?_) (fun cdv A outer s H vs Q E hr h => ⟨_, hbody cdv A outer s H E hr, ?_⟩)
  · obtain ⟨a, ns, rfl, _⟩ := h
    rfl
  · obtain ⟨a, ns, rfl, hS, hlen, q⟩ := h
    obtain ⟨S', e⟩ := hrun ns hlen
    have hv : RpA K (fun b => if b = a then H a else none) [V.ref a] [scrD ns] := .cons (.scr false (sql_one hS) (RpA.ints ns)) .nil
    refine ⟨fun _ => none, fun b => if b = a then H a else none, [], st0 N.length [scrD ns], ⟨fun b o z => ?_, fun b o z => (nomatch z), ?_, .nil, List.nodup_nil⟩, ?_⟩
    · by_cases hb : b = a
      · rw [if_pos hb] at z
        rw [hb]; exact z
      · rw [if_neg hb] at z
        cases z
    · unfold L2.start st0
      exact paired_im hv (paired_no _)
    · rw [e]
      intro σ' F' H2 as' v e' r hv
      have hv' := hv.blv
      subst hv'
      exact q _
end
end Lq

namespace Lq
open PySem PySem.Spec PyProof.Rows L2
open Evl (Ex)
section
variable {X : Cx} {W : WX} {a b c e o tg : Expr} {pos p apos : Pos} {f g : Ms → R Dt} {i : Nat} {x : Str}
end
def spI1i (C : Addr) (fld : Str) : Sp := fun vs H Q _ => ∃ (a : Addr) (y : Int), vs = [.ref a, .int y] ∧ y = 0 ∧ H a = some (exo a C none) ∧ ∀ dx, H dx = none → dx ≠ a → Q .non (upd (upd H dx (exd dx [(fld, .int y)])) a (exo a C (some dx)))
structure RaI (P : Program) (w : World) (K : PySem.W.Frag) (mg : Str → Option Value) (base : Heap) (x : Str) (C : Addr) (fld : Str) : Prop where
  T : OexC K C
  ini : ∃ fI fd, PySem.W.findIn K (.ref C) "__init__" = some (some (.ref fI)) ∧ PySem.W.typeIn K (.ref fI) = some (.type "function") ∧ FnOk P w K mg base CX0 1 fI fd ["self", fld] (spI1i C fld) ∧ Binds K fd ["self", fld] []
  gC : mg x = some (.ref C)
  xc : XfC K C
  nf : PySem.W.findIn K (.ref C) fld = some none
  e1 : PySem.W.exmOne K (.ref C) (.ref C) = some true
structure RaS (P : Program) (w : World) (K : PySem.W.Frag) (mg : Str → Option Value) (base : Heap) (x : Str) (C : Addr) (fld : Str) : Prop where
  T : OexC K C
  ini : ∃ fI fd, PySem.W.findIn K (.ref C) "__init__" = some (some (.ref fI)) ∧ PySem.W.typeIn K (.ref fI) = some (.type "function") ∧ FnOk P w K mg base CX0 1 fI fd ["self", fld] (spI1 C fld) ∧ Binds K fd ["self", fld] []
  gC : mg x = some (.ref C)
  xc : XfC K C
  nf : PySem.W.findIn K (.ref C) fld = some none
  e1 : PySem.W.exmOne K (.ref C) (.ref C) = some true
section
variable {X : Cx} {W : WX} {x fld : Str} {C : Addr} {i : Int} {j : Nat} {p p2 pos pos' : Pos}
end
section
variable {X : Cx} {W : WX} {x n fld : Str} {C : Addr} {i : Nat} {m : Ms → O} {body : List Stmt} {np pos pos' p1 p2 p3 : Pos}
end
end Lq

namespace Lq
open PySem PySem.Spec PyProof.Rows L2
open Evl (Ex)
end Lq

namespace Lq
open PySem PySem.Spec PyProof.Rows L2
open Evl (Ex)
theorem meets_enumT (l : Addr) (items : Array Value) : Meets (Builtin.«enumerate.__new__» { pos := [.type "enumerate", .ref l] }) fun _ R s => s.heap.IsTuple l items ∧
    R (Except.ok (Flow.ret (Value.ref (s.heap.push { cls := Value.type "tuple_iterator", data := Data.fields #[Value.ref l, Value.int 0 0] }).objs.size)))
      { heap := (s.heap.push { cls := Value.type "tuple_iterator", data := Data.fields #[Value.ref l, Value.int 0 0] }).push { cls := Value.type "enumerate", data := Data.fields #[Value.none, Value.bool false, Value.ref s.heap.objs.size, rawInt 0, Value.none, Value.none] }, gens := s.gens, drawn := s.drawn, toks := s.toks, os := s.os } := by
  refine Meets.of_wp fun prog w A R s h => ?_
  obtain ⟨hl, h⟩ := h
  have hsub := sub_enumerate
  obtain ⟨hp, g, d, tk, os⟩ := s
  refine wpAny_bind ?_
  refine wpAny_bind ?_
  refine wpAny_pure ?_
  refine wpAny_ite_false rfl ?_
  refine wpAny_bind ?_
  refine wpAny_of_eq hsub ?_
  refine wpAny_ite_false rfl ?_
  refine wpAny_pure ?_
  refine wpAny_ite_true rfl ?_
  refine wpAny_bind ?_
  refine wpAny_bind ?_
  refine wpAny_stack_any fun st => ?_
  refine wpAny_pure ?_
  have tail : wpAny (model prog w) A.in1 (pyIter (Value.ref l) >>= fun x => Builtin.SmallTypes.newRecord (Value.type "enumerate") (Builtin.SmallTypes.ownedTupleFields ++ [x, rawInt 0, Value.none, Value.none]) >>= fun y => ret y) (fun fin s' => ∃ v, fin = Fin.done (Flow.ret v) ∧ R (Except.ok (Flow.ret v)) s') (fun e s' => R (Except.error e) s') { heap := hp, gens := g, drawn := d, toks := tk, os := os } := by
    refine wpAny_bind ?_
    refine wpAny_pyIter_tuple hl ?_
    refine wpAny_bind ?_
    unfold Builtin.SmallTypes.newRecord
    show wpAny _ _ (newObj _ _) _ _ _
    unfold newObj

    refine wpAny_ite_false rfl ?_
    refine wpAny_bind ?_
    refine wpAny_alloc' ?_
    refine wpAny_pure ?_
    refine wpAny_pure ?_
    exact ⟨_, rfl, h⟩
  split
  · rename_i c _ _ _ _ _
    generalize (c == Value.type "enumerate") = b
    cases b with
    | false =>
      refine wpAny_ite_false rfl ?_
      refine wpAny_bind (wpAny_of_eq (show _ = pure (Value.ref l, (none : Option Value)) from rfl) ?_)
      exact tail
    | true =>
      refine wpAny_ite_true rfl ?_
      refine wpAny_bind (wpAny_of_eq (show _ = pure (Value.ref l, (none : Option Value)) from rfl) ?_)
      exact tail
  · refine wpAny_ite_false rfl ?_
    refine wpAny_bind (wpAny_of_eq (show _ = pure (Value.ref l, (none : Option Value)) from rfl) ?_)
    exact tail
end Lq

namespace Lq
open PySem PySem.Spec PyProof.Rows L2
open Evl (Ex)
theorem nextOf_tup_item {prog : Program} {w : World} {A : Around} {E : Value → Shared → Prop} {s : Shared} {it l : Addr} {i : Nat} {items : Array Value} {x : Value} {Q : Value → Shared → Prop}
    (hit : s.heap.IsTupleIter it l i) (ht : s.heap.IsTuple l items) (hx : items[i]? = some x)
    (hQ : ∀ h' : Heap, h'.IsTupleIter it l (i + 1) → Heap.SameBut it s.heap h' → Q x { heap := h', gens := s.gens, drawn := s.drawn, toks := s.toks, os := s.os }) :
    wpAny (model prog w) A (Builtin.SmallTypes.nextOf (Value.ref it)) Q E s := by
  obtain ⟨o, ho, hc, hd⟩ := id hit
  obtain ⟨ol, hol, _, nl, hdl⟩ := ht
  refine wpAny_bind (wpAny_callSpecial?_slot (Heap.IsTupleIter.typeIs hit) F.slot_tuple_iterator_next (wpAny_call_entry F.slot_tuple_iterator_next (Heap.IsTupleIter.typeIs hit) F.entry_tuple_iterator_next ?_ (F.args_tuple_iterator_next_1 (Value.ref it))))
  refine wpAny_bind (wpAny_of_eq (show slotArgs "__next__" 0 { pos := [Value.ref it] } = pure (Value.ref it, []) from rfl) ?_)
  refine wpAny_bind (wpAny_field ho hd rfl ?_)
  rw [if_neg (by simp)]
  refine wpAny_bind (wpAny_field ho hd rfl ?_)
  refine wpAny_bind (wpAny_seqItems hol hdl ?_)
  simp only [Int.toNat_natCast, hx]
  refine wpAny_bind (wpAny_setField (i := 1) (x := rawInt ((i : Int) + 1)) ho hd (by simp) ?_)
  refine wpAny_pure (?_)
  refine (⟨x, rfl, wpAny_pure (hQ _ ⟨_, Heap.get?_update_self _ ho (Obj.isFreed_of_fields (Obj.data_mapFields hd _)), (Obj.cls_mapFields o _).trans hc, ?_⟩ (Heap.SameBut.update s.heap it _))⟩)
  rw [Obj.data_mapFields hd]
  simp
  rfl
theorem nextOf_tup_end {prog : Program} {w : World} {A : Around} {E : Value → Shared → Prop} {s : Shared} {it l : Addr} {i : Nat} {items : Array Value} {Q : Value → Shared → Prop}
    (hh : A.handled = none) (hit : s.heap.IsTupleIter it l i) (ht : s.heap.IsTuple l items) (hx : items[i]? = none)
    (hE : ∀ (h' : Heap) (e : Addr), Heap.ExtBut it s.heap h' → (∃ o, h'.get? e = some o ∧ o.cls = Value.type "StopIteration") → E (Value.ref e) { heap := h', gens := s.gens, drawn := s.drawn, toks := s.toks, os := s.os }) :
    wpAny (model prog w) A (Builtin.SmallTypes.nextOf (Value.ref it)) Q E s := by
  obtain ⟨o, ho, hc, hd⟩ := id hit
  obtain ⟨ol, hol, _, nl, hdl⟩ := ht
  refine wpAny_bind (wpAny_callSpecial?_slot (Heap.IsTupleIter.typeIs hit) F.slot_tuple_iterator_next (wpAny_call_entry F.slot_tuple_iterator_next (Heap.IsTupleIter.typeIs hit) F.entry_tuple_iterator_next ?_ (F.args_tuple_iterator_next_1 (Value.ref it))))
  refine wpAny_bind (wpAny_of_eq (show slotArgs "__next__" 0 { pos := [Value.ref it] } = pure (Value.ref it, []) from rfl) ?_)
  refine wpAny_bind (wpAny_field ho hd rfl ?_)
  rw [if_neg (by simp)]
  refine wpAny_bind (wpAny_field ho hd rfl ?_)
  refine wpAny_bind (wpAny_seqItems hol hdl ?_)
  simp only [Int.toNat_natCast, hx]
  refine wpAny_bind (wpAny_rule ?_)
  refine wpAny_bind (wpAny_setField (i := 0) (x := Value.none) ho hd (by simp) ?_)
  refine wpAny_bind ?_
  refine wpAny_bind (wpAny_newObj_type (wpAny_bind (wpAny_of_eq (Eq.refl (firstArgMember (Value.type "StopIteration") [])) (wpAny_newObj_type ?_ ?_))) ?_)
  · unfold raiseNew
    refine wpAny_bind (wpAny_handled ?_)
    rw [show A.in1.handled = none from hh]
    refine wpAny_bind (wpAny_pure ?_)
    exact wpAny_throw (hE _ _ (Heap.ExtBut.push (Heap.ExtBut.push (Heap.SameBut.extBut (Heap.SameBut.update s.heap it _)) _) _) ⟨_, Heap.get?_push_size _ rfl, rfl⟩)
  · exact sizeOk_excFields _ _ _ _ _ _ _ _
  · show (#[] : Array Value).size ≤ sizeLine
    decide

theorem drawsT {prog : Program} {w : World} {A : Around} (hh : A.handled = none) (it l : Addr) (hne : l ≠ it) (items : Array Value) :
    Draws prog w A it [it, l] items.size (fun i v => items[i]? = some v) fun i h => h.IsTupleIter it l i ∧ h.IsTuple l items where
  live := fun _ _ st => by obtain ⟨o, ho, _⟩ := st.1; exact ⟨o, ho⟩
  frame := fun _ _ _ st hk => ⟨Heap.IsTupleIter.at st.1 fun o e => hk it (by simp) o e, by
    obtain ⟨o, ho, hc⟩ := st.2
    exact ⟨o, hk l (by simp) o ho, hc⟩⟩
  item := fun i s Q E hi st hQ => nextOf_tup_item st.1 st.2 (show items[i]? = some items[i] by simp [hi]) fun h' hit' hs' => hQ items[i] h' s.toks (by simp [hi]) ⟨hit', by
    obtain ⟨o, ho, hc⟩ := st.2
    exact ⟨o, by rw [hs'.2 l hne]; exact ho, hc⟩⟩ hs'
  done := fun s Q E st hE => nextOf_tup_end hh st.1 st.2 (by simp) hE
theorem drawsE {prog : Program} {w : World} {A : Around} (hh : A.handled = none) (it l : Addr) (items : Array Value) (i : Nat) (hx : items[i]? = none) :
    Draws prog w A it [it, l] 0 (fun _ _ => False) fun _ h => h.IsTupleIter it l i ∧ h.IsTuple l items where
  live := fun _ _ st => by obtain ⟨o, ho, _⟩ := st.1; exact ⟨o, ho⟩
  frame := fun _ _ _ st hk => ⟨Heap.IsTupleIter.at st.1 fun o e => hk it (by simp) o e, by
    obtain ⟨o, ho, hc⟩ := st.2
    exact ⟨o, hk l (by simp) o ho, hc⟩⟩
  item := fun i s Q E hi => absurd hi (Nat.not_lt_zero _)
  done := fun s Q E st hE => nextOf_tup_end hh st.1 st.2 hx hE
theorem call_enumT {prog : Program} {w : World} {A : Around} {E : Value → Shared → Prop} {s : Shared} {l : Addr} {items : Array Value} {Q : Value → Shared → Prop} (hl : s.heap.IsTuple l items)
    (h : ∀ h' : Heap, IsEnum h' (s.heap.objs.size + 1) s.heap.objs.size 0 Value.none → h'.IsTupleIter s.heap.objs.size l 0 → h'.objs.size = s.heap.objs.size + 2 → (∀ (b : Addr) (o : Obj), s.heap.get? b = some o → h'.get? b = some o) →
      Q (Value.ref (s.heap.objs.size + 1)) { heap := h', gens := s.gens, drawn := s.drawn, toks := s.toks, os := s.os }) :
    wpAny (model prog w) A (call (Value.type "enumerate") [Value.ref l]) Q E s := by
  refine callType_new F.called_enumerate (by decide) (F.typeCall_enumerate_1 (Value.ref l)) (F.newCall_enumerate_1 (Value.ref l)) (fun obj => F.args_object_init_2 obj (Value.ref l)) F.entry_enumerate_new (meets_enumT l items) ⟨hl, ?_⟩
  have hz := Heap.size_push s.heap { cls := Value.type "tuple_iterator", data := Data.fields #[Value.ref l, Value.int 0 0] }
  have he := Heap.get?_push_size (s.heap.push { cls := Value.type "tuple_iterator", data := Data.fields #[Value.ref l, Value.int 0 0] }) (o := { cls := Value.type "enumerate", data := Data.fields #[Value.none, Value.bool false, Value.ref s.heap.objs.size, rawInt 0, Value.none, Value.none] }) rfl
  show _ ∧ _
  rw [hz] at he ⊢
  refine ⟨⟨_, he, rfl⟩, h _ he ⟨_, Heap.get?_push_of_some _ (Heap.get?_push_size s.heap rfl), rfl, rfl⟩ ?_ fun b o q => Heap.get?_push_of_some _ (Heap.get?_push_of_some _ q)⟩
  rw [Heap.size_push, hz]
def IteT (K : PySem.W.Frag) (a : Addr) : It := { go := fun i H => ∃ xs x, SqT K H a xs ∧ xs[i]? = some x, yld := fun i H v H' => ∃ T x, v = V.ref T ∧ H T = none ∧ H' = upd H T (HO.tup [V.int i, x]) ∧ ∀ xs : List V, SqT K H a xs → xs[i]? = some x, stop := fun i H => ∃ xs, SqT K H a xs ∧ xs.length ≤ i }
theorem turn_enumT {P : Program} {w : World} {K : PySem.W.Frag} {elts : List Expr} {kk : Nat} {tpos : Pos} (a e it : Addr) :
    Turn P w K (Expr.Tuple elts kk tpos) (IteT K a) [e, it] e fun i h => (∃ old, IsEnum h e it i old) ∧ h.IsTupleIter it a i ∧ e ≠ it where
  mem := by simp
  obj := fun i h st b hb => by
    obtain ⟨⟨old, he⟩, ⟨o, ho, hc, hd⟩, hne⟩ := st
    have e' : b = e ∨ b = it := by simpa using hb
    rcases e' with z | z
    · rw [z]; exact ⟨_, he, fun v q => nomatch q⟩
    · rw [z]; exact ⟨o, ho, fun v q => by rw [hd] at q; cases q⟩
  keep := fun i h h' st k => by
    obtain ⟨⟨old, he⟩, hi, hne⟩ := st
    exact ⟨⟨old, k e (by simp) _ he⟩, Heap.IsTupleIter.at hi fun o q => k it (by simp) o q, hne⟩
  item := fun X hP hw hK hc i pins s σ H E I hf st hg => by
    subst hP hw hK
    obtain ⟨⟨old, he⟩, hit, hne⟩ := st
    obtain ⟨xs, x, hq, hx⟩ := hg
    obtain ⟨its, rv, p, hz⟩ := Inv.tuple I hq
    obtain ⟨u, hu, ru⟩ := Vals.get rv hx
    have hel := Heap.lt_size he
    have hil : it < s.heap.objs.size := by obtain ⟨w, q, _⟩ := hit; exact Heap.lt_size q
    have p' : s.heap.IsTuple a its.toArray := p
    have hae : e ≠ a := by
      rintro rfl
      obtain ⟨o, ho, hc, _⟩ := p'
      rw [he] at ho
      cases ho
      exact absurd (Value.type.inj hc) (by decide)
    have hai : a ≠ it := by
      rintro rfl
      obtain ⟨o, ho, hc, _⟩ := p'
      obtain ⟨o2, ho2, hc2, _⟩ := hit
      rw [ho] at ho2
      cases ho2
      rw [hc] at hc2
      exact absurd (Value.type.inj hc2) (by decide)
    have hul : i < its.toArray.size := by
      rcases Nat.lt_or_ge i its.length with q | q
      · simpa using q
      · rw [List.getElem?_eq_none q] at hu; cases hu
    have hh : X.A.in1.handled = none := I.ok.hd hc
    refine wpAny_pyNext_enum_itemD (drawsT hh it a hai its.toArray) he ⟨hit, p'⟩ hul hne (by simp [hne, hae]) fun x' h' tk hx' ho hst hT hsz hk => ?_
    have ex : x' = u := by
      rw [List.getElem?_toArray, hu] at hx'
      exact (Option.some.inj hx').symm
    subst ex
    refine ⟨_, rfl, wpAny_letOwnedTupleGo_enum ho fun h'' he' sb => ?_⟩
    have hT2 := (sb.2 s.heap.objs.size (Nat.ne_of_gt hel)).trans hT
    have I1 := Inv.turnedNew (T := s.heap.objs.size) (ob := HO.tup [V.int i, x]) (h' := h'') (t' := tk + 1) (ch := [e, it]) I (fun b ob hb q => by
      have h1 : b ≠ e := fun z => hb (by simp [z])
      have h2 : b ≠ it := fun z => hb (by simp [z])
      exact (sb.2 b h1).trans (hk b ob h1 h2 q)) hf (Nat.le_refl _) ⟨show 2 ≤ sizeLine by decide, [Value.int i tk, x'], .cons ⟨tk, rfl⟩ (.cons ru .nil), _, hT2, rfl, 0, rfl⟩
    refine ⟨V.ref s.heap.objs.size, _, I1, rfl, ⟨s.heap.objs.size, x, rfl, HOk.fresh I.hok (Nat.le_refl _), rfl, fun ys hy => by rw [Inv.tuple_inj I hy hq]; exact hx⟩, ⟨⟨x', ?_⟩, Heap.IsTupleIter.at hst.1 fun o q => (sb.2 it (Ne.symm hne)).trans q, hne⟩, fun b hb => ?_⟩
    · have e1 : ((i + 1 : Nat) : Int) = (i : Int) + 1 := by omega
      rw [e1]
      exact he'
    · have e' : b = e ∨ b = it := by simpa using hb
      have hlt : b < s.heap.objs.size := by rcases e' with z | z <;> rw [z] <;> assumption
      rw [upd_ne (Nat.ne_of_lt hlt)]
      exact (hf b hb).1
  done := fun X hP hw hK hc i pins s σ H E I hf st hg => by
    subst hP hw hK
    obtain ⟨⟨old, he⟩, hit, hne⟩ := st
    obtain ⟨xs, hq, hx⟩ := hg
    obtain ⟨its, rv, p, hz⟩ := Inv.tuple I hq
    obtain ⟨f0, f1, f2, f3, f4, f5⟩ := hf it (by simp)
    have hl := Vals.length rv
    have p' : s.heap.IsTuple a its.toArray := p
    have hh : X.A.in1.handled = none := I.ok.hd hc
    have hn : its.toArray[i]? = none := by
      rw [List.getElem?_toArray, List.getElem?_eq_none]
      omega
    exact wpAny_pyNext_enum_endD (drawsE hh it a its.toArray i hn) he ⟨hit, p'⟩ fun h' eb => ⟨rfl, Inv.turned I (fun b o hb q => eb b o hb q) f0 f1 f3 f4 f5⟩
  self := fun A i s Q E st h => by
    obtain ⟨⟨old, he⟩, _⟩ := st
    exact wpAny_pyIter_enum he h
end Lq

namespace Lq
open PySem PySem.Spec PyProof.Rows L2
open Evl (Ex)
def iEnumT (K : PySem.W.Frag) (ta : TA) : TI := fun σ H R => ta σ H fun vs H1 => ∃ a xs, vs = [V.ref a] ∧ SqT K H1 a xs ∧ R (IteT K a) H1
theorem pi_enumT {X : Cx} {e : Expr} {ta : TA} {p pos tpos : Pos} {elts : List Expr} {kk : Nat} (hg : Gl X "enumerate") (hm : X.mg "enumerate" = none) (ha : PA X [e] ta) (hs : starEach [e] X.env = [(false, eval e X.env)] := by rfl) :
    PI X (.Tuple elts kk tpos) (.Call (.Name "enumerate" p) [e] [] pos) (iEnumT X.K ta) :=
  ⟨fun pins s σ H R I h => Call_ (ld_blt I hg hm boot_enumerate (PyProof.Rows.callWith_type1 (thn (ha.run pos pins s σ H (fun vs H1 => ∃ a xs, vs = [V.ref a] ∧ SqT X.K H1 a xs ∧ R (IteT X.K a) H1) I h) fun us s1 x => by
    obtain ⟨vs, H1, I1, r1, a, xs, rfl, hq, q⟩ := x
    have hu := Vals.ref1 r1
    subst hu
    obtain ⟨its, rv, p', hz⟩ := Inv.tuple I1 hq
    refine call_enumT p' fun h' he hit hsz hk => wpAny_pyIter_enum he ?_
    have I2 := Inv.kept (t' := s1.toks) I1 hk
    refine ⟨_, [s1.heap.objs.size + 1, s1.heap.objs.size], _, IteT X.K a, H1, rfl, I2, turn_enumT a _ _, ⟨⟨Value.none, he⟩, hit, Nat.succ_ne_self _⟩, fun b hb => ?_, q⟩
    have hle : s1.heap.objs.size ≤ b := by
      have e' : b = s1.heap.objs.size + 1 ∨ b = s1.heap.objs.size := by simpa using hb
      rcases e' with z | z <;> rw [z]
      · exact Nat.le_succ _
      · exact Nat.le_refl _
    exact Inv.fpOk I1 hle (HOk.fresh I1.hok hle)) hs rfl) (by decide) (by decide)) rfl⟩
def enumD (xs : List Dt) : List Dt := xs.zipIdx.map fun x => Dt.tup [.int (x.2 : Int), x.1]
theorem enumD_len (xs : List Dt) : (enumD xs).length = xs.length := by simp [enumD]
theorem enumD_get {xs : List Dt} {i : Nat} {d : Dt} (h : xs[i]? = some d) : (enumD xs)[i]? = some (.tup [.int (i : Int), d]) := by
  unfold enumD
  rw [List.getElem?_map, List.getElem?_zipIdx, h]
  simp
def itEn (f : Ms → R (List Dt)) : Ms → R (List Dt) := fun S => (f S).bind fun ds S1 => match ds with | [.tup xs] => .ok (enumD xs) S1 | _ => .no
theorem walksEn {K : PySem.W.Frag} {F : Hp} {a : Addr} {xs : List V} {ds : List Dt} (hs : TupAt K F a xs) (ha : RpA K F xs ds) : Lq.Walks K F (IteT K a) (enumD ds) := by
  have hl : (enumD ds).length = xs.length := by rw [enumD_len, ha.length]
  refine ⟨fun i H hi e => ?_, fun H e => ⟨xs, Evl.ex_t e hs.sq, by rw [hl]; exact Nat.le_refl _⟩, fun i H x H' F1 hi e e2 y => ?_⟩
  · rw [hl] at hi
    exact ⟨xs, xs[i], Evl.ex_t e hs.sq, by simp [hi]⟩
  · obtain ⟨T, u, rfl, h1, rfl, h2⟩ := y
    obtain ⟨d, d1, d2⟩ := ha.getv (h2 _ (Evl.ex_t (e.trans e2) hs.sq))
    refine ⟨_, enumD_get d1, .inr ⟨T, .tup [.int i, u], h1, rfl, ?_⟩⟩
    have ht : F1 T = none := by
      cases w : F1 T with
      | none => rfl
      | some o => rw [e2 _ _ w] at h1; cases h1
    exact .tup upd_same (.cons (.int _) (.cons ((d2.up e).up (Ex.new ht)) .nil))
section
variable {X : Cx} {W : WX} {a b c e o tg : Expr} {pos p tpos apos : Pos} {f g : Ms → R Dt} {fs : Ms → R (List Dt)} {i : Nat} {x : Str}
theorem di_enum {elts : List Expr} {kk : Nat} (hg : Gl X "enumerate") (hm : X.mg "enumerate" = none) (ha : PA X [e] (tA X.K W fs)) (hs : starEach [e] X.env = [(false, eval e X.env)] := by rfl) :
    PI X (.Tuple elts kk tpos) (.Call (.Name "enumerate" p) [e] [] pos) (tI X.K W (itEn fs)) := monoI1 (pi_enumT hg hm ha hs) fun σ H R q => by
  obtain ⟨B, F, as, S, r, o⟩ := q
  refine ⟨B, F, as, S, r, Out.mono (Out.bind o) fun ds F1 H1 as1 S1 ⟨r1, e1, o1⟩ vs hv => ?_⟩
  split at o1
  · obtain ⟨v, rfl, h1⟩ := rpa1 hv
    cases h1 with
    | tup hs ha => exact ⟨_, _, rfl, Evl.ex_t r1.fh hs.sq, Out.now o1 r1 _ (walksEn hs ha)⟩
  · exact o1.elim
def anyO : List Dt → Option Dt | [.lst xs] => (blsOf xs).map fun bs => .bl (bs.any id) | _ => none
@[simp] theorem anyO_run (bs : List Bool) : anyO [.lst (bs.map Dt.bl)] = some (.bl (bs.any id)) := by unfold anyO; dsimp only; rw [blsOf_map]; rfl
end
section
variable {X : Cx} {W : WX} {a : Expr} {pos p : Pos} {f : Ms → R Dt}
def sumT : List Dt → Option Dt | [.tup xs] => (intsOf xs).map fun ns => .int ns.sum | _ => none
@[simp] theorem sumT_run (ns : List Int) : sumT [.tup (ns.map Dt.int)] = some (.int ns.sum) := by unfold sumT; dsimp only; rw [intsOf_map]; rfl
end
end Lq

namespace Lq
open PySem PySem.Spec PyProof.Rows L2
open Evl (Ex)
structure RaN (P : Program) (w : World) (K : PySem.W.Frag) (mg : Str → Option Value) (base : Heap) (x : Str) (C : Addr) : Prop where
  gC : mg x = some (.ref C)
  kC : PySem.W.keepIn K (.ref C) = true
  xC : PySem.W.excIn K C [.type "ValueError", .type "Exception", .type "BaseException", .type "object"] "ValueError.__new__" = true
  eC : PySem.W.subIn K (.ref C) (.type "BaseException") = some true
  tC : PySem.W.typeIn K (.ref C) = some (.type "type")
  e1 : PySem.W.exmOne K (.ref C) (.ref C) = some true
section
variable {X : Cx} {W : WX} {x y fld : Str} {C : Addr} {j : Nat} {p p2 pos pos' : Pos} {m : Str}
theorem ds_raiseN (T : RaN X.prog X.w X.K X.mg X.base x C) (hc : X.calm = true) (tk : Takes X W) (hr : Room 2 X.A) (hg : Gl X x) (hdb : (x == ("__debug__" : Str)) = false := by decide) :
    PS X (.Raise (some (.Call (.Name x p) [.Constant (.str m) j p2] [] pos)) none pos') (sD X.K W (raiseS ⟨C, [], []⟩)) :=
  monoS (ps_raise hc tk (pmk_own PySem.F.excBase_ValueError T.xC T.gC T.kC (raises_own T.eC T.tC) hg hdb)) fun D σ H q => by
    obtain ⟨B, F, as, S, r, o⟩ := q
    exact o σ F H as none [] Ext.refl r rfl rfl .nil
theorem ds_raiseS (T : RaS X.prog X.w X.K X.mg X.base x C fld) (hc : X.calm = true) (tk : Takes X W) (hr : Room 2 X.A) (hg : Gl X x) (hl : m.length ≤ 1000) (hdb : (x == ("__debug__" : Str)) = false := by decide)
    (hst : starEach [Expr.Constant (.str m) j p2] X.env = (false, eval (.Constant (.str m) j p2) X.env) :: starEach [] X.env := by rfl) (hpl : (backTo pos (starEach [] X.env)).any (·.1) = false := by rfl) :
    PS X (.Raise (some (.Call (.Name x p) [.Constant (.str m) j p2] [] pos)) none pos') (sD X.K W (raiseS ⟨C, [fld], [.str m]⟩)) := by
  obtain ⟨fI, fd, iC, tI, F1, hb⟩ := T.ini
  exact ds_raise1 hc tk T.T iC tI F1 hr hb pass0 hg T.gC hl hdb hst hpl
end
section
variable {X : Cx} {W : WX} {x x2 n fld y : Str} {C C2 : Addr} {i j : Nat} {m : Ms → O} {body : List Stmt} {np np2 pos pos' pos2 p1 p2 p3 q1 q2 : Pos}
end
end Lq

namespace Lq
open PySem PySem.Spec PyProof.Rows L2
open Evl (Ex)
def fldO (C : Addr) (f : Str) : Dt → Option Dt | .obj C' ks ds => if C' = C then (ks.zip ds).lookup f else none | _ => none
theorem fld_look {K : PySem.W.Frag} {F : Hp} {f : Str} : ∀ {fs : List (Str × V)} {ds : List Dt} {d : Dt}, RpA K F (fs.map (·.2)) ds → ((fs.map (·.1)).zip ds).lookup f = some d → ∃ v, fs.lookup f = some v ∧ Rp K F v d
  | [], _, d, _, h => by simp at h
  | (k, v) :: fs, d0 :: ds, d, .cons h1 t, h => by
    rw [List.map_cons, List.zip_cons_cons] at h
    simp only [List.lookup_cons] at h ⊢
    cases q : f == k with
    | true =>
      simp only [q] at h ⊢
      cases h
      exact ⟨v, rfl, h1⟩
    | false =>
      simp only [q] at h ⊢
      exact fld_look t h
def fldE (C : Addr) (f : Str) (m : Ms → R Dt) : Ms → R Dt := op1 m (fldO C f)
section
variable {X : Cx} {W : WX} {e o : Expr} {es : List Expr} {m : Ms → R Dt} {fs : Ms → R (List Dt)} {x f : Str} {C : Addr} {p pos apos : Pos} {j k n i : Nat} {ps : List Str} {g : List Dt → Fo}
theorem de_fld (c : Cls X.K C) (na : NoAttr X.K C f) (he : PE X e (tD X.K W m)) (hb : attributeBase e f X.env (eval e X.env) = eval e X.env := by rfl) : PE X (.Attribute e f pos) (tD X.K W (fldE C f m)) :=
  monoE (pe_fld he hb) fun σ H Q q => by
    obtain ⟨B, F, as, S, r, o⟩ := q
    refine ⟨B, F, as, S, r, Out.mono (Out.bind (show Out X.K W B F as σ ((m S).bind fun d S1 => R.of (fldO C f d) S1) _ from o)) fun d F1 H1 as1 S1 ⟨r1, e1, o1⟩ v hv => ?_⟩
    cases d with
    | obj C' ks ds =>
      unfold fldO at o1
      dsimp only at o1
      by_cases hC : C' = C
      · subst hC
        rw [if_pos rfl] at o1
        cases hk : (ks.zip ds).lookup f with
        | none => rw [hk] at o1; exact o1.elim
        | some d =>
          rw [hk] at o1
          cases hv with
          | obj hs hks ha =>
            subst hks
            obtain ⟨v, hv1, hv2⟩ := fld_look ha hk
            exact ⟨_, _, _, _, v, rfl, r1.fh _ _ hs, c, na, hv1, Out.now o1 r1 _ hv2⟩
      · rw [if_neg hC] at o1
        exact o1.elim
    | _ => exact o1.elim
def CalM (P : Program) (w : World) (K : PySem.W.Frag) (mg : Str → Option Value) (base : Heap) (C : Addr) (x : Str) (k : Nat) (ps : List Str) (sp : Sp) : Prop :=
  ∃ f fd, FnOk P w K mg base (L2.CX P w) k f fd ps sp ∧ Cls K C ∧ Meth K C x f ∧ Binds K fd ps []
def metE (C : Addr) (x : Str) (n : Nat) (m : Ms → R Dt) (fs : Ms → R (List Dt)) (g : List Dt → Fo) : Ms → R Dt := fun S => (m S).bind fun d S1 => match d with
  | .obj C' ks xs => if C' = C ∧ x ∉ ks then (fs S1).bind fun ds S2 => if ds.length + 1 = n then (match g (.obj C' ks xs :: ds) with | .ok d => .ok d S2 | .er e => .er e S2 | .no => .no) else .no else .no
  | _ => .no
theorem no_look {x : Str} : ∀ {fs : List (Str × V)}, x ∉ fs.map (·.1) → fs.lookup x = none
  | [], _ => rfl
  | (k, v) :: fs, h => by
    rw [List.map_cons, List.mem_cons, not_or] at h
    rw [List.lookup_cons]
    have : (x == k) = false := by simpa using h.1
    rw [this]
    exact no_look h.2
theorem met_run {K : PySem.W.Frag} {dvs : List V} (hd : dvs = []) {σ : L2.St} {H : Hp} {Q : VK} (q : tD K W (metE C x n m fs g) σ H Q) : tMeth C x (spD K n g) dvs (WE W σ) (tD K W m) (tA K W fs) σ H Q := by
  subst hd
  obtain ⟨B, F, as, S, r, o⟩ := q
  refine ⟨B, F, as, S, r, Out.mono (Out.bind o) fun d F1 H1 as1 S1 ⟨r1, e1, o1⟩ v hv => ?_⟩
  cases d with
  | obj C' ks xs =>
    dsimp only at o1
    split at o1
    · rename_i hc
      obtain ⟨hC, hx⟩ := hc
      subst hC
      cases hv with
      | obj hs hks ha =>
        subst hks
        refine ⟨_, _, _, rfl, r1.fh _ _ hs, no_look hx, B, F1, as1, S1, r1, Out.mono (Out.bind o1) fun ds F2 H2 as2 S2 ⟨r2, e2, o2⟩ vs hvs => ?_⟩
        split at o2
        · rename_i hn
          refine ⟨holdB B F2 H2 as2, F2, _ :: ds, hn, r2.fh, hold_kept r2, .cons (.obj (e2.1 _ _ hs) rfl (ha.up e2.1)) (by rw [List.append_nil]; exact hvs), ?_⟩
          cases hg : g (.obj C' _ xs :: ds) with
          | ok d =>
            rw [hg] at o2
            exact fun v F' H' ee eh kp hv' => o2 F' H' as2 ⟨ee, [], by simp⟩ (hold_back r2 ee eh kp) v hv'
          | er x =>
            rw [hg] at o2
            exact fun F' H' dx fs ee eh kp h1 h2 h3 => o2 F' H' as2 dx fs ⟨ee, [], by simp⟩ (hold_back r2 ee eh kp) h1 h2 h3
          | no => rw [hg] at o2; exact o2.elim
        · exact o2.elim
    · exact o1.elim
  | _ => exact o1.elim
theorem pe_methZ {CX : CXT} {k : Nat} {f C : Addr} {fd : FuncData} {ps : List Str} {sp : Sp} {E : L2.St → XK} {m : Str} {pos apos : Pos} {o : Expr} {ta : TE} {pl : Sem Bool} (he : PE X o ta) (c : Cls X.K C) (hm : Meth X.K C m f) (F : FnOk X.prog X.w X.K X.mg X.base CX k f fd ps sp) (hr : Room k X.A) (hb : Binds X.K fd ps []) (hx : ∀ σ, PassesAt CX X σ (E σ))
    (ht : eval ((o.Attribute m apos).Call [] [] pos) X.env = (do
      let ov ← eval o X.env
      standAt apos.atName
      let (f, first) ← holding [ov] (getMethod ov m pl)
      callWith pos f first (backTo pos (starEach [] X.env)) (backToKw pos (keywordEach [] X.env))) := by rfl) :
    PE X (.Call (.Attribute o m apos) [] [] pos) (fun σ H Q => tMeth C m sp [] (E σ) ta tNil σ H Q) :=
  ⟨fun pins s σ H Q I h => W.methodCall_KW (thn (he.run pins s σ H (fun x H1 => ∃ a dx fs, x = V.ref a ∧ H1 a = some (HO.ins C dx fs) ∧ List.lookup m fs = none ∧ tNil σ H1 fun vs H2 => sp (x :: (vs ++ [])) H2 Q (E σ)) I h) fun u s1 x => by
    obtain ⟨x1, H1, I1, rx, a, dx, fs, rfl, ea, l, q⟩ := x
    have hu : u = .ref a := rx
    subst hu
    exact getmeth_ok I1 ea c hm l (W.callWith_K0 (Inv.kIn I1) hm.kp (run_fnS F hr hb (hx σ) I1 (Paired.cons (show L2.RelV (V.ref a) (Value.ref a) from rfl) Paired.nil) q))) ht⟩
theorem pe_methY {CX : CXT} {k : Nat} {f C : Addr} {fd : FuncData} {ps : List Str} {sp : Sp} {E : L2.St → XK} {m : Str} {pos apos : Pos} {e o : Expr} {es : List Expr} {ta : TE} {t : TA} {pl : Sem Bool} (he : PE X o ta) (c : Cls X.K C) (hm : Meth X.K C m f) (F : FnOk X.prog X.w X.K X.mg X.base CX k f fd ps sp) (hr : Room k X.A) (hb : Binds X.K fd ps []) (hx : ∀ σ, PassesAt CX X σ (E σ)) (ha : PA X (e :: es) t)
    (hst : starEach (e :: es) X.env = (false, eval e X.env) :: starEach es X.env := by rfl) (hpl : (backTo pos (starEach es X.env)).any (·.1) = false := by rfl)
    (ht : eval ((o.Attribute m apos).Call (e :: es) [] pos) X.env = (do
      let ov ← eval o X.env
      standAt apos.atName
      let (f, first) ← holding [ov] (getMethod ov m pl)
      callWith pos f first (backTo pos (starEach (e :: es) X.env)) (backToKw pos (keywordEach [] X.env))) := by rfl) :
    PE X (.Call (.Attribute o m apos) (e :: es) [] pos) (fun σ H Q => tMeth C m sp [] (E σ) ta t σ H Q) :=
  ⟨fun pins s σ H Q I h => W.methodCall_KW (thn (he.run pins s σ H (fun x H1 => ∃ a dx fs, x = V.ref a ∧ H1 a = some (HO.ins C dx fs) ∧ List.lookup m fs = none ∧ t σ H1 fun vs H2 => sp (x :: (vs ++ [])) H2 Q (E σ)) I h) fun u s1 x => by
    obtain ⟨x1, H1, I1, rx, a, dx, fs, rfl, ea, l, q⟩ := x
    have hu : u = .ref a := rx
    subst hu
    refine getmeth_ok I1 ea c hm l (W.callWith_K I.ok.mod.kin hm.kp (thn (ha.run pos pins s1 σ H1 (fun vs H2 => sp (V.ref a :: (vs ++ [])) H2 Q (E σ)) I1 q) fun us s2 x => ?_) hst hpl)
    obtain ⟨vs, H2, I2, r, q2⟩ := x
    rw [List.append_nil] at q2
    exact ⟨Inv.kIn I2, run_fnS F hr hb (hx σ) I2 (Paired.cons (show L2.RelV (V.ref a) (Value.ref a) from rfl) r) q2⟩) ht⟩
theorem de_met0 {pl : Sem Bool} (c : CalM X.prog X.w X.K X.mg X.base C x k ps (spD X.K n g)) (tk : Takes X W) (hr : Room j X.A) (hk : k ≤ j) (ho : PE X o (tD X.K W m))
    (heq : eval ((o.Attribute x apos).Call [] [] pos) X.env = (do
      let ov ← eval o X.env
      standAt apos.atName
      let (f, first) ← holding [ov] (getMethod ov x pl)
      callWith pos f first (backTo pos (starEach [] X.env)) (backToKw pos (keywordEach [] X.env))) := by rfl) :
    PE X (.Call (.Attribute o x apos) [] [] pos) (tD X.K W (metE C x n m aNil g)) := by
  obtain ⟨f, fd, F, cl, mt, hb⟩ := c
  exact monoE (pe_methZ (E := fun σ => WE W σ) ho cl mt F (hr.mono hk) hb (fun σ => passAt tk σ) heq) fun σ H Q q => by
    obtain ⟨B, F, as, S, r, o⟩ := met_run rfl q
    exact ⟨B, F, as, S, r, Out.mono o fun d F1 H1 as1 S1 h v hv => by
      obtain ⟨a, dx, fs, h1, h2, h3, B2, F2, as2, S2, r2, o2⟩ := h v hv
      exact ⟨a, dx, fs, h1, h2, h3, o2 F2 H1 as2 Ext.refl r2 [] .nil⟩⟩
theorem de_met {pl : Sem Bool} (c : CalM X.prog X.w X.K X.mg X.base C x k ps (spD X.K n g)) (tk : Takes X W) (hr : Room j X.A) (hk : k ≤ j) (ho : PE X o (tD X.K W m)) (ha : PA X (e :: es) (tA X.K W fs))
    (he : starEach (e :: es) X.env = (false, eval e X.env) :: starEach es X.env := by rfl) (hpl : (backTo pos (starEach es X.env)).any (·.1) = false := by rfl)
    (heq : eval ((o.Attribute x apos).Call (e :: es) [] pos) X.env = (do
      let ov ← eval o X.env
      standAt apos.atName
      let (f, first) ← holding [ov] (getMethod ov x pl)
      callWith pos f first (backTo pos (starEach (e :: es) X.env)) (backToKw pos (keywordEach [] X.env))) := by rfl) :
    PE X (.Call (.Attribute o x apos) (e :: es) [] pos) (tD X.K W (metE C x n m fs g)) := by
  obtain ⟨f, fd, F, cl, mt, hb⟩ := c
  exact monoE (pe_methY (E := fun σ => WE W σ) ho cl mt F (hr.mono hk) hb (fun σ => passAt tk σ) ha he hpl heq) fun σ H Q q => met_run rfl q
end
end Lq

namespace Lq
open PySem PySem.Spec PyProof.Rows L2
open Evl (Ex)
theorem run_makeS {X : Cx} {CX : CXT} {k : Nat} {f C : Addr} {fd : FuncData} {ps : List Str} {sp : Sp} {E : XK} {pins : List (Addr × Obj)} {σ : L2.St} {H : Hp} {s : Shared} {Q : VK} {us : List Value} {vs : List V}
    (M : Mk X.K C f) (F : FnOk X.prog X.w X.K X.mg X.base CX k f fd ps sp) (hr : Room (k + 1) X.A) (hb : L2.Binds X.K fd ps []) (hx : PassesAt CX X σ E) (I : L2.Inv X pins σ H s) (r : Vals vs us)
    (h : ∀ (x dx : Addr), H x = none → H dx = none → dx ≠ x → sp (V.ref x :: vs) (upd (upd H dx (HO.own x)) x (HO.ins C dx [])) (fun v H2 => v = V.non ∧ Q (V.ref x) H2) E) :
    wpAny (model X.prog X.w) X.A (call (Value.ref C) us) (EP X pins σ Q) X.xe s := by
  have hq := h (s.heap.objs.size + 1) s.heap.objs.size (HOk.fresh I.hok (Nat.le_succ s.heap.objs.size)) (HOk.fresh I.hok (Nat.le_refl s.heap.objs.size)) (Nat.ne_of_lt (Nat.lt_succ_self s.heap.objs.size))
  have I2 := Inv.made (C := C) I
  have r2 : Vals (V.ref (s.heap.objs.size + 1) :: vs) (Value.ref (s.heap.objs.size + 1) :: us) := Paired.cons (show L2.RelV (V.ref (s.heap.objs.size + 1)) (Value.ref (s.heap.objs.size + 1)) from rfl) r
  have hl : ((Value.ref (s.heap.objs.size + 1) :: us) ++ ([] : List Value)).length = ps.length := by
    have e := Vals.length r2
    rw [F.len _ _ _ _ hq] at e
    rw [List.append_nil]
    exact e.symm
  have hb2 := hb { heap := (s.heap.push W.emptyDict).push (W.instObj C s.heap.objs.size), gens := s.gens, drawn := s.drawn, toks := s.toks, os := s.os } (Value.ref (s.heap.objs.size + 1) :: us) (Inv.kIn I2) hl
  rw [List.append_nil] at hb2
  refine wpAny_call (make_map (Inv.kIn I) M.makes M.init (beq_iff_eq.mp M.fn) (codeAny_mono (F.run (X.A.under (Code.builtin "type.__call__" { pos := Value.ref C :: us })) X.stack { heap := (s.heap.push W.emptyDict).push (W.instObj C s.heap.objs.size), gens := s.gens, drawn := s.drawn, toks := s.toks, os := s.os } (upd (upd H s.heap.objs.size (HO.own (s.heap.objs.size + 1))) (s.heap.objs.size + 1) (HO.ins C s.heap.objs.size [])) { pos := Value.ref (s.heap.objs.size + 1) :: us } (Value.ref (s.heap.objs.size + 1) :: us) (V.ref (s.heap.objs.size + 1) :: vs) (fun v H2 => v = V.non ∧ Q (V.ref (s.heap.objs.size + 1)) H2) E (Room.make hr C us []) (Env0.make (Inv.env0 I2) C us []) hb2 r2 hq) fun r s' hq' => ?_))
  cases r with
  | error e => exact hx pins _ _ e s' I2 hq'
  | ok fl =>
    cases fl with
    | ret u =>
      obtain ⟨v, H', I3, rv, ev, q3⟩ := Inv.after I2 hq'
      subst ev
      exact ⟨rv, V.ref (s.heap.objs.size + 1), H', I3, rfl, q3⟩
    | _ => exact hq'.elim
theorem pe_makeZ {X : Cx} {CX : CXT} {k : Nat} {f C : Addr} {fd : FuncData} {ps : List Str} {sp : Sp} {E : L2.St → XK} {x : Str} {p pos : Pos} {e : Expr} {es : List Expr} {t : TA} (M : Mk X.K C f) (F : FnOk X.prog X.w X.K X.mg X.base CX k f fd ps sp) (hr : Room (k + 1) X.A) (hg : Gl X x) (hm : X.mg x = some (.ref C)) (hb : L2.Binds X.K fd ps []) (hx : ∀ σ, PassesAt CX X σ (E σ)) (ha : PA X (e :: es) t)
    (hdb : (x == ("__debug__" : Str)) = false := by decide) (he : starEach (e :: es) X.env = (false, eval e X.env) :: starEach es X.env := by rfl) (hpl : (backTo pos (starEach es X.env)).any (·.1) = false := by rfl) :
    PE X (.Call (.Name x p) (e :: es) [] pos) (fun σ H Q => t σ H fun vs H1 => ∀ x dx, H1 x = none → H1 dx = none → dx ≠ x → sp (.ref x :: vs) (upd (upd H1 dx (.own x)) x (.ins C dx [])) (fun v H2 => v = .non ∧ Q (.ref x) H2) (E σ)) :=
  ⟨fun pins s σ H Q I h => wpAny_Call_Name_kw (ld_glob I hg hm (W.callWith_K I.ok.mod.kin M.kp (thn (ha.run pos pins s σ H (fun vs H1 => ∀ (x dx : Addr), H1 x = none → H1 dx = none → dx ≠ x → sp (V.ref x :: vs) (upd (upd H1 dx (HO.own x)) x (HO.ins C dx [])) (fun v H2 => v = V.non ∧ Q (V.ref x) H2) (E σ)) I h) fun us s1 x => by
    obtain ⟨vs, H1, I1, r, q⟩ := x
    exact ⟨Inv.kIn I1, run_makeS M F hr hb (hx σ) I1 r q⟩) he hpl) hdb)⟩
end Lq

namespace Lq
open PySem PySem.Spec PyProof.Rows L2
open Evl (Ex)
def ioAt (S : Ms) (i : Nat) : Option (Nat × Addr × List Str × List Dt) := match S.sl[i]? with | some (.mu k) => (match S.mo[k]? with | some (.ob (.io C ks ds)) => some (k, C, ks, ds) | _ => none) | _ => none
theorem ioAt_rp {K : PySem.W.Frag} {B F H : Hp} {as : List Addr} {σ : L2.St} {S : Ms} (r : Rep K B F H as σ S) {i k : Nat} {C : Addr} {ks : List Str} {ds : List Dt} (h : ioAt S i = some (k, C, ks, ds)) :
    ∃ p dx fs, σ[i]? = some (some (.ref p)) ∧ S.mo[k]? = some (.ob (.io C ks ds)) ∧ as[k]? = some p ∧ B p = none ∧ F p = none ∧ H p = some (.ins C dx fs) ∧ fs.map (·.1) = ks ∧ RpA K F (fs.map (·.2)) ds := by
  unfold ioAt at h
  cases hs : S.sl[i]? with
  | none => rw [hs] at h; cases h
  | some s =>
    rw [hs] at h
    cases s with
    | mu k' =>
      dsimp only at h
      cases hm : S.mo[k']? with
      | none => rw [hm] at h; cases h
      | some mm =>
        rw [hm] at h
        cases mm with
        | ob c =>
          cases c with
          | io C ks ds =>
            cases h
            obtain ⟨ov, hv, z⟩ := pairedGet r.sl hs
            cases ov with
            | none => exact z.elim
            | some v =>
              obtain ⟨p, hp, rfl⟩ := z
              obtain ⟨p', hp', q1, q2, ob, q3, q4⟩ := pairedGet r.mo hm
              rw [hp] at hp'
              cases hp'
              cases q4 with
              | io h1 h2 => exact ⟨p, _, _, hv, hm, hp, q1, q2, q3, h1, h2⟩
          | _ => cases h
        | fz d => cases h
    | _ => cases h
theorem putF_new {f : Str} {v : V} : ∀ {fs : List (Str × V)}, f ∉ fs.map (·.1) → putF f v fs = fs ++ [(f, v)]
  | [], _ => rfl
  | (k, x) :: r, h => by
    rw [List.map_cons, List.mem_cons, not_or] at h
    have e := putF_new (v := v) h.2
    simp only [putF]
    rw [e]
    have h1 : ¬ f = k := h.1
    have h2 : ¬ k = f := fun z => h1 z.symm
    simp [h1, h2]
theorem RpA.snoc1 {K : PySem.W.Frag} {F : Hp} {v : V} {d : Dt} (h : Rp K F v d) : ∀ {vs : List V} {ds : List Dt}, RpA K F vs ds → RpA K F (vs ++ [v]) (ds ++ [d])
  | _, _, .nil => .cons h .nil
  | _, _, .cons h1 t => .cons h1 (RpA.snoc1 h t)
def fldS (C : Addr) (f : Str) (i : Nat) (m : Ms → R Dt) : Ms → O := fun S => (m S).stmt fun d S1 => match ioAt S1 i with
  | some (k, C', ks, ds) => if C' = C ∧ f ∉ ks ∧ ks.length < 100 then .nx { S1 with mo := S1.mo.set k (.ob (.io C (ks ++ [f]) (ds ++ [d]))) } else .no
  | none => .no
theorem ds_fldS {X : Cx} {W : WX} {o value : Expr} {f : Str} {C : Addr} {i : Nat} {m : Ms → R Dt} {pos pos' : Pos} (c : Cls X.K C) (na : NoAttr X.K C f) (ho : PE X o (tVar i)) (hv : PE X value (tD X.K W m)) (hs : swapsWith value (some (o.Attribute f pos')) pos.line X.env = pure false := by rfl) :
    PS X (.Assign [.Attribute o f pos'] value pos) (sD X.K W (fldS C f i m)) := monoS (ps_fld ho hv hs) fun D σ H q => by
  obtain ⟨B, F, as, S, r, o⟩ := q
  refine ⟨B, F, as, S, r, Out.mono (OutS.stmt o) fun d F1 H1 as1 S1 ⟨r1, e1, o1⟩ v hv => ?_⟩
  cases hi : ioAt S1 i with
  | none => rw [hi] at o1; exact o1.elim
  | some z =>
    obtain ⟨k, C', ks, ds⟩ := z
    rw [hi] at o1
    dsimp only at o1
    split at o1
    · rename_i hc
      obtain ⟨hC, hn, hl⟩ := hc
      subst hC
      obtain ⟨p, dx, fs, h1, h2, h3, h4, h5, h6, h7, h8⟩ := ioAt_rp r1 hi
      subst h7
      refine ⟨_, h1, p, _, dx, fs, rfl, h6, c, na, by rw [List.length_map] at hl; omega, ?_⟩
      rw [putF_new hn]
      refine o1 σ F1 _ as1 Ext.refl (r1.put h2 h3 (.io ?_ ?_))
      · simp
      · rw [List.map_append]
        exact RpA.snoc1 hv h8
    · exact o1.elim
def mo0I (S : Ms) : Option (Addr × List Str × List Dt) := match S.mo[(0 : Nat)]? with | some (Mo.ob (Ob.io C ks ds)) => some (C, ks, ds) | _ => none
def stI (C : Addr) (n : Nat) (ds : List Dt) : Ms := { sl := .mu 0 :: (ds.map Sv.im ++ List.replicate (n - 1 - ds.length) .no), mo := [.ob (.io C [] [])] }
def O.foI : O → Fo
  | .nx S => match mo0I S with | some (C, ks, ds) => .ok (.obj C ks ds) | none => .no
  | .er e _ => .er e
  | _ => .no
def runI (C : Addr) (n : Nat) (m : Ms → O) (ds : List Dt) : Fo := (m (stI C n ds)).foI
def spI (K : PySem.W.Frag) (C : Addr) (n : Nat) (f : List Dt → Fo) : Sp := fun vs H Q E => ∃ B F a dx vs' ds, vs = .ref a :: vs' ∧ ds.length = n ∧ Ex F H ∧ Kept B F H ∧ B a = none ∧ F a = none ∧ H a = some (.ins C dx []) ∧ RpA K F vs' ds ∧ match f ds with
  | .ok (.obj C' ks xs) => C' = C ∧ ∀ F' H' dx' fs, Ex F F' → Ex F' H' → Kept B F' H' → F' a = none → H' a = some (.ins C dx' fs) → fs.map (·.1) = ks → RpA K F' (fs.map (·.2)) xs → Q .non H'
  | .er e => ∀ F' H' dx fs, Ex F F' → Ex F' H' → Kept B F' H' → DictR H' dx fs → fs.map (·.1) = e.ks → RpA K F' (fs.map (·.2)) e.ds → E (.ref e.C) dx H'
  | _ => False
section
variable {P : Program} {w : World} {K : PySem.W.Frag} {mg : Str → Option Value} {base : Heap}
theorem defOkI {x qual : Str} {st : Stmt} {f : Addr} {fd : FuncData} {N ps : List Str} {p0 : Str} {k : Nat} {m : Ms → O} {C : Addr} (F : Fun K x qual st f fd) (S : FnScope N (p0 :: ps) (defScope st))
    (hbody : ∀ (cdv : Value) (A : Around) (outer : List Env) (s : Shared) (H : Hp) (E : XK), Room k (A.deeper (envOfC qual (defScope st) s.heap.objs.size f cdv)) →
      PSs (cxOf (L2.CX P w) P w K mg base N qual (defScope st) f cdv A outer s H E) (defBody st) (sD K (fun cls d _ H' => E cls d H') m)) :
    FnOk P w K mg base (L2.CX P w) (k + 1) f fd (p0 :: ps) (spI K C ps.length (runI C N.length m)) := by
  refine F.okX S (fun vs H Q E h => ?_) (fun cdv A outer s H vs Q E hr h => ⟨_, hbody cdv A outer s H E hr, ?_⟩)
  · obtain ⟨B, F, a, dx, vs', ds, rfl, hn, _, _, _, _, _, hv, _⟩ := h
    rw [List.length_cons, List.length_cons, hv.length, hn]
  · obtain ⟨B, F, a, dx, vs', ds, rfl, hn, e, kp, b0, f0, ha, hv, q⟩ := h
    refine ⟨B, F, [a], stI C N.length ds, ⟨e, kp, ?_, .cons ⟨b0, f0, _, ha, .io rfl .nil⟩ .nil, by simp⟩, ?_⟩
    · have hl : ps.length + 1 ≤ N.length := by
        have := congrArg List.length S.pre
        rw [List.length_take, List.length_cons] at this
        omega
      unfold L2.start stI
      rw [List.map_cons, List.length_cons, hv.length]
      have e2 : N.length - (ds.length + 1) = N.length - 1 - ds.length := by omega
      rw [e2]
      exact .cons ⟨a, rfl, rfl⟩ (paired_im hv (paired_no _))
    · unfold runI at q
      revert q
      cases hm : m (stI C N.length ds) with
      | nx S' =>
        intro q σ' F' H' as' e' r
        unfold O.foI at q
        dsimp only at q
        obtain ⟨e1, t, rfl⟩ := e'
        cases h0 : mo0I S' with
        | none => rw [h0] at q; exact q.elim
        | some z =>
          obtain ⟨C', ks, xs⟩ := z
          rw [h0] at q
          obtain ⟨hCC, q⟩ := q
          subst hCC
          unfold mo0I at h0
          cases h1 : S'.mo[0]? with
          | none => rw [h1] at h0; cases h0
          | some mm =>
            rw [h1] at h0
            cases mm with
            | fz d => cases h0
            | ob c =>
              cases c with
              | io C2 ks2 ds2 =>
                cases h0
                obtain ⟨p, hp, q1, q2, ob, q3, q4⟩ := pairedGet r.mo h1
                cases hp
                cases q4 with
                | io g1 g2 => exact q F' H' _ _ e1 r.fh r.bh q2 q3 g1 g2
              | _ => cases h0
      | er e S' => exact fun q σ' F' H' as' dx fs e' r => q F' H' dx fs e'.1 r.fh r.bh
      | rt d S' => exact fun q => q.elim
      | bk S' => exact fun q => q.elim
      | ct S' => exact fun q => q.elim
      | no => exact fun q => q.elim
end

theorem Rep.knowX {K : PySem.W.Frag} {B F H : Hp} {as : List Addr} {σ : L2.St} {S : Ms} (r : Rep K B F H as σ S) {p : Addr} {o : HO} (h : H p = some o) (hf : F p = none) (hb : B p = none) (ha : p ∉ as) : Ext F (upd F p o) as as ∧ Rep K B (upd F p o) H as σ S := by
  have e : Ex F (upd F p o) := Ex.new hf
  have ee : Ext F (upd F p o) as as := ⟨e, [], by simp⟩
  refine ⟨ee, fun a u hu => ?_, fun a u hu => ?_, r.sl.mono fun _ _ q => SvR.up q ee, ?_, r.nd⟩
  · by_cases q : a = p
    · subst q
      rw [upd_same] at hu
      rw [h]; exact hu
    · rw [upd_ne q] at hu
      exact r.fh _ _ hu
  · obtain ⟨q1, q2, q3⟩ := r.bh a u hu
    have n : a ≠ p := by
      rintro rfl
      rw [hb] at hu; cases hu
    rw [upd_ne n]
    exact ⟨q1, q2, q3⟩
  · have : ∀ {l : List Addr} {ms : List Mo}, (∀ a ∈ l, a ≠ p) → Paired (MoR K B F H as) l ms → Paired (MoR K B (upd F p o) H as) l ms := by
      intro l ms hl hp
      induction hp with
      | nil => exact .nil
      | cons h1 t ih =>
        rename_i a m l ms
        refine .cons ?_ (ih fun b hb => hl b (List.mem_cons_of_mem _ hb))
        have n := hl a List.mem_cons_self
        cases m with
        | ob c =>
          obtain ⟨q1, q2, o2, q3, q4⟩ := h1
          exact ⟨q1, by rw [upd_ne n]; exact q2, o2, q3, q4.up ee⟩
        | fz d =>
          obtain ⟨⟨u, q1⟩, q2⟩ := h1
          exact ⟨⟨u, e _ _ q1⟩, q2.up e⟩
    exact this (fun a hal => by rintro rfl; exact ha hal) r.mo
def CalI (P : Program) (w : World) (K : PySem.W.Frag) (mg : Str → Option Value) (base : Heap) (x : Str) (C : Addr) (k : Nat) (ps : List Str) (n : Nat) (g : List Dt → Fo) : Prop :=
  ∃ f fd, FnOk P w K mg base (L2.CX P w) k f fd ps (spI K C n g) ∧ Mk K C f ∧ mg x = some (.ref C) ∧ Binds K fd ps []
def makE (C : Addr) (n : Nat) (fs : Ms → R (List Dt)) (f : List Dt → Fo) : Ms → R Dt := fun S => (fs S).bind fun ds S1 => if ds.length = n then (match f ds with | .ok (.obj C' ks xs) => if C' = C then .ok (.obj C ks xs) S1 else .no | .er e => .er e S1 | _ => .no) else .no
theorem de_make {X : Cx} {W : WX} {e : Expr} {es : List Expr} {fs : Ms → R (List Dt)} {x : Str} {p pos : Pos} {j k n : Nat} {ps : List Str} {g : List Dt → Fo} {C : Addr} (c : CalI X.prog X.w X.K X.mg X.base x C k ps n g) (tk : Takes X W) (hr : Room j X.A) (hk : k + 1 ≤ j) (hg : Gl X x)
    (ha : PA X (e :: es) (tA X.K W fs)) (hdb : (x == ("__debug__" : Str)) = false := by decide) (he : starEach (e :: es) X.env = (false, eval e X.env) :: starEach es X.env := by rfl) (hpl : (backTo pos (starEach es X.env)).any (·.1) = false := by rfl) :
    PE X (.Call (.Name x p) (e :: es) [] pos) (tD X.K W (makE C n fs g)) := by
  obtain ⟨f, fd, F, M, hm, hb⟩ := c
  exact monoE (pe_makeZ (E := fun σ => WE W σ) M F (hr.mono hk) hg hm hb (fun σ => passAt tk σ) ha hdb he hpl) fun σ H Q q => by
    obtain ⟨B, F, as, S, r, o⟩ := q
    refine ⟨B, F, as, S, r, Out.mono (Out.bind o) fun ds F1 H1 as1 S1 ⟨r1, e1, o1⟩ vs hv a dx hx hdx hne => ?_⟩
    split at o1
    · rename_i hn
      have hF : F1 a = none := by
        cases q : F1 a with
        | none => rfl
        | some u => rw [r1.fh _ _ q] at hx; cases hx
      have hFd : F1 dx = none := by
        cases q : F1 dx with
        | none => rfl
        | some u => rw [r1.fh _ _ q] at hdx; cases hdx
      have hB0 : ∀ b u, holdB B F1 H1 as1 b = some u → H1 b = some u := fun b u hu => (hold_kept r1 b u hu).1
      have hBa : holdB B F1 H1 as1 a = none := by
        cases q : holdB B F1 H1 as1 a with
        | none => rfl
        | some u => rw [hB0 a u q] at hx; cases hx
      have hup : ∀ b u, H1 b = some u → upd (upd H1 dx (.own a)) a (.ins C dx []) b = some u := fun b u hu => by
        have n1 : b ≠ a := by rintro rfl; rw [hx] at hu; cases hu
        have n2 : b ≠ dx := by rintro rfl; rw [hdx] at hu; cases hu
        rw [upd_ne n1, upd_ne n2]
        exact hu
      have hBo : B a = none := by
        cases q : B a with
        | none => rfl
        | some u => rw [(r1.bh a u q).1] at hx; cases hx
      have has : a ∉ as1 := fun hin => by
        obtain ⟨i, hi⟩ := List.mem_iff_getElem?.mp hin
        obtain ⟨mm, hmm, z⟩ := pairedGetL r1.mo hi
        cases mm with
        | ob c =>
          obtain ⟨_, _, u, z3, _⟩ := z
          rw [z3] at hx; cases hx
        | fz d =>
          obtain ⟨⟨u, z1⟩, _⟩ := z
          rw [hF] at z1; cases z1
      refine ⟨holdB B F1 H1 as1, F1, a, dx, vs, ds, rfl, hn, fun b u hu => hup b u (r1.fh _ _ hu), fun b u hu => ?_, hBa, hF, upd_same, hv, ?_⟩
      · obtain ⟨z1, z2, z3⟩ := hold_kept r1 b u hu
        exact ⟨hup b u z1, z2, z3⟩
      · revert o1
        cases hgd : g ds with
        | er y => exact fun o1 F' H' dx' fs' ee eh kp h1 h2 h3 => o1 F' H' as1 dx' fs' ⟨ee, [], by simp⟩ (hold_back r1 ee eh kp) h1 h2 h3
        | no => exact fun o1 => o1.elim
        | ok d =>
          cases d with
          | obj C' ks xs =>
            intro o1
            dsimp only at o1 ⊢
            by_cases hC : C' = C
            · subst hC
              rw [if_pos rfl] at o1
              refine ⟨rfl, fun F' H' dx' fs' ee eh kp f0 h1 h2 h3 => ⟨rfl, ?_⟩⟩
              have r2 := hold_back r1 ee eh kp
              obtain ⟨e3, r3⟩ := r2.knowX h1 f0 hBo has
              exact o1 _ H' as1 (Ext.trans (show Ext F1 F' as1 as1 from ⟨ee, [], by simp⟩) e3) r3 _ (.obj upd_same h2 (h3.up e3.1))
            · rw [if_neg hC] at o1
              exact o1.elim
          | _ => exact fun o1 => o1.elim
    · exact o1.elim
end Lq

namespace Lq
open PySem PySem.Spec PyProof.Rows L2
open Evl (Ex)
end Lq

namespace Lq
open PySem
open Sem (wp)
def san : Frame → Frame
  | .gen _ _ l c p => .ret (fun _ => .unsupported "") none false l c p []
  | f => f
def psn : GenState → GenState
  | .suspended _ l c p fs cl => .suspended (fun _ => .unsupported "") l c p (fs.map san) cl
  | x => x
def isSus : GenState → Bool
  | .suspended .. => true
  | _ => false
theorem psn_bare (x : GenState) : (psn x).bare = x.bare := by cases x <;> rfl
def Psn (s : Shared) : Shared := { s with gens := s.gens.map psn }
def Wf (s : Shared) : Prop := ∀ (i : Nat) (k : Resume → Sem PySem.Fin) (l : List Value) (c : Code) (p : Pos) (fs : List Frame) (cl : Bool), s.gens[i]? = some (GenState.suspended k l c p fs cl) → splitAtGen fs = none
def Pd (D : Nat → Option GenState) (s : Shared) : Prop := ∀ i x, D i = some x → isSus x = true ∧ s.gens[i]? = some (psn x)
def Rst (D : Nat → Option GenState) (s : Shared) : Shared := { s with gens := s.gens.mapIdx fun i y => (D i).getD y }
section
variable {D : Nat → Option GenState} {s : Shared} {g : Nat} {x y : GenState}
theorem Pd.none (h : Pd D s) (hg : s.gens[g]? = some x) (hx : isSus x = false) : D g = none := by
  cases e : D g with
  | none => rfl
  | some y =>
    obtain ⟨h1, h2⟩ := h g y e
    rw [hg] at h2; cases h2
    cases y <;> simp [psn, isSus] at hx h1
theorem Pd.at (h : Pd D s) (hd : D g = some x) : (Rst D s).gens[g]? = some x := by
  show (s.gens.mapIdx fun i y => (D i).getD y)[g]? = _
  rw [Array.getElem?_mapIdx, (h g x hd).2, hd]; rfl
theorem Pd.set (h : Pd D s) (hd : D g = .none) : Pd D (s.setGen g x) := fun i y e => by
  have ne : i ≠ g := by rintro rfl; rw [hd] at e; cases e
  refine ⟨(h i y e).1, ?_⟩
  show (s.gens.setIfInBounds g x)[i]? = _
  rw [Array.getElem?_setIfInBounds_ne (Ne.symm ne)]
  exact (h i y e).2
theorem Pd.push (h : Pd D s) : Pd D { s with gens := s.gens.push x } := fun i y e => by
  refine ⟨(h i y e).1, ?_⟩
  have h2 := (h i y e).2
  have hl : i < s.gens.size := (Array.getElem?_eq_some_iff.mp h2).1
  show (s.gens.push x)[i]? = _
  rw [Array.getElem?_push_lt hl, ← h2, Array.getElem?_eq_getElem hl]
theorem Wf.set (h : Wf s) (hx : ∀ k l c p fs cl, x = .suspended k l c p fs cl → splitAtGen fs = none) : Wf (s.setGen g x) := fun i k l c p fs cl e => by
  have e : (s.gens.setIfInBounds g x)[i]? = some (.suspended k l c p fs cl) := e
  by_cases z : i = g
  · subst z
    rw [Array.getElem?_setIfInBounds_self] at e
    split at e
    · exact hx _ _ _ _ _ _ (Option.some.inj e)
    · cases e
  · rw [Array.getElem?_setIfInBounds_ne (Ne.symm z)] at e
    exact h _ _ _ _ _ _ _ e
theorem Wf.push (h : Wf s) (hx : isSus x = false) : Wf { s with gens := s.gens.push x } := fun i k l c p fs cl e => by
  have e : (s.gens.push x)[i]? = some (.suspended k l c p fs cl) := e
  rw [Array.getElem?_push] at e
  split at e
  · cases e; cases hx
  · exact h _ _ _ _ _ _ _ e
end
def EndF : End → Prop
  | .ret _ => True
  | .susp _ _ _ _ _ _ fs => splitAtGen fs = none
theorem EndF.state {e : End} (h : EndF e) : ∀ k l c p fs cl, e.genState = .suspended k l c p fs cl → splitAtGen fs = none := fun k l c p fs cl q => by
  cases e with
  | ret r => cases q
  | susp v g l' k' c' p' fs' =>
    cases q
    exact h
section
variable {M : Model} {D : Nat → Option GenState}
structure Slp (s s1 s0 : Shared) : Prop where
  heap : s1.heap = s0.heap
  os : s1.os = s0.os
  bare : PyProof.Rows.AllBare s.gens → PyProof.Rows.AllBare s0.gens → PyProof.Rows.AllBare s1.gens
  kept : ∀ (g : Nat) (x : GenState), s.gens[g]? = some x → isSus x = true → s1.gens[g]? = some x
end
theorem psn_allBare {s : Shared} (h : PyProof.Rows.AllBare s.gens) : PyProof.Rows.AllBare (Psn s).gens := fun y hy => by
  obtain ⟨x, hx, rfl⟩ := Array.mem_map.mp (show y ∈ s.gens.map psn from hy)
  rw [psn_bare]; exact h x hx
end Lq

namespace Lq
open PySem PySem.Spec PyProof.Rows L2 GenW
open Evl (Ex)
def Fu (M : Model) (A : Around) (Φ : End → Shared → Prop) (c : Code) (t : Sem PySem.Fin) (fs : List Frame) (s : Shared) : Prop :=
  ∀ (Γ : PySem.Ctx) (p : Pos), Γ.code = c → Γ.Woken A → ∃ e s', Runs M Γ p t fs s e s' ∧ Φ e s'
section
variable {M : Model} {A : Around} {Φ : End → Shared → Prop} {c : Code} {fs : List Frame} {s : Shared}
end
section
variable {prog : Program} {w : World} {A : Around} {Φ : End → Shared → Prop} {fs : List Frame} {s : Shared} {env : Env}
end

def LSt (it l : Addr) (xs : List V) (j : Nat) (h : Heap) : Prop := h.IsListIter it l j ∧ ∃ its : List Value, Vals xs its ∧ h.IsList l its.toArray
def Trn (it : Addr) (s s' : Shared) : Prop := ∃ (h' : Heap) (tk : Nat), s' = { s with heap := h', toks := tk } ∧ ∀ b o, b ≠ it → s.heap.get? b = some o → h'.get? b = some o
def TR (it : Addr) (xs : List V) : GenEnd := fun n s₀ r s1 => ((r = .ok (.ret .none) ∨ r = .ok .next) ∧ (n + xs.length = sizeLine ∧ Trn it s₀ s1)) ∨ ∃ e, r = .error e ∧ False
def TY (it l : Addr) (xs : List V) : Protocol := fun n s₀ v s1 kap => ∃ j x, n + 1 + j = sizeLine ∧ xs[j]? = some x ∧ RelV x v ∧ Trn it s₀ s1 ∧ LSt it l xs (j + 1) s1.heap ∧ ∀ s'', LSt it l xs (j + 1) s''.heap → kap (.send .none) s''
end Lq

namespace Lq
open PySem PySem.Spec PyProof.Rows L2 GenW
open Evl (Ex)
abbrev SpY := List V → Hp → (List V → Addr → Hp → Prop) → Prop
def YF (P : Program) (w : World) (outer : List Env) (H : Hp) (s : Shared) (pins : List (Addr × Obj)) (a : Addr) (g : Nat) (Q : List V → Addr → Hp → Prop) (it l : Addr) (xs : List V) (s1 : Shared) : Prop :=
  ∃ H', s1.os = s.os ∧ AllBare s1.gens ∧ s1.heap.NoLimit ∧ Un (frs outer) [] H H' s.heap s1.heap ∧ HOk P w H' s1.heap ∧ H' l = some (.lst xs) ∧ LSt it l xs 0 s1.heap ∧ s.heap.objs.size ≤ it ∧ it ∉ frs outer ∧ a ≠ it ∧ (∀ b o, s.heap.get? b = some o → b ≠ it) ∧ (∀ p ∈ pins, p.1 ≠ it) ∧ l ≠ it ∧ H' it = none ∧ H' a = none ∧
    (∀ p ∈ pins, s1.heap.get? p.1 = some p.2 ∧ H' p.1 = none) ∧ s1.heap.IsGen a g ∧ xs.length ≤ sizeLine ∧ Q xs l H'
def YP (P : Program) (w : World) (A : Around) (outer : List Env) (H : Hp) (s : Shared) (pins : List (Addr × Obj)) (a : Addr) (g : Nat) (Q : List V → Addr → Hp → Prop) (e : End) (s' : Shared) : Prop :=
  ∃ it l xs s1, YF P w outer H s pins a g Q it l xs s1 ∧ SegEnd (TR it xs) (TY it l xs) sizeLine (Seg.next (model P w) A (TR it xs) (TY it l xs) sizeLine) s1 e s'
def YMade (P : Program) (w : World) (k : Nat) (outer : List Env) (H : Hp) (s : Shared) (sp : SpY) (vs : List V) (u : Value) (s' : Shared) : Prop :=
  ∃ (a : Addr) (g : Nat) (c : Code), u = .ref a ∧ s.heap.objs.size ≤ a ∧ a < s'.heap.objs.size ∧ s'.heap.IsGen a g ∧ s'.gens[g]? = some (.fresh c) ∧ s'.os = s.os ∧ AllBare s'.gens ∧ s'.heap.NoLimit ∧ (∀ b o, s.heap.get? b = some o → s'.heap.get? b = some o) ∧
    ∀ (A : Around) (s2 : Shared) (H2 : Hp) (pins : List (Addr × Obj)) (Q : List V → Addr → Hp → Prop), Room k A → A.frames = some outer → (∀ b o, s'.heap.get? b = some o → s2.heap.get? b = some o) → s2.os = s.os → AllBare s2.gens → HOk P w H2 s2.heap →
      (∀ b o, H b = some o → H2 b = some o) → (∀ b, b < s'.heap.objs.size → H b = none → H2 b = none) → (∀ p ∈ pins, s2.heap.get? p.1 = some p.2 ∧ H2 p.1 = none ∧ s'.heap.objs.size ≤ p.1 ∧ ∀ v, p.2.data ≠ .cell v) → sp vs H2 Q →
      Fu (model P w) A (YP P w A outer H s pins a g Q) c ((model P w).den c) [] s2
structure GFnY (P : Program) (w : World) (K : PySem.W.Frag) (mg : Str → Option Value) (base : Heap) (k : Nat) (f : Addr) (fd : FuncData) (ps : List Str) (sp : SpY) : Prop where
  run : ∀ (A : Around) (outer : List Env) (s : Shared) (H : Hp) (args : Args) (us : List Value) (vs : List V), Room k A → Env0 P w K mg base A outer s H → BindsTo s fd args (ps.zip us) → Vals vs us → vs.length = ps.length →
    codeAny (model P w) A (.call (.ref f) args) (fun r s' => match r with | .ok (.ret u) => YMade P w k outer H s sp vs u s' | _ => False) s
end Lq

namespace Lq
open PySem PySem.Spec PyProof.Rows L2 GenW
open Evl (Ex)
section
variable {P : Program} {w : World} {A : Around} {E : Value → Shared → Prop} {s : Shared}
structure YAt (P : Program) (w : World) (A : Around) (a : Addr) (g : Nat) (it l : Addr) (xs : List V) (j : Nat) (s : Shared) : Prop where
  gen : s.heap.IsGen a g
  at_ : LSt it l xs j s.heap
  len : xs.length ≤ sizeLine
  sus : ∃ k l0 c p fs cl m, s.gens[g]? = some (.suspended k l0 c p fs cl) ∧ m + j = sizeLine ∧ ∀ s'', LSt it l xs j s''.heap → Seg (model P w) A.in1 (TR it xs) (TY it l xs) m s'' c (k (.send .none)) fs s''
structure YTrn (it : Addr) (s s1 : Shared) : Prop where
  os : s1.os = s.os
  bare : AllBare s.gens → AllBare s1.gens
  keep : ∀ b o, b ≠ it → s.heap.get? b = some o → s1.heap.get? b = some o
theorem Trn.y {it : Addr} {s s1 : Shared} {g : Nat} {x y : GenState} (h : Trn it (s.setGen g x) s1) (hx : x.bare = true) (hy : y.bare = true) : YTrn it s (s1.setGen g y) := by
  obtain ⟨h', tk, rfl, hk⟩ := h
  exact ⟨rfl, fun z => allBare_setGen (s := { (s.setGen g x) with heap := h', toks := tk }) (allBare_setGen z hx) hy, fun b o hb e => hk b o hb e⟩
end
end Lq

namespace Lq
open PySem PySem.Spec PyProof.Rows L2 GenW
open Evl (Ex)
def Kg (s s1 : Shared) : Prop := ∀ (g : Nat) (x : GenState), s.gens[g]? = some x → isSus x = true → s1.gens[g]? = some x
theorem Kg.trans {s s1 s2 : Shared} (a : Kg s s1) (b : Kg s1 s2) : Kg s s2 := fun g x h hx => b g x (a g x h hx) hx
section
variable {X : Cx} {pins : List (Addr × Obj)} {σ : L2.St} {H H' : Hp} {s s0 s1 : Shared}
theorem Inv.psn (I : L2.Inv X pins σ H s) : L2.Inv X pins σ H (Psn s) := ⟨I.ok, I.os, psn_allBare I.bare, I.base, I.loc, I.cell, I.free, I.freeC, I.pin, I.hok, I.len⟩
end
section
variable {X : Cx} {pins : List (Addr × Obj)} {σ σ' : L2.St} {H1 H3 H6 : Hp} {sc s3 s4 s6 : Shared} {scope : Scope} {ce : Env}
end
abbrev TyG := L2.St → Hp → (List V → Hp → Prop) → Prop
structure PYG (X : Cx) (k : Nat) (e : Expr) (sp : SpY) (ty : TyG) : Prop where
  run : ∀ (pins : List (Addr × Obj)) (s : Shared) (σ : L2.St) (H : Hp) (R : List V → Hp → Prop), L2.Inv X pins σ H s → ty σ H R →
    wpAny (model X.prog X.w) X.A (eval e X.env) (fun u s' => ∃ H1 sc vs, L2.Inv X pins σ H1 sc ∧ R vs H1 ∧ YMade X.prog X.w k X.stack H1 sc sp vs u s') X.xe s
end Lq

namespace Lq
open PySem PySem.Spec PyProof.Rows L2 GenW
open Evl (Ex)
section
variable {X : Cx}
end
end Lq

namespace Lq
open PySem PySem.Spec PyProof.Rows L2 GenW
open Evl (Ex)
section
variable {X : Cx} {k : Nat} {elt tg iter : Expr} {ifs : List Expr} {scope : Scope} {own : List (Str × Nat)} {pos : Pos} {sp : SpY} {ty : TyG} {g : TG} {tt : TT} {te : TE}
end
section
variable {X : Cx} {k : Nat} {f C : Addr} {fd : FuncData} {ps : List Str} {sp : SpY} {m : Str} {p pos pos' apos : Pos} {o : Expr} {ta : TE}
end
end Lq

namespace Lq
open PySem PySem.Spec PyProof.Rows L2 GenW
open Evl (Ex)
theorem Out.later {K : PySem.W.Frag} {W : WX} {B F F' : Hp} {as as' : List Addr} {σ : L2.St} {α : Type} {r : R α} {Q : α → Hp → Hp → List Addr → Ms → Prop} (h : Out K W B F as σ r Q) (e : Ext F F' as as') : Out K W B F' as' σ r Q := by
  cases r with
  | ok a S => exact fun F2 H2 as2 e2 r2 => h F2 H2 as2 (e.trans e2) r2
  | er x S => exact fun F2 H2 as2 dx fs e2 r2 => h F2 H2 as2 dx fs (e.trans e2) r2
  | no => exact h
section
variable {X : Cx} {W : WX} {m : Ms → R Dt} {T : Tk} {t : Ms → R Bool} {e : Ms → R Dt} {own : List Nat} {C : Addr} {x : Str} {g : List Dt → FoN}
end
section
variable {X : Cx} {W : WX} {m : Ms → R Dt} {T : Tk} {t : Ms → R Bool} {fe : Ms → R Dt} {own : List (Str × Nat)} {C : Addr} {x y : Str} {g : List Dt → FoN} {k j : Nat} {p0 : Str} {o elt tg : Expr} {ifs : List Expr} {scope : Scope} {pos pos' apos : Pos} {i : Nat} {pl : Sem Bool}
end
end Lq

namespace Lq
open PySem PySem.Spec PyProof.Rows L2
open Evl (Ex)
theorem lc_coreA {X : Cx} {W : WX} {T : Tk} {t : Ms → R Bool} {e : Ms → R Dt} {own : List Nat} (hi : ∀ i ∈ T.is, i ∈ own) {σ : L2.St} {H1 : Hp} {Z : Hp → Prop} {B F1 : Hp} {as1 : List Addr} {S1 : Ms} {ds acc0 : List Dt} {accV0 : List V} {J : It} {D : Addr} (f2 : B D = none) (r1 : Rep X.K B F1 H1 as1 σ S1)
    (h1 : F1 D = none) (h2 : D ∉ as1) (h3 : H1 D = some (.lst accV0)) (h4 : RpA X.K F1 accV0 acc0) (w : Walks X.K F1 J ds)
    (o : Out X.K W B F1 as1 σ (lcF (wipeL S1.sl own) T.k t e ds S1.mo acc0) fun ys F' H' as' S' => ∀ vs, (Rep X.K B F' H' as' σ { S1 with mo := S'.mo }) → F' D = none → D ∉ as' → H' D = some (.lst vs) → RpA X.K F' vs ys → Z H') :
    ∃ W : Nat → Nat → Hp → Prop, (∃ m, W 0 m H1) ∧ ∀ i m H, W i m H →
      (J.stop i H ∧ Z H) ∨ (J.go i H ∧ ∃ Nx : Hp → Prop, (∀ H', Nx H' → ∃ m', m' < m ∧ W (i + 1) m' H') ∧ ∀ x H', J.yld i H x H' → T.g X.K x (wipe σ own) H' fun σ2 H2 => wipe σ2 own = wipe σ own ∧ tT X.K W0 t σ2 H2 fun b H3 =>
        if b = true then tD X.K W0 e σ2 H3 fun y H4 => ∃ acc, H4 D = some (.lst acc) ∧ acc.length < sizeLine ∧ Nx (upd H4 D (.lst (acc ++ [y]))) else Nx H3) := by
  refine ⟨fun i m H => m = ds.length - i ∧ i ≤ ds.length ∧ ∃ F2 as2 mo acc accV, Ext F1 F2 as1 as2 ∧ Rep X.K B F2 H as2 σ { S1 with mo := mo } ∧ F2 D = none ∧ D ∉ as2 ∧ H D = some (.lst accV) ∧ RpA X.K F2 accV acc ∧
    Out X.K W B F2 as2 σ (lcF (wipeL S1.sl own) T.k t e (ds.drop i) mo acc) fun ys F' H' as' S' => ∀ vs, (Rep X.K B F' H' as' σ { S1 with mo := S'.mo }) → F' D = none → D ∉ as' → H' D = some (.lst vs) → RpA X.K F' vs ys → Z H', ⟨ds.length, by simp, Nat.zero_le _, F1, as1, S1.mo, acc0, accV0, Ext.refl, r1, h1, h2, h3, h4, by rw [List.drop_zero]; exact o⟩, ?_⟩
  rintro i m H ⟨rfl, hle, F2, as2, mo, acc, accV, e2, r2, hF, hA, hH, hacc, o3⟩
  by_cases hlt : i < ds.length
  · refine .inr ⟨w.go i H hlt (e2.1.trans r2.fh), ?_⟩
    obtain ⟨d, hd⟩ : ∃ d, ds[i]? = some d := ⟨ds[i], by simp [hlt]⟩
    have hdrop : ds.drop i = d :: ds.drop (i + 1) := by
      rw [List.drop_eq_getElem_cons hlt]
      congr 1
      rw [List.getElem?_eq_getElem hlt] at hd
      exact Option.some.inj hd
    rw [hdrop] at o3
    refine ⟨fun H' => ∃ F2 as2 mo acc accV, Ext F1 F2 as1 as2 ∧ Rep X.K B F2 H' as2 σ { S1 with mo := mo } ∧ F2 D = none ∧ D ∉ as2 ∧ H' D = some (.lst accV) ∧ RpA X.K F2 accV acc ∧
      Out X.K W B F2 as2 σ (lcF (wipeL S1.sl own) T.k t e (ds.drop (i + 1)) mo acc) fun ys F' H' as' S' => ∀ vs, (Rep X.K B F' H' as' σ { S1 with mo := S'.mo }) → F' D = none → D ∉ as' → H' D = some (.lst vs) → RpA X.K F' vs ys → Z H', fun H' h => ⟨ds.length - (i + 1), by omega, rfl, hlt, h⟩, fun x H' hy => ?_⟩
    obtain ⟨d', hd', hx⟩ := w.yld i H x H' F2 hlt e2.1 r2.fh hy
    rw [hd] at hd'
    cases hd'
    have rh : Rep X.K (upd B D (.lst accV)) F2 H as2 σ { S1 with mo := mo } := r2.hold hH hF hA trivial
    -- the state at the turn
    obtain ⟨F3, e3, r3, hv3⟩ : ∃ F3, Ext F2 F3 as2 as2 ∧ Rep X.K (upd B D (.lst accV)) F3 H' as2 σ { S1 with mo := mo } ∧ Rp X.K F3 x d := by
      rcases hx with ⟨rfl, hx⟩ | ⟨T, ob, hT, rfl, hx⟩
      · exact ⟨F2, Ext.refl, rh, hx⟩
      · obtain ⟨ee, rr⟩ := rh.new hT ob
        exact ⟨_, ee, rr, hx⟩
    have r4 : Rep X.K (upd B D (.lst accV)) F3 H' as2 (wipe σ own) { sl := wipeL S1.sl own, mo := mo } := ⟨r3.fh, r3.bh, wipe_rp r3.sl own, r3.mo, r3.nd⟩
    unfold lcF at o3
    cases hk : T.k d { sl := wipeL S1.sl own, mo := mo } with
    | none => rw [hk] at o3; exact o3.elim
    | some S4 =>
      rw [hk] at o3
      dsimp only at o3
      refine T.run r4 hv3 hk fun σ4 r5 hw => ⟨by rw [hw own hi, wipe_wipe], ?_⟩
      refine ⟨_, F3, as2, S4, r5, ?_⟩
      cases ht : t S4 with
      | no => rw [ht] at o3; exact o3.elim
      | er x S5 => rw [ht] at o3; exact o3.elim
      | ok b S5 =>
        rw [ht] at o3
        intro F5 H5 as5 e5 r6
        cases b with
        | false =>
          show ∃ F2 as2 mo acc accV, _
          dsimp only at o3
          obtain ⟨r7, h7, h8, h9⟩ := (Rep.back r6 r3.sl e5).unhold f2
          have e25 := e3.trans e5
          exact ⟨F5, as5, S5.mo, acc, accV, e2.trans e25, r7, h8, h9, h7, hacc.up e25.1, by
            revert o3
            cases lcF (wipeL S1.sl own) T.k t e (ds.drop (i + 1)) S5.mo acc with
            | ok ys S' => exact fun o3 F' H' as' ee rr => o3 F' H' as' (e25.trans ee) rr
            | er y S' => exact fun o3 F' H' as' dx fs ee rr => o3 F' H' as' dx fs (e25.trans ee) rr
            | no => exact fun o3 => o3⟩
        | true =>
          show tD X.K W0 e σ4 H5 _
          dsimp only at o3
          refine ⟨_, F5, as5, S5, r6, ?_⟩
          cases he : e S5 with
          | no => rw [he] at o3; exact o3.elim
          | er x S6 => rw [he] at o3; exact o3.elim
          | ok y S6 =>
            rw [he] at o3
            dsimp only at o3
            split at o3
            · rename_i hlen
              intro F6 H6 as6 e6 r7 v hv
              obtain ⟨r8, h7, h8, h9⟩ := (Rep.back r7 r3.sl (e5.trans e6)).unhold f2
              have e26 := (e3.trans e5).trans e6
              refine ⟨accV, h7, Evl.sz_lt (by rw [hacc.length]; exact hlen), F6, as6, S6.mo, acc ++ [y], accV ++ [v], e2.trans e26, ?_, h8, h9, upd_same, (hacc.up e26.1).snoc hv, ?_⟩
              · refine ⟨fun a u hu => ?_, fun a u hu => ?_, r8.sl, ?_, r8.nd⟩
                · have n : a ≠ D := by
                    rintro rfl
                    rw [h8] at hu; cases hu
                  rw [upd_ne n]
                  exact r8.fh _ _ hu
                · have n : a ≠ D := by
                    rintro rfl
                    rw [f2] at hu; cases hu
                  rw [upd_ne n]
                  exact r8.bh a u hu
                · have : ∀ {xs : List Addr} {ys : List Mo}, (∀ a ∈ xs, a ≠ D) → Paired (MoR X.K B F6 H6 as6) xs ys → Paired (MoR X.K B F6 (upd H6 D (.lst (accV ++ [v]))) as6) xs ys := by
                    intro xs ys hn z
                    induction z with
                    | nil => exact .nil
                    | @cons a b l1 l2 z zs ih =>
                      refine .cons ?_ (ih fun a ha => hn a (List.mem_cons_of_mem _ ha))
                      cases b with
                      | ob ds =>
                        obtain ⟨z1, z2, ws, z3, z4⟩ := z
                        exact ⟨z1, z2, ws, by rw [upd_ne (hn _ List.mem_cons_self)]; exact z3, z4⟩
                      | fz d => exact z
                  exact this (fun a ha z => h9 (z ▸ ha)) r8.mo
              · revert o3
                cases lcF (wipeL S1.sl own) T.k t e (ds.drop (i + 1)) S6.mo (acc ++ [y]) with
                | ok ys S' => exact fun o3 F' H' as' ee rr => o3 F' H' as' (e26.trans ee) rr
                | er y S' => exact fun o3 F' H' as' dx fs ee rr => o3 F' H' as' dx fs (e26.trans ee) rr
                | no => exact fun o3 => o3
            · exact o3.elim
  · have e : i = ds.length := by omega
    subst e
    rw [List.drop_length] at o3
    unfold lcF at o3
    refine .inl ⟨w.stop H (e2.1.trans r2.fh), ?_⟩
    exact o3 F2 H as2 Ext.refl ⟨r2.fh, r2.bh, wipeL_rp r2.sl own, r2.mo, r2.nd⟩ accV r2 hF hA hH hacc
theorem Rep.newD {K : PySem.W.Frag} {B F1 H1 : Hp} {as1 : List Addr} {σ : L2.St} {S1 : Ms} (r1 : Rep K B F1 H1 as1 σ S1) {D : Addr} {o : HO} (hD : H1 D = none) : Rep K B F1 (upd H1 D o) as1 σ S1 := by
  refine ⟨fun a u hu => ?_, fun a u hu => ?_, r1.sl, r1.mo.mono fun a m z => ?_, r1.nd⟩
  · rw [upd_ne (ne_of_none (r1.fh _ _ hu) hD)]
    exact r1.fh _ _ hu
  · obtain ⟨z1, z2, z3⟩ := r1.bh a u hu
    exact ⟨by rw [upd_ne (ne_of_none z1 hD)]; exact z1, z2, z3⟩
  · cases m with
    | ob ds =>
      obtain ⟨z1, z2, ws, z3, z4⟩ := z
      exact ⟨z1, z2, ws, by rw [upd_ne (ne_of_none z3 hD)]; exact z3, z4⟩
    | fz d => exact z
def lcF2 (sl : List Sv) (k : Dt → Ms → Option Ms) (t : Ms → R Bool) (it1 : Ms → R (List Dt)) (k1 : Dt → Ms → Option Ms) (t1 : Ms → R Bool) (e : Ms → R Dt) (vs1 : List Nat) : List Dt → List Mo → List Dt → R (List Dt)
  | [], mo, acc => .ok acc { sl := sl, mo := mo }
  | d :: ds, mo, acc => match k d { sl := sl, mo := mo } with
    | none => .no
    | some S1 => match t S1 with
      | .ok false S2 => lcF2 sl k t it1 k1 t1 e vs1 ds S2.mo acc
      | .ok true S2 => (match it1 S2 with
        | .ok ds1 S3 => (match lcF (wipeL S3.sl vs1) k1 t1 e ds1 S3.mo acc with
          | .ok acc' S4 => lcF2 sl k t it1 k1 t1 e vs1 ds S4.mo acc'
          | _ => .no)
        | _ => .no)
      | _ => .no
def lcE2 (it : Ms → R (List Dt)) (k : Dt → Ms → Option Ms) (t : Ms → R Bool) (it1 : Ms → R (List Dt)) (k1 : Dt → Ms → Option Ms) (t1 : Ms → R Bool) (e : Ms → R Dt) (own vs1 : List Nat) : Ms → R (List Dt) := fun S => (it S).bind fun ds S1 => (lcF2 (wipeL S1.sl own) k t it1 k1 t1 e vs1 ds S1.mo []).bind fun ys S2 => .ok ys { sl := S1.sl, mo := S2.mo }
theorem lc2_run {X : Cx} {W : WX} {it it1 : Ms → R (List Dt)} {T T1 : Tk} {t t1 : Ms → R Bool} {e : Ms → R Dt} {own vs1 : List Nat} (hi : ∀ i ∈ T.is, i ∈ own) (hi1 : ∀ i ∈ T1.is, i ∈ vs1) {σ : L2.St} {H : Hp} {Q : VK}
    (q : tN X.K W (lcE2 it T.k t it1 T1.k t1 e own vs1) σ H Q) : tLc2 (tI X.K W it) (T.g X.K) (tT X.K W0 t) (tI X.K W0 it1) (T1.g X.K) (tT X.K W0 t1) (tD X.K W0 e) own vs1 σ H Q := by
  obtain ⟨B, F, as, S, r, o⟩ := q
  refine ⟨B, F, as, S, r, Out.mono (Out.bind o) fun ds F1 H1 as1 S1 ⟨r1, e1, o1⟩ J w => ?_⟩
  intro D hD
  obtain ⟨f1, f2, f3⟩ := r1.fresh hD
  have o2 := Out.bind o1
  refine ⟨fun i m H => m = ds.length - i ∧ i ≤ ds.length ∧ ∃ F2 as2 mo acc accV, Ext F1 F2 as1 as2 ∧ Rep X.K B F2 H as2 σ { S1 with mo := mo } ∧ F2 D = none ∧ D ∉ as2 ∧ H D = some (.lst accV) ∧ RpA X.K F2 accV acc ∧
    Out X.K W B F2 as2 σ (lcF2 (wipeL S1.sl own) T.k t it1 T1.k t1 e vs1 (ds.drop i) mo acc) fun ys F' H' as' S' => ∀ vs, (Rep X.K B F' H' as' σ { S1 with mo := S'.mo }) → F' D = none → D ∉ as' → H' D = some (.lst vs) → RpA X.K F' vs ys → Q (.ref D) H', ⟨ds.length, by simp, Nat.zero_le _, F1, as1, S1.mo, [], [], Ext.refl, r1.newD hD, f1, f3, upd_same, .nil, ?_⟩, ?_⟩
  · refine Out.mono o2 fun ys F' H' as' S' ⟨r', e', o3⟩ vs r'' hF hA hH hv => ?_
    exact o3 F' H' as' Ext.refl r'' D vs hF f2 hA hH hv
  · rintro i m H ⟨rfl, hle, F2, as2, mo, acc, accV, e2, r2, hF, hA, hH, hacc, o3⟩
    by_cases hlt : i < ds.length
    · refine .inr ⟨w.go i H hlt (e2.1.trans r2.fh), ?_⟩
      obtain ⟨d, hd⟩ : ∃ d, ds[i]? = some d := ⟨ds[i], by simp [hlt]⟩
      have hdrop : ds.drop i = d :: ds.drop (i + 1) := by
        rw [List.drop_eq_getElem_cons hlt]
        congr 1
        rw [List.getElem?_eq_getElem hlt] at hd
        exact Option.some.inj hd
      rw [hdrop] at o3
      refine ⟨fun H' => ∃ F2 as2 mo acc accV, Ext F1 F2 as1 as2 ∧ Rep X.K B F2 H' as2 σ { S1 with mo := mo } ∧ F2 D = none ∧ D ∉ as2 ∧ H' D = some (.lst accV) ∧ RpA X.K F2 accV acc ∧
        Out X.K W B F2 as2 σ (lcF2 (wipeL S1.sl own) T.k t it1 T1.k t1 e vs1 (ds.drop (i + 1)) mo acc) fun ys F' H' as' S' => ∀ vs, (Rep X.K B F' H' as' σ { S1 with mo := S'.mo }) → F' D = none → D ∉ as' → H' D = some (.lst vs) → RpA X.K F' vs ys → Q (.ref D) H', fun H' h => ⟨ds.length - (i + 1), by omega, rfl, hlt, h⟩, fun x H' hy => ?_⟩
      obtain ⟨d', hd', hx⟩ := w.yld i H x H' F2 hlt e2.1 r2.fh hy
      rw [hd] at hd'
      cases hd'
      have rh : Rep X.K (upd B D (.lst accV)) F2 H as2 σ { S1 with mo := mo } := r2.hold hH hF hA trivial
      -- the state at the turn
      obtain ⟨F3, e3, r3, hv3⟩ : ∃ F3, Ext F2 F3 as2 as2 ∧ Rep X.K (upd B D (.lst accV)) F3 H' as2 σ { S1 with mo := mo } ∧ Rp X.K F3 x d := by
        rcases hx with ⟨rfl, hx⟩ | ⟨T, ob, hT, rfl, hx⟩
        · exact ⟨F2, Ext.refl, rh, hx⟩
        · obtain ⟨ee, rr⟩ := rh.new hT ob
          exact ⟨_, ee, rr, hx⟩
      have r4 : Rep X.K (upd B D (.lst accV)) F3 H' as2 (wipe σ own) { sl := wipeL S1.sl own, mo := mo } := ⟨r3.fh, r3.bh, wipe_rp r3.sl own, r3.mo, r3.nd⟩
      unfold lcF2 at o3
      cases hk : T.k d { sl := wipeL S1.sl own, mo := mo } with
      | none => rw [hk] at o3; exact o3.elim
      | some S4 =>
        rw [hk] at o3
        dsimp only at o3
        refine T.run r4 hv3 hk fun σ4 r5 hw => ⟨by rw [hw own hi, wipe_wipe], ?_⟩
        refine ⟨_, F3, as2, S4, r5, ?_⟩
        cases ht : t S4 with
        | no => rw [ht] at o3; exact o3.elim
        | er x S5 => rw [ht] at o3; exact o3.elim
        | ok b S5 =>
          rw [ht] at o3
          intro F5 H5 as5 e5 r6
          cases b with
          | false =>
            show ∃ F2 as2 mo acc accV, _
            dsimp only at o3
            obtain ⟨r7, h7, h8, h9⟩ := (Rep.back r6 r3.sl e5).unhold f2
            have e25 := e3.trans e5
            exact ⟨F5, as5, S5.mo, acc, accV, e2.trans e25, r7, h8, h9, h7, hacc.up e25.1, by
              revert o3
              cases lcF2 (wipeL S1.sl own) T.k t it1 T1.k t1 e vs1 (ds.drop (i + 1)) S5.mo acc with
              | ok ys S' => exact fun o3 F' H' as' ee rr => o3 F' H' as' (e25.trans ee) rr
              | er y S' => exact fun o3 F' H' as' dx fs ee rr => o3 F' H' as' dx fs (e25.trans ee) rr
              | no => exact fun o3 => o3⟩
          | true =>
            show tI X.K W0 it1 σ4 H5 _
            dsimp only at o3
            refine ⟨_, F5, as5, S5, r6, ?_⟩
            cases hit : it1 S5 with
            | no => rw [hit] at o3; exact o3.elim
            | er x S6 => rw [hit] at o3; exact o3.elim
            | ok ds1 S6 =>
              rw [hit] at o3
              dsimp only at o3
              intro F6 H6 as6 e6 r7 J1 w1
              obtain ⟨r8, h7, h8, h9⟩ := r7.unhold f2
              have e26 := (e3.trans e5).trans e6
              refine lc_coreA (W := W) hi1 f2 r8 h8 h9 h7 (hacc.up e26.1) w1 ?_
              cases hl : lcF (wipeL S6.sl vs1) T1.k t1 e ds1 S6.mo acc with
              | no => rw [hl] at o3; exact o3.elim
              | er x S7 => rw [hl] at o3; exact o3.elim
              | ok acc' S7 =>
                rw [hl] at o3
                dsimp only at o3
                intro F7 H7 as7 e7 r9 vs r10 q1 q2 q3 q4
                have e27 := e26.trans e7
                refine ⟨F7, as7, S7.mo, acc', vs, e2.trans e27, Rep.back (S := { sl := S6.sl, mo := S7.mo }) r10 r3.sl ((e5.trans e6).trans e7), q1, q2, q3, q4, ?_⟩
                revert o3
                cases lcF2 (wipeL S1.sl own) T.k t it1 T1.k t1 e vs1 (ds.drop (i + 1)) S7.mo acc' with
                | ok ys S' => exact fun o3 F' H' as' ee rr => o3 F' H' as' (e27.trans ee) rr
                | er y S' => exact fun o3 F' H' as' dx fs ee rr => o3 F' H' as' dx fs (e27.trans ee) rr
                | no => exact fun o3 => o3
    · have e : i = ds.length := by omega
      subst e
      rw [List.drop_length] at o3
      unfold lcF2 at o3
      refine .inl ⟨w.stop H (e2.1.trans r2.fh), ?_⟩
      exact o3 F2 H as2 Ext.refl ⟨r2.fh, r2.bh, wipeL_rp r2.sl own, r2.mo, r2.nd⟩ accV r2 hF hA hH hacc
section
variable {X : Cx} {W : WX} {T T1 : Tk} {it it1 : Ms → R (List Dt)} {t t1 : Ms → R Bool} {fe : Ms → R Dt} {own : List (Str × Nat)} {y : Str} {elt tg iter tg1 iter1 : Expr} {ifs ifs1 : List Expr} {scope : Scope} {pos : Pos} {i : Nat}
theorem dn_lc2 (hc : X.calm = true) (hN : X.N.Nodup) (hi : PI X tg iter (tI X.K W it)) (ok : BlkOk X.N X.env.scope scope own) {vs vs1 : List Nat} (hsub : ∀ i ∈ T.is, i ∈ vs) (hsub1 : ∀ i ∈ T1.is, i ∈ vs1) (hv : ∀ i ∈ vs1, i ∈ vs)
    (hg : ∀ (s : Shared) (H : Hp) (C : Addr) (cl : List (Str × Addr)) (fp : List Addr), DG (X.blk s H scope (compEnvC scope cl C X.env) fp) tg T) (ht : ∀ (s : Shared) (H : Hp) (C : Addr) (cl : List (Str × Addr)) (fp : List Addr), PTs (X.blk s H scope (compEnvC scope cl C X.env) fp) ifs (tT X.K W0 t))
    (hi1 : ∀ (s : Shared) (H : Hp) (C : Addr) (cl : List (Str × Addr)) (fp : List Addr), PI (X.blk s H scope (compEnvC scope cl C X.env) fp) tg1 iter1 (tI X.K W0 it1))
    (hg1 : ∀ (s : Shared) (H : Hp) (C : Addr) (cl : List (Str × Addr)) (fp : List Addr), DG (X.blk s H scope (compEnvC scope cl C X.env) fp) tg1 T1) (ht1 : ∀ (s : Shared) (H : Hp) (C : Addr) (cl : List (Str × Addr)) (fp : List Addr), PTs (X.blk s H scope (compEnvC scope cl C X.env) fp) ifs1 (tT X.K W0 t1))
    (he : ∀ (s : Shared) (H : Hp) (C : Addr) (cl : List (Str × Addr)) (fp : List Addr), PE (X.blk s H scope (compEnvC scope cl C X.env) fp) elt (tD X.K W0 fe)) (hs : ∀ x, foldedSetIterable iter X.env x = pure x := by intro _; rfl) (hs1 : ∀ env x, foldedSetIterable iter1 env x = pure x := by intro _ _; rfl) (hvs : own.map (·.2) = vs := by rfl) :
    PE X (.ListComp elt [⟨tg, iter, ifs, 0⟩, ⟨tg1, iter1, ifs1, 0⟩] scope pos) (tN X.K W (lcE2 it T.k t it1 T1.k t1 fe vs vs1)) := by
  subst hvs
  exact ⟨fun pins s σ H Q I q => (pe_lc2 hc hN hi ok hv (fun s H C cl fp => (hg s H C cl fp).pg) ht hi1 (fun s H C cl fp => (hg1 s H C cl fp).pg) ht1 he hs hs1).run pins s σ H Q I (lc2_run hsub hsub1 q)⟩
theorem ds_lc2N {py spos : Pos} (hc : X.calm = true) (hN : X.N.Nodup) (hy : X.N[i]? = some y) (hyl : X.env.scope.names.lookup y = some .local)
    (hsw : swapsWith (.ListComp elt [⟨tg, iter, ifs, 0⟩, ⟨tg1, iter1, ifs1, 0⟩] scope pos) (some (.Name y py)) spos.line X.env = pure true) (hi : PI X tg iter (tI X.K W it)) (ok : BlkOk X.N X.env.scope scope own) {vs vs1 : List Nat} (hsub : ∀ i ∈ T.is, i ∈ vs) (hsub1 : ∀ i ∈ T1.is, i ∈ vs1) (hv : ∀ i ∈ vs1, i ∈ vs)
    (hg : ∀ (s : Shared) (H : Hp) (C : Addr) (cl : List (Str × Addr)) (fp : List Addr), DG (X.blk s H scope (compEnvC scope cl C X.env) fp) tg T) (ht : ∀ (s : Shared) (H : Hp) (C : Addr) (cl : List (Str × Addr)) (fp : List Addr), PTs (X.blk s H scope (compEnvC scope cl C X.env) fp) ifs (tT X.K W0 t))
    (hi1 : ∀ (s : Shared) (H : Hp) (C : Addr) (cl : List (Str × Addr)) (fp : List Addr), PI (X.blk s H scope (compEnvC scope cl C X.env) fp) tg1 iter1 (tI X.K W0 it1))
    (hg1 : ∀ (s : Shared) (H : Hp) (C : Addr) (cl : List (Str × Addr)) (fp : List Addr), DG (X.blk s H scope (compEnvC scope cl C X.env) fp) tg1 T1) (ht1 : ∀ (s : Shared) (H : Hp) (C : Addr) (cl : List (Str × Addr)) (fp : List Addr), PTs (X.blk s H scope (compEnvC scope cl C X.env) fp) ifs1 (tT X.K W0 t1))
    (he : ∀ (s : Shared) (H : Hp) (C : Addr) (cl : List (Str × Addr)) (fp : List Addr), PE (X.blk s H scope (compEnvC scope cl C X.env) fp) elt (tD X.K W0 fe)) (hs : ∀ x, foldedSetIterable iter X.env x = pure x := by intro _; rfl) (hs1 : ∀ env x, foldedSetIterable iter1 env x = pure x := by intro _ _; rfl) (hvs : own.map (·.2) = vs := by rfl) :
    PS X (.Assign [.Name y py] (.ListComp elt [⟨tg, iter, ifs, 0⟩, ⟨tg1, iter1, ifs1, 0⟩] scope pos) spos) (sD X.K W (asgN i (lcE2 it T.k t it1 T1.k t1 fe vs vs1))) := by
  subst hvs
  exact ⟨fun pins s σ H D I q => (ps_setLc2 hc hN hy hyl hsw hi ok hv (fun s H C cl fp => (hg s H C cl fp).pg) ht hi1 (fun s H C cl fp => (hg1 s H C cl fp).pg) ht1 he hs hs1).run pins s σ H D I (lc2_run (Q := fun x H1 => D.nx (σ.set i (some x)) H1) hsub hsub1 (asgN_run q))⟩
end
end Lq

namespace Lq
open PySem PySem.Spec PyProof.Rows L2 GenW
open Evl (Ex)
section
variable {X : Cx} {W : WX} {a b e o ix : Expr} {pos p p2 tpos : Pos} {f g : Ms → R Dt} {i : Nat} {x : Str}
def isi2O (T U : String) (d : Dt) : Option Dt := (tyN d).bind fun n => (kitB n T).bind fun b => (kitB n U).map fun c => .bl (b || c)
theorem de_isi2 {T U : String} {y z : Str} {k1 : Nat} {py pz : Pos} (hT : bootBuiltins y = some (.type T)) (hU : bootBuiltins z = some (.type U)) (hg : Gl X "isinstance") (hm : X.mg "isinstance" = none) (hgT : Gl X y) (hmT : X.mg y = none) (hgU : Gl X z) (hmU : X.mg z = none) (ha : PE X a (tD X.K W f))
    (hyn : y ≠ "__name__" := by decide) (hyd : (y == ("__debug__" : Str)) = false := by decide) (hzn : z ≠ "__name__" := by decide) (hzd : (z == ("__debug__" : Str)) = false := by decide)
    (ht : starEach [.Name y py, .Name z pz] X.env = (false, eval (.Name y py) X.env) :: starEach [.Name z pz] X.env := by rfl) (ht2 : starEach [.Name z pz] X.env = (false, eval (.Name z pz) X.env) :: starEach [] X.env := by rfl)
    (hs : ∀ t k q, starEach [a, .Tuple t k q] X.env = (false, eval a X.env) :: starEach [.Tuple t k q] X.env := by intros; rfl) (hs2 : ∀ t k q, starEach [.Tuple t k q] X.env = (false, eval (.Tuple t k q) X.env) :: starEach [] X.env := by intros; rfl) (hpl : ∀ t k q, (backTo pos (starEach [.Tuple t k q] X.env)).any (·.1) = false := by intros; rfl) :
    PE X (.Call (.Name "isinstance" p) [a, .Tuple [.Name y py, .Name z pz] k1 tpos] [] pos) (tD X.K W (op1 f (isi2O T U))) := by
  have hy : PE X (.Name y py) (tC (.ty T)) := pe_bltn hgT hmT hT rfl hyn hyd
  have hz : PE X (.Name z pz) (tC (.ty U)) := pe_bltn hgU hmU hU rfl hzn hzd
  refine monoE (pe_callB call_isiT hg hm (by decide +kernel) (pa_cons ha (pa_cons (pe_tup (pa_cons hy (pa_cons hz pa_nil ht2) ht)) pa_nil (hs2 _ _ _)) (hs _ _ _)) (by decide) (by decide) (hs _ _ _) (hpl _ _ _)) fun σ H Q q => ?_
  obtain ⟨B, F, as, S, r, o⟩ := q
  refine ⟨B, F, as, S, r, Out.mono (Out.bind o) fun d F1 H1 as1 S1 ⟨r1, e1, o1⟩ v hv => ?_⟩
  refine ⟨(by decide : 2 ≤ sizeLine), fun tp htp => ?_⟩
  show rIsiT X.K [v, .ref tp] _ Q
  unfold isi2O at o1
  cases hn : tyN d with
  | none => rw [hn] at o1; exact o1.elim
  | some n =>
    rw [hn] at o1
    dsimp only [Option.bind] at o1
    cases hk : kitB n T with
    | none => rw [hk] at o1; exact o1.elim
    | some k =>
      rw [hk] at o1
      dsimp only at o1
      cases hk2 : kitB n U with
      | none => rw [hk2] at o1; exact o1.elim
      | some k2 =>
        rw [hk2] at o1
        obtain ⟨e2, r2⟩ := r1.new htp (.tup [.ty T, .ty U])
        refine ⟨v, tp, _, .type n, [.type T, .type U], k || k2, rfl, upd_same, .cons (.ty T) (.cons (.ty U) .nil), tyx_of r2.fh (hv.up e2.1) hn, ?_, Out.now (o1.later e2) r2 _ (.bl _)⟩
        unfold PySem.W.kitAny
        rw [kit_ty hk]
        cases k with
        | true => rfl
        | false =>
          dsimp only
          unfold PySem.W.kitAny
          rw [kit_ty hk2]
          cases k2 <;> rfl
theorem de_gtup {q : Addr} {ds : List Dt} {vs : List V} {its : Array Value} {n : Nat} {dd : Option Addr} {sl : Array (Option Value)} (hg : Gl X x) (hm : X.mg x = some (.ref q)) (hk : X.K.lookup q = some ⟨.type "tuple", dd, .seq its n, sl⟩) (hz : its.size ≤ sizeLine) (hv : Vals vs its.toList) (hr : ∀ F, RpA X.K F vs ds)
    (hdb : (x == ("__debug__" : Str)) = false := by decide) : PE X (.Name x pos) (tD X.K W (cE (.scr true ds))) :=
  de_c (pe_glob (v := .ref q) hg hm rfl hdb) fun F => .scr true (show SqT X.K F q vs from .inr ⟨_, its, n, hk, rfl, rfl, hz, hv⟩) (hr F)
def KTup (K : PySem.W.Frag) (mg : Str → Option Value) (x : Str) (ds : List Dt) : Prop := ∃ (q : Addr) (dd : Option Addr) (its : Array Value) (n : Nat) (sl : Array (Option Value)) (vs : List V),
  mg x = some (.ref q) ∧ K.lookup q = some ⟨.type "tuple", dd, .seq its n, sl⟩ ∧ its.size ≤ sizeLine ∧ Vals vs its.toList ∧ ∀ F, RpA K F vs ds
theorem de_ktup {ds : List Dt} (h : KTup X.K X.mg x ds) (hg : Gl X x) (hdb : (x == ("__debug__" : Str)) = false := by decide) : PE X (.Name x pos) (tD X.K W (cE (.scr true ds))) := by
  obtain ⟨q, dd, its, n, sl, vs, h1, h2, h3, h4, h5⟩ := h
  exact de_gtup hg h1 h2 h3 h4 h5 hdb
theorem de_gint {t : Tok} {n : Int} (hg : Gl X x) (hm : X.mg x = some (.int n t)) (hdb : (x == ("__debug__" : Str)) = false := by decide) : PE X (.Name x pos) (tD X.K W (cE (.int n))) := de_c (pe_glob (v := .int n) hg hm ⟨t, rfl⟩ hdb) fun _ => .int n
end
end Lq

namespace Lq
open PySem PySem.Spec PyProof.Rows L2
open Evl (Ex)
def wG (K : PySem.W.Frag) (Wout : WX) (D : Ends) : List (Value × Option Nat × (Addr → Value → Option Addr → TS)) → WX
  | [] => Wout
  | (c, none, ts) :: r => fun cls d σ H => ∃ b, PySem.W.exmOne K cls c = some b ∧ (b = true → ∀ a, H a = none → ts a cls d D σ H) ∧ (b = false → wG K Wout D r cls d σ H)
  | (c, some i, ts) :: r => wAs K c i ts (wG K Wout D r) D
inductive HdG (X : Cx) : List ExceptHandler → List (Value × Option Nat × (Addr → Value → Option Addr → TS)) → Prop
  | nil : HdG X [] []
  | cons {x : Str} {c : Value} {ts : Addr → Value → Option Addr → TS} {b₀ : Stmt} {suite : List Stmt} {np pos' : Pos} {hds : List ExceptHandler} {l : List (Value × Option Nat × (Addr → Value → Option Addr → TS))} (hc : Names X x c)
      (hsu : ∀ (a : Addr) (oe : Obj) (cls : Value) (d : Option Addr) (pn : List (Addr × Obj)), Zc cls d oe → (∃ vs, oe.data = Data.fields vs) → PSs (X.suite a ((a, oe) :: pn)) (b₀ :: suite) (ts a cls d)) (r : HdG X hds l) :
      HdG X (.ExceptHandler (some (.Name x np)) none (b₀ :: suite) pos' :: hds) ((c, none, ts) :: l)
  | nam {i : Nat} {x n : Str} {c : Value} {ts : Addr → Value → Option Addr → TS} {b₀ : Stmt} {suite : List Stmt} {np pos' : Pos} {hds : List ExceptHandler} {l : List (Value × Option Nat × (Addr → Value → Option Addr → TS))} (hN : X.N.Nodup) (hi : X.N[i]? = some n) (hln : X.env.kindOf n = some NameKind.local) (hc : Names X x c)
      (hsu : ∀ (a : Addr) (oe : Obj) (cls : Value) (d : Option Addr) (pn : List (Addr × Obj)), Zc cls d oe → (∃ vs, oe.data = Data.fields vs) → PSs (X.suite a ((a, oe) :: pn)) (b₀ :: suite) (ts a cls d)) (r : HdG X hds l) :
      HdG X (.ExceptHandler (some (.Name x np)) (some n) (b₀ :: suite) pos' :: hds) ((c, some i, ts) :: l)
theorem ps_tryH {X : Cx} {body : List Stmt} {pos : Pos} {tb : WX → TS} {Wout : WX} {h₀ : ExceptHandler} {hds : List ExceptHandler} {l : List (Value × Option Nat × (Addr → Value → Option Addr → TS))}
    (hs : X.stack = X.env :: X.outer) (hf : X.env.frame = some X.env.locals) (tk : Takes X Wout)
    (hb : ∀ (W : WX) (pn : List (Addr × Obj)) (xe : Value → Shared → Prop), Takes (X.tr pn xe) W → PassesOwn (model X.prog X.w) X.A X.env xe → PSs (X.tr pn xe) body (tb W)) (hh : HdG X (h₀ :: hds) l) :
    PS X (Stmt.Try body (h₀ :: hds) [] [] pos) fun D σ H => tb (wG X.K Wout D l) D σ H := by
  refine ⟨fun pins s σ H D I h => ?_⟩
  have ok := I.ok
  have hfr := ok.frames
  rw [hs] at hfr
  refine wpAny_Try_except (wpAny_mono ((hb (wG X.K Wout D l) (X.pn ++ pins) (fun e s₁ => wpAny (model X.prog X.w) X.A (noteFrame e X.env) (fun _ s₂ => wpAny (model X.prog X.w) X.A (setFlight e none) (fun _ s₃ => wpAny (model X.prog X.w) X.A (handleBy e X.env (h₀ :: hds)) (SP X pins D) X.xe s₃) X.xe s₂) X.xe s₁) (fun u s' xx => ?_) PassesOwn.looking).run [] s σ H D (Inv.toTry I _) h) (fun f s1 hsp => ?_) (fun e s1 he => he))
  · obtain ⟨a, B, sI, pins', σ', H', cls, d, rfl, J', nb, up, sky, na, os, ag, w⟩ := xx
    have J := Inv.ofTry J' ok
    have sky' : Sky B (X.env :: X.outer) a (Zc cls d) X.env.locals s'.heap := by rw [← hs]; exact sky
    show wpAny _ _ _ _ _ _
    refine Sky.land Zc.steady hfr hf sky' fun h3 fl3 up3 => ?_
    have J3 : L2.Inv X pins σ' H' { s' with heap := h3 } := Inv.landed J nb fl3.left (Heap.UpToSlots.trans up up3) os ag
    obtain ⟨oe3, vs3, he3, hz3, hd3⟩ := HandSPX.FlyingZ.there fl3
    have nfr : ¬ a ∈ (X.env :: X.outer).filterMap (·.frame) := fun hm => by
      obtain ⟨_, o', e', hnf⟩ := Heap.FunFrames.mem fl3.right.right.left hm
      rw [he3] at e'
      cases e'
      exact hnf vs3 hd3
    have nL : a ≠ X.env.locals := fun z => nfr (List.mem_filterMap.mpr ⟨X.env, List.mem_cons_self, by show X.env.frame = some a; rw [hf, z]⟩)
    have nF : ¬ a ∈ X.outer.filterMap (·.frame) := fun hm => by
      obtain ⟨e, he, q⟩ := List.mem_filterMap.mp hm
      exact nfr (List.mem_filterMap.mpr ⟨e, List.mem_cons_of_mem X.env he, q⟩)
    have S3 := Inv.suite J3 he3 hd3 na nL nF
    have go : ∀ {hds' : List ExceptHandler} {l' : List (Value × Option Nat × (Addr → Value → Option Addr → TS))}, HdG X hds' l' → wG X.K Wout D l' cls d σ' H' → wpAny (model X.prog X.w) X.A (handleBy (Value.ref a) X.env hds') (SP X pins D) X.xe { s' with heap := h3 } := by
      intro hds' l' hk
      induction hk with
      | nil =>
        intro w
        refine wpAny_handleBy_nil ?_
        obtain ⟨k1, k2, k3, oe, vs, T, oT, ts', he, hz, hd, h1, hr⟩ := id fl3
        refine wpAny_bind (wpAny_field he hd h1 ?_)
        rw [if_neg (by simp)]
        refine wpAny_bind ?_
        rw [hf]
        exact HandSPX.setFlight_upZ fl3 fun h4 hh4 up4 => wpAny_throw (tk (Value.ref a) _ ⟨a, B, sI, pins, σ', H', cls, d, rfl, J, nb, Heap.UpToSlots.trans (Heap.UpToSlots.trans up up3) up4, Or.inr (Or.inr (by rw [hs]; exact hh4)), na, os, ag, w⟩)
      | cons hc hsu r ih =>
        intro w
        obtain ⟨b, hb1, hyes, hno⟩ := w
        refine wpAny_handleBy_cons (codeAny_handlers_test ?_) (fun q => nomatch q)
        have LM := W.exm_one (M := model X.prog X.w) (Inv.kIn J3) (fun A Q E s k q => wpAny_typeOf_ref (k a oe3 he3) (by rw [hz3.left]; exact q)) hb1
        obtain ⟨hg, hdbg, hm⟩ := hc
        suffices hq : _ from hm.elim (fun hm => ld_glob S3 hg hm (W.Looks.here LM hq) hdbg) (fun hm => ld_blt S3 hg hm.1 hm.2.1 (W.Looks.here LM hq) hm.2.2 hdbg)
        cases b with
        | false => exact ih (hno rfl)
        | true =>
          refine codeAny_handlers_suite (HandSPX.lands_againZ fl3 fun h4 fl4 up4 => ?_)
          have J4 : L2.Inv X pins σ' H' { s' with heap := h4 } := Inv.landed J nb fl4.left (Heap.UpToSlots.trans (Heap.UpToSlots.trans up up3) up4) os ag
          obtain ⟨oe4, vs4, he4, hz4, hd4⟩ := HandSPX.FlyingZ.there fl4
          have S4 := Inv.suite J4 he4 hd4 na nL nF
          refine wpAny_mono ((hsu a oe4 cls d (X.pn ++ pins) hz4 ⟨vs4, hd4⟩).run [] _ σ' H' D S4 (hyes rfl a na)) (fun f s6 hsp => ?_) (fun _ _ z => z.elim)
          cases f with
          | ret u => obtain ⟨v6, σ6, H6, S6, r6, q6⟩ := hsp; exact ⟨v6, σ6, H6, Inv.unsuite S6 ok, r6, q6⟩
          | _ => obtain ⟨σ6, H6, S6, q6⟩ := hsp; exact ⟨σ6, H6, Inv.unsuite S6 ok, q6⟩
      | nam hN hi hln hc hsu r ih =>
        rename_i i _ _ _ _ _ _ _ _ _ _
        intro w
        obtain ⟨b, hb1, hyes, hno⟩ := w
        refine wpAny_handleBy_cons (codeAny_handlers_test ?_) (fun q => nomatch q)
        have LM := W.exm_one (M := model X.prog X.w) (Inv.kIn J3) (fun A Q E s k q => wpAny_typeOf_ref (k a oe3 he3) (by rw [hz3.left]; exact q)) hb1
        obtain ⟨hg, hdbg, hm⟩ := hc
        suffices hq : _ from hm.elim (fun hm => ld_glob S3 hg hm (W.Looks.here LM hq) hdbg) (fun hm => ld_blt S3 hg hm.1 hm.2.1 (W.Looks.here LM hq) hm.2.2 hdbg)
        cases b with
        | false => exact ih (hno rfl)
        | true =>
          refine codeAny_handlers_suite_as (HandSPX.lands_againZ fl3 fun h4 fl4 up4 => ?_)
          have J4 : L2.Inv X pins σ' H' { s' with heap := h4 } := Inv.landed J nb fl4.left (Heap.UpToSlots.trans (Heap.UpToSlots.trans up up3) up4) os ag
          obtain ⟨oe4, vs4, he4, hz4, hd4⟩ := HandSPX.FlyingZ.there fl4
          have S4 := Inv.suite J4 he4 hd4 na nL nF
          refine store_ok (X := X.suite a ((a, oe4) :: (X.pn ++ pins))) S4 hN hi (Or.inl hln) (show L2.RelV (V.ref a) (Value.ref a) from rfl) (fun s5 S5 => ?_) (Or.inr hln)
          refine wpAny_mono ((hsu a oe4 cls d (X.pn ++ pins) hz4 ⟨vs4, hd4⟩).run [] s5 (σ'.set i (some (V.ref a))) H' { nx := fun σ' H' => D.nx (List.set σ' i none) H', rt := D.rt, bk := fun σ' H' => D.bk (List.set σ' i none) H', ct := fun σ' H' => D.ct (List.set σ' i none) H' } S5 (hyes rfl a na)) (fun f s6 hsp => ?_) (fun _ _ z => z.elim)
          cases f with
          | ret u => obtain ⟨v6, σ6, H6, S6, r6, q6⟩ := hsp; exact gone_ok (Inv.unsuite S6 ok) hN hi hln fun s7 J7 => ⟨v6, σ6.set i none, H6, J7, r6, q6⟩
          | _ => obtain ⟨σ6, H6, S6, q6⟩ := hsp; exact gone_ok (Inv.unsuite S6 ok) hN hi hln fun s7 J7 => ⟨σ6.set i none, H6, J7, q6⟩
    exact go hh w
  · cases f with
    | next => obtain ⟨σ', H', J', q⟩ := hsp; exact wpAny_execs_nil ⟨σ', H', Inv.ofTry J' ok, q⟩
    | ret u => obtain ⟨v, σ', H', J', r, q⟩ := hsp; exact ⟨v, σ', H', Inv.ofTry J' ok, r, q⟩
    | _ => obtain ⟨σ', H', J', q⟩ := hsp; exact ⟨σ', H', Inv.ofTry J' ok, q⟩

inductive Hk where | st (h : Ms → O) | rf (f : Str) (i : Nat) | ap (f : Str) (i j : Nat)
structure Hc where
  C : Addr
  yes : List Addr
  nos : List Addr
  k : Hk
def runH (k : Hk) (e : Er) (S : Ms) : O := match k with
  | .st h => (match h S with | .er _ _ => .no | o => o)
  | .rf f i => if e.ks = [f] ∧ i < S.sl.length then (match e.ds with | [d] => .rt d S | _ => .no) else .no
  | .ap f i j => if e.ks = [f] ∧ i < S.sl.length ∧ i ≠ j then (match e.ds with
    | [d] => (match muAt S j with | some (k, xs) => if xs.length < 100000 then .nx { sl := S.sl.set i .no, mo := S.mo.set k (.ob (.ls (xs ++ [d]))) } else .no | none => .no)
    | _ => .no) else .no
def catchX : List Hc → Er → Ms → O
  | [], e, S => .er e S
  | c :: r, e, S => if e.C ∈ c.yes then runH c.k e S else if e.C ∈ c.nos then catchX r e S else .no
def tryX (cs : List Hc) (m : Ms → O) : Ms → O := fun S => match m S with | .er e S1 => catchX cs e S1 | o => o
def Hk.ts (K : PySem.W.Frag) (C : Addr) : Hk → Addr → Value → Option Addr → TS
  | .st h => fun _ _ _ => sD K W0 h
  | .rf f i => fun a cls d D σ H => ∃ dx, cls = .ref C ∧ d = some dx ∧ tRet (tXf a (.ref C) (some dx) C f (tVar i)) D σ H
  | .ap f i j => fun a cls d D σ H => ∃ dx, cls = .ref C ∧ d = some dx ∧ ∃ p xs fs v, σ[j]? = some (some (.ref p)) ∧ H p = some (.lst xs) ∧ xs.length < sizeLine ∧ σ[i]? = some (some (.ref a)) ∧ H dx = some (.xd fs) ∧ fs.lookup f = some v ∧ D.nx σ (upd H p (.lst (xs ++ [v])))
def Hk.sl : Hk → Option Nat | .st _ => none | .rf _ i => some i | .ap _ i _ => some i
structure HcOk (K : PySem.W.Frag) (c : Hc) : Prop where
  yes : ∀ A ∈ c.yes, PySem.W.exmOne K (.ref A) (.ref c.C) = some true
  nos : ∀ A ∈ c.nos, PySem.W.exmOne K (.ref A) (.ref c.C) = some false
  sole : c.k.sl ≠ none → ∀ A ∈ c.yes, A = c.C
theorem caught {K : PySem.W.Frag} {W : WX} {D : Ends} {B F : Hp} {as : List Addr} : ∀ {cs : List Hc} {e : Er} {S1 : Ms}, (∀ c ∈ cs, HcOk K c) → OutS K W B F as (catchX cs e S1) D → ∀ σ', OutE K (wG K W D (cs.map fun c => (.ref c.C, c.k.sl, c.k.ts K c.C))) B F as σ' e S1
  | [], _, _, _, o => o
  | c :: cs, e, S1, hc, o => by
    intro σ' F' H' as' dx fs e' r' hd hk hv'
    have ok := hc c List.mem_cons_self
    unfold catchX at o
    split at o
    · rename_i hy
      have e1 := ok.yes _ hy
      cases hkk : c.k with
      | st h =>
        rw [hkk] at o
        show (wG K W D ((.ref c.C, c.k.sl, c.k.ts K c.C) :: _)) (.ref e.C) dx σ' H'
        rw [hkk]
        refine ⟨true, e1, fun _ a na => ⟨B, F', as', S1, r', ?_⟩, fun z => nomatch z⟩
        unfold runH at o
        dsimp only at o
        revert o
        cases h S1 with
        | er x S2 => exact fun o => o.elim
        | nx S2 => exact fun o => OutS.ext (K := K) (W := W0) (o := .nx S2) o e'
        | rt d S2 => exact fun o => OutS.ext (K := K) (W := W0) (o := .rt d S2) o e'
        | bk S2 => exact fun o => OutS.ext (K := K) (W := W0) (o := .bk S2) o e'
        | ct S2 => exact fun o => OutS.ext (K := K) (W := W0) (o := .ct S2) o e'
        | no => exact fun o => o.elim
      | rf f i =>
        have hC : e.C = c.C := ok.sole (by rw [hkk]; exact fun z => nomatch z) _ hy
        rw [hkk] at o
        show (wG K W D ((.ref c.C, c.k.sl, c.k.ts K c.C) :: _)) (.ref e.C) dx σ' H'
        rw [hkk, hC]
        rw [hC] at e1
        unfold runH at o
        dsimp only at o
        split at o
        · rename_i hcc
          obtain ⟨h2, h3⟩ := hcc
          split at o
          · rename_i d hds
            rw [h2] at hk
            rw [hds] at hv'
            have hne : fs ≠ [] := by rintro rfl; cases hk
            obtain ⟨dx, rfl, hd⟩ := hd.some hne
            obtain ⟨v, rfl, rv⟩ : ∃ v, fs = [(f, v)] ∧ Rp K F' v d := by
              match fs, hk, hv' with
              | [(n1, v1)], hk, hv' =>
                cases hk
                cases hv' with
                | cons h1 _ => exact ⟨v1, rfl, h1⟩
            have hlt : i < σ'.length := by rw [Paired.length r'.sl]; exact h3
            refine ⟨true, e1, fun _ a na => ⟨dx, rfl, rfl, ?_⟩, fun z => nomatch z⟩
            show ∃ v, _ ∧ _
            refine ⟨.ref a, ?_, rfl, rfl, dx, _, v, rfl, hd, ?_, o σ' F' H' as' v e' r' rv⟩
            · rw [List.getElem?_set, if_pos rfl, if_pos hlt]
            · simp [List.lookup]
          · exact o.elim
        · exact o.elim
      | ap f i j =>
        have hC : e.C = c.C := ok.sole (by rw [hkk]; exact fun z => nomatch z) _ hy
        rw [hkk] at o
        show (wG K W D ((.ref c.C, c.k.sl, c.k.ts K c.C) :: _)) (.ref e.C) dx σ' H'
        rw [hkk, hC]
        rw [hC] at e1
        unfold runH at o
        dsimp only at o
        split at o
        · rename_i hcc
          obtain ⟨h2, h3, h4⟩ := hcc
          split at o
          · rename_i d hds
            rw [h2] at hk
            rw [hds] at hv'
            have hne : fs ≠ [] := by rintro rfl; cases hk
            obtain ⟨dx, rfl, hd⟩ := hd.some hne
            obtain ⟨v, rfl, rv⟩ : ∃ v, fs = [(f, v)] ∧ Rp K F' v d := by
              match fs, hk, hv' with
              | [(n1, v1)], hk, hv' =>
                cases hk
                cases hv' with
                | cons h1 _ => exact ⟨v1, rfl, h1⟩
            have hlt : i < σ'.length := by rw [Paired.length r'.sl]; exact h3
            cases hm : muAt S1 j with
            | none => rw [hm] at o; exact o.elim
            | some km =>
              rw [hm] at o
              obtain ⟨k, xs⟩ := km
              dsimp only at o
              split at o
              · rename_i hl
                obtain ⟨p, vs, hp, hmo, ha, _, _, hH, hvs⟩ := muAt_rp r' hm
                refine ⟨true, e1, fun _ a na => ⟨dx, rfl, rfl, p, vs, _, v, ?_, hH, Evl.sz_lt (by rw [hvs.length]; exact hl), ?_, hd, by simp [List.lookup], ?_⟩, fun z => nomatch z⟩
                · rw [List.getElem?_set_ne h4]; exact hp
                · rw [List.getElem?_set, if_pos rfl, if_pos hlt]
                · have r2 := r'.put hmo ha (.ls (hvs.snoc rv))
                  refine o _ F' _ as' e' ⟨r2.fh, r2.bh, ?_, r2.mo, r2.nd⟩
                  show Paired _ ((σ'.set i (some (.ref a))).set i none) (S1.sl.set i .no)
                  rw [List.set_set]
                  exact pairedSet i r2.sl trivial
              · exact o.elim
          · exact o.elim
        · exact o.elim
    · split at o
      · rename_i hn
        have e1 := ok.nos _ hn
        have ih := caught (fun c hcm => hc c (List.mem_cons_of_mem _ hcm)) o σ' F' H' as' dx fs e' r' hd hk hv'
        show (wG K W D ((.ref c.C, c.k.sl, c.k.ts K c.C) :: _)) (.ref e.C) dx σ' H'
        cases hs : c.k.sl with
        | none => exact ⟨false, e1, (fun z => nomatch z), fun _ => ih⟩
        | some i => exact ⟨false, e1, (fun z => nomatch z), fun _ => ih⟩
      · exact o.elim
theorem ds_tryX {X : Cx} {W : WX} {body : List Stmt} {pos : Pos} {h₀ : ExceptHandler} {hds : List ExceptHandler} {m : Ms → O} {cs : List Hc} (hc : ∀ c ∈ cs, HcOk X.K c) (hs : X.stack = X.env :: X.outer) (hf : X.env.frame = some X.env.locals) (tk : Takes X W)
    (hb : ∀ (W : WX) (pn : List (Addr × Obj)) (xe : Value → Shared → Prop), Takes (X.tr pn xe) W → PassesOwn (model X.prog X.w) X.A X.env xe → PSs (X.tr pn xe) body (sD X.K W m))
    (hh : HdG X (h₀ :: hds) (cs.map fun c => (.ref c.C, c.k.sl, c.k.ts X.K c.C))) : PS X (.Try body (h₀ :: hds) [] [] pos) (sD X.K W (tryX cs m)) :=
  monoS (ps_tryH hs hf tk (tb := fun W => sD X.K W m) hb hh) fun D σ H q => by
    obtain ⟨B, F, as, S, r, o⟩ := q
    refine ⟨B, F, as, S, r, ?_⟩
    unfold tryX at o
    revert o
    cases m S with
    | er e S1 => exact fun o => caught hc o
    | nx S1 => exact fun o => o
    | rt d S1 => exact fun o => o
    | bk S1 => exact fun o => o
    | ct S1 => exact fun o => o
    | no => exact fun o => o
theorem hcs_nil {K : PySem.W.Frag} : ∀ c ∈ ([] : List Hc), HcOk K c := fun c h => by cases h
theorem hcs_cons {K : PySem.W.Frag} {c : Hc} {cs : List Hc} (h : HcOk K c) (t : ∀ c ∈ cs, HcOk K c) : ∀ d ∈ c :: cs, HcOk K d := fun d hd => by
  rcases List.mem_cons.mp hd with rfl | hd
  · exact h
  · exact t d hd
def NoE (K : PySem.W.Frag) (C : Addr) (l : List Addr) : Prop := ∀ A ∈ l, PySem.W.exmOne K (.ref A) (.ref C) = some false
theorem noE_nil {K : PySem.W.Frag} {C : Addr} : NoE K C [] := fun A h => by cases h
theorem hcOk {K : PySem.W.Frag} {C : Addr} {l : List Addr} {k : Hk} (h : PySem.W.exmOne K (.ref C) (.ref C) = some true) (n : NoE K C l) : HcOk K ⟨C, [C], l, k⟩ :=
  ⟨fun A hA => by obtain rfl : A = C := by simpa using hA
                  exact h, n, fun _ A hA => by simpa using hA⟩
section
variable {X : Cx} {x n f : Str} {C : Addr} {i j : Nat} {h : Ms → O} {b₀ : Stmt} {suite : List Stmt} {np pos' p1 p2 p3 apos cpos : Pos} {hds : List ExceptHandler} {l : List (Value × Option Nat × (Addr → Value → Option Addr → TS))}
theorem hd_ap {o : Expr} {ps : Pos} (xc : XfC X.K C) (nf : PySem.W.findIn X.K (.ref C) f = some none) (hN : X.N.Nodup) (hi : X.N[i]? = some n) (hln : X.env.kindOf n = some NameKind.local) (hg : Gl X x) (hm : X.mg x = some (.ref C)) (hv : ∀ (a : Addr) (oe : Obj) (pn : List (Addr × Obj)), PE (X.suite a ((a, oe) :: pn)) (.Name n p1) (tVar i))
    (ho : ∀ (a : Addr) (oe : Obj) (pn : List (Addr × Obj)), PE (X.suite a ((a, oe) :: pn)) o (tVar j)) (r : HdG X hds l)
    (hab : attributeBase (.Name n p1) f X.env (eval (.Name n p1) X.env) = eval (.Name n p1) X.env := by rfl)
    (hs0 : starEach [Expr.Attribute (.Name n p1) f p2] X.env = (false, eval (.Attribute (.Name n p1) f p2) X.env) :: starEach [] X.env := by rfl)
    (hbase : attributeBase o "append" X.env (eval o X.env) = eval o X.env := by rfl)
    (hfew : ((backTo cpos (starEach [Expr.Attribute (.Name n p1) f p2] X.env)).all (fun x => !x.1) && (backToKw cpos (keywordEach [] X.env)).all (fun x => x.1.isSome)
      && decide ([Expr.Attribute (.Name n p1) f p2].length + ([] : List Keyword).length + (if ([] : List Keyword).isEmpty then 0 else 1) < 30)) = true := by rfl)
    (hline : (apos.endLine == cpos.line) = true := by rfl) (hpl : (backTo cpos (starEach [] X.env)).any (·.1) = false := by rfl) (hsw : swapsWith (.Call (.Attribute o "append" apos) [.Attribute (.Name n p1) f p2] [] cpos) none ps.line X.env = pure false := by rfl) (hdb : (x == ("__debug__" : Str)) = false := by decide) :
    HdG X (.ExceptHandler (some (.Name x np)) (some n) [.Expr (.Call (.Attribute o "append" apos) [.Attribute (.Name n p1) f p2] [] cpos) ps] pos' :: hds) ((.ref C, (Hk.ap f i j).sl, (Hk.ap f i j).ts X.K C) :: l) :=
  .nam hN hi hln ⟨hg, hdb, .inl hm⟩ (fun a oe cls d pn hz hf => ⟨fun pins s σ H D I h => by
    obtain ⟨dx, rfl, rfl, p, xs, fs, v, h1, h2, h3, h4, h5, h6, h7⟩ := h
    exact (pss_one (ps_expr (pe_bm PySem.F.plainAttrs_list PySem.F.slot_list_append PySem.F.type_list_append mt_append (ho a oe pn) (pa_cons (pe_xf xc nf hz hf (hv a oe pn) hab) pa_nil hs0) hbase hfew hline hs0 hpl) hsw)).run pins s σ H D I ⟨_, h1, .inl ⟨rfl, xs, Evl.sq_of h2⟩, _, h4, rfl, rfl, dx, fs, v, rfl, h5, h6, p, xs, v, rfl, rfl, h2, h3, h7⟩⟩) r
end
end Lq

namespace Lq
open PySem PySem.Spec PyProof.Rows L2
@[simp] theorem fldE_run' (C : Addr) (f : Str) (m : Ms → R Dt) (S : Ms) : fldE C f m S = (m S).bind fun d S1 => R.of (fldO C f d) S1 := nrfl rfl
theorem fldO_self (C : Addr) (f : Str) (ks : List Str) (ds : List Dt) : fldO C f (.obj C ks ds) = (ks.zip ds).lookup f := by unfold fldO; exact if_pos rfl
theorem makE_run {C : Addr} {n : Nat} {fs : Ms → R (List Dt)} {f : List Dt → Fo} {S S1 : Ms} {ds xs : List Dt} {ks : List Str} (h : fs S = .ok ds S1) (hn : ds.length = n) (hf : f ds = .ok (.obj C ks xs)) : makE C n fs f S = .ok (.obj C ks xs) S1 := by
  unfold makE
  rw [h, R.bind_ok, if_pos hn, hf]
  dsimp only
  rw [if_pos rfl]
theorem fldS_run {C : Addr} {f : Str} {i k : Nat} {m : Ms → R Dt} {S S1 : Ms} {d : Dt} {ks : List Str} {ds : List Dt} (h : m S = .ok d S1) (hi : ioAt S1 i = some (k, C, ks, ds)) (hf : f ∉ ks) (hl : ks.length < 100) : fldS C f i m S = .nx { S1 with mo := S1.mo.set k (.ob (.io C (ks ++ [f]) (ds ++ [d]))) } := by
  unfold fldS
  rw [h, R.stmt_ok, hi]
  dsimp only
  rw [if_pos ⟨rfl, hf, hl⟩]
theorem metE_run {C : Addr} {x : Str} {n : Nat} {m : Ms → R Dt} {fs : Ms → R (List Dt)} {g : List Dt → Fo} {S S1 S2 : Ms} {ks : List Str} {xs ds : List Dt} {d : Dt} (h : m S = .ok (.obj C ks xs) S1) (hx : x ∉ ks) (hf : fs S1 = .ok ds S2) (hn : ds.length + 1 = n) (hg : g (.obj C ks xs :: ds) = .ok d) : metE C x n m fs g S = .ok d S2 := by
  unfold metE
  rw [h, R.bind_ok]
  dsimp only
  rw [if_pos ⟨rfl, hx⟩, hf, R.bind_ok, if_pos hn, hg]
end Lq

namespace Lq
open PySem PySem.Spec PyProof.Rows L2
open Evl (Ex)
theorem fmin_spec : ∀ (ns : List Int) (n : Int), ns.foldl min n ∈ n :: ns ∧ ∀ y ∈ n :: ns, ns.foldl min n ≤ y
  | [], n => ⟨by simp, by simp⟩
  | m :: ns, n => by
    obtain ⟨h1, h2⟩ := fmin_spec ns (min n m)
    rw [List.foldl_cons]
    have hm := h2 (min n m) List.mem_cons_self
    refine ⟨?_, fun y hy => ?_⟩
    · rcases List.mem_cons.mp h1 with h | h
      · rw [h]
        rcases Int.le_total n m with q | q
        · rw [Int.min_eq_left q]; simp
        · rw [Int.min_eq_right q]; simp
      · exact List.mem_cons_of_mem _ (List.mem_cons_of_mem _ h)
    · rcases List.mem_cons.mp hy with rfl | hy
      · omega
      · rcases List.mem_cons.mp hy with rfl | hy
        · omega
        · exact h2 y (List.mem_cons_of_mem _ hy)
theorem fmax_spec : ∀ (ns : List Int) (n : Int), ns.foldl max n ∈ n :: ns ∧ ∀ y ∈ n :: ns, y ≤ ns.foldl max n
  | [], n => ⟨by simp, by simp⟩
  | m :: ns, n => by
    obtain ⟨h1, h2⟩ := fmax_spec ns (max n m)
    rw [List.foldl_cons]
    have hm := h2 (max n m) List.mem_cons_self
    refine ⟨?_, fun y hy => ?_⟩
    · rcases List.mem_cons.mp h1 with h | h
      · rw [h]
        rcases Int.le_total n m with q | q
        · rw [Int.max_eq_right q]; simp
        · rw [Int.max_eq_left q]; simp
      · exact List.mem_cons_of_mem _ (List.mem_cons_of_mem _ h)
    · rcases List.mem_cons.mp hy with rfl | hy
      · omega
      · rcases List.mem_cons.mp hy with rfl | hy
        · omega
        · exact h2 y (List.mem_cons_of_mem _ hy)
def minF : List Int → Option Int | [] => none | n :: ns => some (ns.foldl min n)
def maxF : List Int → Option Int | [] => none | n :: ns => some (ns.foldl max n)
def minLO : List Dt → Option Dt | [.lst xs] => (intsOf xs).bind fun ns => (minF ns).map .int | _ => none
def maxLO : List Dt → Option Dt | [.lst xs] => (intsOf xs).bind fun ns => (maxF ns).map .int | _ => none
section
variable {X : Cx} {W : WX} {a e : Expr} {p pos p2 kp : Pos} {f : Ms → R Dt}
theorem de_minL (hcalm : X.calm = true) (hg : Gl X "min") (hm : X.mg "min" = none) (ha : PE X a (tD X.K W f)) (hs : starEach [a] X.env = (false, eval a X.env) :: starEach [] X.env := by rfl) : PE X (.Call (.Name "min" p) [a] [] pos) (tD X.K W (calE (aCons f aNil) minLO)) :=
  de_calB (fun F H vs ds z Q ex hv hz q => by
    unfold minLO at hz
    split at hz <;> try cases hz
    rename_i xs
    cases hn : intsOf xs with
    | none => rw [hn] at hz; cases hz
    | some ns =>
      rw [hn] at hz
      cases ns with
      | nil => cases hz
      | cons n ns =>
        cases hz
        have e1 := intsOf_eq hn
        subst e1
        obtain ⟨v, rfl, h1⟩ := rpa1 hv
        cases h1 with
        | lst hs ha =>
          rw [ha.intsv] at hs
          refine ⟨_, _, rfl, Evl.ex_l ex (Evl.sq_of hs), by simp, fun m h2 h3 => ?_⟩
          obtain ⟨s1, s2⟩ := fmin_spec ns n
          have : m = ns.foldl min n := Int.le_antisymm (h3 _ s1) (s2 _ h2)
          rw [this]
          exact q.1 _ (.int _)) (cr_min hcalm) hg hm (by decide +kernel) (da_cons ha da_nil hs) (by decide) (by decide) hs (by rfl)
theorem de_maxL (hcalm : X.calm = true) (hg : Gl X "max") (hm : X.mg "max" = none) (ha : PE X a (tD X.K W f)) (hs : starEach [a] X.env = (false, eval a X.env) :: starEach [] X.env := by rfl) : PE X (.Call (.Name "max" p) [a] [] pos) (tD X.K W (calE (aCons f aNil) maxLO)) :=
  de_calB (fun F H vs ds z Q ex hv hz q => by
    unfold maxLO at hz
    split at hz <;> try cases hz
    rename_i xs
    cases hn : intsOf xs with
    | none => rw [hn] at hz; cases hz
    | some ns =>
      rw [hn] at hz
      cases ns with
      | nil => cases hz
      | cons n ns =>
        cases hz
        have e1 := intsOf_eq hn
        subst e1
        obtain ⟨v, rfl, h1⟩ := rpa1 hv
        cases h1 with
        | lst hs ha =>
          rw [ha.intsv] at hs
          refine ⟨_, _, rfl, Evl.ex_l ex (Evl.sq_of hs), by simp, fun m h2 h3 => ?_⟩
          obtain ⟨s1, s2⟩ := fmax_spec ns n
          have : m = ns.foldl max n := Int.le_antisymm (s2 _ h2) (h3 _ s1)
          rw [this]
          exact q.1 _ (.int _)) (cr_max hcalm) hg hm (by decide +kernel) (da_cons ha da_nil hs) (by decide) (by decide) hs (by rfl)
def anyT : List Dt → Option Dt | [.tup xs] => (intsOf xs).map fun ns => .bl (ns.any fun n => n != 0) | _ => none
@[simp] theorem anyT_run (ns : List Int) : anyT [.tup (ns.map Dt.int)] = some (.bl (ns.any fun n => n != 0)) := by unfold anyT; dsimp only; rw [intsOf_map]; rfl
theorem minLO_run (ns : List Int) : minLO [.lst (ns.map Dt.int)] = (minF ns).map .int := by unfold minLO; dsimp only; rw [intsOf_map]; rfl
theorem maxLO_run (ns : List Int) : maxLO [.lst (ns.map Dt.int)] = (maxF ns).map .int := by unfold maxLO; dsimp only; rw [intsOf_map]; rfl
end
end Lq

namespace Lq
open PySem PySem.Spec PyProof.Rows L2
open Evl (Ex)
section
variable {X : Cx} {W W1 : WX} {a b : Expr} {pos : Pos} {f g : Ms → R Dt} {C : Addr} {j k : Nat} {ps : List Str} {e : List Dt → Fo}
structure IsC (K : PySem.W.Frag) (C : Addr) : Prop where
  cl : Cls K C
  ha : PySem.W.findIn K (.ref C) "__class__" = some (some (.builtin "object.__class__"))
  hn : PySem.W.specialIn K (.builtin "object.__class__") "__get__" = some (some (.builtin "getset_descriptor.__get__"))
  htk : PySem.W.takesIn K (.builtin "object.__class__") = some true
  hm : PySem.W.mroIn K C (.type "object") = some true
end
end Lq

namespace Lq
open PySem PySem.Spec PyProof.Rows L2
end Lq

namespace Lq
open PySem PySem.Spec PyProof.Rows L2
section
variable {X : Cx} {W : WX} {e : Expr} {x : Str} {i : Nat} {f : Ms → R Dt} {pos pos' : Pos}
end
end Lq

namespace Lq
open PySem PySem.Spec PyProof.Rows L2
section
variable {X : Cx} {W : WX} {o e : Expr} {i : Nat} {fn : Ms → R (List Dt)} {pos apos cpos : Pos}
theorem RpA.init {K : PySem.W.Frag} {F : Hp} : ∀ {vs : List V} {ds : List Dt}, RpA K F vs ds → RpA K F vs.dropLast ds.dropLast
  | _, _, .nil => .nil
  | _, _, .cons h .nil => .nil
  | _, _, .cons h (.cons h2 t) => .cons h (RpA.init (.cons h2 t))
end
end Lq

namespace Lq
open PySem PySem.Spec PyProof.Rows L2
open Evl (Ex)
section
variable {X : Cx} {W : WX} {tg : Expr} {p pos : Pos}
def maxO : List Dt → Option Dt | [.int i, .int j] => some (.int (if j > i then j else i)) | _ => none
theorem de_max (hc : X.calm = true) (hg : Gl X "max") (hm : X.mg "max" = none) (ha : PE X a (tD X.K W f)) (hb : PE X b (tD X.K W g)) (hs : starEach [a, b] X.env = (false, eval a X.env) :: starEach [b] X.env := by rfl) (hs2 : starEach [b] X.env = (false, eval b X.env) :: starEach [] X.env := by rfl) (hpl : (backTo pos (starEach [b] X.env)).any (·.1) = false := by rfl) :
    PE X (.Call (.Name "max" p) [a, b] [] pos) (tD X.K W (calE (aCons f (aCons g aNil)) maxO)) :=
  de_calB (fun F H vs ds z Q ex hv hz q => by
    unfold maxO at hz
    split at hz <;> cases hz
    obtain ⟨v, w, rfl, h1, h2⟩ := rpa2 hv
    cases h1
    cases h2
    exact ⟨_, _, rfl, q.1 _ (.int _)⟩) (call_max2 hc) hg hm (by decide +kernel) (da_cons ha (da_cons hb da_nil hs2) hs) (by decide) (by decide) hs hpl
def itEnL (f : Ms → R (List Dt)) : Ms → R (List Dt) := fun S => (f S).bind fun ds S1 => match ds with | [.lst xs] => .ok (enumD xs) S1 | _ => .no
def itEnA (f : Ms → R (List Dt)) : Ms → R (List Dt) := fun S => match f S with | .ok [.lst _] _ => itEnL f S | _ => itEn f S
@[simp] theorem itEnA_lst {f : Ms → R (List Dt)} {S S1 : Ms} {xs : List Dt} (h : f S = .ok [.lst xs] S1) : itEnA f S = .ok (enumD xs) S1 := by
  unfold itEnA
  rw [h]
  dsimp only
  unfold itEnL
  rw [h, R.bind_ok]
@[simp] theorem itEnA_tup {f : Ms → R (List Dt)} {S S1 : Ms} {xs : List Dt} (h : f S = .ok [.tup xs] S1) : itEnA f S = .ok (enumD xs) S1 := by
  unfold itEnA
  rw [h]
  dsimp only
  unfold itEn
  rw [h, R.bind_ok]
end
end Lq

namespace Lq
open PySem PySem.Spec PyProof.Rows L2
open Evl (Ex)
section
variable {X : Cx} {W : WX} {x n fld y : Str} {C : Addr} {i : Nat} {m : Ms → O} {body : List Stmt} {np pos pos' p1 p2 p3 p4 p5 : Pos} {k5 : Nat}
end
end Lq

namespace Lq
open PySem PySem.Spec PyProof.Rows L2
open Evl (Ex)
section
variable {X : Cx} {W : WX} {e : Expr} {p pos : Pos} {f : Ms → R Dt}
end
section
variable {X : Cx} {W : WX} {x n fld y : Str} {C : Addr} {i : Nat} {m : Ms → O} {body : List Stmt} {np pos pos' p1 p2 p3 p4 p5 : Pos} {k5 kt : Nat}
end
end Lq

namespace Lq
open PySem PySem.Spec PyProof.Rows L2
open Evl (Ex)
open PySem.W (alike dataLt dataLe AllAlike Sortable EachIs)
section
variable {X : Cx} {W : WX} {e a b : Expr} {p pos : Pos}
end
end Lq

namespace Lz
open PySem PySem.Spec PyProof.Rows L2
section
variable {prog : Program} {w : World} {A : Around} {E : Value → Shared → Prop} {s : Shared} {z TI TO i1 i2 T : Addr} {fp1 fp2 : List Addr} {n1 n2 i : Nat} {P1 P2 : Nat → Value → Prop} {St1 St2 : Nat → Heap → Prop} {f : Bool} {oT : Obj}
theorem next_held {Q : Value → Shared → Prop} (S : ZipSep2 z TI TO i1 i2 fp1 fp2) (D1 : Draws prog w A i1 fp1 n1 P1 St1) (D2 : Draws prog w A i2 fp2 n2 P2 St2)
    (hz : IsZipHeld s.heap z TI TO T f) (hT : s.heap.get? T = some oT) (hTI : IsTupOf2 s.heap TI (.ref i1) (.ref i2)) (st1 : St1 i s.heap) (st2 : St2 i s.heap) (hlt1 : i < n1) (hlt2 : i < n2)
    (hQ : ∀ x1 x2 h' tk, P1 i x1 → P2 i x2 → IsZipHeld h' z TI TO T true → St1 (i + 1) h' → St2 (i + 1) h' → IsTupOf2 h' s.heap.objs.size x1 x2 →
      (∀ c o, c ≠ z → c ≠ i1 → c ≠ i2 → s.heap.get? c = some o → h'.get? c = some o) → Q (.ref s.heap.objs.size) { s with heap := h', toks := tk }) :
    wpAny (model prog w) A (Builtin.«zip.__next__» ⟨[.ref z], []⟩) (fun fin s' => ∃ v, fin = .done (.ret v) ∧ Q v s') E s := by
  obtain ⟨hp, g, d, tk0, os⟩ := s
  show wpAny _ _ (field (.ref z) 2 >>= _) _ _ _
  refine wpAny_bind (wpAny_field hz rfl (x := .bool false) rfl ?_)
  show wpAny _ _ (field (.ref z) 3 >>= _) _ _ _
  refine wpAny_bind (wpAny_field hz rfl (x := .ref TI) rfl ?_)
  refine wpAny_bind (wpAny_seqItems hTI rfl ?_)
  show wpAny _ _ (Builtin.SmallTypes.ownedTupleIsFree (.ref z) >>= _) _ _ _
  refine wpAny_bind (wpAny_tupleHeld_zip hz hT fun h₁ hz₁ hs₁ => ?_)
  simp only [Bool.false_eq_true, if_false]
  refine wpAny_bind ?_
  rw [← Array.forIn_toList]
  simp only [List.forIn_cons, List.forIn_nil]
  replace hs₁ : Heap.SameBut z hp h₁ := hs₁
  refine wpAny_bind (wpAny_bind (wpAny_holding ?_))
  show wpAny _ _ (Builtin.SmallTypes.nextOf (.ref i1) >>= _) _ _ ⟨h₁, g, d, tk0, os⟩
  refine wpAny_bind (D1.item i ⟨h₁, g, d, tk0, os⟩ _ _ hlt1 (D1.over st1 hs₁ S.zf1) fun x1 p1 tk1 hx1 sn1 hp1 => wpAny_pure ?_)
  replace hp1 : Heap.SameBut i1 h₁ p1 := hp1
  refine wpAny_pure ?_
  refine wpAny_bind (wpAny_bind (wpAny_holding ?_))
  show wpAny _ _ (Builtin.SmallTypes.nextOf (.ref i2) >>= _) _ _ ⟨p1, g, d, tk1, os⟩
  refine wpAny_bind (D2.item i ⟨p1, g, d, tk1, os⟩ _ _ hlt2 (D2.over (D2.over st2 hs₁ S.zf2) hp1 S.sep1_2) fun x2 p2 tk2 hx2 sn2 hp2 => wpAny_pure ?_)
  replace hp2 : Heap.SameBut i2 p1 p2 := hp2
  refine wpAny_pure (wpAny_pure ?_)
  show wpAny _ _ (newTuple [x1, x2] >>= _) _ _ ⟨p2, g, d, tk2, os⟩
  refine wpAny_bind (wpAny_newTuple ?_)
  have hsz : p2.objs.size = hp.objs.size := by rw [hp2.1, hp1.1, hs₁.1]
  have hz₃ : IsZipHeld p2 z TI TO T true := hp2.extBut _ _ S.zi2 (hp1.extBut _ _ S.zi1 hz₁)
  have hk : ∀ c o, c ≠ z → c ≠ i1 → c ≠ i2 → hp.get? c = some o → p2.get? c = some o := fun c o c1 c2 c3 e => hp2.extBut _ _ c3 (hp1.extBut _ _ c2 (hs₁.extBut _ _ c1 e))
  have j1 : St1 (i + 1) p2 := D1.over sn1 hp2 S.sep2_1
  refine wpAny_pure ⟨_, rfl, ?_⟩
  show Q (.ref p2.objs.size) _
  have hp' : IsTupOf2 (p2.push { cls := .type "tuple", data := .seq #[x1, x2] }) p2.objs.size x1 x2 := Heap.get?_push_size _ rfl
  rw [hsz] at hp' ⊢
  exact hQ _ _ _ _ hx1 hx2 (Heap.get?_push_of_some _ hz₃) (D1.frame _ _ _ j1 fun b _ o e => Heap.get?_push_of_some _ e) (D2.frame _ _ _ sn2 fun b _ o e => Heap.get?_push_of_some _ e) hp' fun c o c1 c2 c3 e => Heap.get?_push_of_some _ (hk c o c1 c2 c3 e)
theorem end_held {Q : Fin → Shared → Prop} (S : ZipSep2 z TI TO i1 i2 fp1 fp2) (D1 : Draws prog w A i1 fp1 n1 P1 St1) (D2 : Draws prog w A i2 fp2 n2 P2 St2)
    (hz : IsZipHeld s.heap z TI TO T f) (hT : s.heap.get? T = some oT) (hTI : IsTupOf2 s.heap TI (.ref i1) (.ref i2)) (st1 : St1 i s.heap) (st2 : St2 i s.heap) (hle1 : i ≤ n1) (hle2 : i ≤ n2) (hend : i = n1 ∨ i = n2)
    (hE : ∀ h' tk e, (∀ c o, c ≠ z → c ≠ i1 → c ≠ i2 → s.heap.get? c = some o → h'.get? c = some o) → (∃ o, h'.get? e = some o ∧ o.cls = .type "StopIteration") → E (.ref e) { s with heap := h', toks := tk }) :
    wpAny (model prog w) A (Builtin.«zip.__next__» ⟨[.ref z], []⟩) Q E s := by
  obtain ⟨hp, g, d, tk0, os⟩ := s
  show wpAny _ _ (field (.ref z) 2 >>= _) _ _ _
  refine wpAny_bind (wpAny_field hz rfl (x := .bool false) rfl ?_)
  show wpAny _ _ (field (.ref z) 3 >>= _) _ _ _
  refine wpAny_bind (wpAny_field hz rfl (x := .ref TI) rfl ?_)
  refine wpAny_bind (wpAny_seqItems hTI rfl ?_)
  show wpAny _ _ (Builtin.SmallTypes.ownedTupleIsFree (.ref z) >>= _) _ _ _
  refine wpAny_bind (wpAny_tupleHeld_zip hz hT fun h₁ hz₁ hs₁ => ?_)
  simp only [Bool.false_eq_true, if_false]
  refine wpAny_bind ?_
  rw [← Array.forIn_toList]
  simp only [List.forIn_cons, List.forIn_nil]
  replace hs₁ : Heap.SameBut z hp h₁ := hs₁
  refine wpAny_bind (wpAny_bind (wpAny_holding ?_))
  show wpAny _ _ (Builtin.SmallTypes.nextOf (.ref i1) >>= _) _ _ ⟨h₁, g, d, tk0, os⟩
  by_cases hlt1 : i < n1
  · refine wpAny_bind (D1.item i ⟨h₁, g, d, tk0, os⟩ _ _ hlt1 (D1.over st1 hs₁ S.zf1) fun x1 p1 tk1 hx1 sn1 hp1 => wpAny_pure ?_)
    replace hp1 : Heap.SameBut i1 h₁ p1 := hp1
    refine wpAny_pure ?_
    have hi2 : i = n2 := by omega
    refine wpAny_bind (wpAny_bind (wpAny_holding ?_))
    show wpAny _ _ (Builtin.SmallTypes.nextOf (.ref i2) >>= _) _ _ ⟨p1, g, d, tk1, os⟩
    refine wpAny_bind (D2.done ⟨p1, g, d, tk1, os⟩ _ _ (by rw [← hi2]; exact D2.over (D2.over st2 hs₁ S.zf2) hp1 S.sep1_2) fun q e hq he => ?_)
    exact hE q tk1 e (fun c o c1 c2 c3 x => hq _ _ c3 (hp1.extBut _ _ c2 (hs₁.extBut _ _ c1 x))) he
  · have hi1 : i = n1 := by omega
    refine wpAny_bind (D1.done ⟨h₁, g, d, tk0, os⟩ _ _ (by rw [← hi1]; exact D1.over st1 hs₁ S.zf1) fun q e hq he => ?_)
    exact hE q tk0 e (fun c o c1 c2 _ x => hq _ _ c2 (hs₁.extBut _ _ c1 x)) he
theorem pyNext_held {Q : Option Value → Shared → Prop} (S : ZipSep2 z TI TO i1 i2 fp1 fp2) (D1 : Draws prog w A.in1 i1 fp1 n1 P1 St1) (D2 : Draws prog w A.in1 i2 fp2 n2 P2 St2)
    (hz : IsZipHeld s.heap z TI TO T f) (hT : s.heap.get? T = some oT) (hTI : IsTupOf2 s.heap TI (.ref i1) (.ref i2)) (st1 : St1 i s.heap) (st2 : St2 i s.heap) (hlt1 : i < n1) (hlt2 : i < n2)
    (hQ : ∀ x1 x2 h' tk, P1 i x1 → P2 i x2 → IsZipHeld h' z TI TO T true → St1 (i + 1) h' → St2 (i + 1) h' → IsTupOf2 h' s.heap.objs.size x1 x2 →
      (∀ c o, c ≠ z → c ≠ i1 → c ≠ i2 → s.heap.get? c = some o → h'.get? c = some o) → Q (some (.ref s.heap.objs.size)) { s with heap := h', toks := tk }) :
    wpAny (model prog w) A (pyNext (.ref z)) Q E s := by
  have hTy : s.TypeIs (.ref z) "zip" := ⟨_, hz, rfl⟩
  unfold pyNext
  exact wpAny_bind (wpAny_attempt (wpAny_callSpecial?_slot (name := Str.ofString "__next__") hTy F.slot_zip_next
    (wpAny_call_entry F.slot_zip_next hTy F.entry_zip_next
      (next_held S D1 D2 hz hT hTI st1 st2 hlt1 hlt2 fun x1 x2 h' tk a1 a2 a3 a4 a5 a6 a7 => wpAny_pure (hQ x1 x2 h' tk a1 a2 a3 a4 a5 a6 a7)) (F.args_zip_next_1 _))))
theorem pyNext_endHeld {Q : Option Value → Shared → Prop} (S : ZipSep2 z TI TO i1 i2 fp1 fp2) (D1 : Draws prog w A.in1 i1 fp1 n1 P1 St1) (D2 : Draws prog w A.in1 i2 fp2 n2 P2 St2)
    (hz : IsZipHeld s.heap z TI TO T f) (hT : s.heap.get? T = some oT) (hTI : IsTupOf2 s.heap TI (.ref i1) (.ref i2)) (st1 : St1 i s.heap) (st2 : St2 i s.heap) (hle1 : i ≤ n1) (hle2 : i ≤ n2) (hend : i = n1 ∨ i = n2)
    (hQ : ∀ h' tk, (∀ c o, c ≠ z → c ≠ i1 → c ≠ i2 → s.heap.get? c = some o → h'.get? c = some o) → Q none { s with heap := h', toks := tk }) : wpAny (model prog w) A (pyNext (.ref z)) Q E s := by
  have hTy : s.TypeIs (.ref z) "zip" := ⟨_, hz, rfl⟩
  unfold pyNext
  refine wpAny_bind (wpAny_attempt (wpAny_callSpecial?_slot (name := Str.ofString "__next__") hTy F.slot_zip_next
    (wpAny_call_entry F.slot_zip_next hTy F.entry_zip_next (end_held S D1 D2 hz hT hTI st1 st2 hle1 hle2 hend fun h' tk e hk he => ?_) (F.args_zip_next_1 _))))
  obtain ⟨o, ho, hc⟩ := he
  refine wpAny_bind (wpAny_isInstance (T := "StopIteration") (b := true) ⟨o, ho, hc⟩ isSubtype_stop ?_)
  exact wpAny_pure (hQ _ _ hk)
end
structure ZSt (z TI TO i1 i2 S : Addr) (St1 St2 : Nat → Heap → Prop) (i : Nat) (h : Heap) : Prop where
  ti : IsTupOf2 h TI (.ref i1) (.ref i2)
  s1 : St1 i h
  s2 : St2 i h
  to : ∃ a1 a2, IsTupOf2 h TO a1 a2
  zz : IsZip h z TI TO .none ∨ ∃ T f oT, IsZipHeld h z TI TO T f ∧ h.get? T = some oT ∧ T ≠ z ∧ T ≠ i1 ∧ T ≠ i2 ∧ T ≠ S
structure ZGo (base : Nat) (ks : List Addr) (P1 P2 : Nat → Value → Prop) (ts : List Addr) (h : Heap) : Prop where
  at' : ∀ j t, ts[j]? = some t → ∃ x y, P1 j x ∧ P2 j y ∧ IsTupOf2 h t x y
  big : ∀ t ∈ ts, base ≤ t
  off : ∀ t ∈ ts, t ∉ ks
  nd : ts.Nodup
theorem ZGo.keep {base : Nat} {ks : List Addr} {P1 P2 : Nat → Value → Prop} {ts : List Addr} {h h' : Heap} (g : ZGo base ks P1 P2 ts h) (k : ∀ b o, b ∉ ks → h.get? b = some o → h'.get? b = some o) : ZGo base ks P1 P2 ts h' :=
  ⟨fun j t e => let ⟨x, y, p1, p2, it⟩ := g.at' j t e; ⟨x, y, p1, p2, k t _ (g.off t (List.mem_of_getElem? e)) it⟩, g.big, g.off, g.nd⟩
section
variable {prog : Program} {w : World} {A : Around} {z TI TO i1 i2 S : Addr} {fp1 fp2 : List Addr} {n1 n2 : Nat} {P1 P2 : Nat → Value → Prop} {St1 St2 : Nat → Heap → Prop} {R : Result → Shared → Prop}
theorem ZSt.frame (D1 : Draws prog w A i1 fp1 n1 P1 St1) (D2 : Draws prog w A i2 fp2 n2 P2 St2) (hS : S ≠ z ∧ S ≠ TI ∧ S ≠ TO) (h1 : S ∉ fp1) (h2 : S ∉ fp2) {i : Nat} {h h' : Heap} (x : ZSt z TI TO i1 i2 S St1 St2 i h) (k : ∀ b o, b ≠ S → h.get? b = some o → h'.get? b = some o) : ZSt z TI TO i1 i2 S St1 St2 i h' where
  ti := k _ _ (Ne.symm hS.2.1) x.ti
  s1 := D1.frame _ _ _ x.s1 fun b hb o e => k b o (fun q => h1 (q ▸ hb)) e
  s2 := D2.frame _ _ _ x.s2 fun b hb o e => k b o (fun q => h2 (q ▸ hb)) e
  to := let ⟨a, b, c⟩ := x.to; ⟨a, b, k _ _ (Ne.symm hS.2.2) c⟩
  zz := by
    rcases x.zz with a | ⟨T, f, oT, a, b, c, d, e, g⟩
    · exact .inl (k _ _ (Ne.symm hS.1) a)
    · exact .inr ⟨T, f, oT, k _ _ (Ne.symm hS.1) a, k _ _ g b, c, d, e, g⟩
theorem loop (Z : ZipSep2 z TI TO i1 i2 fp1 fp2) (D1 : Draws prog w A.in1.in1 i1 fp1 n1 P1 St1) (D2 : Draws prog w A.in1.in1 i2 fp2 n2 P2 St2) (hn : min n1 n2 ≤ sizeLine) (hS : S ≠ z ∧ S ≠ TI ∧ S ≠ TO) (hS1 : S ∉ fp1) (hS2 : S ∉ fp2) (res : Value) (base : Nat) :
    ∀ (k i : Nat) (s : Shared) (acc : Array Value) (c : Nat) (ts : List Addr), min n1 n2 - i = k → i ≤ min n1 n2 → ZSt z TI TO i1 i2 S St1 St2 i s.heap → s.heap.get? S = some { cls := .type "list", dict := none, data := .seq acc c, slots := #[] } →
      acc.toList = ts.map Value.ref → ts.length = i → base ≤ s.heap.objs.size → ZGo base [S, z, TO, i1, i2] P1 P2 ts s.heap →
    (∀ h' tk acc' c' ts', (∀ b o, b ∉ [S, z, TO, i1, i2] → s.heap.get? b = some o → h'.get? b = some o) → h'.get? S = some { cls := .type "list", dict := none, data := .seq acc' c', slots := #[] } → acc'.toList = ts'.map Value.ref → ts'.length = min n1 n2 → ZGo base [S, z, TO, i1, i2] P1 P2 ts' h' → R (.ok (.ret res)) { s with heap := h', toks := tk }) →
    codeAny (model prog w) A (.builtin "list.extend.loop" ⟨[.ref S, .ref z, res], []⟩) R s := by
  have hSi1 : S ≠ i1 := fun e => hS1 (e ▸ Z.mem1)
  have hSi2 : S ≠ i2 := fun e => hS2 (e ▸ Z.mem2)
  intro k
  induction k with
  | zero =>
    intro i s acc c ts hk hi st hl ha hti hb hg hR
    have hin : i = min n1 n2 := by omega
    refine codeAny_builtin F.entry_extend_loop ?_
    rw [Around.under_plainId F.plain_extend_loop _]
    show wpAny _ A.in1 (pyNext (.ref z) >>= _) _ _ s
    have he : i = n1 ∨ i = n2 := by omega
    have kp : ∀ (h' : Heap), (∀ c o, c ≠ z → c ≠ TO → c ≠ i1 → c ≠ i2 → s.heap.get? c = some o → h'.get? c = some o) → ∀ b o, b ∉ [S, z, TO, i1, i2] → s.heap.get? b = some o → h'.get? b = some o := fun h' q b o hb e => by
      simp only [List.mem_cons, List.not_mem_nil, or_false, not_or] at hb
      exact q b o hb.2.1 hb.2.2.1 hb.2.2.2.1 hb.2.2.2.2 e
    have fin : ∀ h' tk, (∀ c o, c ≠ z → c ≠ TO → c ≠ i1 → c ≠ i2 → s.heap.get? c = some o → h'.get? c = some o) → R (.ok (.ret res)) { s with heap := h', toks := tk } := fun h' tk q =>
      hR h' tk acc c ts (kp h' q) (q _ _ hS.1 hS.2.2 hSi1 hSi2 hl) ha (hti.trans hin) (hg.keep (kp h' q))
    obtain ⟨a1, a2, hTO⟩ := st.to
    rcases st.zz with hz | ⟨T, f, oT, hz, hT, _⟩
    · exact wpAny_bind (wpAny_pyNext_zipD2_end Z D1 D2 hz st.ti hTO st.s1 st.s2 (by omega) (by omega) he fun h' tk q => wpAny_pure (fin h' tk q))
    · exact wpAny_bind (pyNext_endHeld Z D1 D2 hz hT st.ti st.s1 st.s2 (by omega) (by omega) he fun h' tk q => wpAny_pure (fin h' tk fun c o c1 _ c3 c4 e => q c o c1 c3 c4 e))
  | succ k ih =>
    intro i s acc c ts hk hi st hl ha hti hb hg hR
    have hlt1 : i < n1 := by omega
    have hlt2 : i < n2 := by omega
    refine codeAny_builtin F.entry_extend_loop ?_
    rw [Around.under_plainId F.plain_extend_loop _]
    show wpAny _ A.in1 (pyNext (.ref z) >>= _) _ _ s
    have lt : ∀ {c o}, s.heap.get? c = some o → s.heap.objs.size ≠ c := fun e => Nat.ne_of_gt (Heap.lt_size e)
    have nS := lt hl
    have ni1 : s.heap.objs.size ≠ i1 := by obtain ⟨_, e⟩ := D1.live _ _ st.s1; exact lt e
    have ni2 : s.heap.objs.size ≠ i2 := by obtain ⟨_, e⟩ := D2.live _ _ st.s2; exact lt e
    -- after the pair has been made
    have go : ∀ x1 x2 h' tk, P1 i x1 → P2 i x2 → ZSt z TI TO i1 i2 S St1 St2 (i + 1) h' → IsTupOf2 h' s.heap.objs.size x1 x2 → (∀ c o, c ≠ z → c ≠ TO → c ≠ i1 → c ≠ i2 → s.heap.get? c = some o → h'.get? c = some o) → s.heap.objs.size ≠ z → s.heap.objs.size ≠ TO →
        wpAny (model prog w) A.in1 (updateSeq S (·.push (.ref s.heap.objs.size)) >>= fun _ => again (.builtin "list.extend.loop" ⟨[.ref S, .ref z, res], []⟩)) (fun fin s' => match fin with | .done f => R (.ok f) s' | .again c' => c'.quiet = true ∧ codeAny (model prog w) A c' R s') (fun e s' => R (.error e) s') { s with heap := h', toks := tk } := fun x1 x2 h' tk p1 p2 st' hT' hk' nz nT => by
      have hl' : h'.get? S = some { cls := .type "list", dict := none, data := .seq acc c, slots := #[] } := hk' _ _ hS.1 hS.2.2 hSi1 hSi2 hl
      have hacc : acc.size = i := by rw [← Array.length_toList, ha, List.length_map, hti]
      have kp : ∀ b o, b ∉ [S, z, TO, i1, i2] → s.heap.get? b = some o → h'.get? b = some o := fun b o hb e => by
        simp only [List.mem_cons, List.not_mem_nil, or_false, not_or] at hb
        exact hk' b o hb.2.1 hb.2.2.1 hb.2.2.2.1 hb.2.2.2.2 e
      have nb : s.heap.objs.size ∉ [S, z, TO, i1, i2] := by
        simp only [List.mem_cons, List.not_mem_nil, or_false, not_or]
        exact ⟨nS, nz, nT, ni1, ni2⟩
      have tl : ∀ t ∈ ts, t < s.heap.objs.size := fun t ht => by
        obtain ⟨j, hj⟩ := List.mem_iff_getElem?.mp ht
        obtain ⟨_, _, _, _, e⟩ := hg.at' j t hj
        exact Heap.lt_size e
      refine wpAny_bind ?_
      refine wpAny_updateSeq hl' rfl (wpAny_pure ⟨plainId_quiet F.plain_extend_loop _, ih (i + 1) _ (acc.push (.ref s.heap.objs.size)) _ (ts ++ [s.heap.objs.size]) (by omega) (by omega) (st'.frame D1 D2 hS hS1 hS2 fun b o hb e => (Heap.get?_update_other _ _ (Ne.symm hb)).trans e) (Heap.get?_update_self _ hl' rfl) ?_ ?_ ?_ ?_ ?_⟩)
        (by rw [hacc]; omega) (by show (acc.push _).size ≤ sizeLine + 1; rw [Array.size_push, hacc]; omega)
      · rw [Array.toList_push, ha, List.map_append]; rfl
      · rw [List.length_append, hti]; rfl
      · show base ≤ (h'.update S _).objs.size
        have : (h'.update S (Obj.mapSeq fun a => a.push (.ref s.heap.objs.size))).objs.size = h'.objs.size := Heap.size_update ..
        rw [this]
        exact Nat.le_trans hb (Nat.le_of_lt (Heap.lt_size hT'))
      · refine ⟨fun j t e => ?_, fun t ht => ?_, fun t ht => ?_, ?_⟩
        · by_cases hj : j < ts.length
          · rw [List.getElem?_append_left hj] at e
            obtain ⟨x, y, q1, q2, q3⟩ := hg.at' j t e
            have ht := hg.off t (List.mem_of_getElem? e)
            exact ⟨x, y, q1, q2, (Heap.get?_update_other _ _ (fun q => ht (by rw [← q]; exact List.mem_cons_self))).trans (kp _ _ ht q3)⟩
          · rw [List.getElem?_append_right (by omega)] at e
            have hj0 : j - ts.length = 0 := by
              rcases Nat.eq_zero_or_pos (j - ts.length) with q | q
              · exact q
              · rw [List.getElem?_eq_none (by simp; omega)] at e; cases e
            rw [hj0] at e
            cases e
            have : j = i := by omega
            subst this
            exact ⟨x1, x2, p1, p2, (Heap.get?_update_other _ _ (Ne.symm nS)).trans hT'⟩
        · rcases List.mem_append.mp ht with ht | ht
          · exact hg.big t ht
          · rw [List.mem_singleton.mp ht]; exact hb
        · rcases List.mem_append.mp ht with ht | ht
          · exact hg.off t ht
          · rw [List.mem_singleton.mp ht]; exact nb
        · rw [List.nodup_append]
          refine ⟨hg.nd, by simp, fun a ha b hb' => ?_⟩
          rw [List.mem_singleton.mp hb']
          exact Nat.ne_of_lt (tl a ha)
      · intro h'' tk'' acc' c' ts' q1 q2 q3 q4 q5
        refine hR h'' tk'' acc' c' ts' (fun b o hb e => q1 b o hb ?_) q2 q3 q4 q5
        exact (Heap.get?_update_other _ _ (fun q => hb (by rw [← q]; exact List.mem_cons_self))).trans (kp b o hb e)
    obtain ⟨a1, a2, hTO⟩ := st.to
    rcases st.zz with hz | ⟨T, f, oT, hz, hT, r1, r2, r3, r4⟩
    · refine wpAny_bind (wpAny_pyNext_zipD2_item Z D1 D2 hz st.ti hTO st.s1 st.s2 hlt1 hlt2 fun x1 x2 h' tk p1 p2 b1 b2 d1 d2 b5 b6 hk' => ?_)
      exact go x1 x2 h' tk p1 p2 ⟨hk' _ _ Z.TIz Z.TITO Z.TIi1 Z.TIi2 st.ti, d1, d2, ⟨_, _, b2⟩, .inr ⟨s.heap.objs.size, false, _, b1, b5, lt hz, ni1, ni2, nS⟩⟩ b5 hk' (lt hz) (lt hTO)
    · refine wpAny_bind (pyNext_held Z D1 D2 hz hT st.ti st.s1 st.s2 hlt1 hlt2 fun x1 x2 h' tk p1 p2 b1 d1 d2 b5 hk' => ?_)
      exact go x1 x2 h' tk p1 p2 ⟨hk' _ _ Z.TIz Z.TIi1 Z.TIi2 st.ti, d1, d2, ⟨_, _, hk' _ _ Z.TOz Z.Ti1 Z.Ti2 hTO⟩, .inr ⟨T, true, oT, b1, hk' _ _ r1 r2 r3 hT, r1, r2, r3, r4⟩⟩ b5 (fun c o c1 _ c3 c4 e => hk' c o c1 c3 c4 e) (lt hz) (lt hTO)
end
def putT : Hp → List Addr → List (V × V) → Hp
  | H, a :: as, p :: ps => putT (upd H a (.tup [p.1, p.2])) as ps
  | H, _, _ => H
theorem putT_off {b : Addr} : ∀ (as : List Addr) (ps : List (V × V)) (H : Hp), b ∉ as → putT H as ps b = H b
  | [], _, _, _ => rfl
  | _ :: _, [], _, _ => rfl
  | a :: as, p :: ps, H, h => by
    show putT (upd H a (.tup [p.1, p.2])) as ps b = H b
    rw [putT_off as ps _ (fun z => h (List.mem_cons_of_mem _ z)), upd_ne (fun z => h (by rw [z]; exact List.mem_cons_self))]
theorem putT_at : ∀ (as : List Addr) (ps : List (V × V)) (H : Hp), as.length = ps.length → as.Nodup → Paired (fun (t : Addr) (p : V × V) => putT H as ps t = some (.tup [p.1, p.2])) as ps
  | [], [], _, _, _ => .nil
  | [], _ :: _, _, h, _ => by cases h
  | _ :: _, [], _, h, _ => by cases h
  | a :: as, p :: ps, H, h, hn => by
    have hn' := List.nodup_cons.mp hn
    refine .cons ?_ (putT_at as ps (upd H a (.tup [p.1, p.2])) (Nat.succ.inj h) hn'.2)
    show putT (upd H a (.tup [p.1, p.2])) as ps a = some (.tup [p.1, p.2])
    rw [putT_off as ps _ hn'.1, upd_same]
section
variable {X : Cx} {ta : TA}
theorem laid {pins : List (Addr × Obj)} {σ : L2.St} {H : Hp} {s : Shared} {h' : Heap} {tk : Nat} {ps : List (V × V)} {S : Addr} {acc : Array Value} {c : Nat} {as : List Addr} (I : Inv X pins σ H s) (hz : ps.length ≤ sizeLine)
    (hk : ∀ b o, s.heap.get? b = some o → h'.get? b = some o) (hSn : s.heap.objs.size ≤ S) (hS : h'.get? S = some { cls := .type "list", dict := none, data := .seq acc c, slots := #[] }) (hl : as.length = ps.length) (hacc : acc.toList = as.map Value.ref)
    (hb : ∀ t ∈ as, s.heap.objs.size ≤ t) (hoff : S ∉ as) (nd : as.Nodup) (hG : ∀ (j : Nat) (t : Addr) (p : V × V), as[j]? = some t → ps[j]? = some p → ∃ x y, RelV p.1 x ∧ RelV p.2 y ∧ IsTupOf2 h' t x y) :
    ∃ H' : Hp, (∀ b o, H b = some o → H' b = some o) ∧ H S = none ∧ (∀ t ∈ as, H t = none) ∧ H' S = some (.lst (as.map V.ref)) ∧ Paired (fun (t : Addr) (q : V × V) => H' t = some (.tup [q.1, q.2])) as ps ∧ Inv X pins σ H' { s with heap := h', toks := tk } := by
  have new : ∀ t ∈ as, H t = none := fun t ht => I.hok.fresh (hb t ht)
  have newS : H S = none := I.hok.fresh hSn
  have atP := putT_at as ps (upd H S (.lst (as.map V.ref))) hl nd
  have off : ∀ b, b ∉ as → b ≠ S → putT (upd H S (.lst (as.map V.ref))) as ps b = H b := fun b h1 h2 => by rw [putT_off as ps _ h1, upd_ne h2]
  have low : ∀ b o, s.heap.get? b = some o → b ∉ as ∧ b ≠ S := fun b o e => ⟨fun z => absurd (Heap.lt_size e) (Nat.not_lt.mpr (hb b z)), fun z => absurd (Heap.lt_size e) (Nat.not_lt.mpr (z ▸ hSn))⟩
  have kp : ∀ b u, H b = some u → (putT (upd H S (.lst (as.map V.ref))) as ps) b = some u := fun b u e => by
    rw [off b (fun z => by rw [new b z] at e; cases e) (fun z => by rw [z, newS] at e; cases e)]
    exact e
  have eS : putT (upd H S (.lst (as.map V.ref))) as ps S = some (.lst (as.map V.ref)) := by rw [putT_off as ps _ hoff, upd_same]
  refine ⟨putT (upd H S (.lst (as.map V.ref))) as ps, kp, newS, new, eS, atP, ?_⟩
  refine I.call' (ch := []) rfl ⟨fun b o q _ _ _ => hk b o q, fun b o q _ _ _ => ⟨o.slots, hk b o q⟩, fun b o q n _ => ?_, fun b o q _ => ⟨o, hk b o q⟩, fun b xs q => kp b _ q, fun b o u q => kp b _ q, fun b ps q => ⟨#[], by rw [kp b _ q]; simp⟩⟩ (fun b u q => ?_) I.bare fun b z => by simp at z
  · obtain ⟨z1, z2⟩ := low b o q
    rw [off b z1 z2]
    exact n
  · by_cases hb1 : b ∈ as
    · obtain ⟨j, pk, e1, e2, e3⟩ := LiI.paired_ix atP hb1
      rw [e3] at q
      cases q
      obtain ⟨x, y, f1, f2, f3⟩ := hG j b pk e1 e2
      exact ⟨by show 2 ≤ sizeLine; decide, [x, y], .cons f1 (.cons f2 .nil), ⟨_, f3, rfl, _, rfl⟩⟩
    · by_cases hb2 : b = S
      · rw [hb2] at q ⊢
        rw [eS] at q
        cases q
        refine ⟨by rw [List.length_map]; omega, acc.toList, c, by rw [hacc]; exact LiI.vals_refs as, ?_⟩
        rw [Array.toArray_toList]
        exact hS
      · rw [off b hb1 hb2] at q
        exact (I.hok b u q).stay (fun d v _ y => hk d v y) (fun d y => kp d _ y) fun d xs y => kp d _ y
end
end Lz
namespace Lq
open PySem PySem.Spec PyProof.Rows L2
open Evl (Ex)
section
variable {X : Cx} {W : WX} {a b : Expr} {f g : Ms → R Dt} {pos : Pos}
end
end Lq

namespace Lq
open PySem PySem.Spec PyProof.Rows L2
open Evl (Ex)
section
variable {X : Cx} {W : WX} {o e : Expr} {f g : Ms → R Dt} {pos : Pos}
end
end Lq

namespace Lq
open PySem PySem.Spec PyProof.Rows L2
open Evl (Ex)
section
variable {X : Cx} {W : WX} {a : Expr} {f : Ms → R Dt} {p p2 pos pos2 : Pos}
end
structure NotT (K : PySem.W.Frag) (C : Addr) (n : String) : Prop where
  nf : PySem.W.notFirst K C (.type n) = true
  ki : PySem.W.kitOne K (.type n) (.ref C) = some false
def plainV (d : Dt) : Option String := match d with | .non => some "NoneType" | .str _ => some "str" | _ => none
def eqT (C : Addr) (T : String) (g : List Dt → Fo) : Dt → Dt → Option Dt
  | .obj C1 ks xs, d => if C1 = C ∧ plainV d = some T then (match g [.obj C1 ks xs, d] with | .ok (.bl k) => some (.bl k) | _ => none) else none
  | _, _ => none
section
variable {X : Cx} {W W1 : WX} {a b : Expr} {pos : Pos} {f g : Ms → R Dt} {C : Addr} {T : String} {j k : Nat} {ps : List Str} {e : List Dt → Fo}
end
end Lq

namespace Lz
open PySem PySem.Spec PyProof.Rows L2
structure Ap3 (z TI TO i1 i2 i3 a b c : Addr) : Prop where
  sep : ZipSep3 z TI TO i1 i2 i3 [i1, a] [i2, b] [i3, c]
  a1 : a ≠ i1
  a2 : b ≠ i2
  a3 : c ≠ i3
end Lz
namespace Lq
open PySem PySem.Spec PyProof.Rows L2
open Evl (Ex)
section
variable {X : Cx} {W : WX} {e e2 e3 : Expr} {fs : Ms → R (List Dt)} {p pos tpos : Pos}
end
end Lq
namespace Lq
end Lq

namespace Lsr
open PySem PyProof.Rows Srt SrtO
section
variable {prog : Program} {w : World} {A : Around} {E : Value → Shared → Prop} {s : Shared}
end
end Lsr
namespace Lq
open PySem PySem.Spec PyProof.Rows L2
open Evl (Ex)
section
variable {X : Cx} {W : WX} {e : Expr} {p pos : Pos} {f : Ms → R Dt}
end
end Lq

namespace Lq
open PySem PySem.Spec PyProof.Rows L2
open Evl (Ex)
section
variable {X : Cx} {W : WX} {a b e o : Expr} {f g : Ms → R Dt} {pos apos p : Pos}
inductive DJ (X : Cx) (W : WX) : List Expr → List (Ms → R Dt) → Prop where
  | nil : DJ X W [] []
  | cons {e : Expr} {t : Ms → R Dt} {es : List Expr} {ts : List (Ms → R Dt)} (h : PE X e (tD X.K W t)) (r : DJ X W es ts) : DJ X W (e :: es) (t :: ts)
end
end Lq

namespace Lne
open PySem PySem.W PySem.Spec PySem.Calls PyProof.Rows
section
variable {prog : Program} {w : World} {A : Around} {E : Value → Shared → Prop} {s : Shared} {K : Frag} {x C L f : Addr} {h₀ : Heap} {m : Str → Option Value} {ox : Obj} {od : Option Obj} {b tb : Value}
end
end Lne
namespace Lq
open PySem PySem.Spec PyProof.Rows L2
open Evl (Ex)
structure NeC (K : PySem.W.Frag) (C : Addr) : Prop where
  sn : PySem.W.findIn K (.ref C) "__ne__" = some (some (.builtin "object.__ne__"))
  hm : PySem.W.mroIn K C (.type "object") = some true
section
variable {X : Cx} {W W1 : WX} {a b : Expr} {pos p : Pos} {f g : Ms → R Dt} {C : Addr} {j k : Nat} {ps : List Str} {e : List Dt → Fo}
end
end Lq

namespace Lsd
open PySem PyProof.Rows Srt SrtO PySem.Spec
section
variable {prog : Program} {w : World} {A : Around} {E : Value → Shared → Prop} {s : Shared}
theorem collect_sized {T : String} {r d : Addr} {n : Nat} {P : Nat → Value → Prop} {OK : Heap → Prop} {R : List Value → Shared → Prop} (K : PySem.W.KdlSrc prog w T r d n P OK) (hh : A.handled = none) (hok : OK s.heap) (hn : n ≤ sizeLine)
    (h : ∀ (h' : Heap) (tk : Nat) (acc : Array Value), (∀ b o, s.heap.get? b = some o → h'.get? b = some o) → s.heap.objs.size ≤ h'.objs.size → PySem.ItemsOf P acc n → R acc.toList { s with heap := h', toks := tk }) :
    wpAny (model prog w) A (collect (.ref r)) R E s := by
  have hlt := K.there _ hok
  unfold collect
  refine wpAny_bind (wpAny_runValue (codeAny_builtin entry_proto_collect' ?_))
  rw [Around.under_plainId PySem.F.plain_proto_collect _]
  refine wpAny_bind (m := newList []) (wpAny_newObj_type (wpAny_pure ⟨plainId_quiet PySem.F.plain_list_iadd _, codeAny_builtin entry_list_iadd' ?_⟩))
  rw [Around.under_plainId PySem.F.plain_list_iadd _]
  have hS₁ : (s.heap.push { cls := .type "list", data := .seq ([] : List Value).toArray }).get? s.heap.objs.size = some { cls := .type "list", data := .seq #[] } := Heap.get?_push_size _ rfl
  refine wpAny_mono (PySem.W.kdl_extend (A := A) (s := { s with heap := s.heap.push { cls := .type "list", data := .seq ([] : List Value).toArray } })
    (R := fun (q : Result) (s' : Shared) => ∃ (h' : Heap) (tk : Nat) (acc' : Array Value) (c' : Nat), q = .ok (.ret (.ref s.heap.objs.size)) ∧ s' = { s with heap := h', toks := tk } ∧
      (∀ b o, s.heap.get? b = some o → h'.get? b = some o) ∧ h'.get? s.heap.objs.size = some { cls := .type "list", dict := none, data := .seq acc' c', slots := #[] } ∧ PySem.ItemsOf P acc' n)
    K hh (K.keep _ _ hok fun b _ o e => Heap.get?_push_of_some _ e) s.heap.objs.size (Nat.ne_of_gt hlt.1) (Nat.ne_of_gt hlt.2) (.ref s.heap.objs.size) 0 hS₁
    (fun h' tk acc' c' hk hS' hacc => ⟨h', tk, acc', c', rfl, rfl, fun b o e => hk b o (Nat.ne_of_lt (Heap.lt_size e)) (Heap.get?_push_of_some _ e), hS', hacc⟩) hn) (fun fin s' x => ?_) fun e s' x => ?_
  · cases fin with
    | done f =>
      obtain ⟨h', tk, acc', c', e, rfl, hk, hS', hacc⟩ := x
      cases e
      exact wpAny_bind (m := load s.heap.objs.size) (wpAny_load hS' (wpAny_pure (h h' tk acc' hk (Nat.le_of_lt (Heap.lt_size hS')) hacc)))
    | again c₁ =>
      refine ⟨x.1, codeAny_mono x.2 fun q s₂ y => ?_⟩
      obtain ⟨h', tk, acc', c', rfl, rfl, hk, hS', hacc⟩ := y
      exact wpAny_bind (m := load s.heap.objs.size) (wpAny_load hS' (wpAny_pure (h h' tk acc' hk (Nat.le_of_lt (Heap.lt_size hS')) hacc)))
  · obtain ⟨_, _, _, _, e', _⟩ := x
    cases e'
theorem sorted_of {r : Addr} {vs : List Value} {Q : Value → Shared → Prop}
    (hc : ∀ R : List Value → Shared → Prop, (∀ h' tk, (∀ b o, s.heap.get? b = some o → h'.get? b = some o) → s.heap.objs.size ≤ h'.objs.size → R vs { s with heap := h', toks := tk }) → wpAny (model prog w) A.in1 (collect (.ref r)) R E s) (hz : vs.length ≤ sizeLine)
    (h : ∀ (h' : Heap) (tk : Nat), (∀ b o, s.heap.get? b = some o → h'.get? b = some o) → s.heap.objs.size ≤ h'.objs.size → wpAny (model prog w) A.in1 (call (.builtin "list.sort") [.ref h'.objs.size]) (fun _ s' => Q (.ref h'.objs.size) s') E { s with heap := h'.push (seqObj "list" vs.toArray 0), toks := tk }) :
    wpAny (model prog w) A (call (.builtin "sorted") [.ref r]) Q E s := by
  refine Calls.call_function_entry kind_sorted plain_sorted entry_sorted (args_sorted1 _) ?_
  unfold Builtin.«sorted»
  refine wpAny_bind (m := checkCount "sorted" 1 1 _) (wpAny_pure ?_)
  refine wpAny_bind (hc _ fun h' tk kp hle => ?_)
  refine wpAny_bind (wpAny_newList ?_ hz)
  refine wpAny_bind (wpAny_holding (wpAny_mono (h h' tk kp hle) (fun v s' q => ?_) fun _ _ e => e))
  exact wpAny_pure ⟨_, rfl, q⟩
end
end Lsd
namespace Lq
open PySem PySem.Spec PyProof.Rows L2
open Evl (Ex)
theorem isT_reads0 {h : Heap} {us : List Value} {w : List Int} (hi : IntsAre us w) : ReadsAll h us (w.map PyData.int) [] := by
  induction hi with
  | nil => exact .nil
  | @cons i t us ns _ ih => exact ReadsAll.cons (as := []) (bs := []) (.int i t) ih
def rSortDT (K : PySem.W.Frag) : List V → Hp → VK → Prop := fun vs H Q => ∃ (a : Addr) (ws : List (List Key × V)) (ls : List (List Int)), vs = [V.ref a] ∧ H a = some (.dT ws) ∧ ws.map (·.1) = ls.map (·.map Sum.inl) ∧ (ls.length ≤ 1 ∨ ∃ n, 1 ≤ n ∧ ∀ w ∈ ls, w.length = n) ∧
  ∀ (cs : List Addr) (p : Addr), Paired (fun b (w : List Int) => H b = some (.tup (w.map V.int))) cs (sortW ls) → H p = none → Q (.ref p) (upd H p (.lst (cs.map V.ref)))
theorem keys_paired {H : Hp} : ∀ {ws : List (List Key × V)} {bs : List Addr} {ls : List (List Int)}, IsKeys H ws bs → ws.map (·.1) = ls.map (·.map Sum.inl) → Paired (fun b (w : List Int) => H b = some (.tup (w.map V.int))) bs ls
  | _, _, [], .nil, _ => .nil
  | _, _, _ :: _, .nil, h => by simp at h
  | _, _, [], .cons _ _, h => by simp at h
  | _, _, w :: ls, .cons h t, e => by
    rw [List.map_cons, List.map_cons, List.cons.injEq] at e
    refine .cons ?_ (keys_paired t e.2)
    rw [e.1, kv_ints] at h
    exact h
theorem cr_sortedDT {X : Cx} (hc : X.calm = true) (hu : X.A.units + 64 < cLine) : CallR X (.builtin "sorted") (rSortDT X.K) := by
  intro pins s σ H vs us Q I r h
  obtain ⟨a, ws, ls, rfl, hd, hls, hlen, q⟩ := h
  obtain ⟨u, rfl, ru⟩ := vals1 r
  obtain rfl : u = Value.ref a := ru
  obtain ⟨z, hs, ks, pr, o, es, ep, ho, hx, hdt, he, hn⟩ := (show ObjOk X.prog X.w H s.heap a (.dT ws) from I.hok a _ hd)
  have l1 : es.size = ks.length := size_of_entries he
  have l2 : ws.length = ks.length := Paired.length pr
  have hp := keys_paired (isKeys_of pr) hls
  have hbl : ((ks.map fun x => x.2.1).map Value.ref).length = ls.length := by rw [List.length_map]; exact Paired.length hp
  have hbz : ((ks.map fun x => x.2.1).map Value.ref).length ≤ sizeLine := by rw [List.length_map, List.length_map]; omega
  refine Lsd.sorted_of (vs := (ks.map fun x => x.2.1).map Value.ref) (fun R hR => Lsd.collect_sized (kdl_raw hs hx hdt) (I.ok.hd hc) ho (by omega) fun h' tk acc kp hle it => ?_) hbz fun h' tk kp hle => ?_
  · have ea : acc.toList = ks.map fun x => Value.ref x.2.1 := by
      have hl : acc.toList.length = ks.length := by rw [Array.length_toList, it.1]; exact l1
      apply List.ext_getElem?
      intro j
      rw [List.getElem?_map]
      cases hj : acc.toList[j]? with
      | none =>
        have h1 := List.getElem?_eq_none_iff.mp hj
        rw [List.getElem?_eq_none (by omega)]
        all_goals rfl
      | some v =>
        obtain ⟨en, hen, hv⟩ := it.2 j v (by rw [← Array.getElem?_toList]; exact hj)
        have qe := entry_at he j
        rw [hen] at qe
        cases hb : ks[j]? with
        | none =>
          rw [hb] at qe
          exact nomatch (show some en = none from qe)
        | some b =>
          rw [hb] at qe
          have e2 : en = entryOfKey (tupleKind (mixKind X.prog X.w)) b := Option.some.inj qe
          rw [hv, e2]
          all_goals rfl
    have eb : acc.toList = (ks.map fun x => x.2.1).map Value.ref := by rw [ea, List.map_map]; all_goals rfl
    rw [eb]
    exact hR h' tk kp hle
  generalize (ks.map fun x => x.2.1) = bs at *
  have hoL : (h'.push (seqObj "list" (bs.map Value.ref).toArray 0)).get? h'.objs.size = some (seqObj "list" (bs.map Value.ref).toArray 0) := Heap.get?_push_size _ rfl
  have fin : ∀ (out : List Value) (cs : List Addr), out = cs.map Value.ref → cs.length = bs.length → Paired (fun b (w : List Int) => H b = some (.tup (w.map V.int))) cs (sortW ls) →
      EP X pins σ Q (.ref h'.objs.size) { s with heap := sortedHeap (h'.push (seqObj "list" (bs.map Value.ref).toArray 0)) h'.objs.size (bs.map Value.ref) out.toArray, toks := tk } := fun out cs e hcl hcs => by
    obtain ⟨c, hc2⟩ := sortedHeap_at (vs := bs.map Value.ref) (out := out.toArray) hoL
    refine ⟨.ref h'.objs.size, upd H h'.objs.size (.lst (cs.map V.ref)), I.laid (t' := tk) (fun b u e2 => ?_) hle ⟨by rw [List.length_map, hcl, ← List.length_map (f := Value.ref)]; exact hbz, cs.map Value.ref, c, vals_refs cs, by rw [← e]; exact hc2⟩, rfl, q cs _ hcs (I.hok.fresh hle)⟩
    have q2 := kp b u e2
    have hlt := Heap.lt_size q2
    rw [sortedHeap_old (Nat.ne_of_lt hlt) (by rw [size_push']; exact Nat.lt_succ_of_lt hlt)]
    exact Heap.get?_push_of_some _ q2
  rcases hlen with hlen | ⟨n, hn1, hn⟩
  · refine wpAny_call_entry slot_list_sort ⟨_, hoL, rfl⟩ entry_list_sort (SrtO.list_sort_ord (ltv := fun _ _ => false) ⟨fun _ _ _ => rfl, fun _ _ _ _ _ => rfl⟩ hoL hbz (fun h2 => by omega) fun out h1 h2 => ⟨_, rfl, ?_⟩) (args_list_sort _)
    have e : out = bs.map Value.ref := by
      have hperm := h2.perm
      match hb : bs.map Value.ref, hperm with
      | [], hperm => exact List.Perm.eq_nil hperm
      | [x], hperm => exact List.perm_singleton.mp hperm
      | x :: y :: r, _ => rw [hb] at hbl; simp at hbl; omega
    have e2 : sortW ls = ls := by
      match ls, hlen with
      | [], _ => simp [sortW]
      | [w], _ => simp [sortW]
    exact fin out bs e rfl (by rw [e2]; exact hp)
  · have hR : PySem.W.EachIs (fun (u : Value) (w : List Int) => ∃ b, u = .ref b ∧ H b = some (.tup (w.map V.int))) (bs.map Value.ref) ls := each_of (hp.mono fun b w h => ⟨b, rfl, h⟩)
    have hReads : PySem.W.EachIs (fun (v : Value) (w : List Int) => ∃ as, Reads (h'.push (seqObj "list" (bs.map Value.ref).toArray 0)) v (.tuple (w.map PyData.int)) as ∧ h'.objs.size ∉ as) (bs.map Value.ref) ls := each_of (hp.mono fun b w h => by
      obtain ⟨_, its2, r2, o, ho, hc, m, hd⟩ := I.hok _ _ h
      have ra := isT_reads0 (h := h'.push (seqObj "list" (bs.map Value.ref).toArray 0)) (intsAre_of r2)
      exact ⟨_, Reads.tuple (Heap.get?_push_of_some _ (kp _ _ ho)) hc hd ra, by simp⟩)
    refine PySem.W.list_sort_data (enc := fun w : List Int => PyData.tuple (w.map .int)) hoL hR hReads (fun d hd d' hd' => ?_) (.inl fun d hd => ?_) (by rw [← hbl]; exact hbz) (fun w hw => ?_) fun out ho he => ?_
    · obtain ⟨w, hw, rfl⟩ := List.mem_map.mp hd
      obtain ⟨w', hw', rfl⟩ := List.mem_map.mp hd'
      show PySem.W.alikeAll _ _ = true
      exact alike_ints _ _ (by rw [hn w hw, hn w' hw'])
    · obtain ⟨w, hw, rfl⟩ := List.mem_map.mp hd
      have := hn w hw
      cases w with
      | nil => simp at this; omega
      | cons x r => exact ⟨_, _, rfl⟩
    · have h1 := depth_ints w
      have e : X.A.in1.units ≤ X.A.units + 1 := by simp [Around.in1, Around.units]
      simp only [PyData.depth]
      omega
    · rw [dataLe_wd] at he
      obtain ⟨cs, e, hcs⟩ := of_each he
      refine fin out cs e ?_ hcs
      have := Paired.length hcs
      have h3 : cs.length = ls.length := this.trans (List.mergeSort_perm _ _).length_eq
      rw [h3, ← hbl, List.length_map]
end Lq

namespace L2
open PySem PySem.Spec PyProof.Rows
section
variable {X : Cx} {pins : List (Addr × Obj)} {σ : St} {H : Hp} {s : Shared} {a b : Addr} {r : Value} {d : V} {k : List Key} {A : Around} {E : Value → Shared → Prop}
theorem d_setdT {kvs : List (List Key × V)} {Q : Value → Shared → Prop} (hu : A.units + 1 < cLine) (I : Inv X pins σ H s) (e : H a = some (.dT kvs)) (eb : H b = some (.tup (k.map kV))) (rd : RelV d r) (hl : kvs.length < sizeLine)
    (h1 : ∀ v, valV kvs k = some v → ∀ (w' : Value) (s' : Shared), Inv X pins σ H s' → RelV v w' → Q w' s') (h2 : valV kvs k = none → ∀ (w' : Value) (s' : Shared), Inv X pins σ (upd H a (.dT (putK kvs k d))) s' → RelV d w' → Q w' s') :
    wpAny (model X.prog X.w) A (call (.builtin "dict.setdefault") [.ref a, .ref b, r]) Q E s := by
  obtain ⟨z, hd, xs, rel, dd⟩ := dt_of I.hok e
  have hz : xs.length ≤ sizeLine := by rw [← Paired.length rel]; exact z
  refine call_setdefault_heap (tupleKind_room_in1 hu) (key_of I.hok eb) hd dd (fun p hp => ?_) (fun hn h' dd' hs => ?_) hz
  · have q := rel.val k
    rw [hp] at q
    cases q0 : valV kvs k with
    | none => rw [q0] at q; exact (show False from q).elim
    | some v0 => rw [q0] at q; exact h1 v0 q0 _ _ (I.tok _) q
  · have q := rel.val k
    rw [hn] at q
    cases q0 : valV kvs k with
    | some v0 => rw [q0] at q; exact (show False from q).elim
    | none =>
      have hl2 : (putK kvs k d).length ≤ sizeLine := by have := length_putK kvs k d; omega
      obtain ⟨q, es, ep, hq, h2', h3, h4, _, h5⟩ := dd'
      refine h2 q0 _ _ (d_write I (by rw [e]; exact True.intro) hs ⟨q, hq⟩ ⟨hl2, hd, _, (rel.put k eb rd).keeps fun c ys ec => ?_, q, es, ep, hq, h2', h3, h4, h5⟩) rd
      rw [upd_ne (ne_of ec e (fun z => nomatch z))]
      exact ec
def tDSetdT (td ty tx : TE) : TE := fun σ H Q => td σ H fun x H1 => ∃ a, x = .ref a ∧ IsD H1 a ∧ ty σ H1 fun y H2 => tx σ H2 fun z H3 => ∃ (kvs : List (List Key × V)) (k : List Key) (b : Addr), H3 a = some (.dT kvs) ∧ y = .ref b ∧ H3 b = some (.tup (k.map kV)) ∧ kvs.length < sizeLine ∧
  (∀ v, valV kvs k = some v → Q v H3) ∧ (valV kvs k = none → Q z (upd H3 a (.dT (putK kvs k z))))
end
section
variable {X : Cx} {o e f : Expr} {td ty tx : TE} {apos cpos : Pos}
theorem pe_dsetdT (hu : X.A.units + 1 < cLine) (ho : PE X o td) (he : PE X e ty) (hf : PE X f tx) (m : M2 X o "setdefault" apos e f cpos) : PE X (.Call (.Attribute o "setdefault" apos) [e, f] [] cpos) (tDSetdT td ty tx) := by
  refine ⟨fun pins s σ H Q I h => ?_⟩
  refine wpAny_Call_method m.base m.few m.line PySem.F.plainAttrs_dict PySem.F.slot_dict_setdefault PySem.F.type_dict_setdefault (thn (ho.run pins s σ H _ I h) fun u s1 ⟨x, H1, I1, rx, a, ex, d, q1⟩ => ?_)
  subst ex
  obtain rfl : u = Value.ref a := rx
  obtain ⟨t1, t2, _⟩ := isD_at I1 d
  refine ⟨t1, t2, ?_⟩
  rw [m.trees]
  refine Calls.callWith_builtin rfl (Calls.evalArgs_plain (Calls.spliced_cons (thn (he.run pins s1 σ H1 _ I1 q1) fun iv s2 ⟨y, H2, I2, ry, q2⟩ =>
    Calls.spliced_cons (thn (hf.run pins s2 σ H2 _ I2 q2) fun fv s3 ⟨z, H3, I3, rz, kvs, k, b, ea, ey, eb, hl, q3, q4⟩ => Calls.spliced_nil ?_))))
  subst ey
  obtain rfl : iv = Value.ref b := ry
  exact d_setdT hu I3 ea eb rz hl (fun v hv w' s4 I4 rw' => ⟨v, _, I4, rw', q3 v hv⟩) fun hn w' s4 I4 rw' => ⟨z, _, I4, rw', q4 hn⟩
end
end L2

namespace Lq
open PySem PySem.Spec PyProof.Rows L2
open Evl (Ex)
def keysOf (S : Ms) (i : Nat) : Option (List (List Int)) := match S.sl[i]? with | some (.mu k) => (match S.mo[k]? with | some (.ob (.dc kvs)) => some (kvs.map (·.1)) | some (.ob (.dm kvs)) => some (kvs.map (·.1)) | _ => none) | _ => none
def dmAt (S : Ms) (i : Nat) : Option (Nat × List (List Int × Nat)) := match S.sl[i]? with | some (.mu k) => (match S.mo[k]? with | some (.ob (.dm kvs)) => some (k, kvs) | _ => none) | _ => none
def lookD {α : Type} (kvs : List (List Int × α)) (ns : List Int) : Option α := (kvs.find? fun q => decide (q.1 = ns)).map (·.2)
section
variable {K : PySem.W.Frag} {B F H : Hp} {as : List Addr} {σ : L2.St} {S : Ms} {i : Nat}
theorem dmAt_rp (r : Rep K B F H as σ S) {k : Nat} {kvs : List (List Int × Nat)} (h : dmAt S i = some (k, kvs)) :
    ∃ p ws, σ[i]? = some (some (.ref p)) ∧ S.mo[k]? = some (.ob (.dm kvs)) ∧ as[k]? = some p ∧ B p = none ∧ F p = none ∧ H p = some (.dT ws) ∧ Paired (fun p q => p.1 = q.1.map Sum.inl ∧ AtK as p.2 q.2) ws kvs := by
  unfold dmAt at h
  cases hs : S.sl[i]? with
  | none => rw [hs] at h; cases h
  | some s =>
    rw [hs] at h
    cases s with
    | mu k' =>
      dsimp only at h
      cases hm : S.mo[k']? with
      | none => rw [hm] at h; cases h
      | some mm =>
        rw [hm] at h
        cases mm with
        | ob c =>
          cases c with
          | dm kvs =>
            cases h
            obtain ⟨ov, hv, z⟩ := pairedGet r.sl hs
            cases ov with
            | none => exact z.elim
            | some v =>
              obtain ⟨p, hp, rfl⟩ := z
              obtain ⟨p', hp', q1, q2, ob, q3, q4⟩ := pairedGet r.mo hm
              rw [hp] at hp'
              cases hp'
              cases q4 with
              | dm q4 => exact ⟨p, _, hv, hm, hp, q1, q2, q3, q4⟩
          | _ => cases h
        | fz d => cases h
    | _ => cases h
theorem paired_fst {β : Type} {G : V → β → Prop} : ∀ {ws : List (List Key × V)} {kvs : List (List Int × β)}, Paired (fun p q => p.1 = q.1.map Sum.inl ∧ G p.2 q.2) ws kvs → ws.map (·.1) = (kvs.map (·.1)).map (·.map Sum.inl)
  | _, _, .nil => rfl
  | _, _, .cons h t => by rw [List.map_cons, List.map_cons, List.map_cons, h.1, paired_fst t]
theorem keysOf_rp (r : Rep K B F H as σ S) {ks : List (List Int)} (h : keysOf S i = some ks) : ∃ p ws, σ[i]? = some (some (.ref p)) ∧ H p = some (.dT ws) ∧ ws.map (·.1) = ks.map (·.map Sum.inl) := by
  unfold keysOf at h
  cases hs : S.sl[i]? with
  | none => rw [hs] at h; cases h
  | some s =>
    rw [hs] at h
    cases s with
    | mu k' =>
      dsimp only at h
      cases hm : S.mo[k']? with
      | none => rw [hm] at h; cases h
      | some mm =>
        rw [hm] at h
        obtain ⟨ov, hv, z⟩ := pairedGet r.sl hs
        cases ov with
        | none => exact z.elim
        | some v =>
          obtain ⟨p, hp, rfl⟩ := z
          cases mm with
          | ob c =>
            obtain ⟨p', hp', q1, q2, ob, q3, q4⟩ := pairedGet r.mo hm
            rw [hp] at hp'
            cases hp'
            cases c with
            | dm kvs =>
              cases h
              cases q4 with
              | dm q4 => exact ⟨p, _, hv, q3, paired_fst q4⟩
            | dc kvs =>
              cases h
              cases q4 with
              | dc q4 => exact ⟨p, _, hv, q3, paired_fst (G := fun v d => Rp K F v d) q4⟩
            | _ => cases h
          | fz d => cases h
    | _ => cases h
theorem val_keys {ws : List (List Key × V)} {ks : List (List Int)} {ns : List Int} (h : ws.map (·.1) = ks.map (·.map Sum.inl)) : (valV ws (ns.map Sum.inl)).isSome = decide (ns ∈ ks) := by
  rw [Bool.eq_iff_iff, decide_eq_true_eq]
  unfold valV
  rw [Option.isSome_map, List.find?_isSome]
  constructor
  · rintro ⟨p, hp, e⟩
    have hm : ns.map Sum.inl ∈ ws.map (·.1) := List.mem_map.mpr ⟨p, hp, of_decide_eq_true e⟩
    rw [h] at hm
    obtain ⟨x, hx, e2⟩ := List.mem_map.mp hm
    rw [← inl_inj e2]
    exact hx
  · intro hn
    have hm : ns.map Sum.inl ∈ ks.map (·.map (Sum.inl : Int → Key)) := List.mem_map.mpr ⟨ns, hn, rfl⟩
    rw [← h] at hm
    obtain ⟨p, hp, e⟩ := List.mem_map.mp hm
    exact ⟨p, hp, decide_eq_true e⟩
theorem look_rp {β : Type} {G : V → β → Prop} {ns : List Int} : ∀ {ws : List (List Key × V)} {kvs : List (List Int × β)}, Paired (fun p q => p.1 = q.1.map Sum.inl ∧ G p.2 q.2) ws kvs → (∀ x, lookD kvs ns = some x → ∃ v, valV ws (ns.map Sum.inl) = some v ∧ G v x) ∧ (lookD kvs ns = none → valV ws (ns.map Sum.inl) = none)
  | _, _, .nil => ⟨fun x h => by simp [lookD] at h, fun _ => rfl⟩
  | p :: ws, q :: kvs, .cons h t => by
    have ih := look_rp (ns := ns) t
    unfold lookD valV at *
    by_cases e : q.1 = ns
    · have e2 : p.1 = ns.map Sum.inl := by rw [h.1, e]
      rw [List.find?_cons_of_pos (by simp [e]), List.find?_cons_of_pos (by simp [e2])]
      exact ⟨fun x hx => by cases hx; exact ⟨_, rfl, h.2⟩, fun hx => by cases hx⟩
    · have e2 : ¬ p.1 = ns.map (Sum.inl : Int → Key) := fun z => e (inl_inj (h.1.symm.trans z))
      rw [List.find?_cons_of_neg (by simp [e]), List.find?_cons_of_neg (by simp [e2])]
      exact ih
end
section
variable {X : Cx} {W : WX} {a b o e ix : Expr} {pos ps : Pos} {i : Nat} {f g : Ms → R Dt}
def inK (neg : Bool) (i : Nat) (f : Ms → R Dt) : Ms → R Dt := fun S => (f S).bind fun d S1 => match wordOf d, keysOf S1 i with
  | some ns, some ks => .ok (.bl (if neg then !decide (ns ∈ ks) else decide (ns ∈ ks))) S1
  | _, _ => .no
theorem ninK_run {K : PySem.W.Frag} {σ : L2.St} {H : Hp} {Q : VK} (q : tD K W (inK true i f) σ H Q) : tDNotIn (tD K W f) (tVar i) σ H Q := by
    obtain ⟨B, F, as, S, r, o⟩ := q
    refine ⟨B, F, as, S, r, Out.mono (Out.bind o) fun d F1 H1 as1 S1 ⟨r1, e1, o1⟩ v hv => ?_⟩
    cases hw : wordOf d with
    | none => rw [hw] at o1; exact o1.elim
    | some ns =>
      rw [hw] at o1
      cases hk : keysOf S1 i with
      | none => rw [hk] at o1; exact o1.elim
      | some ks =>
        rw [hk] at o1
        have := wordOf_eq hw
        subst this
        obtain ⟨b, rfl, hb⟩ := hv.wd
        obtain ⟨p, ws, hp, hH, hks⟩ := keysOf_rp r1 hk
        refine ⟨_, hp, p, _, rfl, DGet.t hH (by rw [kv_ints]; exact r1.fh _ _ hb), ?_⟩
        rw [val_keys hks]
        exact Out.now o1 r1 _ (.bl _)
theorem dt_ninK (hu : X.A.units + 1 < cLine) (ha : PE X a (tD X.K W f)) (ho : PE X o (tVar i)) (hm : behindInMarks .NotIn o = false := by rfl) : PT X (.Compare a [.NotIn] [o] pos) (tT X.K W (tst (inK true i f))) := monoT (pt_cmp (pc_dnotin hu ha ho) hm) fun σ H Q q => ninK_run (tst_run q)
def getDf (i : Nat) (f g : Ms → R Dt) : Ms → R Dt := fun S => match dcAt S i with
  | none => .no
  | some _ => (f S).bind fun d S1 => (g S1).bind fun z S2 => match wordOf d, dcAt S2 i with
    | some ns, some (_, kvs) => .ok ((lookD kvs ns).getD z) S2
    | _, _ => .no
theorem de_getD {apos cpos : Pos} (hu : X.A.units + 1 < cLine) (ho : PE X o (tVar i)) (hx : PE X a (tD X.K W f)) (hy : PE X b (tD X.K W g)) (m : M2 X o "get" apos a b cpos := by exact ⟨by rfl, by rfl, by rfl, by rfl⟩) : PE X (.Call (.Attribute o "get" apos) [a, b] [] cpos) (tD X.K W (getDf i f g)) :=
  monoE (pe_dget2 hu ho hx hy m) fun σ H Q q => by
    obtain ⟨B, F, as, S, r, o⟩ := q
    unfold getDf at o
    cases h0 : dcAt S i with
    | none => rw [h0] at o; exact o.elim
    | some k0 =>
      rw [h0] at o
      obtain ⟨p, ws0, hp, _, _, _, _, hH0, _⟩ := dcAt_rp r (k := k0.1) (kvs := k0.2) h0
      refine ⟨_, hp, p, rfl, .inr ⟨_, .inl hH0⟩, B, F, as, S, r, Out.mono (Out.bind o) fun d F1 H1 as1 S1 ⟨r1, e1, o1⟩ v hv => ?_⟩
      refine ⟨B, F1, as1, S1, r1, Out.mono (Out.bind o1) fun z F2 H2 as2 S2 ⟨r2, e2, o2⟩ y hy => ?_⟩
      cases hw : wordOf d with
      | none => rw [hw] at o2; exact o2.elim
      | some ns =>
        rw [hw] at o2
        cases hk : dcAt S2 i with
        | none => rw [hk] at o2; exact o2.elim
        | some kk =>
          rw [hk] at o2
          obtain ⟨k, kvs⟩ := kk
          dsimp only at o2
          have := wordOf_eq hw
          subst this
          obtain ⟨b, rfl, hb⟩ := (hv.up e2.1).wd
          obtain ⟨p', ws, hp', _, _, _, _, hH, hks⟩ := dcAt_rp r2 hk
          rw [hp] at hp'
          cases hp'
          refine ⟨_, DGet.t hH (by rw [kv_ints]; exact r2.fh _ _ hb), ?_⟩
          have lk := look_rp (G := fun v d => Rp X.K F2 v d) (ns := ns) hks
          cases hl : lookD kvs ns with
          | none =>
            rw [hl] at o2
            rw [lk.2 hl]
            exact Out.now o2 r2 _ hy
          | some e =>
            rw [hl] at o2
            obtain ⟨u, h1, h2⟩ := lk.1 e hl
            rw [h1]
            exact Out.now o2 r2 _ h2
def ixDM (i : Nat) (f : Ms → R Dt) : Ms → R Dt := fun S => match dmAt S i with
  | none => .no
  | some _ => (f S).bind fun d S1 => match wordOf d, dmAt S1 i with
    | some ns, some (_, kvs) => (match lookD kvs ns with
      | some j => (match S1.mo[j]? with
        | some (.ob (.ls xs)) => .ok (.lst xs) { S1 with mo := S1.mo.set j (.fz (.lst xs)) }
        | some (.fz d) => .ok d S1
        | _ => .no)
      | none => .no)
    | _, _ => .no
theorem de_ixDM (hu : X.A.units + 1 < cLine) (ho : PE X o (tVar i)) (hx : PE X ix (tD X.K W f)) (hs : NoSl ix := by exact fun _ _ => rfl) : PE X (.Subscript o ix pos) (tD X.K W (ixDM i f)) :=
  monoE (pe_dget hu ho hx hs) fun σ H Q q => by
    obtain ⟨B, F, as, S, r, o⟩ := q
    unfold ixDM at o
    cases h0 : dmAt S i with
    | none => rw [h0] at o; exact o.elim
    | some k0 =>
      rw [h0] at o
      obtain ⟨p, ws0, hp, _⟩ := dmAt_rp r (k := k0.1) (kvs := k0.2) h0
      refine ⟨_, hp, B, F, as, S, r, Out.mono (Out.bind o) fun d F1 H1 as1 S1 ⟨r1, e1, o1⟩ v hv => ?_⟩
      cases hw : wordOf d with
      | none => rw [hw] at o1; exact o1.elim
      | some ns =>
        rw [hw] at o1
        cases hk : dmAt S1 i with
        | none => rw [hk] at o1; exact o1.elim
        | some kk =>
          rw [hk] at o1
          obtain ⟨k, kvs⟩ := kk
          dsimp only at o1
          have := wordOf_eq hw
          subst this
          obtain ⟨b, rfl, hb⟩ := hv.wd
          obtain ⟨p', ws, hp', _, _, _, _, hH, hks⟩ := dmAt_rp r1 hk
          rw [hp] at hp'
          cases hp'
          cases hl : lookD kvs ns with
          | none => rw [hl] at o1; exact o1.elim
          | some j =>
            rw [hl] at o1
            dsimp only at o1
            obtain ⟨u, h1, x, h2, rfl⟩ := (look_rp (G := fun v k => AtK as1 v k) (ns := ns) hks).1 j hl
            refine ⟨p, _, rfl, by rw [← h1]; exact DGet.t hH (by rw [kv_ints]; exact r1.fh _ _ hb), ?_⟩
            cases hm : S1.mo[j]? with
            | none => rw [hm] at o1; exact o1.elim
            | some mm =>
              rw [hm] at o1
              cases mm with
              | fz d =>
                obtain ⟨x', hx', _, z⟩ := pairedGet r1.mo hm
                rw [h2] at hx'
                cases hx'
                exact Out.now o1 r1 _ z
              | ob c =>
                cases c with
                | ls xs =>
                  obtain ⟨y, F2, hy, e2, r2, q2⟩ := r1.freeze hm
                  rw [h2] at hy
                  cases hy
                  exact o1 F2 H1 as1 e2 r2 _ q2
                | _ => exact o1.elim
def sortK (i : Nat) : Ms → R (List Dt) := fun S => match keysOf S i with
  | some ks => if ks.length ≤ 1 ∨ (∀ w ∈ ks, w.length = (ks.headD []).length ∧ 1 ≤ w.length) then .ok ((sortW ks).map Wd) S else .no
  | none => .no
theorem dn_sortK {p : Pos} (hc : X.calm = true) (hu : X.A.units + 64 < cLine) (hg : Gl X "sorted") (hm : X.mg "sorted" = none) (ho : PE X o (tVar i)) (hs : starEach [o] X.env = (false, eval o X.env) :: starEach [] X.env := by rfl) : PE X (.Call (.Name "sorted" p) [o] [] pos) (tN X.K W (sortK i)) :=
  monoE (pe_callB (cr_sortedDT hc hu) hg hm (by decide +kernel) (pa_cons ho pa_nil hs) (by decide) (by decide) hs (by rfl)) fun σ H Q q => by
    obtain ⟨B, F, as, S, r, o⟩ := q
    unfold sortK at o
    cases hd : keysOf S i with
    | none => rw [hd] at o; exact o.elim
    | some ks =>
      rw [hd] at o
      dsimp only at o
      split at o
      · rename_i hl
        obtain ⟨d, ws, hp, hH, hks⟩ := keysOf_rp r hd
        refine ⟨_, hp, d, ws, ks, rfl, hH, hks, ?_, fun cs l hcs hl2 => ?_⟩
        · rcases hl with hl | hl
          · exact .inl hl
          · cases ks with
            | nil => exact .inl (by simp)
            | cons w r => exact .inr ⟨w.length, (hl w List.mem_cons_self).2, fun x hx => (hl x hx).1⟩
        · have : ∀ {cs : List Addr} {us : List (List Int)}, Paired (fun b (w : List Int) => H b = some (.tup (w.map V.int))) cs us → ∃ F2, Ext F F2 as as ∧ Rep X.K B F2 H as σ S ∧ RpA X.K F2 (cs.map V.ref) (us.map Wd) := by
            intro cs us h
            have h' : Paired (fun b (q : List Int × Dt) => H b = some (.tup (q.1.map V.int))) cs (us.map fun w => (w, Dt.non)) := by
              clear hcs
              induction h with
              | nil => exact .nil
              | cons h t ih => exact .cons h ih
            obtain ⟨F2, e2, r2, h2⟩ := knowAll r h'
            rw [List.map_map] at h2
            exact ⟨F2, e2, r2, h2⟩
          obtain ⟨F1, e1, r1, hr⟩ := this hcs
          obtain ⟨f1, f2, f3⟩ := r1.fresh hl2
          exact o F1 _ as e1 (r1.grow hl2 _) l _ f1 f2 f3 upd_same hr
      · exact o.elim
end
end Lq

namespace Lq
open PySem PySem.Spec PyProof.Rows L2
open Evl (Ex)
def sdK (S : Ms) (i : Nat) (ns : List Int) : Option (Nat × Ms) := match dmAt S i with
  | none => none
  | some (kd, kvs) => if kvs.length < 100000 then match lookD kvs ns with
    | some j => some (j, S)
    | none => some (S.mo.length, { S with mo := (S.mo ++ [Mo.ob (.ls [])]).set kd (.ob (.dm (kvs ++ [(ns, S.mo.length)]))) })
    else none
def lsAt (S : Ms) (j : Nat) : Option (List Dt) := match S.mo[j]? with | some (.ob (.ls xs)) => some xs | _ => none
theorem lsAt_eq {S : Ms} {j : Nat} {xs : List Dt} (h : lsAt S j = some xs) : S.mo[j]? = some (.ob (.ls xs)) := by
  unfold lsAt at h
  split at h
  · rename_i xs' e
    cases h
    exact e
  · cases h
def sdaS (i : Nat) (f g : Ms → R Dt) : Ms → O := fun S => match dmAt S i with
  | none => .no
  | some _ => (f S).stmt fun d S1 => match wordOf d with
    | none => .no
    | some ns => match sdK S1 i ns with
      | none => .no
      | some (j, S2) => match lsAt S2 j with
        | none => .no
        | some _ => (g S2).stmt fun e S3 => match lsAt S3 j with
          | some xs => if xs.length < 100000 then .nx { S3 with mo := S3.mo.set j (.ob (.ls (xs ++ [e]))) } else .no
          | none => .no
section
variable {X : Cx} {W : WX} {o ix e : Expr} {i : Nat} {f g : Ms → R Dt}
theorem ds_sda {pa pc p1 apos cpos pos : Pos} (hu : X.A.units + 1 < cLine) (ho : PE X o (tVar i)) (hx : PE X ix (tD X.K W f)) (he : PE X e (tD X.K W g))
    (m : M2 X o "setdefault" pa ix (.List [] p1) pc := by exact ⟨by rfl, by rfl, by rfl, by rfl⟩)
    (hs0 : starEach [e] X.env = (false, eval e X.env) :: starEach [] X.env := by rfl)
    (hbase : attributeBase (.Call (.Attribute o "setdefault" pa) [ix, .List [] p1] [] pc) "append" X.env (eval (.Call (.Attribute o "setdefault" pa) [ix, .List [] p1] [] pc) X.env) = eval (.Call (.Attribute o "setdefault" pa) [ix, .List [] p1] [] pc) X.env := by rfl)
    (hfew : ((backTo cpos (starEach [e] X.env)).all (fun x => !x.1) && (backToKw cpos (keywordEach [] X.env)).all (fun x => x.1.isSome)
      && decide ([e].length + ([] : List Keyword).length + (if ([] : List Keyword).isEmpty then 0 else 1) < 30)) = true := by rfl)
    (hline : (apos.endLine == cpos.line) = true := by rfl) (hpl : (backTo cpos (starEach [] X.env)).any (·.1) = false := by rfl)
    (hs : swapsWith (.Call (.Attribute (.Call (.Attribute o "setdefault" pa) [ix, .List [] p1] [] pc) "append" apos) [e] [] cpos) none pos.line X.env = pure false := by rfl) :
    PS X (.Expr (.Call (.Attribute (.Call (.Attribute o "setdefault" pa) [ix, .List [] p1] [] pc) "append" apos) [e] [] cpos) pos) (sD X.K W (sdaS i f g)) :=
  monoS (ps_expr (pe_bm PySem.F.plainAttrs_list PySem.F.slot_list_append PySem.F.type_list_append mt_append (pe_dsetdT hu ho hx (dn_lst (W := W) da_nil) m) (pa_cons he pa_nil hs0) hbase hfew hline hs0 hpl) hs) fun D σ H q => by
    obtain ⟨B, F, as, S, r, o⟩ := q
    unfold sdaS at o
    cases h0 : dmAt S i with
    | none => rw [h0] at o; exact o.elim
    | some k0 =>
      rw [h0] at o
      obtain ⟨p, ws0, hp, _, _, _, _, hH0, _⟩ := dmAt_rp r (k := k0.1) (kvs := k0.2) h0
      refine ⟨_, hp, p, rfl, .inr ⟨_, .inl hH0⟩, B, F, as, S, r, Out.mono (OutS.stmt o) fun d F1 H1 as1 S1 ⟨r1, e1, o1⟩ v hv => ?_⟩
      refine ⟨B, F1, as1, S1, r1, fun F2 H2 as2 e2 r2 l vs f1 f2 f3 hl hvs => ?_⟩
      cases hvs
      cases hw : wordOf d with
      | none => rw [hw] at o1; exact o1.elim
      | some ns =>
        rw [hw] at o1
        dsimp only at o1
        have := wordOf_eq hw
        subst this
        obtain ⟨b, rfl, hb⟩ := (hv.up e2.1).wd
        cases hk : sdK S1 i ns with
        | none => rw [hk] at o1; exact o1.elim
        | some jj =>
          obtain ⟨j, S2⟩ := jj
          rw [hk] at o1
          dsimp only at o1
          unfold sdK at hk
          cases hd : dmAt S1 i with
          | none => rw [hd] at hk; cases hk
          | some kk =>
            obtain ⟨kd, kvs⟩ := kk
            rw [hd] at hk
            dsimp only at hk
            obtain ⟨p', ws, hp', hmo, ha, hB, hF, hH, hks⟩ := dmAt_rp r2 hd
            rw [hp] at hp'
            cases hp'
            have go : ∀ (H3 : Hp) (as3 : List Addr) (x : Addr), Ext F1 F2 as1 as3 → Rep X.K B F2 H3 as3 σ S2 → as3[j]? = some x →
                (tyV X.K "list" (.ref x) H3 ∧ tCons (tD X.K W g) tNil σ H3 fun xs H2 => rAppend (.ref x) xs H2 fun x H1 => D.nx σ H1) := by
              intro H3 as3 x ee r3 hx3
              have o2 := OutS.ext o1 ee
              cases hl2 : lsAt S2 j with
              | none => rw [hl2] at o2; exact o2.elim
              | some xs0 =>
                rw [hl2] at o2
                obtain ⟨x', hx', _, _, ob, hHx, hob⟩ := pairedGet r3.mo (lsAt_eq hl2)
                rw [hx3] at hx'
                cases hx'
                cases hob with
                | ls hv0 =>
                  refine ⟨.inl ⟨rfl, _, Evl.sq_of hHx⟩, ⟨B, F2, as3, S2, r3, Out.mono (OutS.stmt o2) fun e F4 H4 as4 S4 ⟨r4, e4, o4⟩ v2 hv2 => ?_⟩⟩
                  cases hl3 : lsAt S4 j with
                  | none => rw [hl3] at o4; exact o4.elim
                  | some xs =>
                    rw [hl3] at o4
                    dsimp only at o4
                    split at o4
                    · rename_i hlen
                      obtain ⟨x', hx', _, _, ob, hHx, hob⟩ := pairedGet r4.mo (lsAt_eq hl3)
                      obtain ⟨_, t, rfl⟩ := e4
                      have hx4 : (as3 ++ t)[j]? = some x := by rw [List.getElem?_append_left (List.getElem?_eq_some_iff.mp hx3).1]; exact hx3
                      rw [hx4] at hx'
                      cases hx'
                      cases hob with
                      | ls hvs => exact ⟨x, _, v2, rfl, rfl, hHx, Evl.sz_lt (by rw [hvs.length]; exact hlen), o4 σ F4 _ _ Ext.refl (r4.put (lsAt_eq hl3) hx4 (.ls (hvs.snoc hv2)))⟩
                    · exact o4.elim
            split at hk
            · rename_i hlen
              have hwl : ws.length = kvs.length := Paired.length hks
              refine ⟨ws, ns.map Sum.inl, b, hH, rfl, by rw [kv_ints]; exact r2.fh _ _ hb, Evl.sz_lt (by rw [hwl]; exact hlen), fun v hv => ?_, fun hn => ?_⟩
              · cases hl2 : lookD kvs ns with
                | none =>
                  have := (look_rp (G := fun v k => AtK as2 v k) (ns := ns) hks).2 hl2
                  rw [hv] at this
                  cases this
                | some j' =>
                  rw [hl2] at hk
                  cases hk
                  obtain ⟨u, h1, x, h2, rfl⟩ := (look_rp (G := fun v k => AtK as2 v k) (ns := ns) hks).1 j hl2
                  rw [hv] at h1
                  cases h1
                  exact go H2 as2 x e2 r2 h2
              · cases hl2 : lookD kvs ns with
                | some j' =>
                  obtain ⟨u, h1, _⟩ := (look_rp (G := fun v k => AtK as2 v k) (ns := ns) hks).1 j' hl2
                  rw [hn] at h1
                  cases h1
                | none =>
                  rw [hl2] at hk
                  cases hk
                  have hml : as2.length = S1.mo.length := r2.mo.length
                  obtain ⟨ee, rr⟩ := r2.newL f1 f2 f3 hl (.ls .nil)
                  have hkd : kd < S1.mo.length := (List.getElem?_eq_some_iff.mp hmo).1
                  have hpk : putK ws (ns.map (Sum.inl : Int → Key)) (.ref l) = ws ++ [(ns.map Sum.inl, .ref l)] := by
                    unfold putK
                    rw [if_neg]
                    rw [valV_any, hn]
                    simp
                  rw [hpk]
                  have r5 := rr.put (k := kd) (a := p) (o := .dT (ws ++ [(ns.map Sum.inl, .ref l)])) (c0 := .dm kvs) (c := .dm (kvs ++ [(ns, S1.mo.length)]))
                    (by rw [List.getElem?_append_left hkd]; exact hmo) (by rw [List.getElem?_append_left (by omega)]; exact ha)
                    (.dm ((hks.mono fun _ _ q => ⟨q.1, q.2.up [l]⟩).snoc ⟨rfl, l, by rw [← hml, List.getElem?_append_right (Nat.le_refl _), Nat.sub_self]; rfl, rfl⟩))
                  exact go _ _ l (e2.trans ee) r5 (by rw [← hml, List.getElem?_append_right (Nat.le_refl _), Nat.sub_self]; rfl)
            · cases hk
def asgDM (i : Nat) (f : Ms → R Dt) (g : Ms → R (List Dt)) : Ms → O := fun S => (f S).stmt fun d S1 => (g S1).stmt fun ds S2 => match wordOf d with
  | some ns => .nx { sl := S2.sl.set i (.mu (S2.mo.length + 1)), mo := S2.mo ++ [Mo.ob (.ls ds)] ++ [Mo.ob (.dm [(ns, S2.mo.length)])] }
  | none => .no
theorem Rep.poke {K : PySem.W.Frag} {B F H : Hp} {as : List Addr} {σ : L2.St} {S : Ms} (r : Rep K B F H as σ S) {p : Addr} (hB : B p = none) (hF : F p = none) (hA : p ∉ as) (o : HO) : Rep K B F (upd H p o) as σ S := by
  refine ⟨fun a u hu => ?_, fun a u hu => ?_, r.sl, ?_, r.nd⟩
  · have n : a ≠ p := by
      rintro rfl
      rw [hF] at hu; cases hu
    rw [upd_ne n]
    exact r.fh _ _ hu
  · have n : a ≠ p := by
      rintro rfl
      rw [hB] at hu; cases hu
    rw [upd_ne n]
    exact r.bh a u hu
  · have : ∀ {xs : List Addr} {ys : List Mo}, (∀ a ∈ xs, a ≠ p) → Paired (MoR K B F H as) xs ys → Paired (MoR K B F (upd H p o) as) xs ys := by
      intro xs ys hn z
      induction z with
      | nil => exact .nil
      | @cons a b l1 l2 z zs ih =>
        refine .cons ?_ (ih fun a ha => hn a (List.mem_cons_of_mem _ ha))
        cases b with
        | ob ds =>
          obtain ⟨z1, z2, ws, z3, z4⟩ := z
          exact ⟨z1, z2, ws, by rw [upd_ne (hn _ List.mem_cons_self)]; exact z3, z4⟩
        | fz d => exact z
    exact this (fun a ha z => hA (z ▸ ha)) r.mo
theorem ds_setDM {k v : Expr} {x : Str} {pos pos' p0 : Pos} {gn : Ms → R (List Dt)} (hN : X.N.Nodup) (hi : X.N[i]? = some x) (hx : Loc X.env.scope x) (hu : X.A.units < cLine) (hk : PE X k (tD X.K W f)) (hv : PE X v (tN X.K W gn))
    (hs : swapsWith (.Dict [some k] [v] p0) (some (.Name x pos')) pos.line X.env = pure false := by rfl) (hf : X.fn x = true ∨ X.env.scope.names.lookup x = some .local := by first | exact .inl rfl | exact .inr rfl | assumption) :
    PS X (.Assign [.Name x pos'] (.Dict [some k] [v] p0) pos) (sD X.K W (asgDM i f gn)) := monoS (ps_set hN hi hx (pe_dispT hu hk hv) hs hf) fun D σ H q => by
  obtain ⟨B, F, as, S, r, o⟩ := q
  intro p hp
  obtain ⟨f1, f2, f3⟩ := r.fresh hp
  have r0 : Rep X.K (upd B p (.dT [])) F (upd H p (.dT [])) as σ S := (r.grow hp _).hold upd_same f1 f3 trivial
  refine ⟨_, F, as, S, r0, ?_⟩
  unfold asgDM at o
  cases hff : f S with
  | no => rw [hff] at o; exact o.elim
  | er y S1 =>
    rw [hff] at o
    exact fun F' H' as' dx fs ee rr => o σ F' H' as' dx fs ee (rr.unhold f2).1
  | ok d S1 =>
    rw [hff, R.stmt_ok] at o
    intro F1 H1 as1 e1 r1 y hy
    refine ⟨_, F1, as1, S1, r1, ?_⟩
    cases hg : gn S1 with
    | no => rw [hg] at o; exact o.elim
    | er z S2 =>
      rw [hg] at o
      exact fun F' H' as' dx fs ee rr => o σ F' H' as' dx fs (e1.trans ee) (rr.unhold f2).1
    | ok ds S2 =>
      rw [hg, R.stmt_ok] at o
      intro F2 H2 as2 e2 r2 l vs g1 g2 g3 hl hvs
      obtain ⟨r3, hD, hF, hA⟩ := r2.unhold f2
      have hlp : l ≠ p := by
        rintro rfl
        rw [upd_same] at g2; cases g2
      rw [upd_ne hlp] at g2
      cases hw : wordOf d with
      | none => rw [hw] at o; exact o.elim
      | some ns =>
        rw [hw] at o
        have := wordOf_eq hw
        subst this
        obtain ⟨b, rfl, hb⟩ := (hy.up e2.1).wd
        refine ⟨hD, b, ns.map Sum.inl, rfl, by rw [kv_ints]; exact r3.fh _ _ hb, ?_⟩
        obtain ⟨ee, rr⟩ := r3.newL g1 g2 g3 hl (.ls hvs)
        have hpA : p ∉ as2 ++ [l] := by
          rw [List.mem_append, List.mem_singleton]
          rintro (z | z)
          · exact hA z
          · exact hlp z.symm
        have r4 := rr.poke f2 hF hpA (.dT [(ns.map Sum.inl, .ref l)])
        have hml : as2.length = S2.mo.length := r3.mo.length
        obtain ⟨ee2, r5⟩ := r4.newL (c := .dm [(ns, S2.mo.length)]) hF f2 hpA upd_same (.dm (.cons ⟨rfl, l, by rw [← hml, List.getElem?_append_right (Nat.le_refl _), Nat.sub_self]; rfl, rfl⟩ .nil))
        refine o _ F2 _ _ (((e1.trans e2).trans ee).trans ee2) (r5.slot (s := .mu (S2.mo.length + 1)) i ⟨p, ?_, rfl⟩)
        rw [← hml, List.getElem?_append_right (by simp), List.length_append]
        simp
end
end Lq

namespace Lq
open PySem PySem.Spec PyProof.Rows L2
def addW (p : Int) (v w : List Int) : List Int := List.zipWith (fun a b => (a + b) % p) v w
def scW (p a : Int) (v : List Int) : List Int := v.map fun x => x * a % p
def okP (p : Int) : Bool := decide (0 < p ∧ p ≤ 1000)
def okW (p : Int) (v : List Int) : Bool := decide (v.length ≤ 1000) && v.all fun x => decide (0 ≤ x ∧ x < p)
theorem okP_iff {p : Int} : okP p = true ↔ 0 < p ∧ p ≤ 1000 := by simp [okP]
theorem okW_iff {p : Int} {v : List Int} : okW p v = true ↔ v.length ≤ 1000 ∧ ∀ x ∈ v, 0 ≤ x ∧ x < p := by simp [okW]

def m_add : Ms → O := (retS (calE (aCons (frz (lcE (itZ (aCons (varE 0) (aCons (varE 1) aNil))) (Tk.tp [3, 4]).k yesT (op2 (op2 (varE 3) (varE 4) addO) (varE 2) modO) [3, 4])) aNil) tupO))
def m_scaled : Ms → O := (retS (calE (aCons (frz (lcE (itS (varE 0)) (Tk.nm 3).k yesT (op2 (op2 (varE 3) (varE 1) mulO) (varE 2) modO) [3])) aNil) tupO))
def m__law_take : Ms → O := (seqS (ifS (tst (op2 (ixV 0 (cE (.int 0))) (cE (.int 0)) gtO)) (seqS (asgS 2 (op2 (calE (aCons (ixV 0 (cE (.int 0))) aNil) intO) (varE 1) modO))
  (seqS (setS 0 (op2 (ixV 0 (cE (.int 0))) (varE 1) divO) (cE (.int 0)))
  (retS (varE 2)))) nilS)
  (seqS (setS 0 (op2 (calE (aCons (op2 (op2 (ixV 0 (cE (.int 1))) (cE (.int 48271)) mulO) (cE (.int 11)) addO) aNil) intO) (cE (.int 2147483647)) modO) (cE (.int 1)))
  (retS (op2 (calE (aCons (op2 (ixV 0 (cE (.int 1))) (cE (.int 7)) divO) aNil) intO) (varE 1) modO))))
def FaddW : List Dt → Fo
  | [d, e, .int p] => match wordOf d, wordOf e with
    | some v, some w => if (okP p && okW p v && okW p w && decide (v.length = w.length)) = true then .ok (Wd (addW p v w)) else .no
    | _, _ => .no
  | _ => .no
theorem FaddW_inv {ds : List Dt} (h : FaddW ds ≠ .no) : ∃ v w p, ds = [Wd v, Wd w, .int p] ∧ okP p = true ∧ okW p v = true ∧ okW p w = true ∧ v.length = w.length ∧ FaddW ds = .ok (Wd (addW p v w)) := by
  unfold FaddW at h
  split at h
  · rename_i d e p
    split at h
    · rename_i v w h1 h2
      split at h
      · rename_i hc
        have := wordOf_eq h1
        have := wordOf_eq h2
        subst_vars
        simp only [Bool.and_eq_true, decide_eq_true_eq] at hc
        refine ⟨v, w, p, rfl, hc.1.1.1, hc.1.1.2, hc.1.2, hc.2, ?_⟩
        simp only [FaddW, wordOf_Wd]
        rw [if_pos (by simp [hc])]
      · exact absurd rfl h
    · exact absurd rfl h
  · exact absurd rfl h
def FscW : List Dt → Fo
  | [d, .int a, .int p] => match wordOf d with
    | some v => if (okP p && okW p v) = true then .ok (Wd (scW p a v)) else .no
    | _ => .no
  | _ => .no
theorem FscW_inv {ds : List Dt} (h : FscW ds ≠ .no) : ∃ v a p, ds = [Wd v, .int a, .int p] ∧ okP p = true ∧ okW p v = true ∧ FscW ds = .ok (Wd (scW p a v)) := by
  unfold FscW at h
  split at h
  · rename_i d a p
    split at h
    · rename_i v h1
      split at h
      · rename_i hc
        have := wordOf_eq h1
        subst_vars
        simp only [Bool.and_eq_true] at hc
        refine ⟨v, a, p, rfl, hc.1, hc.2, ?_⟩
        simp only [FscW, wordOf_Wd]
        rw [if_pos (by simp [hc])]
      · exact absurd rfl h
    · exact absurd rfl h
  · exact absurd rfl h
theorem zipD_ints : ∀ (v w : List Int), zipD (v.map Dt.int) (w.map Dt.int) = (v.zip w).map fun q => Dt.tup [.int q.1, .int q.2]
  | [], _ => by simp [zipD]
  | _ :: _, [] => by simp [zipD]
  | a :: v, b :: w => by
    have := zipD_ints v w
    unfold zipD at this ⊢
    simp [this]
theorem cmul_w {p x a : Int} (hp : p ≤ 1000) (hx : 0 ≤ x ∧ x < p) : CMul x a := by
  have h1 : (1000 : Int) < 2 ^ 64 := by decide
  have h2 : -(2 : Int) ^ 64 < 0 := by decide
  exact .inl ⟨by omega, by omega⟩
theorem run_add (ds : List Dt) (h : FaddW ds ≠ .no) : runD 5 m_add ds = FaddW ds := by
  obtain ⟨v, w, p, rfl, hp, hv, hw, hl, e⟩ := FaddW_inv h
  rw [e]
  obtain ⟨hp1, hp2⟩ := okP_iff.mp hp
  obtain ⟨hv1, hv2⟩ := okW_iff.mp hv
  have key : (lcE (itZ (aCons (varE 0) (aCons (varE 1) aNil))) (Tk.tp [3, 4]).k yesT (op2 (op2 (varE 3) (varE 4) addO) (varE 2) modO) [3, 4]) (st0 5 [Wd v, Wd w, .int p]) = .ok ((v.zip w).map fun q => Dt.int ((q.1 + q.2) % p)) (st0 5 [Wd v, Wd w, .int p]) := by
    refine lcE_map (fun q : Int × Int => Dt.tup [.int q.1, .int q.2]) _ (v.zip w) ?_ (fun q hq => ?_) (fun d T T' => Tk.mo) (by simp; omega)
    · simp [st0, Wd, zipD_ints]
    · simp [st0, wipeL, kNames, hp1]
  unfold runD m_add
  simp only [retS_run, calE_run, aCons_run, frz_run']
  rw [key]
  simp only [R.bind_ok, aNil_run, tupO_lst, R.of_some, R.stmt_ok, O.fo, Wd, addW]
  congr 2
  rw [List.map_zipWith, List.zip, List.map_zipWith]
theorem run_scaled (ds : List Dt) (h : FscW ds ≠ .no) : runD 4 m_scaled ds = FscW ds := by
  obtain ⟨v, a, p, rfl, hp, hv, e⟩ := FscW_inv h
  rw [e]
  obtain ⟨hp1, hp2⟩ := okP_iff.mp hp
  obtain ⟨hv1, hv2⟩ := okW_iff.mp hv
  have key : (lcE (itS (varE 0)) (Tk.nm 3).k yesT (op2 (op2 (varE 3) (varE 1) mulO) (varE 2) modO) [3]) (st0 4 [Wd v, .int a, .int p]) = .ok (v.map fun x => Dt.int (x * a % p)) (st0 4 [Wd v, .int a, .int p]) := by
    refine lcE_map Dt.int _ v ?_ (fun x hx => ?_) (fun d T T' => Tk.mo) (by omega)
    · simp [st0, Wd]
    · have := cmul_w (a := a) hp2 (hv2 x hx)
      simp [st0, wipeL, hp1, this]
  unfold runD m_scaled
  simp only [retS_run, calE_run, aCons_run, frz_run']
  rw [key]
  simp only [R.bind_ok, aNil_run, tupO_lst, R.of_some, R.stmt_ok, O.fo, Wd, scW, List.map_map]
  rfl
end Lq

namespace Lq
open PySem PySem.Spec PyProof.Rows L2
def takeF (m : Int) (q : Int × Int) : Int × (Int × Int) :=
  if 0 < q.1 then (q.1 % m, (q.1 / m, q.2)) else ((q.2 * 48271 + 11) % 2147483647 / 7 % m, (q.1, (q.2 * 48271 + 11) % 2147483647))
theorem takeF_range {m : Int} (hm : 0 < m) (q : Int × Int) : 0 ≤ (takeF m q).1 ∧ (takeF m q).1 < m := by
  unfold takeF
  split
  · exact ⟨Int.emod_nonneg _ (by omega), Int.emod_lt_of_pos _ hm⟩
  · exact ⟨Int.emod_nonneg _ (by omega), Int.emod_lt_of_pos _ hm⟩
def stD (q : Int × Int) : List Dt := [.int q.1, .int q.2]
def Ftake : List Dt → List Dt → FoM
  | [.int s, .int t], [.int m] => if 0 < m ∧ m < 1073741824 then .ok (.int (takeF m (s, t)).1) (stD (takeF m (s, t)).2) else .no
  | _, _ => .no
theorem Ftake_run {m : Int} (q : Int × Int) (h : 0 < m ∧ m < 1073741824) : Ftake (stD q) [.int m] = .ok (.int (takeF m q).1) (stD (takeF m q).2) := by
  unfold Ftake stD
  dsimp only
  rw [if_pos h]
theorem atI0 {α : Type} (a b : α) : atI [a, b] 0 = some a := rfl
theorem atI1 {α : Type} (a b : α) : atI [a, b] 1 = some b := rfl
theorem run__law_take (xs ds : List Dt) (h : Ftake xs ds ≠ .no) : runM 3 m__law_take xs ds = Ftake xs ds := by
  unfold Ftake at h
  split at h
  · rename_i s t m
    split at h
    · rename_i hm
      have e : Ftake [.int s, .int t] [.int m] = .ok (.int (takeF m (s, t)).1) (stD (takeF m (s, t)).2) := Ftake_run (s, t) hm
      rw [e]
      have c1 : CMul t 48271 := .inr (by decide)
      have c2 : CDiv s m := hm
      have c3 : ∀ z : Int, CDiv z 7 := fun z => ⟨by decide, by decide⟩
      have i0 : ixN 2 0 = some 0 := by decide
      have i1 : ixN 2 1 = some 1 := by decide
      unfold runM m__law_take takeF
      by_cases hs : 0 < s
      · simp [stM, ixV, muAt, setS, atI0, atI1, hs, hm.1, c2, i0, O.foM, mo0, stD]
      · simp [stM, ixV, muAt, setS, atI0, atI1, hs, hm.1, c1, c3, i1, O.foM, mo0, stD]
    · exact absurd rfl h
  · exact absurd rfl h
def foldG {α β σ : Type} (g : α → σ → β × σ) : List α → σ → List β × σ
  | [], q => ([], q)
  | a :: as, q => ((g a q).1 :: (foldG g as (g a q).2).1, (foldG g as (g a q).2).2)
theorem lcF_fold {α σ : Type} {sl : List Sv} {k : Dt → Ms → Option Ms} {e : Ms → R Dt} (moOf : σ → List Mo) (enc : α → Dt) (g : α → σ → Dt × σ)
    (h : ∀ a q, ∃ S1 S3, k (enc a) { sl := sl, mo := moOf q } = some S1 ∧ e S1 = .ok (g a q).1 S3 ∧ S3.mo = moOf (g a q).2) : ∀ (xs : List α) (q : σ) (acc : List Dt), acc.length + xs.length ≤ 100000 →
    lcF sl k yesT e (xs.map enc) (moOf q) acc = .ok (acc ++ (foldG g xs q).1) { sl := sl, mo := moOf (foldG g xs q).2 }
  | [], q, acc, _ => by simp [lcF, foldG]
  | x :: xs, q, acc, hl => by
    obtain ⟨S1, S3, h1, h2, h3⟩ := h x q
    have hl' : acc.length + (xs.length + 1) ≤ 100000 := hl
    rw [List.map_cons]
    unfold lcF
    rw [h1]
    dsimp only [yesT]
    rw [h2]
    dsimp only
    rw [if_pos (by omega), h3, lcF_fold moOf enc g h xs _ (acc ++ [(g x q).1]) (by simp; omega)]
    simp [foldG]
def takeN (m : Int) : Nat → Int × Int → List Int × (Int × Int)
  | 0, q => ([], q)
  | k + 1, q => ((takeF m q).1 :: (takeN m k (takeF m q).2).1, (takeN m k (takeF m q).2).2)
theorem takeN_len (m : Int) : ∀ (k : Nat) (q : Int × Int), (takeN m k q).1.length = k
  | 0, _ => rfl
  | k + 1, q => by simp [takeN, takeN_len m k]
theorem takeN_range {m : Int} (hm : 0 < m) : ∀ (k : Nat) (q : Int × Int), ∀ x ∈ (takeN m k q).1, 0 ≤ x ∧ x < m
  | 0, _, x, h => by simp [takeN] at h
  | k + 1, q, x, h => by
    simp only [takeN, List.mem_cons] at h
    rcases h with rfl | h
    · exact takeF_range hm q
    · exact takeN_range hm k _ x h
theorem fold_takeN {α : Type} (m : Int) : ∀ (xs : List α) (q : Int × Int), foldG (fun (_ : α) q => (Dt.int (takeF m q).1, (takeF m q).2)) xs q = ((takeN m xs.length q).1.map Dt.int, (takeN m xs.length q).2)
  | [], q => rfl
  | x :: xs, q => by simp [foldG, takeN, fold_takeN m xs]
def m__law_word : Ms → O := (retS (calE (aCons (frz (lcE (itR1 (aCons (varE 1) aNil)) (Tk.nm 3).k yesT (funM 1 0 (aCons (varE 2) aNil) Ftake) [3])) aNil) tupO))
def Fword : List Dt → List Dt → FoM
  | [.int s, .int t], [.int n, .int p] => if (0 ≤ n ∧ n ≤ 1000) ∧ 0 < p ∧ p < 1073741824 then .ok (Wd (takeN p n.toNat (s, t)).1) (stD (takeN p n.toNat (s, t)).2) else .no
  | _, _ => .no
theorem Fword_run {n : Nat} {p : Int} (q : Int × Int) (hn : n ≤ 1000) (hp : 0 < p ∧ p < 1073741824) : Fword (stD q) [.int n, .int p] = .ok (Wd (takeN p n q).1) (stD (takeN p n q).2) := by
  unfold Fword stD
  dsimp only
  rw [if_pos ⟨by omega, hp⟩, Int.toNat_natCast]
theorem run__law_word (xs ds : List Dt) (h : Fword xs ds ≠ .no) : runM 4 m__law_word xs ds = Fword xs ds := by
  unfold Fword at h
  split at h
  · rename_i s t n p
    split at h
    · rename_i hc
      obtain ⟨hn, hp⟩ := hc
      obtain ⟨n, rfl⟩ : ∃ k : Nat, n = (k : Int) := ⟨n.toNat, by omega⟩
      have e : Fword [.int s, .int t] [.int n, .int p] = _ := Fword_run (s, t) (by omega) hp
      rw [e]
      have hit : itR1 (aCons (varE 1) aNil) (stM 4 [.int s, .int t] [.int n, .int p]) = .ok ((List.range n).map fun (i : Nat) => Dt.int (i : Int)) (stM 4 [.int s, .int t] [.int n, .int p]) := itR1_run (by simp [stM]) (by omega)
      have hlc := lcF_fold (sl := wipeL (stM 4 [.int s, .int t] [.int n, .int p]).sl [3]) (k := (Tk.nm 3).k) (e := funM 1 0 (aCons (varE 2) aNil) Ftake) (fun q : Int × Int => [Mo.ob (.ls (stD q))]) (fun (i : Nat) => Dt.int (i : Int)) (fun _ q => (Dt.int (takeF p q).1, (takeF p q).2)) (fun a q => by
        simp [stM, wipeL, funM, muAt, Ftake_run q hp]) (List.range n) (s, t) [] (by simp; omega)
      have key : lcE (itR1 (aCons (varE 1) aNil)) (Tk.nm 3).k yesT (funM 1 0 (aCons (varE 2) aNil) Ftake) [3] (stM 4 [.int s, .int t] [.int n, .int p]) = .ok ((takeN p n (s, t)).1.map Dt.int) { sl := (stM 4 [.int s, .int t] [.int n, .int p]).sl, mo := [Mo.ob (.ls (stD (takeN p n (s, t)).2))] } := by
        unfold lcE
        rw [hit, R.bind_ok]
        have : (stM 4 [.int s, .int t] [.int n, .int p]).mo = [Mo.ob (.ls (stD (s, t)))] := rfl
        rw [this, hlc, fold_takeN]
        simp
      unfold runM m__law_word
      simp only [retS_run, calE_run, aCons_run, frz_run']
      rw [key]
      simp only [R.bind_ok, aNil_run, tupO_lst, R.of_some, R.stmt_ok, O.foM, Wd]
      rfl
    · exact absurd rfl h
  · exact absurd rfl h
def m__law_prime : Ms → O := (retS (op2 (frz (lstE (aCons (cE (.int 2)) (aCons (cE (.int 2)) (aCons (cE (.int 3)) (aCons (cE (.int 3)) (aCons (cE (.int 5)) (aCons (cE (.int 7)) aNil)))))))) (funM 1 0 (aCons (cE (.int 6)) aNil) Ftake) ixO))
def primeF (q : Int × Int) : Int := [2, 2, 3, 3, 5, 7].getD (takeF 6 q).1.toNat 2
theorem primeF_mem (q : Int × Int) : primeF q = 2 ∨ primeF q = 3 ∨ primeF q = 5 ∨ primeF q = 7 := by
  obtain ⟨h1, h2⟩ := takeF_range (m := 6) (by decide) q
  unfold primeF
  generalize hv : (takeF 6 q).1 = v at h1 h2
  obtain ⟨k, rfl⟩ : ∃ k : Nat, v = (k : Int) := ⟨v.toNat, by omega⟩
  have : k < 6 := by omega
  match k, this with
  | 0, _ => decide
  | 1, _ => decide
  | 2, _ => decide
  | 3, _ => decide
  | 4, _ => decide
  | 5, _ => decide
def Fprime : List Dt → List Dt → FoM
  | [.int s, .int t], [] => .ok (.int (primeF (s, t))) (stD (takeF 6 (s, t)).2)
  | _, _ => .no
theorem run__law_prime (xs ds : List Dt) (h : Fprime xs ds ≠ .no) : runM 1 m__law_prime xs ds = Fprime xs ds := by
  unfold Fprime at h
  split at h
  · rename_i s t
    have e : Fprime [.int s, .int t] [] = .ok (.int (primeF (s, t))) (stD (takeF 6 (s, t)).2) := rfl
    rw [e]
    have h0 : Ftake [.int s, .int t] [.int 6] = _ := Ftake_run (s, t) (by decide)
    have hv : atI [Dt.int 2, Dt.int 2, Dt.int 3, Dt.int 3, Dt.int 5, Dt.int 7] (takeF 6 (s, t)).1 = some (.int (primeF (s, t))) := by
      obtain ⟨h1, h2⟩ := takeF_range (m := 6) (by decide) (s, t)
      unfold primeF
      generalize hv : (takeF 6 (s, t)).1 = v at h1 h2
      obtain ⟨k, rfl⟩ : ∃ k : Nat, v = (k : Int) := ⟨v.toNat, by omega⟩
      have : k < 6 := by omega
      rw [atI_ofNat]
      match k, this with
      | 0, _ => rfl
      | 1, _ => rfl
      | 2, _ => rfl
      | 3, _ => rfl
      | 4, _ => rfl
      | 5, _ => rfl
    unfold runM m__law_prime
    simp [stM, funM, muAt, h0, hv, O.foM, mo0]
  · exact absurd rfl h
theorem lstE_nil (S : Ms) : lstE aNil S = .ok [] S := by
  simp only [lstE_run, aNil_run, R.bind_ok]
  rw [if_pos (show ([] : List Dt).length ≤ 100000 from Nat.zero_le _)]
def m__law_rows : Ms → O := (seqS (asgN 4 (lstE aNil))
  (seqS (forS (itR1 (aCons (funM 1 0 (aCons (op2 (varE 3) (cE (.int 1)) addO) aNil) Ftake) aNil)) (Tk.nm 5).k (appS 4 (funM 2 0 (aCons (varE 1) (aCons (varE 2) aNil)) Fword)))
  (retS (varE 4))))
def rowsN (p : Int) (n : Nat) : Nat → Int × Int → List (List Int) × (Int × Int)
  | 0, q => ([], q)
  | k + 1, q => ((rowsN p n k q).1 ++ [(takeN p n (rowsN p n k q).2).1], (takeN p n (rowsN p n k q).2).2)
theorem rowsN_len (p : Int) (n : Nat) : ∀ (k : Nat) (q : Int × Int), (rowsN p n k q).1.length = k
  | 0, _ => rfl
  | k + 1, q => by simp [rowsN, rowsN_len p n k]
theorem rowsN_mem {p : Int} (hp : 0 < p) (n : Nat) : ∀ (k : Nat) (q : Int × Int), ∀ r ∈ (rowsN p n k q).1, r.length = n ∧ ∀ x ∈ r, 0 ≤ x ∧ x < p
  | 0, _, r, h => by simp [rowsN] at h
  | k + 1, q, r, h => by
    simp only [rowsN, List.mem_append, List.mem_singleton] at h
    rcases h with h | rfl
    · exact rowsN_mem hp n k q r h
    · exact ⟨takeN_len _ _ _, takeN_range hp _ _⟩
def rowsF (p : Int) (n : Nat) (most : Int) (q : Int × Int) : List (List Int) × (Int × Int) := rowsN p n (takeF (most + 1) q).1.toNat (takeF (most + 1) q).2
def Frows : List Dt → List Dt → FoM
  | [.int s, .int t], [.int n, .int p, .int most] => if (0 ≤ n ∧ n ≤ 1000) ∧ (0 < p ∧ p < 1073741824) ∧ 0 ≤ most ∧ most ≤ 1000 then .ok (.lst ((rowsF p n.toNat most (s, t)).1.map Wd)) (stD (rowsF p n.toNat most (s, t)).2) else .no
  | _, _ => .no
theorem Frows_run {n : Nat} {p most : Int} (q : Int × Int) (hn : n ≤ 1000) (hp : 0 < p ∧ p < 1073741824) (hm : 0 ≤ most ∧ most ≤ 1000) : Frows (stD q) [.int n, .int p, .int most] = .ok (.lst ((rowsF p n most q).1.map Wd)) (stD (rowsF p n most q).2) := by
  unfold Frows stD
  dsimp only
  rw [if_pos ⟨by omega, hp, hm⟩, Int.toNat_natCast]
theorem run__law_rows (xs ds : List Dt) (h : Frows xs ds ≠ .no) : runM 6 m__law_rows xs ds = Frows xs ds := by
  unfold Frows at h
  split at h
  · rename_i s t n p most
    split at h
    · rename_i hc
      obtain ⟨hn, hp, hm⟩ := hc
      obtain ⟨n, rfl⟩ : ∃ k : Nat, n = (k : Int) := ⟨n.toNat, by omega⟩
      have e : Frows [.int s, .int t] [.int n, .int p, .int most] = _ := Frows_run (s, t) (by omega) hp hm
      rw [e]
      obtain ⟨r1, r2⟩ := takeF_range (m := most + 1) (by omega) (s, t)
      obtain ⟨c, hc⟩ : ∃ c : Nat, (takeF (most + 1) (s, t)).1 = (c : Int) := ⟨(takeF (most + 1) (s, t)).1.toNat, by omega⟩
      have h0 : Ftake [.int s, .int t] [.int (most + 1)] = _ := Ftake_run (s, t) ⟨by omega, by omega⟩
      -- the loop
      have hit : itR1 (aCons (funM 1 0 (aCons (op2 (varE 3) (cE (.int 1)) addO) aNil) Ftake) aNil) { sl := [.mu 0, .im (.int n), .im (.int p), .im (.int most), .mu 1, .no], mo := [.ob (.ls [.int s, .int t]), .ob (.ls [])] } =
          .ok ((List.range c).map fun (i : Nat) => Dt.int (i : Int)) { sl := [.mu 0, .im (.int n), .im (.int p), .im (.int most), .mu 1, .no], mo := [.ob (.ls (stD (takeF (most + 1) (s, t)).2)), .ob (.ls [])] } := itR1_run (by simp [funM, muAt, h0, hc]) (by omega)
      obtain ⟨S', f1, f2⟩ := forL_inv (k := (Tk.nm 5).k) (body := appS 4 (funM 2 0 (aCons (varE 1) (aCons (varE 2) aNil)) Fword)) ((List.range c).map fun (i : Nat) => Dt.int (i : Int))
        (fun i S => i ≤ c ∧ ∃ x, S = { sl := [.mu 0, .im (.int n), .im (.int p), .im (.int most), .mu 1, x], mo := [.ob (.ls (stD (rowsN p n i (takeF (most + 1) (s, t)).2).2)), .ob (.ls ((rowsN p n i (takeF (most + 1) (s, t)).2).1.map Wd))] })
        { sl := [.mu 0, .im (.int n), .im (.int p), .im (.int most), .mu 1, .no], mo := [.ob (.ls (stD (takeF (most + 1) (s, t)).2)), .ob (.ls [])] } ⟨Nat.zero_le _, .no, rfl⟩ (fun i d S hd hI => by
          obtain ⟨hi, x, rfl⟩ := hI
          have hic : i < c := by
            have := (List.getElem?_eq_some_iff.mp hd).1
            simpa using this
          have hw := Fword_run (n := n) (rowsN p n i (takeF (most + 1) (s, t)).2).2 (by omega) hp
          have hlen := rowsN_len p n i (takeF (most + 1) (s, t)).2
          refine ⟨_, _, kNm _ _ _, .inl ?_, hic, .im d, rfl⟩
          simp [funM, muAt, hw, hlen, rowsN]
          omega)
      obtain ⟨_, x, hS'⟩ := f2
      rw [List.length_map, List.length_range] at hS'
      unfold runM m__law_rows
      simp only [seqS_run, asgN_run', lstE_nil]
      have hst : (stM 6 [.int s, .int t] [.int n, .int p, .int most]) = { sl := [.mu 0, .im (.int n), .im (.int p), .im (.int most), .no, .no], mo := [.ob (.ls [.int s, .int t])] } := rfl
      rw [hst]
      rw [R.stmt_ok, seq_nx]
      simp only [List.length_cons, List.length_nil, List.set_cons_succ, List.set_cons_zero, List.cons_append, List.nil_append, Nat.zero_add, seqS_run]
      simp only [forS_run]
      rw [hit]
      simp only [R.stmt_ok]
      rw [f1, hS']
      simp [O.foM, mo0, rowsF, hc]
    · exact absurd rfl h
  · exact absurd rfl h
theorem cmul_r {p a : Int} (h1 : -1000 ≤ p) (h2 : p ≤ 1000) : CMul a p := by
  have e1 : (1000 : Int) < 2 ^ 64 := by decide
  have e2 : -(2 : Int) ^ 64 < -1000 := Int.neg_lt_neg e1
  exact .inr ⟨Int.lt_of_lt_of_le e2 h1, Int.lt_of_le_of_lt h2 e1⟩
end Lq

namespace Lq
open PySem PySem.Spec PyProof.Rows L2
def m_inverse : Ms → O := (seqS (forS (itR2 (aCons (cE (.int 1)) (aCons (varE 1) aNil))) (Tk.nm 2).k (ifS (tst (op2 (op2 (op2 (varE 0) (varE 2) mulO) (varE 1) modO) (cE (.int 1)) eqO)) (retS (varE 2)) nilS))
  noS)
def invF (p a : Int) : Option Nat := (List.range (p - 1).toNat).find? fun c => decide (a * (1 + (c : Int)) % p = 1)
def Finverse : List Dt → Fo
  | [.int a, .int p] => if okP p = true then (match invF p a with | some c => .ok (.int (1 + (c : Int))) | none => .no) else .no
  | _ => .no
theorem forL_find {α : Type} {k : Dt → Ms → Option Ms} {body : Ms → O} (enc : α → Dt) (b : α → Bool) (res : α → Dt) (I : Ms → Prop) : ∀ (xs : List α) (S : Ms), I S →
    (∀ x ∈ xs, ∀ S, I S → ∃ S1, k (enc x) S = some S1 ∧ (b x = true → ∃ S2, body S1 = .rt (res x) S2) ∧ (b x = false → ∃ S2, body S1 = .nx S2 ∧ I S2)) → ∀ y, xs.find? b = some y → ∃ S', forL k body (xs.map enc) S = .rt (res y) S'
  | [], _, _, _, y, h => by simp at h
  | x :: xs, S, hI, hs, y, h => by
    obtain ⟨S1, h1, h2, h3⟩ := hs x List.mem_cons_self S hI
    rw [List.map_cons]
    unfold forL
    rw [h1]
    dsimp only
    cases hb : b x with
    | true =>
      rw [List.find?_cons, hb] at h
      cases h
      obtain ⟨S2, e⟩ := h2 hb
      rw [e]
      exact ⟨S2, rfl⟩
    | false =>
      rw [List.find?_cons, hb] at h
      obtain ⟨S2, e, hI2⟩ := h3 hb
      rw [e]
      exact forL_find enc b res I xs S2 hI2 (fun z hz => hs z (List.mem_cons_of_mem _ hz)) y h
theorem itR2_run {fs : Ms → R (List Dt)} {S S1 : Ms} {i j : Int} (h : fs S = .ok [.int i, .int j] S1) (hi : -1000000 ≤ i ∧ i ≤ 1000000) (hj : -1000000 ≤ j ∧ j ≤ 1000000) : itR2 fs S = .ok ((List.range (j - i).toNat).map fun (k : Nat) => Dt.int (i + (k : Int))) S1 := by
  unfold itR2
  rw [h, R.bind_ok]
  dsimp only
  have e1 : (1000000 : Int) < 2 ^ 62 := by decide
  have e2 : -(2 : Int) ^ 62 < -1000000 := Int.neg_lt_neg e1
  rw [if_pos ⟨Int.le_of_lt (Int.lt_of_lt_of_le e2 hi.1), Int.lt_of_le_of_lt hi.2 e1, Int.le_of_lt (Int.lt_of_lt_of_le e2 hj.1), Int.lt_of_le_of_lt hj.2 e1⟩]
theorem run_inverse (ds : List Dt) (h : Finverse ds ≠ .no) : runD 3 m_inverse ds = Finverse ds := by
  unfold Finverse at h
  split at h
  · rename_i a p
    split at h
    · rename_i hp
      obtain ⟨hp1, hp2⟩ := okP_iff.mp hp
      cases hc : invF p a with
      | none => rw [hc] at h; exact absurd rfl h
      | some c =>
        have e : Finverse [.int a, .int p] = .ok (.int (1 + (c : Int))) := by
          unfold Finverse
          dsimp only
          rw [if_pos hp, hc]
        rw [e]
        have hit : itR2 (aCons (cE (.int 1)) (aCons (varE 1) aNil)) (st0 3 [.int a, .int p]) = .ok ((List.range (p - 1).toNat).map fun (k : Nat) => Dt.int (1 + (k : Int))) (st0 3 [.int a, .int p]) := itR2_run (by simp [st0]) (by omega) (by omega)
        obtain ⟨S', hS'⟩ := forL_find (k := (Tk.nm 2).k) (body := ifS (tst (op2 (op2 (op2 (varE 0) (varE 2) mulO) (varE 1) modO) (cE (.int 1)) eqO)) (retS (varE 2)) nilS) (fun (k : Nat) => Dt.int (1 + (k : Int))) (fun c => decide (a * (1 + (c : Int)) % p = 1)) (fun c : Nat => .int (1 + (c : Int)))
          (fun S => ∃ x, S = { sl := [.im (.int a), .im (.int p), x], mo := [] }) (List.range (p - 1).toNat) (st0 3 [.int a, .int p]) ⟨.no, rfl⟩ (fun x hx S hI => by
            obtain ⟨y, rfl⟩ := hI
            have hx' := List.mem_range.mp hx
            have hcm : CMul a (1 + (x : Int)) := cmul_r (by omega) (by omega)
            refine ⟨_, kNm _ _ _, fun hb => ?_, fun hb => ?_⟩
            · have hb' := of_decide_eq_true hb
              simp [hcm, hp1, hb']
            · have hb' := of_decide_eq_false hb
              refine ⟨{ sl := [.im (.int a), .im (.int p), .im (.int (1 + (x : Int)))], mo := [] }, ?_, _, rfl⟩
              simp [hcm, hp1, hb']) c hc
        unfold runD m_inverse
        rw [seqS_run, forS_run, hit, R.stmt_ok, hS', seq_rt]
        rfl
    · exact absurd rfl h
  · exact absurd rfl h
def m__cleared : Ms → O := (retS (funE 3 (aCons (varE 0) (aCons (funE 3 (aCons (varE 1) (aCons (op1 (op2 (varE 0) (varE 2) ixO) negO) (aCons (varE 3) aNil))) FscW) (aCons (varE 3) aNil))) FaddW))
def clr (p : Int) (h : List Int) (at_ : Nat) (r : List Int) : List Int := addW p r (scW p (-(r.getD at_ 0)) h)
theorem okW_scW {p a : Int} {v : List Int} (hp : okP p = true) (hv : okW p v = true) : okW p (scW p a v) = true := by
  obtain ⟨hp1, hp2⟩ := okP_iff.mp hp
  obtain ⟨hv1, hv2⟩ := okW_iff.mp hv
  refine okW_iff.mpr ⟨by simpa [scW] using hv1, fun x hx => ?_⟩
  obtain ⟨y, _, rfl⟩ := List.mem_map.mp hx
  exact ⟨Int.emod_nonneg _ (by omega), Int.emod_lt_of_pos _ hp1⟩
theorem mem_zipWith {α β γ : Type} {f : α → β → γ} : ∀ {xs : List α} {ys : List β} {z : γ}, z ∈ List.zipWith f xs ys → ∃ a b, z = f a b
  | [], _, _, h => by simp at h
  | _ :: _, [], _, h => by simp at h
  | a :: xs, b :: ys, z, h => by
    rw [List.zipWith_cons_cons, List.mem_cons] at h
    rcases h with h | h
    · exact ⟨a, b, h⟩
    · exact mem_zipWith h
theorem okW_addW {p : Int} {v w : List Int} (hp : okP p = true) (hv : okW p v = true) : okW p (addW p v w) = true := by
  obtain ⟨hp1, hp2⟩ := okP_iff.mp hp
  obtain ⟨hv1, hv2⟩ := okW_iff.mp hv
  refine okW_iff.mpr ⟨by simp [addW]; omega, fun x hx => ?_⟩
  obtain ⟨a, b, rfl⟩ := mem_zipWith hx
  exact ⟨Int.emod_nonneg _ (by omega), Int.emod_lt_of_pos _ hp1⟩
theorem scW_len (p a : Int) (v : List Int) : (scW p a v).length = v.length := by simp [scW]
theorem addW_len (p : Int) (v w : List Int) (h : v.length = w.length) : (addW p v w).length = v.length := by simp [addW, h]
theorem clr_len (p : Int) (h : List Int) (at_ : Nat) (r : List Int) (e : h.length = r.length) : (clr p h at_ r).length = r.length := addW_len _ _ _ (by rw [scW_len, e])
theorem okW_clr {p : Int} {h : List Int} {at_ : Nat} {r : List Int} (hp : okP p = true) (hr : okW p r = true) : okW p (clr p h at_ r) = true := okW_addW hp hr
def Fcleared : List Dt → Fo
  | [d, e, .int at_, .int p] => match wordOf d, wordOf e with
    | some r, some h => if (okP p && okW p r && okW p h && decide (r.length = h.length) && decide (0 ≤ at_ ∧ at_ < r.length)) = true then .ok (Wd (clr p h at_.toNat r)) else .no
    | _, _ => .no
  | _ => .no
theorem Fcleared_run {p : Int} {r h : List Int} {at_ : Nat} (hp : okP p = true) (hr : okW p r = true) (hh : okW p h = true) (e : r.length = h.length) (ha : at_ < r.length) : Fcleared [Wd r, Wd h, .int at_, .int p] = .ok (Wd (clr p h at_ r)) := by
  unfold Fcleared
  simp only [wordOf_Wd]
  rw [if_pos (by simp [hp, hr, hh, e]; omega), Int.toNat_natCast]
theorem FscW_run {p a : Int} {v : List Int} (hp : okP p = true) (hv : okW p v = true) : FscW [Wd v, .int a, .int p] = .ok (Wd (scW p a v)) := by
  unfold FscW
  simp only [wordOf_Wd]
  rw [if_pos (by simp [hp, hv])]
theorem FaddW_run {p : Int} {v w : List Int} (hp : okP p = true) (hv : okW p v = true) (hw : okW p w = true) (e : v.length = w.length) : FaddW [Wd v, Wd w, .int p] = .ok (Wd (addW p v w)) := by
  unfold FaddW
  simp only [wordOf_Wd]
  rw [if_pos (by simp [hp, hv, hw, e])]
theorem run__cleared (ds : List Dt) (h : Fcleared ds ≠ .no) : runD 4 m__cleared ds = Fcleared ds := by
  unfold Fcleared at h
  split at h
  · rename_i d e at_ p
    split at h
    · rename_i r hd h1 h2
      split at h
      · rename_i hc
        have := wordOf_eq h1
        have := wordOf_eq h2
        subst_vars
        simp only [Bool.and_eq_true, decide_eq_true_eq] at hc
        obtain ⟨⟨⟨⟨hp, hr⟩, hh⟩, hl⟩, ha⟩ := hc
        obtain ⟨at_, rfl⟩ : ∃ k : Nat, at_ = (k : Int) := ⟨at_.toNat, by omega⟩
        have ha' : at_ < r.length := by omega
        rw [Fcleared_run hp hr hh hl ha']
        have e1 := FscW_run (a := -(r.getD at_ 0)) hp hh
        have e2 := FaddW_run (w := scW p (-(r.getD at_ 0)) hd) hp hr (okW_scW hp hh) (by rw [scW_len, hl])
        have e3 : atI (r.map Dt.int) (at_ : Int) = some (.int (r.getD at_ 0)) := by
          rw [atI_ofNat, List.getElem?_map, List.getElem?_eq_getElem ha', List.getD_eq_getElem?_getD, List.getElem?_eq_getElem ha']
          rfl
        have w1 : ixO (Wd r) (.int (at_ : Int)) = some (.int (r.getD at_ 0)) := e3
        unfold runD m__cleared
        have hst : st0 4 [Wd r, Wd hd, .int at_, .int p] = { sl := [.im (Wd r), .im (Wd hd), .im (.int at_), .im (.int p)], mo := [] } := rfl
        rw [hst]
        unfold clr
        generalize r.getD at_ 0 = z at *
        simp [w1, e1, e2, O.fo]
      · exact absurd rfl h
    · exact absurd rfl h
  · exact absurd rfl h

def m_reduced : Ms → O := (seqS (asgS 3 (frz (lstE aNil)))
  (seqS (asgN 4 (lstE aNil))
  (seqS (moveS 5 0)
  (seqS (forS (itR1 (aCons (varE 1) aNil)) (Tk.nm 6).k (seqS (asgS 7 (frz (lcE (itS (varE 5)) (Tk.nm 9).k (tst (op2 (op2 (varE 9) (varE 6) ixO) (cE (.int 0)) neO)) (varE 9) [9])))
  (ifS (truT (varE 7)) (seqS (asgS 8 (funE 3 (aCons (op2 (varE 7) (cE (.int 0)) ixO) (aCons (funE 2 (aCons (op2 (op2 (varE 7) (cE (.int 0)) ixO) (varE 6) ixO) (aCons (varE 2) aNil)) Finverse) (aCons (varE 2) aNil))) FscW))
  (seqS (asgS 3 (frz (opN (frz (lcE (itS (varE 3)) (Tk.nm 9).k yesT (funE 4 (aCons (varE 9) (aCons (varE 8) (aCons (varE 6) (aCons (varE 2) aNil)))) Fcleared) [9])) (frz (lstE (aCons (varE 8) aNil))) catL)))
  (seqS (asgS 5 (frz (lcE (itS (varE 5)) (Tk.nm 9).k yesT (funE 4 (aCons (varE 9) (aCons (varE 8) (aCons (varE 6) (aCons (varE 2) aNil)))) Fcleared) [9])))
  (appS 4 (varE 6))))) nilS)))
  (retS (tupE (aCons (calE (aCons (varE 3) aNil) tupO) (aCons (calE (aCons (varE 4) aNil) tupO) aNil))))))))
structure Red where
  T : List (List Int)
  P : List Nat
  L : List (List Int)
def invP (p a : Int) : Int := match invF p a with | some c => 1 + (c : Int) | none => 0
def redHead (p : Int) (at_ : Nat) (r : List Int) : List Int := scW p (invP p (r.getD at_ 0)) r
def redStep (p : Int) (s : Red) (at_ : Nat) : Red := match s.L.filter fun r => decide (r.getD at_ 0 ≠ 0) with
  | [] => s
  | r :: _ => ⟨s.T.map (clr p (redHead p at_ r) at_) ++ [redHead p at_ r], s.P ++ [at_], s.L.map (clr p (redHead p at_ r) at_)⟩
def redN (p : Int) (rows : List (List Int)) : Nat → Red
  | 0 => ⟨[], [], rows⟩
  | k + 1 => redStep p (redN p rows k) k
def isP (p : Int) : Bool := decide (p = 2 ∨ p = 3 ∨ p = 5 ∨ p = 7)
theorem isP_okP {p : Int} (h : isP p = true) : okP p = true := by
  have := of_decide_eq_true h
  exact okP_iff.mpr (by omega)
theorem invF_some {p : Int} (h : isP p = true) {a : Int} (ha : a % p ≠ 0) : ∃ c, invF p a = some c ∧ a * (1 + (c : Int)) % p = 1 ∧ (c : Int) < p - 1 := by
  have hp := of_decide_eq_true h
  have ex : ∃ c ∈ List.range (p - 1).toNat, decide (a * (1 + (c : Int)) % p = 1) = true := by
    have hm : ∀ c : Int, a * c % p = ((a % p) * c) % p := fun c => by
      conv => lhs; rw [Int.mul_emod]
      conv => rhs; rw [Int.mul_emod, Int.emod_emod]
    have h0 : 0 ≤ a % p := Int.emod_nonneg _ (by omega)
    have h1 : a % p < p := Int.emod_lt_of_pos _ (by omega)
    generalize a % p = b at *
    rcases hp with rfl | rfl | rfl | rfl
    · refine ⟨0, by decide, decide_eq_true ?_⟩
      rw [hm]
      have : b = 1 := by omega
      subst this; decide
    · have : b = 1 ∨ b = 2 := by omega
      rcases this with rfl | rfl
      · exact ⟨0, by decide, decide_eq_true (by rw [hm]; decide)⟩
      · exact ⟨1, by decide, decide_eq_true (by rw [hm]; decide)⟩
    · have : b = 1 ∨ b = 2 ∨ b = 3 ∨ b = 4 := by omega
      rcases this with rfl | rfl | rfl | rfl
      · exact ⟨0, by decide, decide_eq_true (by rw [hm]; decide)⟩
      · exact ⟨2, by decide, decide_eq_true (by rw [hm]; decide)⟩
      · exact ⟨1, by decide, decide_eq_true (by rw [hm]; decide)⟩
      · exact ⟨3, by decide, decide_eq_true (by rw [hm]; decide)⟩
    · have : b = 1 ∨ b = 2 ∨ b = 3 ∨ b = 4 ∨ b = 5 ∨ b = 6 := by omega
      rcases this with rfl | rfl | rfl | rfl | rfl | rfl
      · exact ⟨0, by decide, decide_eq_true (by rw [hm]; decide)⟩
      · exact ⟨3, by decide, decide_eq_true (by rw [hm]; decide)⟩
      · exact ⟨4, by decide, decide_eq_true (by rw [hm]; decide)⟩
      · exact ⟨1, by decide, decide_eq_true (by rw [hm]; decide)⟩
      · exact ⟨2, by decide, decide_eq_true (by rw [hm]; decide)⟩
      · exact ⟨5, by decide, decide_eq_true (by rw [hm]; decide)⟩
  have hs : (invF p a).isSome = true := by
    unfold invF
    rw [List.find?_isSome]
    obtain ⟨c, hc, hd⟩ := ex
    exact ⟨c, hc, hd⟩
  obtain ⟨c, hc⟩ := Option.isSome_iff_exists.mp hs
  have hc' : (List.range (p - 1).toNat).find? (fun c : Nat => decide (a * (1 + (c : Int)) % p = 1)) = some c := hc
  have h2 := List.find?_some hc'
  refine ⟨c, hc, of_decide_eq_true h2, ?_⟩
  have := List.mem_range.mp (List.mem_of_find?_eq_some hc')
  omega
theorem invP_mul {p : Int} (h : isP p = true) {a : Int} (ha : a % p ≠ 0) : a * invP p a % p = 1 := by
  obtain ⟨c, h1, h2, _⟩ := invF_some h ha
  unfold invP
  rw [h1]
  exact h2
theorem Finverse_run {p : Int} (h : isP p = true) {a : Int} (ha : a % p ≠ 0) : Finverse [.int a, .int p] = .ok (.int (invP p a)) := by
  obtain ⟨c, h1, h2, _⟩ := invF_some h ha
  unfold Finverse invP
  dsimp only
  rw [if_pos (isP_okP h), h1]
def okR (p : Int) (n : Nat) (rows : List (List Int)) : Prop := ∀ r ∈ rows, okW p r = true ∧ r.length = n
theorem okR_map {p : Int} {n : Nat} {rows : List (List Int)} {h : List Int} {at_ : Nat} (hp : okP p = true) (hr : okR p n rows) (hh : h.length = n) : okR p n (rows.map (clr p h at_)) := fun r hm => by
  obtain ⟨q, hq, rfl⟩ := List.mem_map.mp hm
  obtain ⟨h1, h2⟩ := hr q hq
  exact ⟨okW_clr hp h1, by rw [clr_len _ _ _ _ (by rw [hh, h2])]; exact h2⟩
theorem okR_head {p : Int} {n at_ : Nat} {r : List Int} (hp : okP p = true) (hr : okW p r = true ∧ r.length = n) : okW p (redHead p at_ r) = true ∧ (redHead p at_ r).length = n := ⟨okW_scW hp hr.1, by unfold redHead; rw [scW_len]; exact hr.2⟩
theorem redStep_ok {p : Int} {n at_ : Nat} {s : Red} (hp : okP p = true) (hT : okR p n s.T) (hL : okR p n s.L) : okR p n (redStep p s at_).T ∧ okR p n (redStep p s at_).L := by
  unfold redStep
  split
  · exact ⟨hT, hL⟩
  · rename_i r rs hf
    have hr : r ∈ s.L := (List.mem_filter.mp (by rw [hf]; exact List.mem_cons_self)).1
    have hh := okR_head (at_ := at_) hp (hL r hr)
    refine ⟨fun q hq => ?_, okR_map hp hL hh.2⟩
    rcases List.mem_append.mp hq with hq | hq
    · exact okR_map hp hT hh.2 q hq
    · rw [List.mem_singleton] at hq
      subst hq
      exact hh
theorem redN_ok {p : Int} {n : Nat} {rows : List (List Int)} (hp : okP p = true) (h : okR p n rows) : ∀ k, okR p n (redN p rows k).T ∧ okR p n (redN p rows k).L
  | 0 => ⟨fun r hr => absurd hr (List.not_mem_nil), h⟩
  | k + 1 => redStep_ok hp (redN_ok hp h k).1 (redN_ok hp h k).2
theorem redN_lens {p : Int} {rows : List (List Int)} : ∀ k, (redN p rows k).T.length = (redN p rows k).P.length ∧ (redN p rows k).P.length ≤ k ∧ (redN p rows k).L.length = rows.length
  | 0 => ⟨rfl, Nat.le_refl _, rfl⟩
  | k + 1 => by
    obtain ⟨h1, h2, h3⟩ := redN_lens (p := p) (rows := rows) k
    show ((redStep p (redN p rows k) k).T.length = (redStep p (redN p rows k) k).P.length ∧ (redStep p (redN p rows k) k).P.length ≤ k + 1 ∧ (redStep p (redN p rows k) k).L.length = rows.length)
    unfold redStep
    split
    · exact ⟨h1, by omega, h3⟩
    · simp [h1, h3]
      omega
end Lq

namespace Lq
open PySem PySem.Spec PyProof.Rows L2
def redD (s : Red) : Dt := .tup [.tup (s.T.map Wd), .tup (s.P.map fun (c : Nat) => Dt.int (c : Int))]
def okRb (p : Int) (n : Nat) (rows : List (List Int)) : Bool := rows.all fun r => okW p r && decide (r.length = n)
theorem okRb_iff {p : Int} {n : Nat} {rows : List (List Int)} : okRb p n rows = true ↔ okR p n rows := by simp [okRb, okR]
def Freduced : List Dt → Fo
  | [d, .int w, .int p] => match (seqOf d).bind wordsOf with
    | some rows => if (isP p && decide (0 ≤ w ∧ w ≤ 1000) && decide (rows.length ≤ 1000) && okRb p w.toNat rows) = true then .ok (redD (redN p rows w.toNat)) else .no
    | none => .no
  | _ => .no
theorem Freduced_run {p : Int} {n : Nat} {rows : List (List Int)} {d : Dt} (hd : seqOf d = some (rows.map Wd)) (hp : isP p = true) (hn : n ≤ 1000) (hl : rows.length ≤ 1000) (h : okR p n rows) : Freduced [d, .int n, .int p] = .ok (redD (redN p rows n)) := by
  unfold Freduced
  dsimp only
  rw [hd]
  simp only [Option.bind, wordsOf_map, Int.toNat_natCast]
  rw [if_pos]
  simp [hp, okRb_iff.mpr h, hl]
  omega
def redSt (d : Dt) (n : Nat) (p : Int) (s : Red) (ld : Dt) (x6 x7 x8 x9 : Sv) : Ms :=
  { sl := [.im d, .im (.int n), .im (.int p), .im (.lst (s.T.map Wd)), .mu 0, .im ld, x6, x7, x8, x9], mo := [.ob (.ls (s.P.map fun (c : Nat) => Dt.int (c : Int)))] }
theorem wd_ix {r : List Int} {k : Nat} (h : k < r.length) : ixO (Wd r) (.int (k : Int)) = some (.int (r.getD k 0)) := by
  show atI (r.map Dt.int) (k : Int) = _
  rw [atI_ofNat, List.getElem?_map, List.getElem?_eq_getElem h, List.getD_eq_getElem?_getD, List.getElem?_eq_getElem h]
  rfl
def redBody : Ms → O := (seqS (asgS 7 (frz (lcE (itS (varE 5)) (Tk.nm 9).k (tst (op2 (op2 (varE 9) (varE 6) ixO) (cE (.int 0)) neO)) (varE 9) [9])))
  (ifS (truT (varE 7)) (seqS (asgS 8 (funE 3 (aCons (op2 (varE 7) (cE (.int 0)) ixO) (aCons (funE 2 (aCons (op2 (op2 (varE 7) (cE (.int 0)) ixO) (varE 6) ixO) (aCons (varE 2) aNil)) Finverse) (aCons (varE 2) aNil))) FscW))
  (seqS (asgS 3 (frz (opN (frz (lcE (itS (varE 3)) (Tk.nm 9).k yesT (funE 4 (aCons (varE 9) (aCons (varE 8) (aCons (varE 6) (aCons (varE 2) aNil)))) Fcleared) [9])) (frz (lstE (aCons (varE 8) aNil))) catL)))
  (seqS (asgS 5 (frz (lcE (itS (varE 5)) (Tk.nm 9).k yesT (funE 4 (aCons (varE 9) (aCons (varE 8) (aCons (varE 6) (aCons (varE 2) aNil)))) Fcleared) [9])))
  (appS 4 (varE 6))))) nilS))
theorem lcF_clr {d td ld x7 : Dt} {n : Nat} {p : Int} {mo : List Mo} {h : List Int} {at_ : Nat} {rows : List (List Int)} (hp : okP p = true) (hr : okR p n rows) (hh : okW p h = true ∧ h.length = n) (ha : at_ < n) (hl : rows.length ≤ 100000) (src : Nat) {x9 : Sv}
    {S : Ms} (hS : S = { sl := [.im d, .im (.int n), .im (.int p), .im td, .mu 0, .im ld, .im (.int at_), .im x7, .im (Wd h), x9], mo := mo }) (hsrc : itS (varE src) S = .ok (rows.map Wd) S) :
    lcE (itS (varE src)) (Tk.nm 9).k yesT (funE 4 (aCons (varE 9) (aCons (varE 8) (aCons (varE 6) (aCons (varE 2) aNil)))) Fcleared) [9] S = .ok ((rows.map (clr p h at_)).map Wd) S := by
  rw [List.map_map]
  refine lcE_map Wd _ rows hsrc (fun r hr' => ?_) (fun d T T' => Tk.mo) hl
  obtain ⟨h1, h2⟩ := hr r hr'
  have e := Fcleared_run (at_ := at_) hp h1 hh.1 (by rw [h2, hh.2]) (by rw [h2]; exact ha)
  subst hS
  refine ⟨_, kNm _ _ _, ?_⟩
  simp [wipeL, e]
theorem redBody_run {d ld : Dt} {n : Nat} {p : Int} {s : Red} {y7 y8 y9 : Sv} {i : Nat} (hp : isP p = true) (hn : n ≤ 1000) (hi : i < n) (hT : okR p n s.T) (hL : okR p n s.L) (hTl : s.T.length ≤ 1000) (hLl : s.L.length ≤ 1000) (hPl : s.P.length ≤ 1000) (hd : seqOf ld = some (s.L.map Wd)) :
    ∃ ld' x7 x8 x9, redBody (redSt d n p s ld (.im (.int i)) y7 y8 y9) = .nx (redSt d n p (redStep p s i) ld' (.im (.int i)) x7 x8 x9) ∧ seqOf ld' = some ((redStep p s i).L.map Wd) := by
  have hp' := isP_okP hp
  obtain ⟨hp1, hp2⟩ := okP_iff.mp hp'
  -- found
  have h1 : lcE (itS (varE 5)) (Tk.nm 9).k (tst (op2 (op2 (varE 9) (varE 6) ixO) (cE (.int 0)) neO)) (varE 9) [9] (redSt d n p s ld (.im (.int i)) y7 y8 y9) = .ok ((s.L.filter fun r => decide (r.getD i 0 ≠ 0)).map Wd) (redSt d n p s ld (.im (.int i)) y7 y8 y9) := by
    refine lcE_flt Wd (fun r => decide (r.getD i 0 ≠ 0)) Wd s.L (by simp [redSt, hd]) (fun r hr => ?_) (by omega)
    obtain ⟨_, h2⟩ := hL r hr
    have e := wd_ix (r := r) (k := i) (by rw [h2]; exact hi)
    have key : ∃ T2, (tst (op2 (op2 (varE 9) (varE 6) ixO) (cE (.int 0)) neO)) { sl := [.im d, .im (.int n), .im (.int p), .im (.lst (s.T.map Wd)), .mu 0, .im ld, .im (.int i), y7, y8, .im (Wd r)], mo := [.ob (.ls (s.P.map fun (c : Nat) => Dt.int (c : Int)))] } = .ok (decide (r.getD i 0 ≠ 0)) T2 ∧ T2 = { sl := [.im d, .im (.int n), .im (.int p), .im (.lst (s.T.map Wd)), .mu 0, .im ld, .im (.int i), y7, y8, .im (Wd r)], mo := [.ob (.ls (s.P.map fun (c : Nat) => Dt.int (c : Int)))] } := by
      refine ⟨_, ?_, rfl⟩
      generalize r.getD i 0 = z at *
      simp [e]
    obtain ⟨T2, k1, k2⟩ := key
    refine ⟨_, T2, kNm _ _ _, k1, by rw [k2]; rfl, fun _ => ⟨T2, ?_, by rw [k2]; rfl⟩⟩
    rw [k2]
    simp
  unfold redBody
  rw [seqS_run, asgS_run', frz_run', h1, R.bind_ok, R.stmt_ok, seq_nx, ifS_run, truT_run]
  have hS1 : ({ sl := (redSt d n p s ld (.im (.int i)) y7 y8 y9).sl.set 7 (.im (.lst ((s.L.filter fun r => decide (r.getD i 0 ≠ 0)).map Wd))), mo := (redSt d n p s ld (.im (.int i)) y7 y8 y9).mo } : Ms) = redSt d n p s ld (.im (.int i)) (.im (.lst ((s.L.filter fun r => decide (r.getD i 0 ≠ 0)).map Wd))) y8 y9 := rfl
  rw [hS1]
  have hv7 : varE 7 (redSt d n p s ld (.im (.int i)) (.im (.lst ((s.L.filter fun r => decide (r.getD i 0 ≠ 0)).map Wd))) y8 y9) = .ok (.lst ((s.L.filter fun r => decide (r.getD i 0 ≠ 0)).map Wd)) (redSt d n p s ld (.im (.int i)) (.im (.lst ((s.L.filter fun r => decide (r.getD i 0 ≠ 0)).map Wd))) y8 y9) := varE_im rfl
  rw [hv7, R.bind_ok]
  unfold redStep
  cases hf : s.L.filter fun r => decide (r.getD i 0 ≠ 0) with
  | nil =>
    refine ⟨ld, .im (.lst []), y8, y9, ?_, hd⟩
    simp only [List.map_nil, truO, List.isEmpty_nil, Bool.not_true]
    rw [R.of_some, R.stmt_ok]
    rfl
  | cons r rs =>
    have hr : r ∈ s.L := (List.mem_filter.mp (by rw [hf]; exact List.mem_cons_self)).1
    have hr0 : r.getD i 0 ≠ 0 := of_decide_eq_true (List.mem_filter.mp (show r ∈ s.L.filter (fun r => decide (r.getD i 0 ≠ 0)) by rw [hf]; exact List.mem_cons_self)).2
    obtain ⟨hr1, hr2⟩ := hL r hr
    have hm : r.getD i 0 % p ≠ 0 := by
      have hx : r.getD i 0 ∈ r := by
        rw [List.getD_eq_getElem?_getD, List.getElem?_eq_getElem (by rw [hr2]; exact hi)]
        exact List.getElem_mem _
      obtain ⟨a, b⟩ := (okW_iff.mp hr1).2 _ hx
      rw [Int.emod_eq_of_lt a b]
      exact hr0
    have hh := okR_head (at_ := i) hp' ⟨hr1, hr2⟩
    have e1 := Finverse_run hp hm
    have e2 := FscW_run (a := invP p (r.getD i 0)) hp' hr1
    have e3 := wd_ix (r := r) (k := i) (by rw [hr2]; exact hi)
    have tr : truO (.lst ((r :: rs).map Wd)) = some true := rfl
    rw [tr, R.of_some, R.stmt_ok, if_pos rfl]
    -- head
    have e4 : (funE 3 (aCons (op2 (varE 7) (cE (.int 0)) ixO) (aCons (funE 2 (aCons (op2 (op2 (varE 7) (cE (.int 0)) ixO) (varE 6) ixO) (aCons (varE 2) aNil)) Finverse) (aCons (varE 2) aNil))) FscW) (redSt d n p s ld (.im (.int i)) (.im (.lst ((r :: rs).map Wd))) y8 y9) = .ok (Wd (redHead p i r)) (redSt d n p s ld (.im (.int i)) (.im (.lst ((r :: rs).map Wd))) y8 y9) := by
      unfold redHead
      have a0 : atI (Wd r :: rs.map Wd) 0 = some (Wd r) := atI_ofNat (Wd r :: rs.map Wd) 0
      generalize r.getD i 0 = z at *
      simp [redSt, a0, e3, e1, e2]
    rw [seqS_run, asgS_run', e4, R.stmt_ok, seq_nx]
    have hS2 : ({ sl := (redSt d n p s ld (.im (.int i)) (.im (.lst ((r :: rs).map Wd))) y8 y9).sl.set 8 (.im (Wd (redHead p i r))), mo := (redSt d n p s ld (.im (.int i)) (.im (.lst ((r :: rs).map Wd))) y8 y9).mo } : Ms) = { sl := [.im d, .im (.int n), .im (.int p), .im (.lst (s.T.map Wd)), .mu 0, .im ld, .im (.int i), .im (.lst ((r :: rs).map Wd)), .im (Wd (redHead p i r)), y9], mo := [.ob (.ls (s.P.map fun (c : Nat) => Dt.int (c : Int)))] } := rfl
    rw [hS2]
    -- table
    have e5 := lcF_clr (d := d) (td := .lst (s.T.map Wd)) (ld := ld) (x7 := .lst ((r :: rs).map Wd)) (mo := [.ob (.ls (s.P.map fun (c : Nat) => Dt.int (c : Int)))]) (x9 := y9) hp' hT hh hi (by omega) 3 rfl (by simp)
    rw [seqS_run, asgS_run', frz_run', opN_run, frz_run', e5, R.bind_ok, R.bind_ok, frz_run', lstE_run, aCons_run, varE_im (i := 8) rfl, R.bind_ok, aNil_run, R.bind_ok, R.bind_ok]
    have hl1 : ([Wd (redHead p i r)] : List Dt).length ≤ 100000 := by simp
    rw [if_pos hl1, R.bind_ok, R.bind_ok]
    have hcat : catL (.lst ((s.T.map (clr p (redHead p i r) i)).map Wd)) (.lst [Wd (redHead p i r)]) = some ((s.T.map (clr p (redHead p i r) i) ++ [redHead p i r]).map Wd) := by
      have hl2 : ((s.T.map (clr p (redHead p i r) i)).map Wd).length + ([Wd (redHead p i r)] : List Dt).length ≤ 100000 := by simp; omega
      show (if _ then _ else _) = _
      rw [if_pos hl2]
      simp
    rw [hcat, R.of_some, R.bind_ok, R.stmt_ok, seq_nx]
    -- left
    have e6 := lcF_clr (d := d) (td := .lst ((s.T.map (clr p (redHead p i r) i) ++ [redHead p i r]).map Wd)) (ld := ld) (x7 := .lst ((r :: rs).map Wd)) (mo := [.ob (.ls (s.P.map fun (c : Nat) => Dt.int (c : Int)))]) (x9 := y9) hp' hL hh hi (by omega) 5 rfl (by simp [hd])
    have hS3 : ({ sl := ([.im d, .im (.int n), .im (.int p), .im (.lst (s.T.map Wd)), .mu 0, .im ld, .im (.int i), .im (.lst ((r :: rs).map Wd)), .im (Wd (redHead p i r)), y9] : List Sv).set 3 (.im (.lst ((s.T.map (clr p (redHead p i r) i) ++ [redHead p i r]).map Wd))), mo := [.ob (.ls (s.P.map fun (c : Nat) => Dt.int (c : Int)))] } : Ms) =
      { sl := [.im d, .im (.int n), .im (.int p), .im (.lst ((s.T.map (clr p (redHead p i r) i) ++ [redHead p i r]).map Wd)), .mu 0, .im ld, .im (.int i), .im (.lst ((r :: rs).map Wd)), .im (Wd (redHead p i r)), y9], mo := [.ob (.ls (s.P.map fun (c : Nat) => Dt.int (c : Int)))] } := rfl
    rw [hS3, seqS_run, asgS_run', frz_run', e6, R.bind_ok, R.stmt_ok, seq_nx]
    -- pivots
    refine ⟨.lst ((s.L.map (clr p (redHead p i r) i)).map Wd), .im (.lst ((r :: rs).map Wd)), .im (Wd (redHead p i r)), y9, ?_, rfl⟩
    rw [appS_run]
    rw [muAt_run (k := 0) (xs := s.P.map fun (c : Nat) => Dt.int (c : Int)) rfl rfl]
    dsimp only
    rw [varE_im (i := 6) (d := .int i) rfl, R.stmt_ok, muAt_run (k := 0) (xs := s.P.map fun (c : Nat) => Dt.int (c : Int)) rfl rfl]
    dsimp only
    rw [if_pos (by simp; omega)]
    simp [redSt]
theorem run_reduced (ds : List Dt) (h : Freduced ds ≠ .no) : runD 10 m_reduced ds = Freduced ds := by
  unfold Freduced at h
  split at h
  · rename_i d w p
    split at h
    · rename_i rows hrows
      split at h
      · rename_i hc
        simp only [Bool.and_eq_true, decide_eq_true_eq] at hc
        obtain ⟨⟨⟨hp, hw⟩, hl⟩, hk⟩ := hc
        obtain ⟨n, rfl⟩ : ∃ k : Nat, w = (k : Int) := ⟨w.toNat, by omega⟩
        rw [Int.toNat_natCast] at hk
        have hok := okRb_iff.mp hk
        obtain ⟨xs, hx1, hx2⟩ := Option.bind_eq_some_iff.mp hrows
        have hx3 := wordsOf_eq hx2
        subst hx3
        have hn : n ≤ 1000 := by omega
        rw [Freduced_run hx1 hp hn hl hok]
        have hp' := isP_okP hp
        have hlen := fun k => redN_lens (p := p) (rows := rows) k
        have hoks := fun k => redN_ok (n := n) hp' hok k
        have hit : itR1 (aCons (varE 1) aNil) (redSt d n p ⟨[], [], rows⟩ d .no .no .no .no) = .ok ((List.range n).map fun (k : Nat) => Dt.int (k : Int)) (redSt d n p ⟨[], [], rows⟩ d .no .no .no .no) := by
          have := itR1_run (fs := aCons (varE 1) aNil) (S := redSt d n p ⟨[], [], rows⟩ d .no .no .no .no) (S1 := redSt d n p ⟨[], [], rows⟩ d .no .no .no .no) (n := n) (by simp [redSt]) (by omega)
          simpa using this
        obtain ⟨S', hS', ld', x6, x7, x8, x9, hI, hseq⟩ := forL_inv (k := (Tk.nm 6).k) (body := redBody) ((List.range n).map fun (k : Nat) => Dt.int (k : Int))
          (fun i S => ∃ ld x6 x7 x8 x9, S = redSt d n p (redN p rows i) ld x6 x7 x8 x9 ∧ seqOf ld = some ((redN p rows i).L.map Wd)) (redSt d n p ⟨[], [], rows⟩ d .no .no .no .no) ⟨d, .no, .no, .no, .no, rfl, hx1⟩
          (fun i e S hi hI => by
            obtain ⟨ld, x6, x7, x8, x9, rfl, hseq⟩ := hI
            rw [List.getElem?_map] at hi
            have hin : i < n := by
              rcases Nat.lt_or_ge i n with h | h
              · exact h
              · rw [List.getElem?_eq_none (by simpa using h)] at hi
                cases hi
            rw [List.getElem?_range hin] at hi
            cases hi
            have l1 := hlen i
            obtain ⟨ld', y7, y8, y9, r1, r2⟩ := redBody_run (d := d) (s := redN p rows i) (y7 := x7) (y8 := x8) (y9 := x9) hp hn hin (hoks i).1 (hoks i).2 (by omega) (by omega) (by omega) hseq
            exact ⟨_, _, kNm _ _ _, Or.inl r1, ld', .im (.int i), y7, y8, y9, rfl, r2⟩)
        rw [List.length_map, List.length_range] at hI hseq
        have l1 := hlen n
        have hS0 : st0 10 [d, .int (n : Int), .int p] = { sl := [.im d, .im (.int n), .im (.int p), .no, .no, .no, .no, .no, .no, .no], mo := [] } := rfl
        unfold runD
        rw [hS0]
        have hm : m_reduced = seqS (asgS 3 (frz (lstE aNil))) (seqS (asgN 4 (lstE aNil)) (seqS (moveS 5 0) (seqS (forS (itR1 (aCons (varE 1) aNil)) (Tk.nm 6).k redBody) (retS (tupE (aCons (calE (aCons (varE 3) aNil) tupO) (aCons (calE (aCons (varE 4) aNil) tupO) aNil))))))) := rfl
        have hpre : ∀ k, seqS (asgS 3 (frz (lstE aNil))) (seqS (asgN 4 (lstE aNil)) (seqS (moveS 5 0) k)) { sl := [.im d, .im (.int n), .im (.int p), .no, .no, .no, .no, .no, .no, .no], mo := [] } = k (redSt d n p ⟨[], [], rows⟩ d .no .no .no .no) := fun k => by
          simp [redSt]
          rfl
        rw [hm, hpre, seqS_run, forS_run, hit, R.stmt_ok, hS', seq_nx, hI]
        simp [redSt, redD]
        rfl
      · exact absurd rfl h
    · exact absurd rfl h
  · exact absurd rfl h
end Lq

namespace Lq
open PySem PySem.Spec PyProof.Rows L2
theorem forL_fold {α σ : Type} {k : Dt → Ms → Option Ms} {body : Ms → O} (enc : α → Dt) (I : Nat → σ → Ms → Prop) (g : σ → α → σ) : ∀ (xs : List α) (i : Nat) (q : σ) (S : Ms), I i q S →
    (∀ j q x S, x ∈ xs → j < i + xs.length → I j q S → ∃ S1 S2, k (enc x) S = some S1 ∧ (body S1 = .nx S2 ∨ body S1 = .ct S2) ∧ I (j + 1) (g q x) S2) → ∃ S', forL k body (xs.map enc) S = .nx S' ∧ I (i + xs.length) (xs.foldl g q) S'
  | [], i, q, S, h, _ => ⟨S, rfl, h⟩
  | x :: xs, i, q, S, h, hs => by
    have hl : (x :: xs).length = xs.length + 1 := rfl
    obtain ⟨S1, S2, h1, h2, h3⟩ := hs i q x S List.mem_cons_self (by omega) h
    obtain ⟨S', e1, e2⟩ := forL_fold enc I g xs (i + 1) (g q x) S2 h3 (fun j q y S hy hj hI => hs j q y S (List.mem_cons_of_mem _ hy) (by omega) hI)
    refine ⟨S', ?_, ?_⟩
    · rw [List.map_cons]
      unfold forL
      rw [h1]
      dsimp only
      rcases h2 with h2 | h2 <;> rw [h2] <;> exact e1
    · rw [hl, Nat.add_comm xs.length 1, ← Nat.add_assoc]
      exact e2
def insW (ws : List (List Int)) (w : List Int) : List (List Int) := if w ∈ ws then ws else ws ++ [w]
theorem insW_mem {ws : List (List Int)} {w x : List Int} : x ∈ insW ws w ↔ x ∈ ws ∨ x = w := by
  unfold insW
  split
  · rename_i h
    exact ⟨.inl, fun q => q.elim id fun e => e ▸ h⟩
  · simp
theorem insW_nd {ws : List (List Int)} {w : List Int} (h : ws.Nodup) : (insW ws w).Nodup := by
  unfold insW
  split
  · exact h
  · rename_i hw
    rw [List.nodup_append]
    refine ⟨h, List.nodup_cons.mpr ⟨List.not_mem_nil, List.nodup_nil⟩, fun a ha b hb => ?_⟩
    rw [List.mem_singleton] at hb
    rintro rfl
    exact hw (hb ▸ ha)
def inn (p : Int) (r w : List Int) (acc : List (List Int)) : List (List Int) := (List.range p.toNat).foldl (fun acc (a : Nat) => insW acc (addW p w (scW p (a : Int) r))) acc
def widen (p : Int) (r : List Int) (ws : List (List Int)) : List (List Int) := ws.foldl (fun acc w => inn p r w acc) []
def spanL (p : Int) (n : Nat) (rows : List (List Int)) : List (List Int) := rows.foldl (fun ws r => widen p r ws) [List.replicate n 0]
theorem foldl_insW_mem {α : Type} (f : α → List Int) {y : List Int} : ∀ (xs : List α) (acc : List (List Int)), y ∈ xs.foldl (fun acc a => insW acc (f a)) acc ↔ y ∈ acc ∨ ∃ a ∈ xs, y = f a
  | [], acc => by simp
  | x :: xs, acc => by
    rw [List.foldl_cons, foldl_insW_mem f xs, insW_mem]
    simp only [List.mem_cons, exists_eq_or_imp, or_assoc]
theorem foldl_insW_nd {α : Type} (f : α → List Int) : ∀ (xs : List α) (acc : List (List Int)), acc.Nodup → (xs.foldl (fun acc a => insW acc (f a)) acc).Nodup
  | [], acc, h => h
  | x :: xs, acc, h => by
    rw [List.foldl_cons]
    exact foldl_insW_nd f xs _ (insW_nd h)
theorem inn_mem {p : Int} {r w y : List Int} {acc : List (List Int)} : y ∈ inn p r w acc ↔ y ∈ acc ∨ ∃ a : Nat, a < p.toNat ∧ y = addW p w (scW p (a : Int) r) := by
  unfold inn
  rw [foldl_insW_mem (fun (a : Nat) => addW p w (scW p (a : Int) r))]
  simp [List.mem_range]
theorem widen_aux_mem {p : Int} {r y : List Int} : ∀ (ws acc : List (List Int)), y ∈ ws.foldl (fun acc w => inn p r w acc) acc ↔ y ∈ acc ∨ ∃ w ∈ ws, ∃ a : Nat, a < p.toNat ∧ y = addW p w (scW p (a : Int) r)
  | [], acc => by simp
  | w :: ws, acc => by
    rw [List.foldl_cons, widen_aux_mem ws, inn_mem]
    simp only [List.mem_cons, exists_eq_or_imp, or_assoc]
theorem widen_mem {p : Int} {r y : List Int} {ws : List (List Int)} : y ∈ widen p r ws ↔ ∃ w ∈ ws, ∃ a : Nat, a < p.toNat ∧ y = addW p w (scW p (a : Int) r) := by
  unfold widen
  rw [widen_aux_mem]
  simp
theorem widen_aux_nd {p : Int} {r : List Int} : ∀ (ws acc : List (List Int)), acc.Nodup → (ws.foldl (fun acc w => inn p r w acc) acc).Nodup
  | [], acc, h => h
  | w :: ws, acc, h => by
    rw [List.foldl_cons]
    exact widen_aux_nd ws _ (foldl_insW_nd _ _ _ h)
theorem widen_nd {p : Int} {r : List Int} {ws : List (List Int)} : (widen p r ws).Nodup := widen_aux_nd ws [] List.nodup_nil
theorem okR_widen {p : Int} {n : Nat} {r : List Int} {ws : List (List Int)} (hp : okP p = true) (hr : okW p r = true ∧ r.length = n) (h : okR p n ws) : okR p n (widen p r ws) := fun y hy => by
  obtain ⟨w, hw, a, ha, rfl⟩ := widen_mem.mp hy
  obtain ⟨h1, h2⟩ := h w hw
  exact ⟨okW_addW hp h1, by rw [addW_len _ _ _ (by rw [scW_len, h2, hr.2]), h2]⟩

theorem spanL_ok {p : Int} {n : Nat} {rows : List (List Int)} (hp : okP p = true) (hn : n ≤ 1000) (h : okR p n rows) : okR p n (spanL p n rows) := by
  have h0 : okR p n [List.replicate n 0] := fun r hr => by
    rw [List.mem_singleton] at hr
    subst hr
    refine ⟨okW_iff.mpr ⟨by simpa using hn, fun x hx => ?_⟩, by simp⟩
    have := (List.mem_replicate.mp hx).2
    have := (okP_iff.mp hp).1
    omega
  have : ∀ (rows ws : List (List Int)), okR p n rows → okR p n ws → okR p n (rows.foldl (fun ws r => widen p r ws) ws) := by
    intro rows
    induction rows with
    | nil => exact fun ws _ h => h
    | cons r rows ih => exact fun ws h1 h2 => ih _ (fun x hx => h1 x (List.mem_cons_of_mem _ hx)) (okR_widen hp (h1 r List.mem_cons_self) h2)
  exact this rows _ h h0
theorem spanL_nd {p : Int} {n : Nat} {rows : List (List Int)} : (spanL p n rows).Nodup := by
  have : ∀ (rows ws : List (List Int)), ws.Nodup → (rows.foldl (fun ws r => widen p r ws) ws).Nodup := by
    intro rows
    induction rows with
    | nil => exact fun ws h => h
    | cons r rows ih => exact fun ws h => ih _ widen_nd
  exact this rows _ (by simp)
end Lq

namespace Lq
open PySem PySem.Spec PyProof.Rows L2
def g (v : List Int) (j : Nat) : Int := v.getD j 0
def ok1 (p : Int) (n : Nat) (v : List Int) : Prop := okW p v = true ∧ v.length = n
theorem g_lt {p : Int} {n : Nat} {v : List Int} (h : ok1 p n v) {j : Nat} (hj : j < n) : 0 ≤ g v j ∧ g v j < p := by
  have hl := h.2
  have hj' : j < v.length := by omega
  unfold g
  rw [List.getD_eq_getElem?_getD, List.getElem?_eq_getElem hj']
  exact (okW_iff.mp h.1).2 _ (List.getElem_mem _)
theorem g_mod {p : Int} {n : Nat} {v : List Int} (h : ok1 p n v) {j : Nat} (hj : j < n) : g v j % p = g v j := Int.emod_eq_of_lt (g_lt h hj).1 (g_lt h hj).2
theorem g_ext {n : Nat} {v w : List Int} (hv : v.length = n) (hw : w.length = n) (h : ∀ j < n, g v j = g w j) : v = w := by
  apply List.ext_getElem (by omega)
  intro j h1 h2
  have := h j (by omega)
  unfold g at this
  rw [List.getD_eq_getElem?_getD, List.getD_eq_getElem?_getD, List.getElem?_eq_getElem h1, List.getElem?_eq_getElem h2] at this
  exact this
theorem g_zero {n j : Nat} : g (List.replicate n 0) j = 0 := by
  unfold g
  rw [List.getD_eq_getElem?_getD, List.getElem?_replicate]
  split <;> rfl
theorem g_sc {p a : Int} {v : List Int} {n j : Nat} (hv : v.length = n) (hj : j < n) : g (scW p a v) j = g v j * a % p := by
  unfold g scW
  have hj' : j < v.length := by omega
  rw [List.getD_eq_getElem?_getD, List.getD_eq_getElem?_getD, List.getElem?_map, List.getElem?_eq_getElem hj']
  rfl
def lin (p : Int) (v w : List Int) (a : Int) : List Int := addW p v (scW p a w)
theorem lin_len {p a : Int} {v w : List Int} {n : Nat} (hv : v.length = n) (hw : w.length = n) : (lin p v w a).length = n := by
  unfold lin
  rw [addW_len _ _ _ (by rw [scW_len, hv, hw]), hv]
theorem emod_lin (p x y a : Int) : (x + y * a % p) % p = (x + y * a) % p := Int.add_emod_emod _ _ _
theorem g_lin {p a : Int} {v w : List Int} {n j : Nat} (hv : v.length = n) (hw : w.length = n) (hj : j < n) : g (lin p v w a) j = (g v j + g w j * a) % p := by
  have h2 := g_sc (p := p) (a := a) hw hj
  unfold lin
  rw [← emod_lin, ← h2]
  unfold g addW
  have h1 : j < v.length := by omega
  have h3 : j < (scW p a w).length := by rw [scW_len]; omega
  rw [List.getD_eq_getElem?_getD, List.getD_eq_getElem?_getD, List.getD_eq_getElem?_getD, List.getElem?_zipWith, List.getElem?_eq_getElem h1, List.getElem?_eq_getElem h3]
  rfl
theorem ok_lin {p a : Int} {v w : List Int} {n : Nat} (hp : okP p = true) (hv : ok1 p n v) (hw : ok1 p n w) : ok1 p n (lin p v w a) := ⟨okW_addW hp hv.1, lin_len hv.2 hw.2⟩
theorem ok_zero {p : Int} {n : Nat} (hp : okP p = true) (hn : n ≤ 1000) : ok1 p n (List.replicate n 0) := by
  refine ⟨okW_iff.mpr ⟨by simpa using hn, fun x hx => ?_⟩, by simp⟩
  have := (List.mem_replicate.mp hx).2
  have := (okP_iff.mp hp).1
  omega
theorem clr_lin (p : Int) (h : List Int) (at_ : Nat) (r : List Int) : clr p h at_ r = lin p r h (-(g r at_)) := rfl
theorem m1 (p u x a : Int) : (u + x % p * a) % p = (u + x * a) % p := by
  rw [Int.add_emod, Int.mul_emod, Int.emod_emod, ← Int.mul_emod, ← Int.add_emod]
inductive Sp (p : Int) (n : Nat) (rows : List (List Int)) : List Int → Prop
  | zero : Sp p n rows (List.replicate n 0)
  | step {w r : List Int} (a : Int) : Sp p n rows w → r ∈ rows → Sp p n rows (lin p w r a)
section
variable {p : Int} {n : Nat} {rows : List (List Int)}
theorem Sp_ok (hp : okP p = true) (hn : n ≤ 1000) (h : okR p n rows) {y : List Int} (q : Sp p n rows y) : ok1 p n y := by
  induction q with
  | zero => exact ok_zero hp hn
  | step a _ hr ih => exact ok_lin hp ih (h _ hr)
theorem lin_zero {u : List Int} {a : Int} (hu : ok1 p n u) : lin p u (List.replicate n 0) a = u := by
  refine g_ext (lin_len hu.2 (by simp)) hu.2 fun j hj => ?_
  rw [g_lin hu.2 (by simp) hj, g_zero, Int.zero_mul, Int.add_zero, g_mod hu hj]
theorem lin_none {u w : List Int} (hu : ok1 p n u) (hw : w.length = n) : lin p u w 0 = u := by
  refine g_ext (lin_len hu.2 hw) hu.2 fun j hj => ?_
  rw [g_lin hu.2 hw hj, Int.mul_zero, Int.add_zero, g_mod hu hj]
theorem zero_lin {u : List Int} (hu : ok1 p n u) : lin p (List.replicate n 0) u 1 = u := by
  refine g_ext (lin_len (by simp) hu.2) hu.2 fun j hj => ?_
  rw [g_lin (by simp) hu.2 hj, g_zero, Int.mul_one, Int.zero_add, g_mod hu hj]
theorem lin_lin {u v r : List Int} {a b : Int} (hu : u.length = n) (hv : v.length = n) (hr : r.length = n) : lin p u (lin p v r b) a = lin p (lin p u v a) r (b * a) := by
  refine g_ext (lin_len hu (lin_len hv hr)) (lin_len (lin_len hu hv) hr) fun j hj => ?_
  rw [g_lin hu (lin_len hv hr) hj, g_lin hv hr hj, g_lin (lin_len hu hv) hr hj, g_lin hu hv hj, m1, Int.emod_add_emod, Int.add_mul, Int.mul_assoc, Int.add_assoc]
theorem lin_swap {u v r : List Int} {a b : Int} (hu : u.length = n) (hv : v.length = n) (hr : r.length = n) : lin p (lin p u v a) r b = lin p (lin p u r b) v a := by
  refine g_ext (lin_len (lin_len hu hv) hr) (lin_len (lin_len hu hr) hv) fun j hj => ?_
  rw [g_lin (lin_len hu hv) hr hj, g_lin hu hv hj, g_lin (lin_len hu hr) hv hj, g_lin hu hr hj, Int.emod_add_emod, Int.emod_add_emod]
  congr 1
  omega
theorem lin_twice {u v : List Int} {a b : Int} (hu : u.length = n) (hv : v.length = n) : lin p (lin p u v b) v a = lin p u v (b + a) := by
  refine g_ext (lin_len (lin_len hu hv) hv) (lin_len hu hv) fun j hj => ?_
  rw [g_lin (lin_len hu hv) hv hj, g_lin hu hv hj, g_lin hu hv hj, Int.emod_add_emod, Int.mul_add, Int.add_assoc]
theorem lin_emod {u v : List Int} {a : Int} (hu : u.length = n) (hv : v.length = n) : lin p u v (a % p) = lin p u v a := by
  refine g_ext (lin_len hu hv) (lin_len hu hv) fun j hj => ?_
  rw [g_lin hu hv hj, g_lin hu hv hj, Int.add_emod, Int.mul_emod, Int.emod_emod, ← Int.mul_emod, ← Int.add_emod]
theorem Sp_row (hp : okP p = true) (h : okR p n rows) {r : List Int} (hr : r ∈ rows) : Sp p n rows r := by
  have := Sp.step (p := p) (n := n) (rows := rows) 1 .zero hr
  rwa [zero_lin (h r hr)] at this
theorem Sp_lin (hp : okP p = true) (hn : n ≤ 1000) (h : okR p n rows) {u v : List Int} {a : Int} (hu : Sp p n rows u) (hv : Sp p n rows v) : Sp p n rows (lin p u v a) := by
  induction hv with
  | zero => rw [lin_zero (Sp_ok hp hn h hu)]; exact hu
  | @step w r b hw hr ih =>
    rw [lin_lin (Sp_ok hp hn h hu).2 (Sp_ok hp hn h hw).2 (h r hr).2]
    exact .step _ ih hr
theorem Sp_of (hp : okP p = true) (hn : n ≤ 1000) {rows' : List (List Int)} (h : okR p n rows') (hs : ∀ r ∈ rows, Sp p n rows' r) {y : List Int} (q : Sp p n rows y) : Sp p n rows' y := by
  induction q with
  | zero => exact .zero
  | step a _ hr ih => exact Sp_lin hp hn h ih (hs _ hr)
theorem spanL_snoc (p : Int) (n : Nat) (rows : List (List Int)) (r : List Int) : spanL p n (rows ++ [r]) = widen p r (spanL p n rows) := by
  unfold spanL
  rw [List.foldl_append]
  rfl
theorem spanL_Sp {R : List (List Int)} : ∀ rows : List (List Int), (∀ r ∈ rows, r ∈ R) → ∀ ws : List (List Int), (∀ w ∈ ws, Sp p n R w) → ∀ w ∈ rows.foldl (fun ws r => widen p r ws) ws, Sp p n R w
  | [], _, ws, hw => hw
  | r :: rows, hr, ws, hw => by
    rw [List.foldl_cons]
    refine spanL_Sp rows (fun x hx => hr x (List.mem_cons_of_mem _ hx)) _ fun y hy => ?_
    obtain ⟨w, h1, a, _, rfl⟩ := widen_mem.mp hy
    exact .step _ (hw w h1) (hr r List.mem_cons_self)
theorem spanL_cl (hp : okP p = true) (hn : n ≤ 1000) : ∀ R : List (List Int), okR p n R → List.replicate n 0 ∈ spanL p n R.reverse ∧ ∀ w ∈ spanL p n R.reverse, ∀ r ∈ R, ∀ a : Int, lin p w r a ∈ spanL p n R.reverse
  | [], _ => ⟨by simp [spanL], fun w _ r hr => absurd hr List.not_mem_nil⟩
  | r' :: R, h => by
    have hp1 := (okP_iff.mp hp).1
    have hR : okR p n R := fun x hx => h x (List.mem_cons_of_mem _ hx)
    have hr' := h r' List.mem_cons_self
    obtain ⟨i1, i2⟩ := spanL_cl hp hn R hR
    have hok := spanL_ok (rows := R.reverse) hp hn (fun x hx => hR x (List.mem_reverse.mp hx))
    rw [List.reverse_cons, spanL_snoc]
    constructor
    · refine widen_mem.mpr ⟨_, i1, 0, by omega, ?_⟩
      exact (lin_none (ok_zero hp hn) hr'.2).symm
    · intro w hw r hr a
      obtain ⟨w', hw', b, hb, rfl⟩ := widen_mem.mp hw
      have hok' := hok w' hw'
      show lin p (lin p w' r' (b : Int)) r a ∈ _
      rcases List.mem_cons.mp hr with rfl | hr
      · rw [lin_twice hok'.2 hr'.2, ← lin_emod hok'.2 hr'.2]
        have h1 : 0 ≤ ((b : Int) + a) % p := Int.emod_nonneg _ (by omega)
        have h2 : ((b : Int) + a) % p < p := Int.emod_lt_of_pos _ hp1
        refine widen_mem.mpr ⟨w', hw', (((b : Int) + a) % p).toNat, by omega, ?_⟩
        rw [Int.toNat_of_nonneg h1]
        rfl
      · rw [lin_swap hok'.2 hr'.2 (hR r hr).2]
        exact widen_mem.mpr ⟨_, i2 w' hw' r hr a, b, hb, rfl⟩
theorem spanL_iff (hp : okP p = true) (hn : n ≤ 1000) (h : okR p n rows) {y : List Int} : y ∈ spanL p n rows ↔ Sp p n rows y := by
  constructor
  · exact spanL_Sp rows (fun _ h => h) _ (fun w hw => by rw [List.mem_singleton] at hw; subst hw; exact .zero) y
  · intro q
    obtain ⟨h1, h2⟩ := spanL_cl hp hn rows.reverse (fun x hx => h x (List.mem_reverse.mp hx))
    rw [List.reverse_reverse] at h1 h2
    induction q with
    | zero => exact h1
    | step a _ hr ih => exact h2 _ ih _ (List.mem_reverse.mpr hr) a
theorem sort_eq {a b : List (List Int)} (ha : a.Nodup) (hb : b.Nodup) (h : ∀ x, x ∈ a ↔ x ∈ b) : sortW a = sortW b := by
  have hp : (sortW a).Perm (sortW b) := ((List.mergeSort_perm _ _).trans ((List.perm_ext_iff_of_nodup ha hb).mpr h)).trans (List.mergeSort_perm _ _).symm
  have st : ∀ l : List (List Int), List.Pairwise (fun a b => decide (a ≤ b) = true) (sortW l) := fun l => List.pairwise_mergeSort (le := fun a b => decide (a ≤ b)) (fun a b c h1 h2 => decide_eq_true (List.le_trans (of_decide_eq_true h1) (of_decide_eq_true h2))) (fun a b => by
    rcases List.le_total a b with h | h
    · simp [h]
    · simp [h]) l
  exact hp.eq_of_pairwise (fun a b _ _ h1 h2 => List.le_antisymm (of_decide_eq_true h1) (of_decide_eq_true h2)) (st a) (st b)
theorem sortW_len (a : List (List Int)) : (sortW a).length = a.length := (List.mergeSort_perm _ _).length_eq
theorem nodup_map_on {α β : Type} {f : α → β} {l : List α} (h : l.Nodup) (hf : ∀ a ∈ l, ∀ b ∈ l, f a = f b → a = b) : (l.map f).Nodup := by
  induction l with
  | nil => exact List.nodup_nil
  | cons a l ih =>
    rw [List.map_cons, List.nodup_cons]
    obtain ⟨h1, h2⟩ := List.nodup_cons.mp h
    refine ⟨fun hm => ?_, ih h2 fun x hx y hy => hf x (List.mem_cons_of_mem _ hx) y (List.mem_cons_of_mem _ hy)⟩
    obtain ⟨b, hb, e⟩ := List.mem_map.mp hm
    have := hf b (List.mem_cons_of_mem _ hb) a List.mem_cons_self e
    exact h1 (this ▸ hb)
end
end Lq

namespace Lq
open PySem PySem.Spec PyProof.Rows L2
def tk (T : List (List Int)) (k : Nat) : List Int := T.getD k []
def pk (P : List Nat) (k : Nat) : Nat := P.getD k 0
structure Rr (at_ : Nat) (T : List (List Int)) (P : List Nat) : Prop where
  len : T.length = P.length
  lt : ∀ k < P.length, pk P k < at_
  asc : ∀ i k, i < k → k < P.length → pk P i < pk P k
  one : ∀ k < P.length, g (tk T k) (pk P k) = 1
  zro : ∀ j k, j < P.length → k < P.length → j ≠ k → g (tk T j) (pk P k) = 0
  low : ∀ k < P.length, ∀ c < pk P k, g (tk T k) c = 0
theorem tk_mem {T : List (List Int)} {k : Nat} (h : k < T.length) : tk T k ∈ T := by
  unfold tk
  rw [List.getD_eq_getElem?_getD, List.getElem?_eq_getElem h]
  exact List.getElem_mem _
theorem mem_tk {T : List (List Int)} {r : List Int} (h : r ∈ T) : ∃ k < T.length, tk T k = r := by
  obtain ⟨k, hk, e⟩ := List.getElem_of_mem h
  refine ⟨k, hk, ?_⟩
  unfold tk
  rw [List.getD_eq_getElem?_getD, List.getElem?_eq_getElem hk]
  exact e
theorem tk_map {T : List (List Int)} {f : List Int → List Int} {h : List Int} {k : Nat} (hk : k < T.length) : tk (T.map f ++ [h]) k = f (tk T k) := by
  unfold tk
  rw [List.getD_eq_getElem?_getD, List.getD_eq_getElem?_getD, List.getElem?_append_left (by simpa using hk), List.getElem?_map, List.getElem?_eq_getElem hk]
  rfl
theorem tk_last {T : List (List Int)} {h : List Int} : tk (T ++ [h]) T.length = h := by
  unfold tk
  rw [List.getD_eq_getElem?_getD, List.getElem?_concat_length]
  rfl
theorem pk_app {P : List Nat} {a k : Nat} (hk : k < P.length) : pk (P ++ [a]) k = pk P k := by
  unfold pk
  rw [List.getD_eq_getElem?_getD, List.getD_eq_getElem?_getD, List.getElem?_append_left hk]
theorem pk_last {P : List Nat} {a : Nat} : pk (P ++ [a]) P.length = a := by
  unfold pk
  rw [List.getD_eq_getElem?_getD, List.getElem?_concat_length]
  rfl
structure RI (p : Int) (n at_ : Nat) (rows : List (List Int)) (s : Red) : Prop where
  rr : Rr at_ s.T s.P
  zl : ∀ r ∈ s.L, ∀ c < at_, g r c = 0
  sp : ∀ y, Sp p n (s.T ++ s.L) y ↔ Sp p n rows y
section
variable {p : Int} {n at_ : Nat} {rows : List (List Int)} {s : Red}
theorem g_clr {h q : List Int} {c : Nat} (hh : ok1 p n h) (hq : ok1 p n q) (hc : c < n) : g (clr p h at_ q) c = (g q c + g h c * -(g q at_)) % p := by
  rw [clr_lin, g_lin hq.2 hh.2 hc]
theorem okR_app {A B : List (List Int)} (h1 : okR p n A) (h2 : okR p n B) : okR p n (A ++ B) := fun r hr => by
  rcases List.mem_append.mp hr with h | h
  · exact h1 r h
  · exact h2 r h
theorem RI_step (hp : isP p = true) (hn : n ≤ 1000) (hT : okR p n s.T) (hL : okR p n s.L) (hat : at_ < n) (h : RI p n at_ rows s) : RI p n (at_ + 1) rows (redStep p s at_) := by
  have hp' := isP_okP hp
  have hp1 := (okP_iff.mp hp').1
  have hst := redStep_ok (at_ := at_) hp' hT hL
  revert hst
  unfold redStep
  cases hf : s.L.filter fun r => decide (r.getD at_ 0 ≠ 0) with
  | nil =>
    intro _
    refine ⟨⟨h.rr.len, fun k hk => Nat.lt_succ_of_lt (h.rr.lt k hk), h.rr.asc, h.rr.one, h.rr.zro, h.rr.low⟩, fun r hr c hc => ?_, h.sp⟩
    rcases Nat.lt_or_ge c at_ with h1 | h1
    · exact h.zl r hr c h1
    · have hca : c = at_ := by omega
      subst hca
      rw [List.filter_eq_nil_iff] at hf
      have := hf r hr
      simpa [g] using this
  | cons r rs =>
    intro hst
    dsimp only at hst ⊢
    have hr : r ∈ s.L := (List.mem_filter.mp (by rw [hf]; exact List.mem_cons_self)).1
    have hr0 : g r at_ ≠ 0 := of_decide_eq_true (List.mem_filter.mp (show r ∈ s.L.filter (fun r => decide (r.getD at_ 0 ≠ 0)) by rw [hf]; exact List.mem_cons_self)).2
    have hrk := hL r hr
    have hm : g r at_ % p ≠ 0 := by rw [g_mod hrk hat]; exact hr0
    have hh : ok1 p n (redHead p at_ r) := okR_head hp' hrk
    have gh : ∀ c < n, g (redHead p at_ r) c = g r c * invP p (g r at_) % p := fun c hc => g_sc hrk.2 hc
    have gh0 : ∀ c < at_, g (redHead p at_ r) c = 0 := fun c hc => by rw [gh c (by omega), h.zl r hr c hc, Int.zero_mul]; exact Int.zero_emod _
    have gh1 : g (redHead p at_ r) at_ = 1 := by rw [gh at_ hat]; exact invP_mul hp hm
    have gl : ∀ q, ok1 p n q → ∀ c < at_, g (clr p (redHead p at_ r) at_ q) c = g q c := fun q hq c hc => by
      rw [g_clr hh hq (by omega), gh0 c hc, Int.zero_mul, Int.add_zero, g_mod hq (by omega)]
    have ga : ∀ q, ok1 p n q → g (clr p (redHead p at_ r) at_ q) at_ = 0 := fun q hq => by
      rw [g_clr hh hq hat, gh1, Int.one_mul, Int.add_right_neg]
      exact Int.zero_emod _
    have hlen : s.T.length = s.P.length := h.rr.len
    have tkT : ∀ k, k < s.P.length → tk (s.T.map (clr p (redHead p at_ r) at_) ++ [redHead p at_ r]) k = clr p (redHead p at_ r) at_ (tk s.T k) := fun k hk => tk_map (by omega)
    have tkL : tk (s.T.map (clr p (redHead p at_ r) at_) ++ [redHead p at_ r]) s.P.length = redHead p at_ r := by
      have e : s.P.length = (s.T.map (clr p (redHead p at_ r) at_)).length := by rw [List.length_map]; exact hlen.symm
      rw [e]
      exact tk_last
    have okT : ∀ k, k < s.P.length → ok1 p n (tk s.T k) := fun k hk => hT _ (tk_mem (by omega))
    have pl : (s.P ++ [at_]).length = s.P.length + 1 := by simp
    refine ⟨⟨by simp [hlen], ?_, ?_, ?_, ?_, ?_⟩, ?_, ?_⟩
    · intro k hk
      rw [pl] at hk
      rcases Nat.lt_or_ge k s.P.length with h1 | h1
      · rw [pk_app h1]; exact Nat.lt_succ_of_lt (h.rr.lt k h1)
      · have : k = s.P.length := by omega
        subst this
        rw [pk_last]; exact Nat.lt_succ_self _
    · intro i k hik hk
      rw [pl] at hk
      rw [pk_app (show i < s.P.length by omega)]
      rcases Nat.lt_or_ge k s.P.length with h1 | h1
      · rw [pk_app h1]; exact h.rr.asc i k hik h1
      · have : k = s.P.length := by omega
        subst this
        rw [pk_last]; exact h.rr.lt i hik
    · intro k hk
      rw [pl] at hk
      rcases Nat.lt_or_ge k s.P.length with h1 | h1
      · rw [pk_app h1, tkT k h1, gl _ (okT k h1) _ (h.rr.lt k h1)]; exact h.rr.one k h1
      · have : k = s.P.length := by omega
        subst this
        rw [pk_last, tkL]; exact gh1
    · intro j k hj hk hjk
      rw [pl] at hj hk
      rcases Nat.lt_or_ge k s.P.length with h1 | h1
      · rw [pk_app h1]
        rcases Nat.lt_or_ge j s.P.length with h2 | h2
        · rw [tkT j h2, gl _ (okT j h2) _ (h.rr.lt k h1)]; exact h.rr.zro j k h2 h1 hjk
        · have : j = s.P.length := by omega
          subst this
          rw [tkL]; exact gh0 _ (h.rr.lt k h1)
      · have : k = s.P.length := by omega
        subst this
        rw [pk_last, tkT j (by omega)]; exact ga _ (okT j (by omega))
    · intro k hk c hc
      rw [pl] at hk
      rcases Nat.lt_or_ge k s.P.length with h1 | h1
      · rw [pk_app h1] at hc
        have := h.rr.lt k h1
        rw [tkT k h1, gl _ (okT k h1) _ (by omega)]; exact h.rr.low k h1 c hc
      · have : k = s.P.length := by omega
        subst this
        rw [pk_last] at hc
        rw [tkL]; exact gh0 c hc
    · intro q hq c hc
      obtain ⟨q0, hq0, rfl⟩ := List.mem_map.mp hq
      rcases Nat.lt_or_ge c at_ with h1 | h1
      · rw [gl _ (hL q0 hq0) c h1]; exact h.zl q0 hq0 c h1
      · have hca : c = at_ := by omega
        subst hca
        exact ga _ (hL q0 hq0)
    · intro y
      rw [← h.sp y]
      have ok0 := okR_app hT hL
      have ok2 := okR_app hst.1 hst.2
      have spH0 : Sp p n (s.T ++ s.L) (redHead p at_ r) := by
        have e : redHead p at_ r = lin p (List.replicate n 0) r (invP p (g r at_)) := by
          refine g_ext hh.2 (lin_len (by simp) hrk.2) fun j hj => ?_
          rw [gh j hj, g_lin (by simp) hrk.2 hj, g_zero, Int.zero_add]
        rw [e]
        exact .step _ .zero (List.mem_append_right _ hr)
      have spH2 : Sp p n ((s.T.map (clr p (redHead p at_ r) at_) ++ [redHead p at_ r]) ++ s.L.map (clr p (redHead p at_ r) at_)) (redHead p at_ r) := Sp_row hp' ok2 (List.mem_append_left _ (List.mem_append_right _ List.mem_cons_self))
      constructor
      · refine fun q => Sp_of hp' hn ok0 (fun x hx => ?_) q
        have cl : ∀ q0 ∈ s.T ++ s.L, Sp p n (s.T ++ s.L) (clr p (redHead p at_ r) at_ q0) := fun q0 h0 => Sp_lin hp' hn ok0 (Sp_row hp' ok0 h0) spH0
        rcases List.mem_append.mp hx with hx | hx
        · rcases List.mem_append.mp hx with hx | hx
          · obtain ⟨q0, h0, rfl⟩ := List.mem_map.mp hx
            exact cl q0 (List.mem_append_left _ h0)
          · rw [List.mem_singleton] at hx
            subst hx
            exact spH0
        · obtain ⟨q0, h0, rfl⟩ := List.mem_map.mp hx
          exact cl q0 (List.mem_append_right _ h0)
      · refine fun q => Sp_of hp' hn ok2 (fun x hx => ?_) q
        have hxk : ok1 p n x := ok0 x hx
        have e : x = lin p (clr p (redHead p at_ r) at_ x) (redHead p at_ r) (g x at_) := by
          rw [clr_lin, lin_twice hxk.2 hh.2, Int.add_left_neg, lin_none hxk hh.2]
        rw [e]
        refine Sp_lin hp' hn ok2 (Sp_row hp' ok2 ?_) spH2
        rcases List.mem_append.mp hx with hx | hx
        · exact List.mem_append_left _ (List.mem_append_left _ (List.mem_map_of_mem hx))
        · exact List.mem_append_right _ (List.mem_map_of_mem hx)
theorem RI_N (hp : isP p = true) (hn : n ≤ 1000) (h : okR p n rows) : ∀ k, k ≤ n → RI p n k rows (redN p rows k)
  | 0, _ => ⟨⟨rfl, fun k hk => absurd hk (Nat.not_lt_zero _), fun _ k _ hk => absurd hk (Nat.not_lt_zero _), fun k hk => absurd hk (Nat.not_lt_zero _), fun _ k _ hk => absurd hk (Nat.not_lt_zero _), fun k hk => absurd hk (Nat.not_lt_zero _)⟩, fun _ _ c hc => absurd hc (Nat.not_lt_zero _), fun y => Iff.rfl⟩
  | k + 1, hk => RI_step hp hn (redN_ok (isP_okP hp) h k).1 (redN_ok (isP_okP hp) h k).2 (by omega) (RI_N hp hn h k (by omega))
theorem red_Sp (hp : isP p = true) (hn : n ≤ 1000) (h : okR p n rows) (y : List Int) : Sp p n (redN p rows n).T y ↔ Sp p n rows y := by
  have hI := RI_N hp hn h n (Nat.le_refl _)
  obtain ⟨h1, h2⟩ := redN_ok (isP_okP hp) h n
  rw [← hI.sp y]
  constructor
  · exact Sp_of (isP_okP hp) hn (okR_app h1 h2) fun r hr => Sp_row (isP_okP hp) (okR_app h1 h2) (List.mem_append_left _ hr)
  · refine Sp_of (isP_okP hp) hn h1 fun r hr => ?_
    rcases List.mem_append.mp hr with hr | hr
    · exact Sp_row (isP_okP hp) h1 hr
    · have : r = List.replicate n 0 := g_ext (h2 r hr).2 (by simp) fun j hj => by rw [hI.zl r hr j hj, g_zero]
      subst this
      exact .zero
theorem red_span (hp : isP p = true) (hn : n ≤ 1000) (h : okR p n rows) : sortW (spanL p n (redN p rows n).T) = sortW (spanL p n rows) := by
  refine sort_eq spanL_nd spanL_nd fun y => ?_
  rw [spanL_iff (isP_okP hp) hn (redN_ok (isP_okP hp) h n).1, spanL_iff (isP_okP hp) hn h]
  exact red_Sp hp hn h y
structure RJ (p : Int) (n at_ j : Nat) (T : List (List Int)) (P : List Nat) (s : Red) : Prop where
  t : s.T = T.take j
  p : s.P = P.take j
  lo : ∀ k < j, pk P k < at_
  hi : ∀ k, j ≤ k → k < P.length → at_ ≤ pk P k
  le : j ≤ P.length
  l1 : ∀ r ∈ s.L, r = List.replicate n 0 ∨ ∃ k, j ≤ k ∧ k < P.length ∧ r = tk T k
  l2 : ∀ k, j ≤ k → k < P.length → tk T k ∈ s.L
theorem take_snoc {α : Type} (l : List α) (d : α) {j : Nat} (h : j < l.length) : l.take (j + 1) = l.take j ++ [l.getD j d] := by
  rw [List.take_succ_eq_append_getElem h, List.getD_eq_getElem?_getD, List.getElem?_eq_getElem h]
  rfl
theorem RJ_step {T : List (List Int)} {P : List Nat} (hp : isP p = true) (hn : n ≤ 1000) (hT : okR p n T) (hR : Rr n T P) (hat : at_ < n) {j : Nat} (h : RJ p n at_ j T P s) : ∃ j', RJ p n (at_ + 1) j' T P (redStep p s at_) := by
  have hp' := isP_okP hp
  have hp1 := (okP_iff.mp hp').1
  have okT : ∀ k, k < P.length → ok1 p n (tk T k) := fun k hk => hT _ (tk_mem (by have := hR.len; omega))
  have g0 : ∀ k, j ≤ k → k < P.length → pk P k ≠ at_ → g (tk T k) at_ = 0 := fun k h1 h2 h3 => hR.low k h2 at_ (by have := h.hi k h1 h2; omega)
  by_cases hj : j < P.length ∧ pk P j = at_
  · obtain ⟨hj1, hj2⟩ := hj
    have hjm := h.l2 j (Nat.le_refl _) hj1
    have one := hR.one j hj1
    rw [hj2] at one
    unfold redStep
    cases hf : s.L.filter fun r => decide (r.getD at_ 0 ≠ 0) with
    | nil =>
      rw [List.filter_eq_nil_iff] at hf
      have := hf _ hjm
      have e : (tk T j).getD at_ 0 = 1 := one
      rw [e] at this
      exact absurd (by decide) this
    | cons r rs =>
      have hr : r ∈ s.L := (List.mem_filter.mp (by rw [hf]; exact List.mem_cons_self)).1
      have hr0 : g r at_ ≠ 0 := of_decide_eq_true (List.mem_filter.mp (show r ∈ s.L.filter (fun r => decide (r.getD at_ 0 ≠ 0)) by rw [hf]; exact List.mem_cons_self)).2
      have hrj : r = tk T j := by
        rcases h.l1 r hr with rfl | ⟨k, h1, h2, rfl⟩
        · exact absurd g_zero hr0
        · by_cases hk : k = j
          · rw [hk]
          · have : pk P j < pk P k := hR.asc j k (by omega) h2
            exact absurd (g0 k h1 h2 (by omega)) hr0
      have hd : redHead p at_ r = tk T j := by
        rw [hrj]
        have ho := okT j hj1
        have hm : g (tk T j) at_ % p ≠ 0 := by rw [g_mod ho hat, one]; decide
        have hi := invP_mul hp hm
        rw [one, Int.one_mul] at hi
        have e1 : (tk T j).getD at_ 0 = 1 := one
        unfold redHead
        rw [e1]
        refine g_ext (by rw [scW_len]; exact ho.2) ho.2 fun c hc => ?_
        rw [g_sc ho.2 hc, Int.mul_emod, hi, Int.mul_one, Int.emod_emod, g_mod ho hc]
      have hh := okT j hj1
      have keep : ∀ q, ok1 p n q → g q at_ = 0 → clr p (tk T j) at_ q = q := fun q hq h0 => by
        rw [clr_lin, h0, Int.neg_zero, lin_none hq hh.2]
      have kill : clr p (tk T j) at_ (tk T j) = List.replicate n 0 := by
        refine g_ext (lin_len hh.2 hh.2) (by simp) fun c hc => ?_
        rw [g_clr hh hh hc, one, g_zero, Int.mul_neg, Int.mul_one, Int.add_right_neg]
        exact Int.zero_emod _
      refine ⟨j + 1, ?_, ?_, ?_, ?_, hj1, ?_, ?_⟩
      · show s.T.map (clr p (redHead p at_ r) at_) ++ [redHead p at_ r] = _
        rw [hd, take_snoc T [] (by have := hR.len; omega), h.t]
        congr 1
        have : ∀ q ∈ T.take j, clr p (tk T j) at_ q = q := fun q hq => by
          obtain ⟨i, hi, rfl⟩ := List.getElem_of_mem hq
          have hi2 : i < j := by rw [List.length_take] at hi; omega
          have hi3 : i < T.length := by have := hR.len; omega
          rw [List.getElem_take]
          have e : T[i] = tk T i := by
            unfold tk
            rw [List.getD_eq_getElem?_getD, List.getElem?_eq_getElem hi3]
            rfl
          rw [e]
          refine keep _ (okT i (by omega)) ?_
          rw [← hj2]
          exact hR.zro i j (by omega) hj1 (by omega)
        exact (List.map_congr_left this).trans (List.map_id _)
      · show s.P ++ [at_] = _
        rw [take_snoc P 0 hj1, h.p]
        congr 1
        rw [← hj2]
        rfl
      · intro k hk
        rcases Nat.lt_or_ge k j with h1 | h1
        · exact Nat.lt_succ_of_lt (h.lo k h1)
        · have : k = j := by omega
          subst this
          omega
      · intro k h1 h2
        have := hR.asc j k (by omega) h2
        omega
      · intro q hq
        have hq' : q ∈ s.L.map (clr p (redHead p at_ r) at_) := hq
        rw [hd] at hq'
        obtain ⟨q0, h0, rfl⟩ := List.mem_map.mp hq'
        rcases h.l1 q0 h0 with rfl | ⟨k, h1, h2, rfl⟩
        · left
          exact keep _ (ok_zero hp' hn) g_zero
        · by_cases hk : k = j
          · subst hk
            exact .inl kill
          · right
            have := hR.asc j k (by omega) h2
            exact ⟨k, by omega, h2, keep _ (okT k h2) (g0 k h1 h2 (by omega))⟩
      · intro k h1 h2
        show tk T k ∈ s.L.map (clr p (redHead p at_ r) at_)
        rw [hd]
        have := hR.asc j k (by omega) h2
        refine List.mem_map.mpr ⟨tk T k, h.l2 k (by omega) h2, keep _ (okT k h2) (g0 k (by omega) h2 (by omega))⟩
  · have ne : ∀ k, j ≤ k → k < P.length → pk P k ≠ at_ := fun k h1 h2 e => by
      by_cases hk : k = j
      · subst hk
        exact hj ⟨h2, e⟩
      · have h3 := hR.asc j k (by omega) h2
        have h4 := h.hi j (Nat.le_refl _) (by omega)
        omega
    have hf : (s.L.filter fun r => decide (r.getD at_ 0 ≠ 0)) = [] := by
      rw [List.filter_eq_nil_iff]
      intro r hr
      have : g r at_ = 0 := by
        rcases h.l1 r hr with rfl | ⟨k, h1, h2, rfl⟩
        · exact g_zero
        · exact g0 k h1 h2 (ne k h1 h2)
      have e0 : r.getD at_ 0 = 0 := this
      rw [e0]
      decide
    refine ⟨j, ?_⟩
    have e : redStep p s at_ = s := by
      unfold redStep
      rw [hf]
    rw [e]
    exact ⟨h.t, h.p, fun k hk => Nat.lt_succ_of_lt (h.lo k hk), fun k h1 h2 => by
      have := h.hi k h1 h2
      have := ne k h1 h2
      omega, h.le, h.l1, h.l2⟩
theorem RJ_N {T L : List (List Int)} {P : List Nat} (hp : isP p = true) (hn : n ≤ 1000) (hT : okR p n T) (hR : Rr n T P) (hL : ∀ r, r ∈ L ↔ r ∈ T) : ∀ k, k ≤ n → ∃ j, RJ p n k j T P (redN p L k)
  | 0, _ => ⟨0, rfl, rfl, fun k hk => absurd hk (Nat.not_lt_zero _), fun _ _ _ => Nat.zero_le _, Nat.zero_le _, fun r hr => by
    obtain ⟨k, hk, e⟩ := mem_tk ((hL r).mp hr)
    exact .inr ⟨k, Nat.zero_le _, by have := hR.len; omega, e.symm⟩, fun k _ hk => (hL _).mpr (tk_mem (by have := hR.len; omega))⟩
  | k + 1, hk => by
    obtain ⟨j, h⟩ := RJ_N hp hn hT hR hL k (by omega)
    exact RJ_step hp hn hT hR (by omega) h
theorem red_again {T L : List (List Int)} {P : List Nat} (hp : isP p = true) (hn : n ≤ 1000) (hT : okR p n T) (hR : Rr n T P) (hL : ∀ r, r ∈ L ↔ r ∈ T) : (redN p L n).T = T ∧ (redN p L n).P = P := by
  obtain ⟨j, h⟩ := RJ_N hp hn hT hR hL n (Nat.le_refl _)
  have hj : j = P.length := by
    rcases Nat.lt_or_ge j P.length with h1 | h1
    · have a := h.hi j (Nat.le_refl _) h1
      have b := hR.lt j h1
      omega
    · have := h.le; omega
  rw [h.t, h.p, hj, ← hR.len, List.take_length, hR.len, List.take_length]
  exact ⟨rfl, rfl⟩
end
end Lq

namespace Lq
open PySem PySem.Spec PyProof.Rows L2
def TD (T : List (List Int)) : Dt := .tup (T.map Wd)
def PD (P : List Nat) : Dt := .tup (P.map fun (c : Nat) => Dt.int (c : Int))
theorem wg_ix {r : List Int} {k : Nat} (h : k < r.length) : ixO (Wd r) (.int (k : Int)) = some (.int (g r k)) := wd_ix h
theorem len_td (T : List (List Int)) : lenO [TD T] = some (.int (T.length : Int)) := by
  unfold TD
  rw [lenO_tup, List.length_map]
theorem len_wd (w : List Int) : lenO [Wd w] = some (.int (w.length : Int)) := by
  unfold Wd
  rw [lenO_tup, List.length_map]
end Lq

namespace Lq
open PySem PySem.Spec PyProof.Rows L2
theorem isP_cases {p : Int} (h : isP p = true) : p = 2 ∨ p = 3 ∨ p = 5 ∨ p = 7 := of_decide_eq_true h
end Lq

namespace Lq
open PySem PySem.Spec PyProof.Rows L2
theorem isi_tup (xs : List Dt) : isiO "tuple" (.tup xs) = some (.bl true) := by
  unfold isiO tyN
  rfl
theorem tru_bl (b : Bool) : truO (.bl b) = some b := rfl
end Lq

namespace Lq
open PySem PySem.Spec PyProof.Rows L2
def m_is_integer : Ms → O := (retS (andV (op1 (varE 0) (isiO "int")) (op1 (op1 (varE 0) (isiO "bool")) notO)))
def noObj : Dt → Bool | .obj _ _ _ => false | .scr _ _ => false | _ => true
def isI : Dt → Bool | .int _ => true | _ => false
def Fisint : List Dt → Fo | [d] => if noObj d = true then .ok (.bl (isI d)) else .no | _ => .no
theorem ii_non : isiO "int" .non = some (.bl false) := by unfold isiO tyN; rfl
theorem ii_bl (b : Bool) : isiO "int" (.bl b) = some (.bl true) := by unfold isiO tyN; rfl
theorem ii_int (i : Int) : isiO "int" (.int i) = some (.bl true) := by unfold isiO tyN; rfl
theorem ii_str (x : Str) : isiO "int" (.str x) = some (.bl false) := by unfold isiO tyN; rfl
theorem ii_lst (x : List Dt) : isiO "int" (.lst x) = some (.bl false) := by unfold isiO tyN; rfl
theorem ii_tup (x : List Dt) : isiO "int" (.tup x) = some (.bl false) := by unfold isiO tyN; rfl
theorem ib_bl (b : Bool) : isiO "bool" (.bl b) = some (.bl true) := by unfold isiO tyN; rfl
theorem ib_int (i : Int) : isiO "bool" (.int i) = some (.bl false) := by unfold isiO tyN; rfl
theorem it_non : isiO "tuple" .non = some (.bl false) := by unfold isiO tyN; rfl
theorem it_bl (b : Bool) : isiO "tuple" (.bl b) = some (.bl false) := by unfold isiO tyN; rfl
theorem it_int (i : Int) : isiO "tuple" (.int i) = some (.bl false) := by unfold isiO tyN; rfl
theorem it_str (x : Str) : isiO "tuple" (.str x) = some (.bl false) := by unfold isiO tyN; rfl
theorem it_lst (x : List Dt) : isiO "tuple" (.lst x) = some (.bl false) := by unfold isiO tyN; rfl
theorem notO_bl (b : Bool) : notO (.bl b) = some (.bl (!b)) := rfl
theorem run_is_integer (ds : List Dt) (h : Fisint ds ≠ .no) : runD 1 m_is_integer ds = Fisint ds := by
  unfold Fisint at h
  split at h
  · rename_i d
    have hst : st0 1 [d] = { sl := [.im d], mo := [] } := rfl
    unfold runD m_is_integer
    rw [hst]
    cases d with
    | obj => exact absurd rfl h
    | scr => exact absurd rfl h
    | non => simp [ii_non, Fisint, noObj, isI]; rfl
    | bl b => simp [ii_bl, ib_bl, notO_bl, Fisint, noObj, isI]; rfl
    | int i => simp [ii_int, ib_int, notO_bl, Fisint, noObj, isI]; rfl
    | str x => simp [ii_str, Fisint, noObj, isI]; rfl
    | lst x => simp [ii_lst, Fisint, noObj, isI]; rfl
    | tup x => simp [ii_tup, Fisint, noObj, isI]; rfl
  · exact absurd rfl h
def m_is_word : Ms → O := (seqS (ifS (orT (notT (truT (op1 (varE 0) (isiO "tuple")))) (tst (op2 (calE (aCons (varE 0) aNil) lenO) (varE 2) neO))) (retS (cE (.bl false))) nilS)
  (retS (calE (aCons (frz (lcE (itS (varE 0)) (Tk.nm 3).k yesT (andV (funE 1 (aCons (varE 3) aNil) Fisint) (chT (cE (.int 0)) (varE 3) (varE 1) leO ltO)) [3])) aNil) allO)))
def itB (p : Int) : Dt → Bool | .int i => decide (0 ≤ i) && decide (i < p) | _ => false
def wordB (p n : Int) : Dt → Bool | .tup xs => decide ((xs.length : Int) = n) && xs.all (itB p) | _ => false
def okV : Dt → Bool | .obj _ _ _ => false | .scr _ _ => false | .tup xs => decide (xs.length ≤ 1000) && xs.all noObj | _ => true
def Fisword : List Dt → Fo | [d, .int p, .int n] => if okV d = true then .ok (.bl (wordB p n d)) else .no | _ => .no
theorem Fisint_run {d : Dt} (h : noObj d = true) : Fisint [d] = .ok (.bl (isI d)) := by unfold Fisint; dsimp only; rw [if_pos h]
theorem chT_run (f g h : Ms → R Dt) (o o' : Dt → Dt → Option Dt) (S : Ms) : chT f g h o o' S = (f S).bind fun d S1 => (g S1).bind fun e S2 => (R.of (o d e) S2).bind fun k S3 => match k with
  | .bl true => (h S3).bind fun z S4 => R.of (o' e z) S4
  | .bl false => .ok (.bl false) S3
  | _ => .no := rfl
theorem run_is_word (ds : List Dt) (h : Fisword ds ≠ .no) : runD 4 m_is_word ds = Fisword ds := by
  unfold Fisword at h
  split at h
  · rename_i d p n
    have hst : st0 4 [d, .int p, .int n] = { sl := [.im d, .im (.int p), .im (.int n), .no], mo := [] } := rfl
    cases hv : okV d with
    | false => rw [hv] at h; exact absurd rfl h
    | true =>
    have e : Fisword [d, .int p, .int n] = .ok (.bl (wordB p n d)) := by unfold Fisword; dsimp only; rw [if_pos hv]
    rw [e]
    unfold runD m_is_word
    rw [hst]
    cases d with
    | obj => cases hv
    | scr => cases hv
    | non => simp [it_non, tru_bl, wordB]; rfl
    | bl b => simp [it_bl, tru_bl, wordB]; rfl
    | int i => simp [it_int, tru_bl, wordB]; rfl
    | str x => simp [it_str, tru_bl, wordB]; rfl
    | lst x => simp [it_lst, tru_bl, wordB]; rfl
    | tup xs =>
      unfold okV at hv
      simp only [Bool.and_eq_true, decide_eq_true_eq, List.all_eq_true] at hv
      obtain ⟨hl, hno⟩ := hv
      by_cases hn : (xs.length : Int) = n
      · have key : lcE (itS (varE 0)) (Tk.nm 3).k yesT (andV (funE 1 (aCons (varE 3) aNil) Fisint) (chT (cE (.int 0)) (varE 3) (varE 1) leO ltO)) [3] { sl := [.im (.tup xs), .im (.int p), .im (.int n), .no], mo := [] } = .ok (xs.map fun x => Dt.bl (itB p x)) { sl := [.im (.tup xs), .im (.int p), .im (.int n), .no], mo := [] } := by
          have := lcE_map (it := itS (varE 0)) (k := (Tk.nm 3).k) (e := andV (funE 1 (aCons (varE 3) aNil) Fisint) (chT (cE (.int 0)) (varE 3) (varE 1) leO ltO)) (own := [3]) (S := { sl := [.im (.tup xs), .im (.int p), .im (.int n), .no], mo := [] }) (S1 := { sl := [.im (.tup xs), .im (.int p), .im (.int n), .no], mo := [] }) id (fun x => Dt.bl (itB p x)) xs (by simp) (fun x hx => by
            have hi := Fisint_run (hno x hx)
            refine ⟨_, kNm _ _ _, { sl := [.im (.tup xs), .im (.int p), .im (.int n), .im x], mo := [] }, ?_, rfl⟩
            cases x with
            | int i =>
              by_cases h0 : 0 ≤ i
              · simp [wipeL, hi, isI, itB, chT_run, h0]
              · simp [wipeL, hi, isI, itB, chT_run, h0]
            | _ => simp [wipeL, hi, isI, itB]) (fun d T T' => Tk.mo) (by omega)
          exact this
        have e2 : (xs.map fun x => Dt.bl (itB p x)) = (xs.map (itB p)).map Dt.bl := by rw [List.map_map]; rfl
        rw [e2] at key
        have hif : ifS (orT (notT (truT (op1 (varE 0) (isiO "tuple")))) (tst (op2 (calE (aCons (varE 0) aNil) lenO) (varE 2) neO))) (retS (cE (.bl false))) nilS { sl := [.im (.tup xs), .im (.int p), .im (.int n), .no], mo := [] } = .nx { sl := [.im (.tup xs), .im (.int p), .im (.int n), .no], mo := [] } := by
          simp [isi_tup, tru_bl, hn]
        rw [seqS_run, hif, seq_nx, retS_run, calE_run, aCons_run, frz_run', key, R.bind_ok, R.bind_ok, aNil_run, R.bind_ok, R.bind_ok, allO_run, R.of_some, R.stmt_ok]
        show Fo.ok _ = _
        congr 2
        unfold wordB
        dsimp only
        rw [decide_eq_true hn, Bool.true_and, List.all_map]
        rfl
      · simp [isi_tup, tru_bl, hn, wordB]
        rfl
  · exact absurd rfl h
def m_dot : Ms → O := (retS (op2 (calE (aCons (frz (lcE (itZ (aCons (varE 0) (aCons (varE 1) aNil))) (Tk.tp [3, 4]).k yesT (op2 (varE 3) (varE 4) mulO) [3, 4])) aNil) sumO) (varE 2) modO))
def m__law_dot : Ms → O := (retS (op2 (calE (aCons (calE (aCons (frz (lcE (itR1 (aCons (calE (aCons (varE 0) aNil) lenO) aNil)) (Tk.nm 3).k yesT (op2 (op2 (varE 0) (varE 3) ixO) (op2 (varE 1) (varE 3) ixO) mulO) [3])) aNil) sumO) aNil) intO) (varE 2) modO))
def sm (v w : List Int) : Int := (List.zipWith (fun a b => a * b) v w).sum
def Fdot : List Dt → Fo
  | [d, e, .int p] => match wordOf d, wordOf e with
    | some v, some w => if (okP p && okW p v && okW p w && decide (v.length = w.length)) = true then .ok (.int (sm v w % p)) else .no
    | _, _ => .no
  | _ => .no
theorem Fdot_run {p : Int} {v w : List Int} (hp : okP p = true) (hv : okW p v = true) (hw : okW p w = true) (e : v.length = w.length) : Fdot [Wd v, Wd w, .int p] = .ok (.int (sm v w % p)) := by
  unfold Fdot
  simp only [wordOf_Wd]
  rw [if_pos (by simp [hp, hv, hw, e])]
theorem Fdot_inv {ds : List Dt} (h : Fdot ds ≠ .no) : ∃ v w p, ds = [Wd v, Wd w, .int p] ∧ okP p = true ∧ okW p v = true ∧ okW p w = true ∧ v.length = w.length := by
  unfold Fdot at h
  split at h
  · rename_i d e p
    split at h
    · rename_i v w h1 h2
      split at h
      · rename_i hc
        have := wordOf_eq h1
        have := wordOf_eq h2
        subst_vars
        simp only [Bool.and_eq_true, decide_eq_true_eq] at hc
        exact ⟨v, w, p, rfl, hc.1.1.1, hc.1.1.2, hc.1.2, hc.2⟩
      · exact absurd rfl h
    · exact absurd rfl h
  · exact absurd rfl h
theorem sumO_ints (ns : List Int) : sumO [.lst (ns.map Dt.int)] = some (.int ns.sum) := by unfold sumO; dsimp only; rw [intsOf_map]; rfl
theorem run_dot (ds : List Dt) (h : Fdot ds ≠ .no) : runD 5 m_dot ds = Fdot ds := by
  obtain ⟨v, w, p, rfl, hp, hv, hw, hl⟩ := Fdot_inv h
  rw [Fdot_run hp hv hw hl]
  obtain ⟨hp1, hp2⟩ := okP_iff.mp hp
  obtain ⟨hv1, hv2⟩ := okW_iff.mp hv
  have key : (lcE (itZ (aCons (varE 0) (aCons (varE 1) aNil))) (Tk.tp [3, 4]).k yesT (op2 (varE 3) (varE 4) mulO) [3, 4]) (st0 5 [Wd v, Wd w, .int p]) = .ok ((v.zip w).map fun q => Dt.int (q.1 * q.2)) (st0 5 [Wd v, Wd w, .int p]) := by
    refine lcE_map (fun q : Int × Int => Dt.tup [.int q.1, .int q.2]) _ (v.zip w) ?_ (fun q hq => ?_) (fun d T T' => Tk.mo) (by simp; omega)
    · simp [st0, Wd, zipD_ints]
    · have := cmul_w (a := q.2) hp2 (hv2 q.1 (List.of_mem_zip hq).1)
      simp [st0, wipeL, kNames, this]
  have e2 : ((v.zip w).map fun q => Dt.int (q.1 * q.2)) = (List.zipWith (fun a b => a * b) v w).map Dt.int := by rw [List.map_zipWith, List.zip, List.map_zipWith]
  rw [e2] at key
  have hst : st0 5 [Wd v, Wd w, .int p] = { sl := [.im (Wd v), .im (Wd w), .im (.int p), .no, .no], mo := [] } := rfl
  unfold runD m_dot
  rw [retS_run, op2_run, calE_run, aCons_run, frz_run', key, R.bind_ok, R.bind_ok, aNil_run, R.bind_ok, R.bind_ok, sumO_ints, R.of_some, R.bind_ok, hst]
  simp [hp1, sm]
  rfl
theorem run__law_dot (ds : List Dt) (h : Fdot ds ≠ .no) : runD 4 m__law_dot ds = Fdot ds := by
  obtain ⟨v, w, p, rfl, hp, hv, hw, hl⟩ := Fdot_inv h
  rw [Fdot_run hp hv hw hl]
  obtain ⟨hp1, hp2⟩ := okP_iff.mp hp
  obtain ⟨hv1, hv2⟩ := okW_iff.mp hv
  have key : (lcE (itR1 (aCons (calE (aCons (varE 0) aNil) lenO) aNil)) (Tk.nm 3).k yesT (op2 (op2 (varE 0) (varE 3) ixO) (op2 (varE 1) (varE 3) ixO) mulO) [3]) (st0 4 [Wd v, Wd w, .int p]) = .ok ((List.range v.length).map fun k => Dt.int (g v k * g w k)) (st0 4 [Wd v, Wd w, .int p]) := by
    refine lcE_map (fun k : Nat => Dt.int (k : Int)) _ (List.range v.length) ?_ (fun k hk => ?_) (fun d T T' => Tk.mo) (by simp; omega)
    · exact itR1_run (by simp [st0, len_wd]) (by omega)
    · have h1 : k < v.length := List.mem_range.mp hk
      have h2 : k < w.length := by omega
      have e1 := wg_ix h1
      have e2 := wg_ix h2
      have := cmul_w (a := g w k) hp2 (g_lt ⟨hv, rfl⟩ h1)
      simp [st0, wipeL, e1, e2, this]
  have e2 : ((List.range v.length).map fun k => Dt.int (g v k * g w k)) = (List.zipWith (fun a b => a * b) v w).map Dt.int := by
    apply List.ext_getElem?
    intro k
    rw [List.getElem?_map, List.getElem?_map, List.getElem?_zipWith]
    by_cases hk : k < v.length
    · have h2 : k < w.length := by omega
      simp [g, List.getElem?_range hk, List.getElem?_eq_getElem hk, List.getElem?_eq_getElem h2, List.getD_eq_getElem?_getD]
    · rw [List.getElem?_eq_none (by simpa using hk), List.getElem?_eq_none (show v.length ≤ k by omega)]
      rfl
  rw [e2] at key
  have hst : st0 4 [Wd v, Wd w, .int p] = { sl := [.im (Wd v), .im (Wd w), .im (.int p), .no], mo := [] } := rfl
  unfold runD m__law_dot
  rw [retS_run, op2_run, calE_run, aCons_run, calE_run, aCons_run, frz_run', key, R.bind_ok, R.bind_ok, aNil_run, R.bind_ok, R.bind_ok, sumO_ints, R.of_some, R.bind_ok, hst]
  simp [hp1, sm]
  rfl
end Lq

namespace Lq
open PySem PySem.Spec PyProof.Rows L2
theorem rep_int (n : Nat) : (List.replicate n [Dt.int 0]).flatten = (List.replicate n (0 : Int)).map Dt.int := by
  rw [List.flatten_replicate_singleton, List.map_replicate]
def m__law_all : Ms → O := (seqS (asgS 2 (frz (lstE (aCons (tupE aNil) aNil))))
  (seqS (forS (itR1 (aCons (varE 0) aNil)) (Tk.nm 3).k (seqS (asgS 4 (frz (lstE aNil)))
  (seqS (forS (itS (frz (calN (aCons (varE 2) aNil) lstO))) (Tk.nm 5).k (asgS 4 (frz (opN (varE 4) (frz (lcE (itR1 (aCons (varE 1) aNil)) (Tk.nm 6).k yesT (op2 (varE 5) (tupE (aCons (varE 6) aNil)) catT) [6])) catL))))
  (moveS 2 4))))
  (retS (varE 2))))
def extW (p : Int) (w : List Int) : List (List Int) := (List.range p.toNat).map fun (a : Nat) => w ++ [(a : Int)]
def allN (p : Int) : Nat → List (List Int)
  | 0 => [[]]
  | k + 1 => (allN p k).foldl (fun acc w => acc ++ extW p w) []
def Fall : List Dt → Fo
  | [.int n, .int p] => if (okP p && decide (0 ≤ n ∧ n ≤ 100) && decide (p.toNat ^ n.toNat ≤ 10000)) = true then .ok (.lst ((allN p n.toNat).map Wd)) else .no
  | _ => .no
theorem Fall_run {n : Nat} {p : Int} (hp : okP p = true) (hn : n ≤ 100) (hl : p.toNat ^ n ≤ 10000) : Fall [.int n, .int p] = .ok (.lst ((allN p n).map Wd)) := by
  unfold Fall
  dsimp only
  rw [Int.toNat_natCast, if_pos (by simp [hp, hl]; omega)]
theorem extW_len (p : Int) (w : List Int) : (extW p w).length = p.toNat := by simp [extW]
theorem fold_ext (p : Int) : ∀ (ws acc : List (List Int)), (ws.foldl (fun acc w => acc ++ extW p w) acc) = acc ++ ws.flatMap (extW p)
  | [], acc => by simp
  | w :: ws, acc => by rw [List.foldl_cons, fold_ext p ws]; simp
theorem allN_succ (p : Int) (k : Nat) : allN p (k + 1) = (allN p k).flatMap (extW p) := by
  show (allN p k).foldl _ [] = _
  rw [fold_ext, List.nil_append]
theorem allN_len (p : Int) : ∀ k, (allN p k).length = p.toNat ^ k
  | 0 => rfl
  | k + 1 => by
    rw [allN_succ, List.length_flatMap]
    simp only [extW_len, List.map_const', List.sum_replicate_nat, allN_len p k]
    rw [Nat.pow_succ]
theorem allN_wlen (p : Int) : ∀ k, ∀ w ∈ allN p k, w.length = k
  | 0, w, h => by
    have : w = [] := by simpa [allN] using h
    rw [this]
    rfl
  | k + 1, w, h => by
    rw [allN_succ, List.mem_flatMap] at h
    obtain ⟨v, hv, hw⟩ := h
    obtain ⟨a, _, rfl⟩ := List.mem_map.mp hw
    rw [List.length_append, allN_wlen p k v hv]
    rfl
theorem allN_mem {p : Int} : ∀ {k : Nat} {w : List Int}, w ∈ allN p k ↔ w.length = k ∧ ∀ x ∈ w, 0 ≤ x ∧ x < p
  | 0, w => by
    show w ∈ [[]] ↔ _
    rw [List.mem_singleton]
    constructor
    · rintro rfl
      exact ⟨rfl, fun x h => absurd h List.not_mem_nil⟩
    · exact fun h => List.eq_nil_of_length_eq_zero h.1
  | k + 1, w => by
    rw [allN_succ, List.mem_flatMap]
    constructor
    · rintro ⟨v, hv, hw⟩
      obtain ⟨a, ha, rfl⟩ := List.mem_map.mp hw
      obtain ⟨h1, h2⟩ := allN_mem.mp hv
      have := List.mem_range.mp ha
      refine ⟨by rw [List.length_append, h1]; rfl, fun x hx => ?_⟩
      rcases List.mem_append.mp hx with hx | hx
      · exact h2 x hx
      · rw [List.mem_singleton] at hx
        omega
    · rintro ⟨h1, h2⟩
      have hne : w ≠ [] := by
        rintro rfl
        cases h1
      have hd := List.dropLast_concat_getLast hne
      have hl := h2 _ (List.getLast_mem hne)
      refine ⟨w.dropLast, allN_mem.mpr ⟨by rw [List.length_dropLast, h1]; rfl, fun x hx => h2 x (List.dropLast_subset _ hx)⟩, List.mem_map.mpr ⟨(w.getLast hne).toNat, List.mem_range.mpr (by omega), ?_⟩⟩
      rw [Int.toNat_of_nonneg hl.1]
      exact hd
theorem allN_nd (p : Int) : ∀ k, (allN p k).Nodup
  | 0 => by simp [allN]
  | k + 1 => by
    rw [allN_succ]
    refine List.pairwise_flatMap.mpr ⟨fun w hw => ?_, List.Pairwise.imp (R := (· ≠ ·)) (fun {w v} hne x hx y hy e => ?_) (allN_nd p k)⟩
    · refine nodup_map_on List.nodup_range fun a _ b _ e => ?_
      have := List.append_cancel_left e
      simp at this
      omega
    · obtain ⟨a, _, rfl⟩ := List.mem_map.mp hx
      obtain ⟨b, _, rfl⟩ := List.mem_map.mp hy
      exact hne (List.append_inj_left' e rfl)
def alSt (n : Nat) (p : Int) (out : List (List Int)) (x3 x4 x5 : Sv) : Ms := { sl := [.im (.int n), .im (.int p), .im (.lst (out.map Wd)), x3, x4, x5, .no], mo := [] }
def alIn : Ms → O := asgS 4 (frz (opN (varE 4) (frz (lcE (itR1 (aCons (varE 1) aNil)) (Tk.nm 6).k yesT (op2 (varE 5) (tupE (aCons (varE 6) aNil)) catT) [6])) catL))
def alBody : Ms → O := seqS (asgS 4 (frz (lstE aNil))) (seqS (forS (itS (frz (calN (aCons (varE 2) aNil) lstO))) (Tk.nm 5).k alIn) (moveS 2 4))
theorem catL_run {xs ys : List Dt} (h : xs.length + ys.length ≤ 100000) : catL (.lst xs) (.lst ys) = some (xs ++ ys) := by
  show (if _ then _ else _) = _
  rw [if_pos h]
theorem catT_run {xs ys : List Dt} (h : xs.length + ys.length ≤ 100000) : catT (.tup xs) (.tup ys) = some (.tup (xs ++ ys)) := by
  show (if _ then _ else _) = _
  rw [if_pos h]
theorem alBody_run {n k : Nat} {p : Int} {out : List (List Int)} {x3 x4 x5 : Sv} (hp : okP p = true) (hk : k ≤ 100) (ho : ∀ w ∈ out, w.length = k) (hl : out.length * p.toNat ≤ 10000) :
    ∃ x4' x5', alBody (alSt n p out x3 x4 x5) = .nx (alSt n p (out.flatMap (extW p)) x3 x4' x5') := by
  obtain ⟨hp1, hp2⟩ := okP_iff.mp hp
  obtain ⟨m, rfl⟩ : ∃ m : Nat, p = (m : Int) := ⟨p.toNat, by omega⟩
  have h0 : asgS 4 (frz (lstE aNil)) (alSt n m out x3 x4 x5) = .nx (alSt n m out x3 (.im (.lst (([] : List (List Int)).map Wd))) x5) := by simp [alSt]
  have hit : itS (frz (calN (aCons (varE 2) aNil) lstO)) (alSt n m out x3 (.im (.lst (([] : List (List Int)).map Wd))) x5) = .ok (out.map Wd) (alSt n m out x3 (.im (.lst (([] : List (List Int)).map Wd))) x5) := by simp [alSt]
  obtain ⟨S', f1, hI, y5, f2⟩ := forL_fold (k := (Tk.nm 5).k) (body := alIn) Wd (fun j (acc : List (List Int)) S => acc.length ≤ j * m ∧ ∃ y5, S = alSt n m out x3 (.im (.lst (acc.map Wd))) y5) (fun acc w => acc ++ extW m w) out 0 [] _ ⟨Nat.zero_le _, x5, rfl⟩ (fun j acc w S hw hj hI => by
    obtain ⟨ha, y5, rfl⟩ := hI
    have hb : (j + 1) * m ≤ out.length * m := Nat.mul_le_mul_right _ (by omega)
    rw [Int.toNat_natCast] at hl
    rw [Nat.succ_mul] at hb
    have hwl := ho w hw
    refine ⟨_, alSt n m out x3 (.im (.lst ((acc ++ extW m w).map Wd))) (.im (Wd w)), kNm _ _ _, .inl ?_, ?_, _, rfl⟩
    · have key : lcE (itR1 (aCons (varE 1) aNil)) (Tk.nm 6).k yesT (op2 (varE 5) (tupE (aCons (varE 6) aNil)) catT) [6] (alSt n m out x3 (.im (.lst (acc.map Wd))) (.im (Wd w))) = .ok ((List.range m).map fun (a : Nat) => Wd (w ++ [(a : Int)])) (alSt n m out x3 (.im (.lst (acc.map Wd))) (.im (Wd w))) := by
        refine lcE_map (fun (a : Nat) => Dt.int (a : Int)) _ (List.range m) (itR1_run (by simp [alSt]) (by omega)) (fun a _ => ?_) (fun d T T' => Tk.mo) (by simp; omega)
        have hc : catT (Wd w) (.tup [.int (a : Int)]) = some (Wd (w ++ [(a : Int)])) := by
          have := catT_run (xs := w.map Dt.int) (ys := [.int (a : Int)]) (by rw [List.length_map, hwl]; simp; omega)
          unfold Wd
          rw [this, List.map_append]
          rfl
        refine ⟨_, kNm _ _ _, ?_⟩
        simp [alSt, wipeL, hc]
      have e2 : ((List.range m).map fun (a : Nat) => Wd (w ++ [(a : Int)])) = (extW m w).map Wd := by
        unfold extW
        rw [List.map_map, Int.toNat_natCast]
        rfl
      rw [e2] at key
      have hcl := catL_run (xs := acc.map Wd) (ys := (extW m w).map Wd) (by rw [List.length_map, List.length_map, extW_len, Int.toNat_natCast]; omega)
      rw [← List.map_append] at hcl
      unfold alIn
      have hS : ({ sl := (alSt n m out x3 (.im (.lst (acc.map Wd))) y5).sl.set 5 (.im (Wd w)), mo := (alSt n m out x3 (.im (.lst (acc.map Wd))) y5).mo } : Ms) = alSt n m out x3 (.im (.lst (acc.map Wd))) (.im (Wd w)) := rfl
      rw [hS, asgS_run', frz_run', opN_run, varE_im (i := 4) (d := .lst (acc.map Wd)) rfl, R.bind_ok, frz_run', key, R.bind_ok, R.bind_ok, hcl, R.of_some, R.bind_ok, R.stmt_ok]
      rfl
    · rw [List.length_append, extW_len, Int.toNat_natCast, Nat.succ_mul]
      omega)
  refine ⟨.im (.lst ((out.flatMap (extW m)).map Wd)), y5, ?_⟩
  have ef := fold_ext (m : Int) out []
  rw [List.nil_append] at ef
  rw [ef] at f2
  unfold alBody
  rw [seqS_run, h0, seq_nx, seqS_run, forS_run, hit, R.stmt_ok, f1, seq_nx, f2]
  exact moveS_im rfl
theorem run__law_all (ds : List Dt) (h : Fall ds ≠ .no) : runD 7 m__law_all ds = Fall ds := by
  unfold Fall at h
  split at h
  · rename_i n p
    split at h
    · rename_i hc
      simp only [Bool.and_eq_true, decide_eq_true_eq] at hc
      obtain ⟨⟨hp, hn⟩, hl⟩ := hc
      obtain ⟨n, rfl⟩ : ∃ k : Nat, n = (k : Int) := ⟨n.toNat, by omega⟩
      rw [Int.toNat_natCast] at hl
      have hn1 : n ≤ 100 := by omega
      rw [Fall_run hp hn1 hl]
      have hp3 : 1 ≤ p.toNat := by have := (okP_iff.mp hp).1; omega
      have hst : st0 7 [.int (n : Int), .int p] = { sl := [.im (.int n), .im (.int p), .no, .no, .no, .no, .no], mo := [] } := rfl
      have h0 : asgS 2 (frz (lstE (aCons (tupE aNil) aNil))) { sl := [.im (.int n), .im (.int p), .no, .no, .no, .no, .no], mo := [] } = .nx (alSt n p (allN p 0) .no .no .no) := by
        simp [alSt, allN]
        rfl
      have hit : itR1 (aCons (varE 0) aNil) (alSt n p (allN p 0) .no .no .no) = .ok ((List.range n).map fun (i : Nat) => Dt.int (i : Int)) (alSt n p (allN p 0) .no .no .no) := itR1_run (by simp [alSt]) (by omega)
      obtain ⟨S', f1, x3, x4, x5, f2⟩ := forL_inv (k := (Tk.nm 3).k) (body := alBody) ((List.range n).map fun (i : Nat) => Dt.int (i : Int)) (fun i S => ∃ x3 x4 x5, S = alSt n p (allN p i) x3 x4 x5) (alSt n p (allN p 0) .no .no .no) ⟨_, _, _, rfl⟩ (fun i d S hi hI => by
        obtain ⟨x3, x4, x5, rfl⟩ := hI
        rw [List.getElem?_map] at hi
        have hin : i < n := by
          rcases Nat.lt_or_ge i n with h | h
          · exact h
          · rw [List.getElem?_eq_none (by simpa using h)] at hi
            cases hi
        rw [List.getElem?_range hin] at hi
        cases hi
        have hb : p.toNat ^ (i + 1) ≤ p.toNat ^ n := Nat.pow_le_pow_right hp3 (by omega)
        obtain ⟨y4, y5, r⟩ := alBody_run (n := n) (k := i) (x3 := .im (.int (i : Int))) (x4 := x4) (x5 := x5) hp (by omega) (allN_wlen p i) (by rw [allN_len, ← Nat.pow_succ]; exact Nat.le_trans hb hl)
        rw [← allN_succ] at r
        exact ⟨_, _, kNm _ _ _, .inl r, _, _, _, rfl⟩)
      rw [List.length_map, List.length_range] at f2
      have hm : m__law_all = seqS (asgS 2 (frz (lstE (aCons (tupE aNil) aNil)))) (seqS (forS (itR1 (aCons (varE 0) aNil)) (Tk.nm 3).k alBody) (retS (varE 2))) := rfl
      unfold runD
      rw [hst, hm, seqS_run, h0, seq_nx, seqS_run, forS_run, hit, R.stmt_ok, f1, seq_nx, f2, retS_run, varE_im rfl, R.stmt_ok]
      rfl
    · exact absurd rfl h
  · exact absurd rfl h
end Lq

namespace Lq
open PySem PySem.Spec PyProof.Rows L2
def binF (n k : Int) : Int := if k < 0 then 0 else PySem.W.mcComb n k
def pwB : Ms → O := (seqS (ifS (tst (op2 (op2 (varE 4) (cE (.int 2)) modO) (cE (.int 1)) eqO)) (asgS 2 (op2 (varE 2) (varE 3) mulO)) nilS)
  (seqS (asgS 3 (op2 (varE 3) (varE 3) mulO))
  (asgS 4 (op2 (varE 4) (cE (.int 2)) divO))))
def m_power : Ms → O := (seqS (asgS 2 (cE (.int 1)))
  (seqS (moveS 3 0)
  (seqS (moveS 4 1)
  (seqS (whileS (fun _ => 64) (tst (op2 (varE 4) (cE (.int 0)) gtO)) pwB)
  (retS (varE 2))))))
def Fpow : List Dt → Fo
  | [.int a, .int k] => if (-100 ≤ a ∧ a ≤ 100) ∧ 0 ≤ k ∧ k ≤ 12 then .ok (.int (a ^ k.toNat)) else .no
  | _ => .no
def pwS (a k r f l : Int) : Ms := { sl := [.im (.int a), .im (.int k), .im (.int r), .im (.int f), .im (.int l)], mo := [] }
theorem small_pow {a : Int} (ha : -100 ≤ a ∧ a ≤ 100) {e : Nat} (he : e ≤ 8) : -(2 : Int) ^ 64 < a ^ e ∧ a ^ e < 2 ^ 64 := by
  have h1 : (a ^ e).natAbs ≤ 100 ^ 8 := by
    rw [Int.natAbs_pow]
    exact Nat.le_trans (Nat.pow_le_pow_left (show a.natAbs ≤ 100 by omega) e) (Nat.pow_le_pow_right (by decide) he)
  have h2 : (100 : Nat) ^ 8 < 2 ^ 63 := by decide
  have h3 : (a ^ e).natAbs < 2 ^ 63 := Nat.lt_of_le_of_lt h1 h2
  generalize a ^ e = z at *
  omega
theorem pw_step {a k : Int} {r e l : Nat} (ha : -100 ≤ a ∧ a ≤ 100) (he : e ≤ 8) (hl : 0 < l) : pwB (pwS a k (a ^ r) (a ^ e) (l : Int)) = .nx (pwS a k (if l % 2 = 1 then a ^ (r + e) else a ^ r) (a ^ (e + e)) ((l / 2 : Nat) : Int)) := by
  have hs := small_pow ha he
  have c1 : CMul (a ^ r) (a ^ e) := .inr hs
  have c2 : CMul (a ^ e) (a ^ e) := .inr hs
  have c3 : CDiv (l : Int) 2 := ⟨by decide, by decide⟩
  have e2 : a ^ e * a ^ e = a ^ (e + e) := (Int.pow_add a e e).symm
  have e1 : a ^ r * a ^ e = a ^ (r + e) := (Int.pow_add a r e).symm
  have e3 : ((l / 2 : Nat) : Int) = (l : Int) / 2 := by omega
  rw [← e1, ← e2, e3]
  generalize a ^ r = x at *
  generalize a ^ e = y at *
  by_cases h : l % 2 = 1
  · have h' : (l : Int) % 2 = 1 := by omega
    rw [if_pos h]
    simp [pwB, pwS, h', c1, c2, c3]
  · have h' : ¬ (l : Int) % 2 = 1 := by omega
    rw [if_neg h]
    simp [pwB, pwS, h', c2, c3]
theorem pw_loop {a k : Int} (ha : -100 ≤ a ∧ a ≤ 100) : ∀ (fuel r e l : Nat), l < fuel → (e = 1 ∧ l ≤ 12 ∨ e = 2 ∧ l ≤ 6 ∨ e = 4 ∧ l ≤ 3 ∨ e = 8 ∧ l ≤ 1 ∨ l = 0) →
    ∃ f, whl (tst (op2 (varE 4) (cE (.int 0)) gtO)) pwB fuel (pwS a k (a ^ r) (a ^ e) (l : Int)) = .nx (pwS a k (a ^ (r + e * l)) f 0)
  | 0, _, _, _, h, _ => absurd h (Nat.not_lt_zero _)
  | fuel + 1, r, e, l, h, hc => by
    have ht : tst (op2 (varE 4) (cE (.int 0)) gtO) (pwS a k (a ^ r) (a ^ e) (l : Int)) = .ok (decide (0 < (l : Int))) (pwS a k (a ^ r) (a ^ e) (l : Int)) := by
      generalize a ^ r = x
      generalize a ^ e = y
      simp [pwS]
    unfold whl
    rw [ht, R.stmt_ok]
    by_cases h0 : 0 < l
    · rw [decide_eq_true (by omega : 0 < (l : Int))]
      rw [if_pos rfl, pw_step ha (by omega) h0]
      dsimp only
      have e1 : (if l % 2 = 1 then a ^ (r + e) else a ^ r) = a ^ (if l % 2 = 1 then r + e else r) := by split <;> rfl
      rw [e1]
      obtain ⟨f, ih⟩ := pw_loop ha fuel (if l % 2 = 1 then r + e else r) (e + e) (l / 2) (by omega) (by omega)
      refine ⟨f, ih.trans ?_⟩
      have e2 : (if l % 2 = 1 then r + e else r) + (e + e) * (l / 2) = r + e * l := by
        rw [← Nat.two_mul e, Nat.mul_comm 2 e, Nat.mul_assoc]
        by_cases h2 : l % 2 = 1
        · have h3 : l = 2 * (l / 2) + 1 := by omega
          rw [if_pos h2]
          generalize l / 2 = m at *
          subst h3
          rw [Nat.mul_add, Nat.mul_one]
          omega
        · have h3 : l = 2 * (l / 2) := by omega
          rw [if_neg h2]
          generalize l / 2 = m at *
          subst h3
          rfl
      rw [e2]
    · have hl0 : l = 0 := by omega
      subst hl0
      refine ⟨a ^ e, ?_⟩
      rw [decide_eq_false (by omega : ¬ 0 < ((0 : Nat) : Int))]
      rfl
theorem run_power (ds : List Dt) (h : Fpow ds ≠ .no) : runD 5 m_power ds = Fpow ds := by
  unfold Fpow at h
  split at h
  · rename_i a k
    split at h
    · rename_i hc
      have e : Fpow [.int a, .int k] = .ok (.int (a ^ k.toNat)) := if_pos hc
      obtain ⟨ha, hk⟩ := hc
      obtain ⟨k, rfl⟩ : ∃ j : Nat, k = (j : Int) := ⟨k.toNat, by omega⟩
      rw [e, Int.toNat_natCast]
      have hst : st0 5 [.int a, .int (k : Int)] = { sl := [.im (.int a), .im (.int k), .no, .no, .no], mo := [] } := rfl
      obtain ⟨f, hl⟩ := pw_loop (k := (k : Int)) ha 64 0 1 k (by omega) (.inl ⟨rfl, by omega⟩)
      have hp : ∀ K : Ms → O, seqS (asgS 2 (cE (.int 1))) (seqS (moveS 3 0) (seqS (moveS 4 1) K)) { sl := [.im (.int a), .im (.int k), .no, .no, .no], mo := [] } = K (pwS a k (a ^ 0) (a ^ 1) k) := fun K => by
        rw [Int.pow_zero, Int.pow_succ, Int.pow_zero, Int.one_mul]
        rfl
      unfold runD m_power
      rw [hst, hp, seqS_run]
      show ((whl _ pwB 64 _).seq _).fo = _
      rw [hl, seq_nx, Nat.zero_add, Nat.one_mul]
      rfl
    · exact absurd rfl h
  · exact absurd rfl h
end Lq

namespace Lq
open PySem PySem.Spec PyProof.Rows L2
def wtW (v : List Int) : Nat := (v.filter fun x => decide (x ≠ 0)).length
def m_weight : Ms → O := (retS (calE (aCons (frz (lcE (itS (varE 0)) (Tk.nm 1).k (tst (op2 (varE 1) (cE (.int 0)) neO)) (varE 1) [1])) aNil) lenO))
noncomputable def Fweight : List Dt → Fo := mkF (fun v : List Int => [Wd v]) (fun v => v.length ≤ 1000) fun v => .ok (.int (wtW v))
theorem v_inj : ∀ a b : List Int, [Wd a] = [Wd b] → a = b := fun a b h => by
  simp only [List.cons.injEq, and_true] at h
  exact Wd_inj h
theorem Fweight_run {v : List Int} (h : v.length ≤ 1000) : Fweight [Wd v] = .ok (.int (wtW v)) := mkF_run v_inj v h
theorem run_weight (ds : List Dt) (h : Fweight ds ≠ .no) : runD 2 m_weight ds = Fweight ds := by
  obtain ⟨v, hv, rfl, e⟩ := mkF_inv h
  unfold Fweight
  rw [e]
  have key := nz_run (S := st0 2 [Wd v]) (a := 0) (i := 1) (d := Wd v) rfl rfl (show 1 < 2 by decide) (by omega : v.length ≤ 100000)
  unfold runD m_weight
  simp only [retS_run, calE_run, aCons_run, frz_run']
  rw [key]
  simp [O.fo, wtW]
def krawI (p n j i : Int) : Int := ((List.range (j + 1).toNat).map fun s : Nat => (-1) ^ s * (p - 1) ^ (j - (s : Int)).toNat * binF i (s : Int) * binF (n - i) (j - (s : Int))).sum
theorem Fpow_run {a k : Int} (ha : -100 ≤ a ∧ a ≤ 100) (hk : 0 ≤ k ∧ k ≤ 12) : Fpow [.int a, .int k] = .ok (.int (a ^ k.toNat)) := if_pos ⟨ha, hk⟩
end Lq

namespace Lq
open PySem PySem.Spec PyProof.Rows L2
def okX (n : Nat) (xs : List Int) : Prop := xs.length ≤ n ∧ ∀ x ∈ xs, 0 ≤ x ∧ x < 1009
end Lq

namespace Lq
open PySem PySem.Spec PyProof.Rows L2
end Lq

namespace Lq
open PySem PySem.Spec PyProof.Rows L2
def okT : Dt → Bool | .non => true | .bl _ => true | .int _ => true | .lst _ => true | .tup _ => true | .str x => decide (x.length ≤ 1000) && PyData.strOk x | _ => false
end Lq

namespace Lq
open PySem PySem.Spec PyProof.Rows L2
def stL (ns : List Int) : Int × Int := ns.foldl (fun q c => (q.1 * 1000003 + (if c < 0 then -c else c), (q.2 * 48271 + c) % 2147483647)) (0, 1)
def stB : Ms → O := (seqS (asgS 1 (op2 (op2 (varE 1) (cE (.int 1000003)) mulO) (calE (aCons (varE 3) aNil) absO) addO))
  (asgS 2 (op2 (calE (aCons (op2 (op2 (varE 2) (cE (.int 48271)) mulO) (varE 3) addO) aNil) intO) (cE (.int 2147483647)) modO)))
def m__law_state : Ms → ON := (seqN (asgS 1 (cE (.int 0)))
  (seqN (asgS 2 (cE (.int 1)))
  (seqN (forS (itS (frz (slL (varE 0) oNone (oSome (cE (.int 63)))))) (Tk.nm 3).k stB)
  (retNL (lstE (aCons (varE 1) (aCons (varE 2) aNil)))))))
noncomputable def Fstate : List Dt → FoN := runN 4 m__law_state
theorem cut_all {α : Type} {xs : List α} (h : xs.length ≤ 63) : cut xs none (some 63) = xs := by
  unfold cut
  rw [show HT.sIx xs.length xs.length (some 63) = min 63 xs.length from HT.sIx_nat _ _ 63, HT.sIx_none, Nat.min_eq_right h]
  simp
theorem Fstate_run {ns : List Int} (h : ns.length ≤ 63) : Fstate [scrD ns] = .ok (stD (stL ns)) := by
  have hst : st0 4 [scrD ns] = { sl := [.im (scrD ns), .no, .no, .no], mo := [] } := rfl
  have hit : itS (frz (slL (varE 0) oNone (oSome (cE (.int 63))))) { sl := [.im (scrD ns), .im (.int 0), .im (.int 1), .no], mo := [] } = .ok (ns.map Dt.int) { sl := [.im (scrD ns), .im (.int 0), .im (.int 1), .no], mo := [] } := by
    rw [itS_run, frz_run']
    unfold slL oNone oSome
    rw [varE_im (d := scrD ns) (by rfl)]
    simp only [R.bind_ok, cE_run]
    unfold scrD
    simp only [R.bind_ok]
    rw [cut_all (by rw [List.length_map]; exact h)]
    rfl
  obtain ⟨S', f1, f2⟩ := forL_fold (k := (Tk.nm 3).k) (body := stB) Dt.int (fun _ (q : Int × Int) S => ∃ x, S = { sl := [.im (scrD ns), .im (.int q.1), .im (.int q.2), x], mo := [] }) (fun q c => (q.1 * 1000003 + (if c < 0 then -c else c), (q.2 * 48271 + c) % 2147483647)) ns 0 (0, 1) { sl := [.im (scrD ns), .im (.int 0), .im (.int 1), .no], mo := [] } ⟨.no, rfl⟩ (fun j q c S hc _ hI => by
    obtain ⟨x, rfl⟩ := hI
    have c1 : CMul q.1 1000003 := .inr (by decide)
    have c2 : CMul q.2 48271 := .inr (by decide)
    refine ⟨_, { sl := [.im (scrD ns), .im (.int (q.1 * 1000003 + (if c < 0 then -c else c))), .im (.int ((q.2 * 48271 + c) % 2147483647)), .im (.int c)], mo := [] }, kNm _ _ _, .inl ?_, _, rfl⟩
    simp [stB, c1, c2])
  obtain ⟨x, rfl⟩ := f2
  have hfor : forS (itS (frz (slL (varE 0) oNone (oSome (cE (.int 63)))))) (Tk.nm 3).k stB { sl := [.im (scrD ns), .im (.int 0), .im (.int 1), .no], mo := [] } = .nx { sl := [.im (scrD ns), .im (.int (stL ns).1), .im (.int (stL ns).2), x], mo := [] } := by
    rw [forS_run, hit, R.stmt_ok, f1]
    rfl
  unfold Fstate runN m__law_state
  rw [hst]
  simp only [seqN, asgS_run', cE_run, R.stmt_ok]
  show ((match forS (itS (frz (slL (varE 0) oNone (oSome (cE (.int 63)))))) (Tk.nm 3).k stB { sl := [.im (scrD ns), .im (.int 0), .im (.int 1), .no], mo := [] } with | .nx S1 => _ | .er e S1 => _ | _ => _ : ON)).fo = _
  rw [hfor]
  simp [retNL, ON.fo, stD]
end Lq

namespace Lq
open PySem PySem.Spec PyProof.Rows L2
open PySem.StrLaws PySem.Builtin PySem.Builtin.Str
end Lq

namespace Lq
open PySem PySem.Spec PyProof.Rows L2
def dotN (n : Nat) (x y : List Int) : Int := ((List.range n).map fun k => x.getD k 0 * y.getD k 0).sum
end Lq

namespace Lq
open PySem PySem.Spec PyProof.Rows L2
def natsOf (ds : List Dt) : Option (List Nat) := (intsOf ds).bind fun ns => if (ns.all fun i => decide (0 ≤ i)) = true then some (ns.map Int.toNat) else none
theorem natsOf_map (P : List Nat) : natsOf (P.map fun (c : Nat) => Dt.int (c : Int)) = some P := by
  have e : (P.map fun (c : Nat) => Dt.int (c : Int)) = (P.map fun (c : Nat) => (c : Int)).map Dt.int := by rw [List.map_map]; rfl
  unfold natsOf
  rw [e, intsOf_map]
  dsimp only [Option.bind]
  rw [if_pos (by rw [List.all_eq_true]; intro x hx; obtain ⟨c, _, rfl⟩ := List.mem_map.mp hx; exact decide_eq_true (by omega)), List.map_map]
  congr 1
  exact (List.map_congr_left fun x _ => by simp).trans (List.map_id _)
theorem natsOf_eq {ds : List Dt} {P : List Nat} (h : natsOf ds = some P) : ds = P.map fun (c : Nat) => Dt.int (c : Int) := by
  unfold natsOf at h
  obtain ⟨ns, h1, h2⟩ := Option.bind_eq_some_iff.mp h
  split at h2
  · rename_i hc
    cases h2
    rw [intsOf_eq h1, List.map_map]
    rw [List.all_eq_true] at hc
    refine List.map_congr_left fun x hx => ?_
    have := of_decide_eq_true (hc x hx)
    simp only [Function.comp]
    rw [Int.toNat_of_nonneg this]
  · cases h2
theorem ixN_nat {n k : Nat} (h : k < n) : ixN n (k : Int) = some k := by
  unfold ixN
  rw [if_pos (by omega), if_pos (by omega), Int.toNat_natCast]
theorem setS_run {i k j : Nat} {f g : Ms → R Dt} {S : Ms} {xs : List Dt} {d : Dt} {z : Int} (h1 : f S = .ok d S) (hm : muAt S i = some (k, xs)) (h2 : g S = .ok (.int z) S) (hj : ixN xs.length z = some j) : setS i f g S = .nx { S with mo := S.mo.set k (.ob (.ls (xs.set j d))) } := by
  unfold setS
  rw [h1, R.stmt_ok, hm]
  dsimp only
  rw [h2, R.stmt_ok, hm]
  dsimp only
  rw [hj]
def m__kernel_word : Ms → O := (seqS (asgN 5 (opN (frz (lstE (aCons (cE (.int 0)) aNil))) (varE 3) repL))
  (seqS (setS 5 (cE (.int 1)) (varE 2))
  (seqS (forS (itZ (aCons (varE 0) (aCons (varE 1) aNil))) (Tk.tp [6, 7]).k (setS 5 (op2 (op1 (op2 (varE 6) (varE 2) ixO) negO) (varE 4) modO) (varE 7)))
  (retS (calE (aCons (varE 5) aNil) tupO)))))
def kwL (p : Int) (n f : Nat) (qs : List (List Int × Nat)) : List Int := qs.foldl (fun w q => w.set q.2 (-(g q.1 f) % p)) ((List.replicate n 0).set f 1)
def Fkword : List Dt → Fo
  | [.tup ds, .tup es, .int f, .int n, .int p] => match wordsOf ds, natsOf es with
    | some T, some P => if (okP p && okRb p n.toNat T && decide (0 ≤ n ∧ n ≤ 1000) && decide (T.length ≤ 1000) && decide (0 ≤ f ∧ f < n) && P.all fun c => decide (c < n.toNat)) = true then .ok (Wd (kwL p n.toNat f.toNat (T.zip P))) else .no
    | _, _ => .no
  | _ => .no
theorem Fkword_run {p : Int} {n f : Nat} {T : List (List Int)} {P : List Nat} (hp : okP p = true) (hT : okR p n T) (hn : n ≤ 1000) (hl : T.length ≤ 1000) (hf : f < n) (hP : ∀ c ∈ P, c < n) : Fkword [TD T, PD P, .int f, .int n, .int p] = .ok (Wd (kwL p n f (T.zip P))) := by
  unfold Fkword TD PD
  simp only [wordsOf_map, natsOf_map, Int.toNat_natCast]
  rw [if_pos]
  simp [hp, okRb_iff.mpr hT, hl]
  first | exact hP | exact ⟨hn, hP⟩ | exact ⟨by omega, hP⟩ | exact ⟨by omega, by omega, hP⟩ | exact ⟨⟨by omega, by omega⟩, hP⟩
theorem zipD_wn : ∀ (rows : List (List Int)) (ws : List Nat), zipD (rows.map Wd) (ws.map fun (c : Nat) => Dt.int (c : Int)) = (rows.zip ws).map fun q => Dt.tup [Wd q.1, .int (q.2 : Int)]
  | [], _ => by simp [zipD]
  | _ :: _, [] => by simp [zipD]
  | a :: v, b :: w => by
    have := zipD_wn v w
    unfold zipD at this ⊢
    simp [this]
theorem repL_run {n : Nat} (hn : n ≤ 1000) : repL (.lst [.int 0]) (.int (n : Int)) = some ((List.replicate n (0 : Int)).map Dt.int) := by
  show (if _ then _ else _) = _
  have : ([Dt.int 0] : List Dt).length ≤ 100 ∧ (0 : Int) ≤ (n : Int) ∧ (n : Int) ≤ 1000 := ⟨by simp, by omega, by omega⟩
  rw [if_pos this, Int.toNat_natCast, rep_int]
theorem setl (w : List Int) (k : Nat) (x : Int) : (w.map Dt.int).set k (.int x) = (w.set k x).map Dt.int := by rw [List.map_set]
def kwS (T : List (List Int)) (P : List Nat) (f n : Nat) (p : Int) (w : List Int) (x6 x7 : Sv) : Ms := { sl := [.im (TD T), .im (PD P), .im (.int f), .im (.int n), .im (.int p), .mu 0, x6, x7], mo := [.ob (.ls (w.map Dt.int))] }
theorem run__kernel_word (ds : List Dt) (h : Fkword ds ≠ .no) : runD 8 m__kernel_word ds = Fkword ds := by
  unfold Fkword at h
  split at h
  · rename_i ds es f n p
    split at h
    · rename_i T P h1 h2
      split at h
      · rename_i hc
        have := wordsOf_eq h1
        have := natsOf_eq h2
        subst_vars
        simp only [Bool.and_eq_true, decide_eq_true_eq, List.all_eq_true] at hc
        obtain ⟨⟨⟨⟨⟨hp, hT⟩, hn⟩, hl⟩, hf⟩, hP⟩ := hc
        obtain ⟨n, rfl⟩ : ∃ k : Nat, n = (k : Int) := ⟨n.toNat, by omega⟩
        obtain ⟨f, rfl⟩ : ∃ k : Nat, f = (k : Int) := ⟨f.toNat, by omega⟩
        rw [Int.toNat_natCast] at hT hP
        have hT := okRb_iff.mp hT
        have hn1 : n ≤ 1000 := by omega
        have hf1 : f < n := by omega
        have hp1 := (okP_iff.mp hp).1
        have e0 : Fkword [.tup (T.map Wd), .tup (P.map fun (c : Nat) => Dt.int (c : Int)), .int (f : Int), .int (n : Int), .int p] = _ := Fkword_run hp hT hn1 hl hf1 hP
        rw [e0]
        have hst : st0 8 [.tup (T.map Wd), .tup (P.map fun (c : Nat) => Dt.int (c : Int)), .int (f : Int), .int (n : Int), .int p] = { sl := [.im (TD T), .im (PD P), .im (.int f), .im (.int n), .im (.int p), .no, .no, .no], mo := [] } := rfl
        have e1 : asgN 5 (opN (frz (lstE (aCons (cE (.int 0)) aNil))) (varE 3) repL) { sl := [.im (TD T), .im (PD P), .im (.int f), .im (.int n), .im (.int p), .no, .no, .no], mo := [] } = .nx (kwS T P f n p (List.replicate n 0) .no .no) := by
          have := repL_run hn1
          simp [this, kwS]
        have e2 : setS 5 (cE (.int 1)) (varE 2) (kwS T P f n p (List.replicate n 0) .no .no) = .nx (kwS T P f n p ((List.replicate n 0).set f 1) .no .no) := by
          refine (setS_run (k := 0) (j := f) (d := .int 1) (z := (f : Int)) rfl (muAt_run rfl rfl) (varE_im rfl) (ixN_nat (by simp; omega))).trans ?_
          rw [setl]
          rfl
        have hit : itZ (aCons (varE 0) (aCons (varE 1) aNil)) (kwS T P f n p ((List.replicate n 0).set f 1) .no .no) = .ok ((T.zip P).map fun q => Dt.tup [Wd q.1, .int (q.2 : Int)]) (kwS T P f n p ((List.replicate n 0).set f 1) .no .no) := by
          simp [kwS, TD, PD, zipD_wn]
        obtain ⟨S', f1, hok, y6, y7, f2⟩ := forL_fold (k := (Tk.tp [6, 7]).k) (body := setS 5 (op2 (op1 (op2 (varE 6) (varE 2) ixO) negO) (varE 4) modO) (varE 7)) (fun q : List Int × Nat => Dt.tup [Wd q.1, .int (q.2 : Int)])
          (fun _ (w : List Int) S => w.length = n ∧ ∃ y6 y7, S = kwS T P f n p w y6 y7) (fun w q => w.set q.2 (-(g q.1 f) % p)) (T.zip P) 0 ((List.replicate n 0).set f 1) _ ⟨by simp, .no, .no, rfl⟩ (fun _ w q S hq _ hI => by
            obtain ⟨hw, y6, y7, rfl⟩ := hI
            have hq1 := hT _ (List.of_mem_zip hq).1
            have hq2 := hP _ (List.of_mem_zip hq).2
            have e3 := wg_ix (r := q.1) (k := f) (by rw [hq1.2]; exact hf1)
            have hs1 : op2 (op1 (op2 (varE 6) (varE 2) ixO) negO) (varE 4) modO (kwS T P f n p w (.im (Wd q.1)) (.im (.int (q.2 : Int)))) = .ok (.int (-(g q.1 f) % p)) (kwS T P f n p w (.im (Wd q.1)) (.im (.int (q.2 : Int)))) := by simp [kwS, e3, hp1]
            have hs2 := setS_run (i := 5) (k := 0) (xs := w.map Dt.int) (j := q.2) (z := (q.2 : Int)) (g := varE 7) hs1 (muAt_run rfl rfl) (varE_im rfl) (ixN_nat (by rw [List.length_map, hw]; exact hq2))
            rw [setl] at hs2
            exact ⟨kwS T P f n p w (.im (Wd q.1)) (.im (.int (q.2 : Int))), kwS T P f n p (w.set q.2 (-(g q.1 f) % p)) (.im (Wd q.1)) (.im (.int (q.2 : Int))), by simp [kNames, kwS], .inl hs2, by rw [List.length_set]; exact hw, _, _, rfl⟩)
        unfold runD m__kernel_word
        rw [hst, seqS_run, e1, seq_nx, seqS_run, e2, seq_nx, seqS_run, forS_run, hit, R.stmt_ok, f1, seq_nx, f2]
        simp [kwS]
        rfl
      · exact absurd rfl h
    · exact absurd rfl h
  · exact absurd rfl h
def m_kernel : Ms → O := (seqS (asgT (Tk.tp [3, 4]) (funE 3 (aCons (varE 0) (aCons (varE 1) (aCons (varE 2) aNil))) Freduced))
  (retS (calE (aCons (frz (lcE (itR1 (aCons (varE 1) aNil)) (Tk.nm 5).k (tst (op2 (varE 5) (varE 4) (inI true))) (funE 5 (aCons (varE 3) (aCons (varE 4) (aCons (varE 5) (aCons (varE 1) (aCons (varE 2) aNil))))) Fkword) [5])) aNil) tupO)))
theorem contains_nat (P : List Nat) (c : Nat) : (P.map fun (c : Nat) => (c : Int)).contains (c : Int) = decide (c ∈ P) := by
  rw [Bool.eq_iff_iff, List.contains_iff_mem, decide_eq_true_eq, List.mem_map]
  constructor
  · rintro ⟨a, ha, e⟩
    have : a = c := by omega
    exact this ▸ ha
  · exact fun h => ⟨c, h, rfl⟩
theorem intsOf_pd (P : List Nat) : intsOf (P.map fun (c : Nat) => Dt.int (c : Int)) = some (P.map fun (c : Nat) => (c : Int)) := by
  have e : (P.map fun (c : Nat) => Dt.int (c : Int)) = (P.map fun (c : Nat) => (c : Int)).map Dt.int := by rw [List.map_map]; rfl
  rw [e, intsOf_map]
theorem nin_pd (P : List Nat) (c : Nat) : inI true (.int (c : Int)) (PD P) = some (.bl (decide (c ∉ P))) := by
  unfold inI PD
  dsimp only
  rw [seqOf_tup]
  dsimp only [Option.bind]
  rw [intsOf_pd]
  dsimp only [Option.map]
  rw [contains_nat, if_pos rfl, decide_not]
def frees (n : Nat) (P : List Nat) : List Nat := (List.range n).filter fun c => decide (c ∉ P)
def kerL (p : Int) (n : Nat) (s : Red) : List (List Int) := (frees n s.P).map fun f => kwL p n f (s.T.zip s.P)
def Fkernel : List Dt → Fo
  | [d, .int w, .int p] => match (seqOf d).bind wordsOf with
    | some rows => if (isP p && decide (0 ≤ w ∧ w ≤ 1000) && decide (rows.length ≤ 1000) && okRb p w.toNat rows) = true then .ok (TD (kerL p w.toNat (redN p rows w.toNat))) else .no
    | none => .no
  | _ => .no
theorem Fkernel_run {p : Int} {n : Nat} {rows : List (List Int)} {d : Dt} (hd : seqOf d = some (rows.map Wd)) (hp : isP p = true) (hn : n ≤ 1000) (hl : rows.length ≤ 1000) (h : okR p n rows) : Fkernel [d, .int n, .int p] = .ok (TD (kerL p n (redN p rows n))) := by
  unfold Fkernel
  dsimp only
  rw [hd]
  simp only [Option.bind, wordsOf_map, Int.toNat_natCast]
  rw [if_pos]
  simp [hp, okRb_iff.mpr h, hl]
  omega
theorem pk_mem {P : List Nat} {n at_ : Nat} {T : List (List Int)} (h : Rr at_ T P) {c : Nat} (hc : c ∈ P) : c < at_ := by
  obtain ⟨k, hk, e⟩ := List.getElem_of_mem hc
  have := h.lt k hk
  unfold pk at this
  rw [List.getD_eq_getElem?_getD, List.getElem?_eq_getElem hk] at this
  rw [← e]
  exact this
theorem asgT_two {i j : Nat} {f : Ms → R Dt} {S S1 : Ms} {d e : Dt} (h : f S = .ok (.tup [d, e]) S1) : asgT (Tk.tp [i, j]) f S = .nx { S1 with sl := (S1.sl.set i (.im d)).set j (.im e) } := by
  rw [asgT_run', h, R.stmt_ok]
  rfl
theorem run_kernel (ds : List Dt) (h : Fkernel ds ≠ .no) : runD 6 m_kernel ds = Fkernel ds := by
  unfold Fkernel at h
  split at h
  · rename_i d w p
    split at h
    · rename_i rows hrows
      split at h
      · rename_i hc
        simp only [Bool.and_eq_true, decide_eq_true_eq] at hc
        obtain ⟨⟨⟨hp, hw⟩, hl⟩, hk⟩ := hc
        obtain ⟨n, rfl⟩ : ∃ k : Nat, w = (k : Int) := ⟨w.toNat, by omega⟩
        rw [Int.toNat_natCast] at hk
        have hok := okRb_iff.mp hk
        obtain ⟨xs, hx1, hx2⟩ := Option.bind_eq_some_iff.mp hrows
        have hx3 := wordsOf_eq hx2
        subst hx3
        have hn : n ≤ 1000 := by omega
        rw [Fkernel_run hx1 hp hn hl hok]
        have hp' := isP_okP hp
        have e1 := Freduced_run hx1 hp hn hl hok
        have hI := RI_N hp hn hok n (Nat.le_refl _)
        have hT := redN_ok hp' hok n
        have hlen := redN_lens (p := p) (rows := rows) n
        generalize redN p rows n = s at *
        have hst : st0 6 [d, .int (n : Int), .int p] = { sl := [.im d, .im (.int n), .im (.int p), .no, .no, .no], mo := [] } := rfl
        have e2 : asgT (Tk.tp [3, 4]) (funE 3 (aCons (varE 0) (aCons (varE 1) (aCons (varE 2) aNil))) Freduced) { sl := [.im d, .im (.int n), .im (.int p), .no, .no, .no], mo := [] } = .nx { sl := [.im d, .im (.int n), .im (.int p), .im (TD s.T), .im (PD s.P), .no], mo := [] } := by
          refine (asgT_two (d := TD s.T) (e := PD s.P) (S1 := { sl := [.im d, .im (.int n), .im (.int p), .no, .no, .no], mo := [] }) ?_).trans rfl
          simp [e1]
          rfl
        have key : lcE (itR1 (aCons (varE 1) aNil)) (Tk.nm 5).k (tst (op2 (varE 5) (varE 4) (inI true))) (funE 5 (aCons (varE 3) (aCons (varE 4) (aCons (varE 5) (aCons (varE 1) (aCons (varE 2) aNil))))) Fkword) [5] { sl := [.im d, .im (.int n), .im (.int p), .im (TD s.T), .im (PD s.P), .no], mo := [] } = .ok ((frees n s.P).map fun f => Wd (kwL p n f (s.T.zip s.P))) { sl := [.im d, .im (.int n), .im (.int p), .im (TD s.T), .im (PD s.P), .no], mo := [] } := by
          refine lcE_flt (fun (c : Nat) => Dt.int (c : Int)) (fun c => decide (c ∉ s.P)) (fun f => Wd (kwL p n f (s.T.zip s.P))) (List.range n) (itR1_run (by simp) (by omega)) (fun c hc => ?_) (by simp; omega)
          have hc' := List.mem_range.mp hc
          have e3 := nin_pd s.P c
          have e4 := Fkword_run (f := c) hp' hT.1 hn (by omega) hc' (fun x hx => pk_mem (n := n) hI.rr hx)
          refine ⟨_, { sl := [.im d, .im (.int n), .im (.int p), .im (TD s.T), .im (PD s.P), .im (.int (c : Int))], mo := [] }, kNm _ _ _, by simp [wipeL, e3], rfl, fun _ => ⟨{ sl := [.im d, .im (.int n), .im (.int p), .im (TD s.T), .im (PD s.P), .im (.int (c : Int))], mo := [] }, by simp [e4], rfl⟩⟩
        unfold runD m_kernel
        rw [hst, seqS_run, e2, seq_nx, retS_run, calE_run, aCons_run, frz_run', key, R.bind_ok, R.bind_ok, aNil_run, R.bind_ok, R.bind_ok, tupO_lst, R.of_some, R.stmt_ok]
        show Fo.ok _ = Fo.ok _
        unfold TD kerL
        rw [List.map_map]
        rfl
      · exact absurd rfl h
    · exact absurd rfl h
  · exact absurd rfl h
end Lq

namespace Lq
open PySem PySem.Spec PyProof.Rows L2
end Lq

namespace Lq
open PySem PySem.Spec PyProof.Rows L2
theorem sm_cons (x y : Int) (v w : List Int) : sm (x :: v) (y :: w) = x * y + sm v w := by
  unfold sm
  rw [List.zipWith_cons_cons, List.sum_cons]
theorem sm_comm : ∀ v w : List Int, sm v w = sm w v
  | [], [] => rfl
  | [], _ :: _ => rfl
  | _ :: _, [] => rfl
  | x :: v, y :: w => by rw [sm_cons, sm_cons, sm_comm v w, Int.mul_comm]
theorem sm_lin (p a : Int) : ∀ (r u v : List Int), r.length = u.length → v.length = u.length → sm r (lin p u v a) % p = (sm r u + sm r v * a) % p
  | [], u, v, h1, h2 => by
    have hu : u = [] := List.eq_nil_of_length_eq_zero h1.symm
    subst hu
    have hv : v = [] := List.eq_nil_of_length_eq_zero h2
    subst hv
    show (0 : Int) % p = (0 + 0 * a) % p
    rw [Int.zero_mul, Int.add_zero]
  | c :: r, [], v, h1, h2 => by cases h1
  | c :: r, x :: u, [], h1, h2 => by cases h2
  | c :: r, x :: u, y :: v, h1, h2 => by
    have ih := sm_lin p a r u v (Nat.succ.inj h1) (Nat.succ.inj h2)
    have e : lin p (x :: u) (y :: v) a = ((x + y * a % p) % p) :: lin p u v a := rfl
    have h : c * ((x + y * a % p) % p) % p = (c * x + c * y * a) % p := by
      rw [Int.mul_emod, Int.emod_emod, emod_lin, ← Int.mul_emod, Int.mul_add, ← Int.mul_assoc]
    rw [e, sm_cons, sm_cons, sm_cons, Int.add_emod, h, ih, ← Int.add_emod, Int.add_mul]
    congr 1
    omega
theorem sm_zero : ∀ v w : List Int, (∀ j, g v j * g w j = 0) → sm v w = 0
  | [], _, _ => by simp [sm]
  | _ :: _, [], _ => by simp [sm]
  | x :: v, y :: w, h => by
    have h0 : x * y = 0 := h 0
    rw [sm_cons, h0, sm_zero v w fun j => h (j + 1)]
    rfl
theorem sm_one : ∀ (v w : List Int) (c : Nat), c < v.length → c < w.length → (∀ j, j ≠ c → g v j * g w j = 0) → sm v w = g v c * g w c
  | [], _, _, h, _, _ => by cases h
  | _ :: _, [], _, _, h, _ => by cases h
  | x :: v, y :: w, 0, _, _, h => by
    rw [sm_cons, sm_zero v w fun j => h (j + 1) (by omega)]
    exact Int.add_zero _
  | x :: v, y :: w, c + 1, h1, h2, h => by
    have h0 : x * y = 0 := h 0 (by omega)
    rw [sm_cons, h0, Int.zero_add]
    exact sm_one v w c (Nat.lt_of_succ_lt_succ h1) (Nat.lt_of_succ_lt_succ h2) fun j hj => h (j + 1) (by omega)
theorem sm_two : ∀ (v w : List Int) (c d : Nat), c ≠ d → c < v.length → c < w.length → d < v.length → d < w.length → (∀ j, j ≠ c → j ≠ d → g v j * g w j = 0) → sm v w = g v c * g w c + g v d * g w d
  | [], _, _, _, _, h, _, _, _, _ => by cases h
  | _ :: _, [], _, _, _, _, h, _, _, _ => by cases h
  | x :: v, y :: w, 0, 0, hcd, _, _, _, _, _ => absurd rfl hcd
  | x :: v, y :: w, 0, d + 1, _, _, _, h3, h4, h => by
    rw [sm_cons, sm_one v w d (Nat.lt_of_succ_lt_succ h3) (Nat.lt_of_succ_lt_succ h4) fun j hj => h (j + 1) (by omega) (by omega)]
    rfl
  | x :: v, y :: w, c + 1, 0, _, h1, h2, _, _, h => by
    rw [sm_cons, sm_one v w c (Nat.lt_of_succ_lt_succ h1) (Nat.lt_of_succ_lt_succ h2) fun j hj => h (j + 1) (by omega) (by omega), Int.add_comm]
    rfl
  | x :: v, y :: w, c + 1, d + 1, hcd, h1, h2, h3, h4, h => by
    have h0 : x * y = 0 := h 0 (by omega) (by omega)
    rw [sm_cons, h0, Int.zero_add]
    exact sm_two v w c d (by omega) (Nat.lt_of_succ_lt_succ h1) (Nat.lt_of_succ_lt_succ h2) (Nat.lt_of_succ_lt_succ h3) (Nat.lt_of_succ_lt_succ h4) fun j hj hk => h (j + 1) (by omega) (by omega)
theorem g_far {v : List Int} {c : Nat} (h : v.length ≤ c) : g v c = 0 := by
  unfold g
  rw [List.getD_eq_getElem?_getD, List.getElem?_eq_none h]
  rfl
def Zr (p : Int) (n : Nat) (rows : List (List Int)) (y : List Int) : Prop := ok1 p n y ∧ ∀ r ∈ rows, sm r y % p = 0
section
variable {p : Int} {n : Nat} {rows T : List (List Int)} {P : List Nat}
theorem sm_zw (p : Int) (n : Nat) (y : List Int) : sm (List.replicate n 0) y % p = 0 := by
  rw [sm_zero _ _ fun j => by rw [g_zero, Int.zero_mul]]
  exact Int.zero_emod _
theorem Zr_Sp (hp : okP p = true) (hn : n ≤ 1000) (h : okR p n rows) {y u : List Int} (hy : Zr p n rows y) (q : Sp p n rows u) : sm u y % p = 0 := by
  induction q with
  | zero => exact sm_zw _ _ _
  | @step w r a hw hr ih =>
    have hw' := Sp_ok hp hn h hw
    have hr' := h r hr
    rw [sm_comm, sm_lin p a y w r (by rw [hy.1.2, hw'.2]) (by rw [hr'.2, hw'.2]), sm_comm y w, sm_comm y r, Int.add_emod, Int.mul_emod, ih, hy.2 r hr, Int.zero_mul, Int.zero_emod, Int.add_zero, Int.zero_emod]
theorem Zr_red (hp : isP p = true) (hn : n ≤ 1000) (h : okR p n rows) (y : List Int) : Zr p n (redN p rows n).T y ↔ Zr p n rows y := by
  have hp' := isP_okP hp
  have hT := (redN_ok hp' h n).1
  exact ⟨fun q => ⟨q.1, fun r hr => Zr_Sp hp' hn hT q ((red_Sp hp hn h r).mpr (Sp_row hp' h hr))⟩, fun q => ⟨q.1, fun r hr => Zr_Sp hp' hn h q ((red_Sp hp hn h r).mp (Sp_row hp' hT hr))⟩⟩
theorem Zr_lin (hp : okP p = true) (h : okR p n rows) {u v : List Int} {a : Int} (hu : Zr p n rows u) (hv : Zr p n rows v) : Zr p n rows (lin p u v a) := by
  refine ⟨ok_lin hp hu.1 hv.1, fun r hr => ?_⟩
  rw [sm_lin p a r u v (by rw [(h r hr).2, hu.1.2]) (by rw [hv.1.2, hu.1.2]), Int.add_emod, Int.mul_emod, hu.2 r hr, hv.2 r hr, Int.zero_mul, Int.zero_emod, Int.add_zero, Int.zero_emod]
theorem Zr_zero (hp : okP p = true) (hn : n ≤ 1000) : Zr p n rows (List.replicate n 0) := ⟨ok_zero hp hn, fun r _ => by rw [sm_comm]; exact sm_zw _ _ _⟩
theorem g_set_ne {w : List Int} {i c : Nat} {x : Int} (h : c ≠ i) : g (w.set i x) c = g w c := by
  unfold g
  rw [List.getD_eq_getElem?_getD, List.getD_eq_getElem?_getD, List.getElem?_set_ne (Ne.symm h)]
theorem g_set {w : List Int} {i : Nat} {x : Int} (h : i < w.length) : g (w.set i x) i = x := by
  unfold g
  rw [List.getD_eq_getElem?_getD, List.getElem?_set_self h]
  rfl
def setL {α : Type} (h : α × Nat → Int) (qs : List (α × Nat)) (w : List Int) : List Int := qs.foldl (fun w q => w.set q.2 (h q)) w
theorem setL_ne {α : Type} {h : α × Nat → Int} {c : Nat} : ∀ (qs : List (α × Nat)) (w : List Int), (∀ q ∈ qs, q.2 ≠ c) → g (setL h qs w) c = g w c
  | [], _, _ => rfl
  | q :: qs, w, hq => (setL_ne qs _ fun x hx => hq x (List.mem_cons_of_mem _ hx)).trans (g_set_ne (Ne.symm (hq q List.mem_cons_self)))
theorem setL_at {α : Type} {h : α × Nat → Int} : ∀ (qs : List (α × Nat)) (w : List Int), (qs.map (·.2)).Nodup → (∀ q ∈ qs, q.2 < w.length) → ∀ q ∈ qs, g (setL h qs w) q.2 = h q
  | [], _, _, _, q, hq => absurd hq List.not_mem_nil
  | q0 :: qs, w, hnd, hl, q, hq => by
    rw [List.map_cons, List.nodup_cons] at hnd
    rcases List.mem_cons.mp hq with rfl | hq
    · exact (setL_ne qs _ fun x hx e => hnd.1 (List.mem_map.mpr ⟨x, hx, e⟩)).trans (g_set (hl _ List.mem_cons_self))
    · exact setL_at qs _ hnd.2 (fun x hx => by rw [List.length_set]; exact hl x (List.mem_cons_of_mem _ hx)) q hq
theorem setL_ok {α : Type} {h : α × Nat → Int} : ∀ (qs : List (α × Nat)) (w : List Int), ok1 p n w → (∀ q ∈ qs, 0 ≤ h q ∧ h q < p) → ok1 p n (setL h qs w)
  | [], _, hw, _ => hw
  | q :: qs, w, hw, hq => by
    refine setL_ok qs _ ⟨?_, by rw [List.length_set]; exact hw.2⟩ fun x hx => hq x (List.mem_cons_of_mem _ hx)
    obtain ⟨h1, h2⟩ := okW_iff.mp hw.1
    refine okW_iff.mpr ⟨by rw [List.length_set]; exact h1, fun x hx => ?_⟩
    rcases List.mem_or_eq_of_mem_set hx with hx | rfl
    · exact h2 x hx
    · exact hq q List.mem_cons_self
theorem zip_at (hl : T.length = P.length) {k : Nat} (hk : k < P.length) : (tk T k, pk P k) ∈ T.zip P := by
  have h1 : k < (T.zip P).length := by rw [List.length_zip]; omega
  have e : (T.zip P)[k] = (tk T k, pk P k) := by
    rw [List.getElem_zip]
    unfold tk pk
    rw [List.getD_eq_getElem?_getD, List.getD_eq_getElem?_getD, List.getElem?_eq_getElem (show k < T.length by omega), List.getElem?_eq_getElem hk]
    rfl
  rw [← e]
  exact List.getElem_mem _
theorem zip_snd (hl : T.length = P.length) : (T.zip P).map (·.2) = P := List.map_snd_zip (by omega)
theorem pk_get {k : Nat} (hk : k < P.length) : pk P k = P[k] := by
  unfold pk
  rw [List.getD_eq_getElem?_getD, List.getElem?_eq_getElem hk]
  rfl
theorem Rr_nd {at_ : Nat} (h : Rr at_ T P) : P.Nodup := by
  rw [List.Nodup, List.pairwise_iff_getElem]
  intro i j hi hj hij
  have := h.asc i j hij hj
  rw [pk_get hi, pk_get hj] at this
  omega
theorem mem_pk {c : Nat} (h : c ∈ P) : ∃ k < P.length, pk P k = c := by
  obtain ⟨k, hk, e⟩ := List.getElem_of_mem h
  exact ⟨k, hk, by rw [pk_get hk]; exact e⟩
theorem kw_ok (hp : isP p = true) (hn : n ≤ 1000) {f : Nat} : ok1 p n (kwL p n f (T.zip P)) := by
  have hp' := isP_okP hp
  have hp1 := (okP_iff.mp hp').1
  have hp2 := of_decide_eq_true hp
  refine setL_ok (h := fun q : List Int × Nat => -(g q.1 f) % p) _ _ ⟨okW_iff.mpr ⟨by simpa using hn, fun x hx => ?_⟩, by simp⟩ fun q _ => ⟨Int.emod_nonneg _ (by omega), Int.emod_lt_of_pos _ hp1⟩
  rcases List.mem_or_eq_of_mem_set hx with hx | rfl
  · have := (List.mem_replicate.mp hx).2
    omega
  · omega
theorem kw_self {f : Nat} (hf : f < n) (hfP : f ∉ P) : g (kwL p n f (T.zip P)) f = 1 := by
  refine (setL_ne (h := fun q : List Int × Nat => -(g q.1 f) % p) (c := f) _ _ fun q hq e => hfP (e ▸ (List.of_mem_zip hq).2)).trans (g_set (by simpa using hf))
theorem kw_free {f c : Nat} (hc : c ∉ P) (hcf : c ≠ f) : g (kwL p n f (T.zip P)) c = 0 := by
  refine (setL_ne (h := fun q : List Int × Nat => -(g q.1 f) % p) (c := c) _ _ fun q hq e => hc (e ▸ (List.of_mem_zip hq).2)).trans ((g_set_ne hcf).trans g_zero)
theorem kw_pk (h : Rr n T P) {f k : Nat} (hk : k < P.length) : g (kwL p n f (T.zip P)) (pk P k) = -(g (tk T k) f) % p :=
  setL_at (h := fun q : List Int × Nat => -(g q.1 f) % p) _ _ (by rw [zip_snd h.len]; exact Rr_nd h) (fun q hq => by
    have := pk_mem (n := 0) h (List.of_mem_zip hq).2
    simpa using this) _ (zip_at h.len hk)
theorem col {c : Nat} (h : Rr n T P) {y : List Int} (hy : ∀ c < n, c ∉ P → g y c = 0) {k : Nat} (hk : k < P.length) (hT : okR p n T) (hyl : y.length = n) (hck : c ≠ pk P k) : g (tk T k) c * g y c = 0 := by
  by_cases hcn : c < n
  · by_cases hcP : c ∈ P
    · obtain ⟨j, hj, rfl⟩ := mem_pk hcP
      rw [h.zro k j hk hj (fun e => hck (by rw [e])), Int.zero_mul]
    · rw [hy c hcn hcP, Int.mul_zero]
  · rw [g_far (v := y) (by omega), Int.mul_zero]
theorem kw_Zr (hp : isP p = true) (hn : n ≤ 1000) (hT : okR p n T) (h : Rr n T P) {f : Nat} (hf : f < n) (hfP : f ∉ P) : Zr p n T (kwL p n f (T.zip P)) := by
  refine ⟨kw_ok hp hn, fun r hr => ?_⟩
  obtain ⟨k, hk, rfl⟩ := mem_tk hr
  have hk' : k < P.length := by have := h.len; omega
  have hl := (hT _ hr).2
  have hkl := (kw_ok (T := T) (P := P) (f := f) hp hn).2
  have hpk := h.lt k hk'
  have hne : f ≠ pk P k := fun e => hfP (by rw [e, pk_get hk']; exact List.getElem_mem _)
  rw [sm_two _ _ f (pk P k) hne (by omega) (by omega) (by omega) (by omega) (fun j h1 h2 => ?_), kw_self hf hfP, kw_pk h hk', h.one k hk', Int.mul_one, Int.one_mul, Int.add_emod_emod, Int.add_right_neg]
  · exact Int.zero_emod _
  · by_cases hjn : j < n
    · by_cases hjP : j ∈ P
      · obtain ⟨i, hi, rfl⟩ := mem_pk hjP
        rw [h.zro k i hk' hi (fun e => h2 (by rw [e])), Int.zero_mul]
      · rw [kw_free hjP h1, Int.mul_zero]
    · rw [g_far (v := kwL p n f (T.zip P)) (by omega), Int.mul_zero]
theorem mem_frees {f : Nat} : f ∈ frees n P ↔ f < n ∧ f ∉ P := by
  unfold frees
  rw [List.mem_filter, List.mem_range, decide_eq_true_eq]
theorem ker_sp (hp : isP p = true) (hn : n ≤ 1000) (hT : okR p n T) (h : Rr n T P) : ∀ (fs : List Nat), (∀ f ∈ fs, f ∈ frees n P) → ∀ y, Zr p n T y → (∀ c < n, c ∉ P → c ∉ fs → g y c = 0) → Sp p n ((frees n P).map fun f => kwL p n f (T.zip P)) y
  | [], _, y, hy, h0 => by
    have h1 : ∀ c < n, c ∉ P → g y c = 0 := fun c h1 h2 => h0 c h1 h2 List.not_mem_nil
    have e : y = List.replicate n 0 := by
      refine g_ext hy.1.2 (by simp) fun c hc => ?_
      rw [g_zero]
      by_cases hcP : c ∈ P
      · obtain ⟨k, hk, rfl⟩ := mem_pk hcP
        have hkT : k < T.length := by have := h.len; omega
        have h2 := hy.2 _ (tk_mem hkT)
        have hl := (hT _ (tk_mem hkT)).2
        rw [sm_one _ _ (pk P k) (by omega) (by rw [hy.1.2]; exact hc) (fun j hj => col h h1 hk hT hy.1.2 hj), h.one k hk, Int.one_mul, g_mod hy.1 hc] at h2
        exact h2
      · exact h1 c hc hcP
    rw [e]
    exact .zero
  | f :: fs, hfs, y, hy, h0 => by
    have hp' := isP_okP hp
    have hf := hfs f List.mem_cons_self
    obtain ⟨hf1, hf2⟩ := mem_frees.mp hf
    have hK := kw_Zr hp hn hT h hf1 hf2
    have hy' := Zr_lin (a := -(g y f)) hp' hT hy hK
    have ih := ker_sp hp hn hT h fs (fun x hx => hfs x (List.mem_cons_of_mem _ hx)) _ hy' fun c hc hcP hcf => by
      rw [g_lin hy.1.2 hK.1.2 hc]
      by_cases e : c = f
      · subst e
        rw [kw_self hc hcP, Int.one_mul, Int.add_right_neg]
        exact Int.zero_emod _
      · rw [h0 c hc hcP (fun z => (List.mem_cons.mp z).elim e hcf), kw_free hcP e, Int.zero_mul]
        exact Int.zero_emod _
    have e : y = lin p (lin p y (kwL p n f (T.zip P)) (-(g y f))) (kwL p n f (T.zip P)) (g y f) := by rw [lin_twice hy.1.2 hK.1.2, Int.add_left_neg, lin_none hy.1 hK.1.2]
    rw [e]
    exact .step _ ih (List.mem_map.mpr ⟨f, hf, rfl⟩)
theorem ker_ok (hp : isP p = true) (hn : n ≤ 1000) : okR p n ((frees n P).map fun f => kwL p n f (T.zip P)) := fun r hr => by
  obtain ⟨f, _, rfl⟩ := List.mem_map.mp hr
  exact kw_ok hp hn
theorem ker_iff (hp : isP p = true) (hn : n ≤ 1000) (h : okR p n rows) (y : List Int) : Sp p n (kerL p n (redN p rows n)) y ↔ Zr p n rows y := by
  have hp' := isP_okP hp
  have hI := RI_N hp hn h n (Nat.le_refl _)
  have hT := (redN_ok hp' h n).1
  rw [← Zr_red hp hn h]
  constructor
  · intro q
    induction q with
    | zero => exact Zr_zero hp' hn
    | step a _ hr ih =>
      obtain ⟨f, hf, rfl⟩ := List.mem_map.mp hr
      obtain ⟨hf1, hf2⟩ := mem_frees.mp hf
      exact Zr_lin hp' hT ih (kw_Zr hp hn hT hI.rr hf1 hf2)
  · exact fun q => ker_sp hp hn hT hI.rr (frees n (redN p rows n).P) (fun _ h => h) y q fun c hc hcP hcf => absurd (mem_frees.mpr ⟨hc, hcP⟩) hcf
end
end Lq

namespace Lq
open PySem PySem.Spec PyProof.Rows L2
def sI {α : Type} (l : List α) (h : α → Int) : Int := (l.map h).sum
theorem sI_nil {α : Type} (h : α → Int) : sI ([] : List α) h = 0 := rfl
theorem sI_cons {α : Type} (x : α) (l : List α) (h : α → Int) : sI (x :: l) h = h x + sI l h := by simp [sI]
theorem sI_add {α : Type} (l : List α) (h k : α → Int) : sI l (fun x => h x + k x) = sI l h + sI l k := by
  induction l with
  | nil => rfl
  | cons x l ih => rw [sI_cons, sI_cons, sI_cons, ih]; omega
theorem sI_zero {α : Type} (l : List α) : sI l (fun _ => (0 : Int)) = 0 := by
  induction l with
  | nil => rfl
  | cons x l ih => rw [sI_cons, ih]; rfl
theorem sI_one {α : Type} (l : List α) : sI l (fun _ => (1 : Int)) = (l.length : Int) := by
  induction l with
  | nil => rfl
  | cons x l ih => rw [sI_cons, ih, List.length_cons]; omega
theorem sI_mul {α : Type} (l : List α) (c : Int) (h : α → Int) : sI l (fun x => c * h x) = c * sI l h := by
  induction l with
  | nil => simp [sI]
  | cons x l ih => rw [sI_cons, sI_cons, ih, Int.mul_add]
theorem sI_congr {α : Type} {l : List α} {h k : α → Int} (e : ∀ x ∈ l, h x = k x) : sI l h = sI l k := by
  unfold sI
  rw [List.map_congr_left e]
theorem sI_swap {α β : Type} (l : List α) (m : List β) (h : α → β → Int) : sI l (fun x => sI m (h x)) = sI m (fun y => sI l fun x => h x y) := by
  induction l with
  | nil => rw [sI_nil]; simp only [sI_nil]; rw [sI_zero]
  | cons x l ih =>
    rw [sI_cons, ih, ← sI_add]
    exact sI_congr fun y _ => (sI_cons x l fun x => h x y).symm
theorem sI_perm {α : Type} {l m : List α} (p : l.Perm m) (h : α → Int) : sI l h = sI m h := by
  induction p with
  | nil => rfl
  | cons x _ ih => rw [sI_cons, sI_cons, ih]
  | swap x y l => rw [sI_cons, sI_cons, sI_cons, sI_cons]; omega
  | trans _ _ ih1 ih2 => exact ih1.trans ih2
theorem sI_map {α β : Type} (f : α → β) (l : List α) (h : β → Int) : sI (l.map f) h = sI l fun x => h (f x) := by
  unfold sI
  rw [List.map_map]
  rfl
theorem sI_filter {α : Type} (l : List α) (b : α → Bool) (h : α → Int) : sI (l.filter b) h = sI l fun x => if b x then h x else 0 := by
  induction l with
  | nil => rfl
  | cons x l ih =>
    rw [sI_cons, ← ih]
    cases hb : b x with
    | true => rw [List.filter_cons_of_pos hb, sI_cons, if_pos rfl]
    | false => rw [List.filter_cons_of_neg (by simp [hb]), if_neg (by simp)]; omega
theorem wt_le (w : List Int) : wtW w ≤ w.length := List.length_filter_le _ _
def chi (p c : Int) : Int := (if c % p = 0 then 1 else 0) - if c % p = 1 then 1 else 0
structure Sub (p : Int) (n : Nat) (W : List (List Int)) : Prop where
  nd : W.Nodup
  ok : ∀ w ∈ W, ok1 p n w
  zero : List.replicate n 0 ∈ W
  lin : ∀ u ∈ W, ∀ v ∈ W, ∀ a : Int, lin p u v a ∈ W
theorem inv_ex {p c : Int} (hp : isP p = true) (hc : c % p ≠ 0) : ∃ a, (c * a) % p = 1 := by
  have h1 : 0 ≤ c % p := Int.emod_nonneg _ (by have := isP_okP hp; have := (okP_iff.mp this).1; omega)
  have h2 : c % p < p := Int.emod_lt_of_pos _ (okP_iff.mp (isP_okP hp)).1
  have key : ∀ a, (c * a) % p = (c % p * a) % p := fun a => by rw [Int.mul_emod c a p, Int.mul_emod (c % p) a p, Int.emod_emod]
  simp only [key]
  generalize c % p = d at *
  have hp' : p = 2 ∨ p = 3 ∨ p = 5 ∨ p = 7 := of_decide_eq_true hp
  rcases hp' with rfl | rfl | rfl | rfl
  · have : d = 1 := by omega
    subst this; exact ⟨1, by decide⟩
  · have : d = 1 ∨ d = 2 := by omega
    rcases this with rfl | rfl
    · exact ⟨1, by decide⟩
    · exact ⟨2, by decide⟩
  · have : d = 1 ∨ d = 2 ∨ d = 3 ∨ d = 4 := by omega
    rcases this with rfl | rfl | rfl | rfl
    · exact ⟨1, by decide⟩
    · exact ⟨3, by decide⟩
    · exact ⟨2, by decide⟩
    · exact ⟨4, by decide⟩
  · have : d = 1 ∨ d = 2 ∨ d = 3 ∨ d = 4 ∨ d = 5 ∨ d = 6 := by omega
    rcases this with rfl | rfl | rfl | rfl | rfl | rfl
    · exact ⟨1, by decide⟩
    · exact ⟨4, by decide⟩
    · exact ⟨5, by decide⟩
    · exact ⟨2, by decide⟩
    · exact ⟨3, by decide⟩
    · exact ⟨6, by decide⟩
theorem Sub_shift {p : Int} {n : Nat} {W : List (List Int)} (hp : okP p = true) (h : Sub p n W) {v : List Int} (hv : v ∈ W) : (W.map fun u => lin p u v 1).Perm W := by
  have hv1 := h.ok v hv
  have back : ∀ u ∈ W, lin p (lin p u v 1) v (-1) = u := fun u hu => by
    rw [lin_twice (h.ok u hu).2 hv1.2]
    exact lin_none (h.ok u hu) hv1.2
  have forth : ∀ u ∈ W, lin p (lin p u v (-1)) v 1 = u := fun u hu => by
    rw [lin_twice (h.ok u hu).2 hv1.2]
    exact lin_none (h.ok u hu) hv1.2
  refine (List.perm_ext_iff_of_nodup (nodup_map_on h.nd fun a ha b hb e => ?_) h.nd).mpr fun y => ⟨fun hy => ?_, fun hy => ?_⟩
  · rw [← back a ha, ← back b hb, e]
  · obtain ⟨u, hu, rfl⟩ := List.mem_map.mp hy
    exact h.lin u hu v hv 1
  · exact List.mem_map.mpr ⟨lin p y v (-1), h.lin y hy v hv (-1), forth y hy⟩
theorem chi_sum {p : Int} {n : Nat} {W : List (List Int)} {y : List Int} (hp : isP p = true) (h : Sub p n W) (hy : y.length = n) : sI W (fun x => chi p (sm y x)) = if (W.all fun x => decide (sm y x % p = 0)) = true then (W.length : Int) else 0 := by
  have hp' := isP_okP hp
  have hp2 : 1 < p := by have : p = 2 ∨ p = 3 ∨ p = 5 ∨ p = 7 := of_decide_eq_true hp; omega
  split
  · rename_i hc
    rw [← sI_one]
    refine sI_congr fun x hx => ?_
    have := of_decide_eq_true (List.all_eq_true.mp hc x hx)
    unfold chi
    rw [if_pos this, if_neg (by omega)]
    rfl
  · rename_i hc
    obtain ⟨x0, hx0, hn⟩ : ∃ x ∈ W, sm y x % p ≠ 0 := by
      apply Classical.byContradiction
      intro hne
      exact hc (List.all_eq_true.mpr fun x hx => decide_eq_true (Classical.byContradiction fun z => hne ⟨x, hx, z⟩))
    obtain ⟨a, ha⟩ := inv_ex hp hn
    have hx1 := h.lin _ h.zero x0 hx0 a
    have hs1 : sm y (lin p (List.replicate n 0) x0 a) % p = 1 := by
      rw [sm_lin p a y _ _ (by simp [hy]) (by simp [(h.ok x0 hx0).2])]
      have : sm y (List.replicate n 0) % p = 0 := by rw [sm_comm]; exact sm_zw p n y
      rw [Int.add_emod, this, Int.zero_add, Int.emod_emod]
      exact ha
    generalize lin p (List.replicate n 0) x0 a = v at *
    have hperm := Sub_shift hp' h hx1
    have hsh : ∀ x ∈ W, sm y (lin p x v 1) % p = (sm y x % p + 1) % p := fun x hx => by
      rw [sm_lin p 1 y _ _ (by rw [hy, (h.ok x hx).2]) (by rw [(h.ok v hx1).2, (h.ok x hx).2]), Int.mul_one, Int.add_emod, hs1]
    have e1 := sI_perm hperm fun x => if sm y x % p = 1 then 1 else 0
    rw [sI_map] at e1
    have e2 : sI W (fun x => if sm y (lin p x v 1) % p = 1 then (1 : Int) else 0) = sI W fun x => if sm y x % p = 0 then 1 else 0 := by
      refine sI_congr fun x hx => ?_
      rw [hsh x hx]
      have h1 : 0 ≤ sm y x % p := Int.emod_nonneg _ (by omega)
      have h2 : sm y x % p < p := Int.emod_lt_of_pos _ (by omega)
      by_cases q : sm y x % p = 0
      · rw [if_pos q, if_pos]
        rw [q, Int.zero_add]
        exact Int.emod_eq_of_lt (by omega) (by omega)
      · rw [if_neg q, if_neg]
        intro z
        by_cases q2 : sm y x % p + 1 = p
        · rw [q2, Int.emod_self] at z; omega
        · rw [Int.emod_eq_of_lt (by omega) (by omega)] at z; omega
    rw [e2] at e1
    have e3 : sI W (fun x => chi p (sm y x)) + sI W (fun x => if sm y x % p = 1 then (1 : Int) else 0) = sI W fun x => if sm y x % p = 0 then 1 else 0 := by
      rw [← sI_add]
      refine sI_congr fun x _ => ?_
      unfold chi
      omega
    omega

theorem dotN_sm : ∀ {n : Nat} {x y : List Int}, x.length = n → y.length = n → dotN n x y = sm x y
  | 0, x, y, hx, hy => by
    have e1 := List.eq_nil_of_length_eq_zero hx
    subst e1
    simp [dotN, sm]
  | n + 1, [], y, hx, hy => by simp at hx
  | n + 1, a :: x, [], hx, hy => by simp at hy
  | n + 1, a :: x, b :: y, hx, hy => by
    have ih := dotN_sm (n := n) (x := x) (y := y) (by simpa using hx) (by simpa using hy)
    rw [sm_cons, ← ih]
    unfold dotN
    rw [List.range_succ_eq_map, List.map_cons, List.sum_cons, List.map_map]
    simp [Function.comp_def]
def dualL (p : Int) (n : Nat) (W : List (List Int)) : List (List Int) := (allN p n).filter fun y => W.all fun x => decide (dotN n x y % p = 0)
theorem allN_ok {p : Int} {n : Nat} (hn : n ≤ 1000) {w : List Int} : w ∈ allN p n ↔ ok1 p n w := by
  rw [allN_mem]
  exact ⟨fun ⟨h1, h2⟩ => ⟨okW_iff.mpr ⟨by omega, h2⟩, h1⟩, fun ⟨h1, h2⟩ => ⟨h2, (okW_iff.mp h1).2⟩⟩
theorem Sub_all {p : Int} {n : Nat} (hp : okP p = true) (hn : n ≤ 1000) : Sub p n (allN p n) :=
  ⟨allN_nd p n, fun w hw => (allN_ok hn).mp hw, (allN_ok hn).mpr (ok_zero hp hn), fun u hu v hv a => (allN_ok hn).mpr (ok_lin hp ((allN_ok hn).mp hu) ((allN_ok hn).mp hv))⟩
theorem dual_mem {p : Int} {n : Nat} (hn : n ≤ 1000) {W : List (List Int)} (hW : ∀ w ∈ W, ok1 p n w) {y : List Int} : y ∈ dualL p n W ↔ ok1 p n y ∧ ∀ x ∈ W, sm y x % p = 0 := by
  unfold dualL
  rw [List.mem_filter, allN_ok hn, List.all_eq_true]
  refine ⟨fun ⟨h1, h2⟩ => ⟨h1, fun x hx => ?_⟩, fun ⟨h1, h2⟩ => ⟨h1, fun x hx => ?_⟩⟩
  · have := of_decide_eq_true (h2 x hx)
    rw [dotN_sm (hW x hx).2 h1.2, sm_comm] at this
    exact this
  · rw [dotN_sm (hW x hx).2 h1.2, sm_comm]
    exact decide_eq_true (h2 x hx)
theorem Sub_dual {p : Int} {n : Nat} (hp : okP p = true) (hn : n ≤ 1000) {W : List (List Int)} (hW : ∀ w ∈ W, ok1 p n w) : Sub p n (dualL p n W) := by
  refine ⟨(allN_nd p n).filter _, fun w hw => ((dual_mem hn hW).mp hw).1, (dual_mem hn hW).mpr ⟨ok_zero hp hn, fun x hx => sm_zw p n x⟩, fun u hu v hv a => ?_⟩
  obtain ⟨u1, u2⟩ := (dual_mem hn hW).mp hu
  obtain ⟨v1, v2⟩ := (dual_mem hn hW).mp hv
  refine (dual_mem hn hW).mpr ⟨ok_lin hp u1 v1, fun x hx => ?_⟩
  rw [sm_comm, sm_lin p a x u v (by rw [(hW x hx).2, u1.2]) (by rw [v1.2, u1.2]), Int.add_emod, Int.mul_emod, sm_comm x u, sm_comm x v, u2 x hx, v2 x hx]
  simp
theorem chi_dual {p : Int} {n : Nat} (hp : isP p = true) (hn : n ≤ 1000) {W : List (List Int)} (h : Sub p n W) {y : List Int} (hy : ok1 p n y) : sI W (fun x => chi p (sm y x)) = if y ∈ dualL p n W then (W.length : Int) else 0 := by
  rw [chi_sum hp h hy.2]
  by_cases q : y ∈ dualL p n W
  · rw [if_pos q, if_pos]
    exact List.all_eq_true.mpr fun x hx => decide_eq_true (((dual_mem hn h.ok).mp q).2 x hx)
  · rw [if_neg q, if_neg]
    intro z
    exact q ((dual_mem hn h.ok).mpr ⟨hy, fun x hx => of_decide_eq_true (List.all_eq_true.mp z x hx)⟩)
theorem dual_all {p : Int} {n : Nat} (hp : isP p = true) (hn : n ≤ 1000) {y : List Int} (hy : ok1 p n y) : y ∈ dualL p n (allN p n) ↔ y = List.replicate n 0 := by
  have hp' := isP_okP hp
  have hp2 : 1 < p := by have : p = 2 ∨ p = 3 ∨ p = 5 ∨ p = 7 := of_decide_eq_true hp; omega
  rw [dual_mem hn fun w hw => (allN_ok hn).mp hw]
  refine ⟨fun ⟨_, h⟩ => ?_, fun e => ⟨hy, fun x _ => by rw [e]; exact sm_zw p n x⟩⟩
  refine g_ext hy.2 (by simp) fun j hj => ?_
  rw [g_zero]
  have hu : ok1 p n ((List.replicate n (0 : Int)).set j 1) := by
    refine ⟨okW_iff.mpr ⟨by simpa using hn, fun x hx => ?_⟩, by simp⟩
    rcases List.mem_or_eq_of_mem_set hx with hx | rfl
    · rw [(List.mem_replicate.mp hx).2]; omega
    · omega
  have h1 := h _ ((allN_ok hn).mpr hu)
  rw [sm_one y _ j (by rw [hy.2]; exact hj) (by simpa using hj) (fun k hk => by rw [g_set_ne hk, g_zero, Int.mul_zero]), g_set (by simpa using hj), Int.mul_one, g_mod hy hj] at h1
  exact h1
theorem dual_card {p : Int} {n : Nat} (hp : isP p = true) (hn : n ≤ 1000) {W : List (List Int)} (h : Sub p n W) : (W.length : Int) * ((dualL p n W).length : Int) = ((allN p n).length : Int) := by
  have hp' := isP_okP hp
  have e1 : sI (allN p n) (fun y => sI W fun x => chi p (sm y x)) = (W.length : Int) * ((dualL p n W).length : Int) := by
    rw [← sI_one (dualL p n W), ← sI_mul]
    have e : dualL p n W = (allN p n).filter fun y => decide (y ∈ dualL p n W) := by
      have : ∀ y ∈ allN p n, (W.all fun x => decide (dotN n x y % p = 0)) = decide (y ∈ dualL p n W) := fun y hy => by
        rw [Bool.eq_iff_iff]
        simp [dualL, List.mem_filter, hy]
      exact List.filter_congr this
    conv => rhs; rw [e]
    rw [sI_filter]
    refine sI_congr fun y hy => ?_
    rw [chi_dual hp hn h ((allN_ok hn).mp hy)]
    simp
  have e2 : sI (allN p n) (fun y => sI W fun x => chi p (sm y x)) = ((allN p n).length : Int) := by
    rw [sI_swap]
    have e3 : ∀ x ∈ W, sI (allN p n) (fun y => chi p (sm y x)) = if x = List.replicate n 0 then ((allN p n).length : Int) else 0 := fun x hx => by
      have := chi_dual hp hn (Sub_all hp' hn) (h.ok x hx)
      rw [sI_congr (k := fun y => chi p (sm x y)) (fun y _ => by rw [sm_comm]), this]
      by_cases q : x = List.replicate n 0
      · rw [if_pos q, if_pos ((dual_all hp hn (h.ok x hx)).mpr q)]
      · rw [if_neg q, if_neg (fun z => q ((dual_all hp hn (h.ok x hx)).mp z))]
    rw [sI_congr e3]
    have h0 := h.zero
    have hnd := h.nd
    clear e3 e1 h
    induction W with
    | nil => cases h0
    | cons x W ih =>
      rw [sI_cons]
      obtain ⟨n1, n2⟩ := List.nodup_cons.mp hnd
      by_cases q : x = List.replicate n 0
      · subst q
        rw [if_pos rfl, sI_congr (k := fun _ => 0) (fun y hy => if_neg (fun (z : y = List.replicate n 0) => n1 (by rw [← z]; exact hy))), sI_zero]
        omega
      · rw [if_neg q, ih ((List.mem_cons.mp h0).resolve_left fun z => q z.symm) n2]
        omega
  rw [← e1, e2]
theorem filter_eq {α : Type} {P Q : α → Bool} : ∀ {l : List α}, (∀ x ∈ l, P x = true → Q x = true) → (l.filter P).length ≤ (l.filter Q).length ∧ ((l.filter P).length = (l.filter Q).length → l.filter P = l.filter Q)
  | [], _ => ⟨Nat.le_refl _, fun _ => rfl⟩
  | x :: l, h => by
    obtain ⟨i1, i2⟩ := filter_eq (l := l) fun y hy => h y (List.mem_cons_of_mem _ hy)
    have hx := h x List.mem_cons_self
    cases hP : P x with
    | true =>
      have hQ := hx hP
      rw [List.filter_cons_of_pos hP, List.filter_cons_of_pos hQ, List.length_cons, List.length_cons]
      exact ⟨by omega, fun e => by rw [i2 (by omega)]⟩
    | false =>
      rw [List.filter_cons_of_neg (by simp [hP])]
      cases hQ : Q x with
      | true =>
        rw [List.filter_cons_of_pos hQ, List.length_cons]
        exact ⟨by omega, fun e => by omega⟩
      | false =>
        rw [List.filter_cons_of_neg (by simp [hQ])]
        exact ⟨i1, i2⟩
theorem dual_dual {p : Int} {n : Nat} (hp : isP p = true) (hn : n ≤ 1000) {W : List (List Int)} (h : Sub p n W) : (dualL p n (dualL p n W)).Perm W := by
  have hp' := isP_okP hp
  have hD := Sub_dual hp' hn h.ok
  have c1 := dual_card hp hn h
  have c2 := dual_card hp hn hD
  have hpos : 0 < ((dualL p n W).length : Int) := by
    have := List.length_pos_of_mem hD.zero
    omega
  have hlen : (dualL p n (dualL p n W)).length = W.length := by
    have : ((dualL p n W).length : Int) * ((dualL p n (dualL p n W)).length : Int) = ((dualL p n W).length : Int) * (W.length : Int) := by rw [c2, ← c1, Int.mul_comm]
    have := Int.eq_of_mul_eq_mul_left (by omega) this
    omega
  have hsub : ∀ x ∈ W, x ∈ dualL p n (dualL p n W) := fun x hx => (dual_mem hn hD.ok).mpr ⟨h.ok x hx, fun y hy => by rw [sm_comm]; exact ((dual_mem hn h.ok).mp hy).2 x hx⟩
  have e1 : ((allN p n).filter fun x => decide (x ∈ W)).Perm W := (List.perm_ext_iff_of_nodup ((allN_nd p n).filter _) h.nd).mpr fun x => by
    rw [List.mem_filter, decide_eq_true_eq, allN_ok hn]
    exact ⟨fun z => z.2, fun z => ⟨h.ok x z, z⟩⟩
  have e2 : dualL p n (dualL p n W) = (allN p n).filter fun x => decide (x ∈ W) := by
    have := filter_eq (l := allN p n) (P := fun x => decide (x ∈ W)) (Q := fun y => (dualL p n W).all fun x => decide (dotN n x y % p = 0)) fun x hx hx2 => (List.mem_filter.mp (hsub x (of_decide_eq_true hx2))).2
    refine (this.2 ?_).symm
    rw [e1.length_eq]
    exact hlen.symm
  rw [e2]
  exact e1
end Lq

namespace Lq
open PySem PySem.Spec PyProof.Rows L2
theorem ok_wt {p : Int} {n : Nat} {w : List Int} (h : ok1 p n w) : wtW w ≤ n := by
  have := wt_le w
  rw [h.2] at this
  exact this
end Lq

namespace Lq
open PySem PySem.Spec PyProof.Rows L2
end Lq

namespace Lq
open PySem PySem.Spec PyProof.Rows L2

end Lq

namespace Lq
open PySem PySem.Spec PyProof.Rows L2
theorem enumD_ints (v : List Int) : enumD (v.map Dt.int) = (List.range v.length).map fun i : Nat => Dt.tup [.int (i : Int), .int (v.getD i 0)] := by
  refine List.ext_getElem? fun i => ?_
  rw [List.getElem?_map]
  by_cases h : i < v.length
  · rw [List.getElem?_range h, enumD_get (d := .int (v.getD i 0))]
    · rfl
    · rw [List.getElem?_map, List.getElem?_eq_getElem h, List.getD_eq_getElem?_getD, List.getElem?_eq_getElem h]
      rfl
  · rw [List.getElem?_eq_none (by rw [enumD_len]; simpa using h), List.getElem?_eq_none (by simpa using h)]
    rfl
theorem itEn_run {fs : Ms → R (List Dt)} {S S1 : Ms} {v : List Int} (h : fs S = .ok [Wd v] S1) : itEn fs S = .ok ((List.range v.length).map fun i : Nat => Dt.tup [.int (i : Int), .int (v.getD i 0)]) S1 := by
  unfold itEn
  rw [h, R.bind_ok]
  show R.ok (enumD (v.map Dt.int)) S1 = _
  rw [enumD_ints]
theorem cmul_small {a : Int} (h1 : -1000000 ≤ a) (h2 : a ≤ 1000000) (z : Int) : CMul a z := by
  have e1 : (1000000 : Int) < 2 ^ 64 := by decide
  have e2 : -(2 : Int) ^ 64 < -1000000 := by decide
  exact .inl ⟨by omega, by omega⟩
end Lq

namespace Lq
open PySem PySem.Spec PyProof.Rows L2
end Lq

namespace Lq
open PySem PySem.Spec PyProof.Rows L2
end Lq

namespace Lq
open PySem PySem.Spec PyProof.Rows L2
end Lq

namespace Lq
open PySem PySem.Spec PyProof.Rows L2
def krow (p : Int) (n i : Nat) : List Int := (List.range (n + 1)).map fun j : Nat => krawI p (n : Int) (j : Int) (i : Int)
def q0 (p : Int) (n : Nat) (tb : List Dt) (x4 x5 x6 x7 x8 : Sv) (M : List Mo) : Ms := { sl := [.im (.int p), .im (.int (n : Int)), .im (.lst ((allN p n).map Wd)), .mu 0, x4, x5, x6, x7, x8, .no, .no], mo := .ob (.ls tb) :: M }
def kTab (p : Int) (n : Nat) : List Dt := (List.range (n + 1)).map fun i => Dt.lst ((krow p n i).map Dt.int)
def eS (p : Int) (n : Nat) (v acc : List Int) (x5 x6 x7 : Sv) : Ms := { sl := [.im (.int p), .im (.int (n : Int)), .im (Wd v), .im (.lst (kTab p n)), .mu 0, x5, x6, x7], mo := [.ob (.ls (acc.map Dt.int))] }
end Lq

namespace Lq
open PySem PySem.Spec PyProof.Rows L2
theorem Sub_words {p : Int} {n : Nat} {rows : List (List Int)} (hp : okP p = true) (hn : n ≤ 1000) (hok : okR p n rows) : Sub p n (sortW (spanL p n rows)) := by
  have hperm : (sortW (spanL p n rows)).Perm (spanL p n rows) := List.mergeSort_perm _ _
  have hm : ∀ w, w ∈ sortW (spanL p n rows) ↔ Sp p n rows w := fun w => by rw [hperm.mem_iff, spanL_iff hp hn hok]
  exact ⟨hperm.nodup_iff.mpr spanL_nd, fun w hw => Sp_ok hp hn hok ((hm w).mp hw), (hm _).mpr .zero, fun u hu v hv a => (hm _).mpr (Sp_lin hp hn hok ((hm u).mp hu) ((hm v).mp hv))⟩
end Lq

namespace Lq
open PySem PySem.Spec PyProof.Rows L2
end Lq

namespace Lq
open PySem PySem.Spec PyProof.Rows L2
section
variable {p : Int} {n : Nat}
def ext (p : Int) (w : List Int) : List Int := w ++ [p - 1]
variable {rows : List (List Int)} {right : List Int}
end
end Lq

namespace Lq
open PySem PySem.Spec PyProof.Rows L2
theorem ok_all {p : Int} {n : Nat} (hn : n ≤ 1000) {w : List Int} : w ∈ allN p n ↔ ok1 p n w := by
  rw [allN_mem]
  constructor
  · rintro ⟨h1, h2⟩
    exact ⟨okW_iff.mpr ⟨by omega, h2⟩, h1⟩
  · rintro ⟨h1, h2⟩
    exact ⟨h2, (okW_iff.mp h1).2⟩
section
variable {p : Int} {n : Nat} {rows : List (List Int)} {q : Int × Int} {s : Red}

end
end Lq

namespace Lq
open PySem PySem.Spec PyProof.Rows L2
section
variable {p : Int} {n : Nat} {rows : List (List Int)} {q : Int × Int} {s : Red} {x10 x21 x22 : Sv}
end
end Lq

namespace Lq
open PySem PySem.Spec PyProof.Rows L2
section
variable {p : Int} {n : Nat} {rows : List (List Int)} {q : Int × Int} {s : Red} {x10 x11 x12 x13 x16 x18 x19 x20 x21 x22 : Sv} {v w : List Int} {a : Int} {ws : List Int}

theorem Fisword_run {d : Dt} {m : Int} (h : okV d = true) : Fisword [d, .int p, .int m] = .ok (.bl (wordB p m d)) := by
  unfold Fisword
  dsimp only
  rw [if_pos h]
end
end Lq

namespace Lq
open PySem PySem.Spec PyProof.Rows L2
section
variable {p : Int} {n : Nat} {rows : List (List Int)} {q : Int × Int} {s : Red} {x10 x11 x12 x13 x15 x16 x17 x18 x20 x21 x22 : Sv} {v w : List Int}
end
end Lq

namespace Lq
open PySem PySem.Spec PyProof.Rows L2
section
variable {p : Int} {n : Nat} {rows : List (List Int)} {s : Red}
end
end Lq

namespace Lq
open PySem PySem.Spec PyProof.Rows L2
def wstep (p : Int) (ws : List (List Int)) (r : List Int) : List (List Int) := ws.flatMap fun w => (List.range p.toNat).map fun (a : Nat) => addW p w (scW p (a : Int) r)
def wordsF (p : Int) (n : Nat) (T : List (List Int)) : List (List Int) := T.foldl (wstep p) [List.replicate n 0]
def LtAt (b : Nat) (w v : List Int) : Prop := ∃ d < b, (∀ j < d, g w j = g v j) ∧ g w d < g v d
theorem ltAt_lt : ∀ {w v : List Int} {b : Nat}, w.length = v.length → b ≤ w.length → LtAt b w v → w < v
  | [], [], b, _, hb, ⟨d, hd, _⟩ => by simp at hb; omega
  | x :: w, y :: v, b, hl, hb, ⟨0, hd, _, h2⟩ => by
    have h2 : x < y := h2
    exact List.cons_lt_cons_iff.mpr (.inl h2)
  | x :: w, y :: v, b, hl, hb, ⟨d + 1, hd, h1, h2⟩ => by
    have e : x = y := h1 0 (by omega)
    have hl' : w.length = v.length := by simpa using hl
    refine List.cons_lt_cons_iff.mpr (.inr ⟨e, ltAt_lt (b := b - 1) hl' (by simp at hb; omega) ⟨d, by omega, fun j hj => ?_, ?_⟩⟩)
    · exact h1 (j + 1) (by omega)
    · exact h2
theorem LtAt.mono {b c : Nat} {w v : List Int} (h : LtAt b w v) (e : b ≤ c) : LtAt c w v := let ⟨d, h1, h2⟩ := h; ⟨d, by omega, h2⟩
theorem g_addsc {p : Int} {n : Nat} {w r : List Int} {a : Int} (hw : w.length = n) (hr : r.length = n) {j : Nat} (hj : j < n) : g (addW p w (scW p a r)) j = (g w j + g r j * a) % p := g_lin hw hr hj
theorem wstep_asc {p : Int} {n b c : Nat} {ws : List (List Int)} {r : List Int} (hp : isP p = true) (hr : ok1 p n r) (hws : ∀ w ∈ ws, ok1 p n w) (hbc : b ≤ c) (hc : c < n) (h1 : g r c = 1) (h0 : ∀ j < c, g r j = 0) (hz : ∀ w ∈ ws, g w c = 0) (h : ws.Pairwise (LtAt b)) :
    (wstep p ws r).Pairwise (LtAt (c + 1)) := by
  have hpp := isP_okP hp
  have hp0 : 0 < p := (okP_iff.mp hpp).1
  unfold wstep
  induction ws with
  | nil => exact List.Pairwise.nil
  | cons w ws ih =>
    rw [List.flatMap_cons, List.pairwise_append]
    have hw := hws w List.mem_cons_self
    rw [List.pairwise_cons] at h
    have low : ∀ {u : List Int} {a : Nat}, ok1 p n u → ∀ j < c, g (addW p u (scW p (a : Int) r)) j = g u j := fun {u a} hu j hj => by
      rw [g_addsc hu.2 hr.2 (by omega), h0 j hj, Int.zero_mul, Int.add_zero, g_mod hu (by omega)]
    refine ⟨?_, ih (fun u hu => hws u (List.mem_cons_of_mem _ hu)) (fun u hu => hz u (List.mem_cons_of_mem _ hu)) h.2, fun x hx y hy => ?_⟩
    · rw [List.pairwise_map]
      refine List.Pairwise.imp_of_mem (fun {a a'} ha ha' hlt => ?_) List.pairwise_lt_range
      have ha := List.mem_range.mp ha
      have ha' := List.mem_range.mp ha'
      refine ⟨c, by omega, fun j hj => by rw [low hw j hj, low hw j hj], ?_⟩
      rw [g_addsc hw.2 hr.2 hc, g_addsc hw.2 hr.2 hc, hz w List.mem_cons_self, h1]
      rw [Int.zero_add, Int.one_mul, Int.zero_add, Int.one_mul, Int.emod_eq_of_lt (by omega) (by omega), Int.emod_eq_of_lt (by omega) (by omega)]
      omega
    · obtain ⟨a, _, rfl⟩ := List.mem_map.mp hx
      obtain ⟨u, hu, hy⟩ := List.mem_flatMap.mp hy
      obtain ⟨a', _, rfl⟩ := List.mem_map.mp hy
      obtain ⟨d, hd, e1, e2⟩ := h.1 u hu
      have hu' := hws u (List.mem_cons_of_mem _ hu)
      exact ⟨d, by omega, fun j hj => by rw [low hw j (by omega), low hu' j (by omega)]; exact e1 j hj, by rw [low hw d (by omega), low hu' d (by omega)]; exact e2⟩
theorem wstep_ok {p : Int} {n : Nat} {ws : List (List Int)} {r : List Int} (hp : okP p = true) (hr : ok1 p n r) (hws : ∀ w ∈ ws, ok1 p n w) : ∀ w ∈ wstep p ws r, ok1 p n w := fun y hy => by
  obtain ⟨w, hw, hy⟩ := List.mem_flatMap.mp hy
  obtain ⟨a, _, rfl⟩ := List.mem_map.mp hy
  exact ok_lin hp (hws w hw) hr
theorem wstep_len {p : Int} (ws : List (List Int)) (r : List Int) : (wstep p ws r).length = ws.length * p.toNat := by
  unfold wstep
  induction ws with
  | nil => simp
  | cons w ws ih => rw [List.flatMap_cons, List.length_append, ih]; simp [Nat.succ_mul, Nat.add_comm]
theorem wstep_mem {p : Int} {ws : List (List Int)} {r y : List Int} : y ∈ wstep p ws r ↔ ∃ w ∈ ws, ∃ a : Nat, a < p.toNat ∧ y = addW p w (scW p (a : Int) r) := by
  unfold wstep
  simp only [List.mem_flatMap, List.mem_map, List.mem_range]
  exact ⟨fun ⟨w, h, a, h1, e⟩ => ⟨w, h, a, h1, e.symm⟩, fun ⟨w, h, a, h1, e⟩ => ⟨w, h, a, h1, e.symm⟩⟩
theorem wordsF_take {p : Int} {n : Nat} {T : List (List Int)} {P : List Nat} (hp : isP p = true) (hn : n ≤ 1000) (hT : okR p n T) (h : Rr n T P) : ∀ k, k ≤ T.length → ∃ b, (wordsF p n (T.take k)).Pairwise (LtAt b) ∧ b ≤ n ∧ (∀ i, k ≤ i → i < P.length → b ≤ pk P i) ∧ (∀ w ∈ wordsF p n (T.take k), ok1 p n w) ∧
    (∀ w ∈ wordsF p n (T.take k), ∀ i, k ≤ i → i < P.length → g w (pk P i) = 0) ∧ (∀ y, y ∈ wordsF p n (T.take k) ↔ y ∈ spanL p n (T.take k)) ∧ (wordsF p n (T.take k)).length = p.toNat ^ k
  | 0, _ => by
    have hpp := isP_okP hp
    refine ⟨0, ?_, Nat.zero_le _, fun _ _ _ => Nat.zero_le _, ?_, ?_, ?_, ?_⟩
    · simp [wordsF]
    · intro w hw
      have : w = List.replicate n 0 := by simpa [wordsF] using hw
      rw [this]; exact ok_zero hpp hn
    · intro w hw i _ _
      have : w = List.replicate n 0 := by simpa [wordsF] using hw
      rw [this]; exact g_zero
    · intro y; simp [wordsF, spanL]
    · simp [wordsF]
  | k + 1, hk => by
    have hpp := isP_okP hp
    obtain ⟨b, h1, h2, h3, h4, h5, h6, h7⟩ := wordsF_take hp hn hT h k (by omega)
    have hkP : k < P.length := by rw [← h.len]; omega
    have hkT : k < T.length := by omega
    have hrow : ok1 p n (tk T k) := hT _ (tk_mem hkT)
    have et : T.take (k + 1) = T.take k ++ [tk T k] := by
      rw [List.take_add_one, List.getElem?_eq_getElem hkT]
      unfold tk
      rw [List.getD_eq_getElem?_getD, List.getElem?_eq_getElem hkT]; rfl
    have ew : wordsF p n (T.take (k + 1)) = wstep p (wordsF p n (T.take k)) (tk T k) := by
      rw [et]; unfold wordsF; rw [List.foldl_append]; rfl
    have hc := h.lt k hkP
    rw [ew]
    refine ⟨pk P k + 1, wstep_asc hp hrow h4 (h3 k (Nat.le_refl _) hkP) hc (h.one k hkP) (h.low k hkP) (fun w hw => h5 w hw k (Nat.le_refl _) hkP) h1, hc, fun i hi hi' => h.asc k i (by omega) hi', wstep_ok hpp hrow h4, ?_, ?_, ?_⟩
    · intro w hw i hi hi'
      obtain ⟨u, hu, a, _, rfl⟩ := wstep_mem.mp hw
      have hi2 := h.lt i hi'
      rw [g_addsc (h4 u hu).2 hrow.2 hi2, h5 u hu i (by omega) hi', h.zro k i hkP hi' (by omega)]
      simp
    · intro y
      rw [et, spanL_snoc, widen_mem, wstep_mem]
      simp only [h6]
    · rw [wstep_len, h7, Nat.pow_succ]
theorem wordsF_sort {p : Int} {n : Nat} {T : List (List Int)} {P : List Nat} (hp : isP p = true) (hn : n ≤ 1000) (hT : okR p n T) (h : Rr n T P) : wordsF p n T = sortW (spanL p n T) ∧ (wordsF p n T).length = p.toNat ^ T.length ∧ ∀ w ∈ wordsF p n T, ok1 p n w := by
  obtain ⟨b, h1, h2, h3, h4, h5, h6, h7⟩ := wordsF_take hp hn hT h T.length (Nat.le_refl _)
  rw [List.take_length] at h1 h4 h5 h6 h7
  have hlt : (wordsF p n T).Pairwise (· < ·) := List.Pairwise.imp_of_mem (fun {a c} ha hc q => ltAt_lt (by rw [(h4 a ha).2, (h4 c hc).2]) (by rw [(h4 a ha).2]; exact h2) q) h1
  have hnd : (wordsF p n T).Nodup := hlt.imp fun {a c} q e => by subst e; exact List.lt_irrefl _ q
  refine ⟨?_, h7, h4⟩
  have e1 : sortW (wordsF p n T) = wordsF p n T := by
    unfold sortW
    exact List.mergeSort_of_pairwise (hlt.imp fun {a c} q => by simpa using List.le_of_lt q)
  rw [← e1]
  exact sort_eq hnd spanL_nd h6
end Lq

namespace Lq
open PySem PySem.Spec PyProof.Rows L2

noncomputable def m14_is_prime : Ms → O := (retS (andV (funE 1 (aCons (varE 0) aNil) Fisint) (op2 (varE 0) (cE (.scr true [.int 2, .int 3, .int 5, .int 7])) (inI false))))
noncomputable def Fisprime : List Dt → Fo := runD 1 (m14_is_prime)
noncomputable def m14_check_rows (CM CR : Addr) : Ms → O := (seqS (ifS (orT (notT (truT (funE 1 (aCons (varE 0) aNil) Fisprime))) (orT (notT (truT (funE 1 (aCons (varE 1) aNil) Fisint))) (tst (op2 (varE 1) (cE (.int 0)) ltO)))) (raiseS ⟨CM, [], []⟩) nilS)
  (seqS (ifS (tst (op2 (varE 1) (cE (.int 12)) gtO)) (raiseS ⟨CR, ["reason"], [.str "length"]⟩) nilS)
  (seqS (ifS (notT (truT (op1 (varE 2) (isi2O "list" "tuple")))) (raiseS ⟨CM, [], []⟩) nilS)
  (ifS (notT (truT (calE (aCons (frz (lcE (itS (varE 2)) (Tk.nm 3).k yesT (funE 3 (aCons (varE 3) (aCons (varE 0) (aCons (varE 1) aNil))) Fisword) [3])) aNil) allO))) (raiseS ⟨CM, [], []⟩) nilS))))
noncomputable def Fchk (CM CR : Addr) : List Dt → Fo := runD 4 (m14_check_rows CM CR)
noncomputable def m14_Code___init__ (CC CM CR : Addr) : Ms → O := (seqS (dropS (funE 3 (aCons (varE 1) (aCons (varE 2) (aCons (varE 3) aNil))) (Fchk CM CR)))
  (seqS (asgT (Tk.tp [4, 5]) (funE 3 (aCons (varE 3) (aCons (varE 2) (aCons (varE 1) aNil))) Freduced))
  (seqS (ifS (tst (op2 (funE 2 (aCons (varE 1) (aCons (calE (aCons (varE 4) aNil) lenO) aNil)) Fpow) (cE (.int 4096)) gtO)) (raiseS ⟨CR, ["reason"], [.str "large"]⟩) nilS)
  (seqS (fldS CC "p" 0 (varE 1))
  (seqS (fldS CC "n" 0 (varE 2))
  (seqS (fldS CC "rows" 0 (varE 4))
  (seqS (fldS CC "k" 0 (calE (aCons (varE 4) aNil) lenO))
  (fldS CC "_checks" 0 (funE 3 (aCons (varE 4) (aCons (varE 2) (aCons (varE 1) aNil))) Fkernel)))))))))
noncomputable def Finit (CC CM CR : Addr) : List Dt → Fo := runI CC 6 (m14_Code___init__ CC CM CR)
noncomputable def m14_Code_words (CC : Addr) : Ms → O := (seqS (asgN 1 (lstE (aCons (op2 (tupE (aCons (cE (.int 0)) aNil)) (fldE CC "n" (varE 0)) repT) aNil)))
  (forS (itS (fldE CC "rows" (varE 0))) (Tk.nm 2).k (seqS (asgS 3 (frz (lcE (itR1 (aCons (fldE CC "p" (varE 0)) aNil)) (Tk.nm 4).k yesT (funE 3 (aCons (varE 2) (aCons (varE 4) (aCons (fldE CC "p" (varE 0)) aNil))) FscW) [4])))
  (asgN 1 (lcE2 (itS (varE 1)) (Tk.nm 5).k yesT (itS (varE 3)) (Tk.nm 6).k yesT (funE 3 (aCons (varE 5) (aCons (varE 6) (aCons (fldE CC "p" (varE 0)) aNil))) FaddW) [5, 6] [6])))))
noncomputable def Fwords (CC : Addr) : List Dt → FoN := runN 7 (seqN (m14_Code_words CC) (retNV 1))
end Lq

namespace Lq
open PySem PySem.Spec PyProof.Rows L2
theorem isi2_of {T U : String} {d : Dt} {n : String} {b c : Bool} (h : tyN d = some n) (h1 : kitB n T = some b) (h2 : kitB n U = some c) : isi2O T U d = some (.bl (b || c)) := by unfold isi2O; rw [h, Option.bind_some, h1, Option.bind_some, h2]; rfl
theorem isi2_lst (xs : List Dt) : isi2O "list" "tuple" (.lst xs) = some (.bl true) := isi2_of (n := "list") (b := true) (c := false) rfl (by decide +kernel) (by decide +kernel)
theorem isi2_tup (xs : List Dt) : isi2O "list" "tuple" (.tup xs) = some (.bl true) := isi2_of (n := "tuple") (b := false) (c := true) rfl (by decide +kernel) (by decide +kernel)
theorem Fisprime_run {p : Int} : Fisprime [.int p] = .ok (.bl (isP p)) := by
  have hi := Fisint_run (d := .int p) rfl
  have hm : inI false (.int p) (.scr true [.int 2, .int 3, .int 5, .int 7]) = some (.bl (isP p)) := by
    have h2 : seqOf (.scr true [.int 2, .int 3, .int 5, .int 7]) = some ([2, 3, 5, 7].map Dt.int) := rfl
    unfold inI
    dsimp only
    rw [h2, Option.bind_some, intsOf_map]
    unfold isP
    simp
  unfold Fisprime runD m14_is_prime
  simp [st0, hi, isI, hm, O.fo]
theorem wordB_ok {p : Int} {n : Nat} {v : List Int} : wordB p (n : Int) (Wd v) = decide (v.length = n ∧ ∀ x ∈ v, 0 ≤ x ∧ x < p) := by
  unfold wordB Wd
  dsimp only
  rw [List.all_map, Bool.eq_iff_iff, Bool.and_eq_true, decide_eq_true_eq, List.all_eq_true, decide_eq_true_eq]
  have e : ((v.map Dt.int).length : Int) = (n : Int) ↔ v.length = n := by rw [List.length_map]; omega
  rw [e]
  simp [itB]
theorem wordB_ok1 {p : Int} {n : Nat} {v : List Int} (h : ok1 p n v) : wordB p (n : Int) (Wd v) = true := by
  rw [wordB_ok, decide_eq_true_eq]
  refine ⟨h.2, fun x hx => ?_⟩
  have := h.1
  unfold okW at this
  rw [Bool.and_eq_true, List.all_eq_true] at this
  exact of_decide_eq_true (this.2 x hx)
theorem okV_wd {v : List Int} (h : v.length ≤ 1000) : okV (Wd v) = true := by
  unfold okV Wd
  simp [h, noObj]
theorem Fchk_run (CM CR : Addr) {p : Int} {n : Nat} {rows : List (List Int)} {d : Dt} (hd : d = .lst (rows.map Wd) ∨ d = .tup (rows.map Wd)) (hp : isP p = true) (hn : n ≤ 12) (hl : rows.length ≤ 1000) (h : okR p n rows) : Fchk CM CR [.int p, .int (n : Int), d] = .ok .non := by
  have hi := Fisint_run (d := .int (n : Int)) rfl
  have hpr := Fisprime_run (p := p)
  have hs : seqOf d = some (rows.map Wd) := by rcases hd with rfl | rfl <;> simp
  have ht : isi2O "list" "tuple" d = some (.bl true) := by
    rcases hd with rfl | rfl
    · exact isi2_lst _
    · exact isi2_tup _
  have key : lcE (itS (varE 2)) (Tk.nm 3).k yesT (funE 3 (aCons (varE 3) (aCons (varE 0) (aCons (varE 1) aNil))) Fisword) [3] { sl := [.im (.int p), .im (.int (n : Int)), .im d, .no], mo := [] } = .ok (rows.map fun _ => Dt.bl true) { sl := [.im (.int p), .im (.int (n : Int)), .im d, .no], mo := [] } := by
    refine lcE_map Wd (fun _ => Dt.bl true) rows (by simp [hs]) (fun r hr => ?_) (fun d T T' => Tk.mo) (by omega)
    have hw := Fisword_run (p := p) (m := (n : Int)) (okV_wd (v := r) (by have := (h r hr).2; omega))
    rw [wordB_ok1 (h r hr)] at hw
    refine ⟨_, kNm _ _ _, { sl := [.im (.int p), .im (.int (n : Int)), .im d, .im (Wd r)], mo := [] }, ?_, rfl⟩
    simp [wipeL, hw]
  have hall : allO [.lst (rows.map fun _ => Dt.bl true)] = some (.bl true) := by
    have := allO_run (rows.map fun _ => true)
    rw [List.map_map] at this
    rw [show (Dt.bl ∘ fun (_ : List Int) => true) = fun _ => Dt.bl true from rfl] at this
    rw [this]
    simp
  unfold Fchk runD m14_check_rows
  have hst : st0 4 [.int p, .int (n : Int), d] = { sl := [.im (.int p), .im (.int (n : Int)), .im d, .no], mo := [] } := rfl
  rw [hst]
  have hn2 : ¬ (12 : Int) < (n : Int) := by omega
  have hn3 : ¬ (n : Int) < 0 := by omega
  simp [hpr, hp, hi, isI, hn2, hn3, ht, key, hall, tru_bl, O.fo]
def codeD (CC : Addr) (p : Int) (n : Nat) (T : List (List Int)) : Dt := .obj CC ["p", "n", "rows", "k", "_checks"] [.int p, .int (n : Int), TD T, .int (T.length : Int), TD (kerL p n (redN p T n))]
theorem code_p (CC : Addr) (p : Int) (n : Nat) (T : List (List Int)) : fldO CC "p" (codeD CC p n T) = some (.int p) := by unfold codeD; rw [fldO_self]; rfl
theorem code_n (CC : Addr) (p : Int) (n : Nat) (T : List (List Int)) : fldO CC "n" (codeD CC p n T) = some (.int (n : Int)) := by unfold codeD; rw [fldO_self]; rfl
theorem code_k (CC : Addr) (p : Int) (n : Nat) (T : List (List Int)) : fldO CC "k" (codeD CC p n T) = some (.int (T.length : Int)) := by unfold codeD; rw [fldO_self]; rfl
theorem code_checks (CC : Addr) (p : Int) (n : Nat) (T : List (List Int)) : fldO CC "_checks" (codeD CC p n T) = some (TD (kerL p n (redN p T n))) := by unfold codeD; rw [fldO_self]; rfl
theorem seqOf_td (T : List (List Int)) : seqOf (TD T) = some (T.map Wd) := rfl
theorem okR_red {p : Int} {n : Nat} {rows : List (List Int)} (hp : isP p = true) (hn : n ≤ 1000) (h : okR p n rows) : okR p n (redN p rows n).T ∧ Rr n (redN p rows n).T (redN p rows n).P ∧ (redN p rows n).T.length ≤ n :=
  ⟨(redN_ok (isP_okP hp) h n).1, (RI_N hp hn h n (Nat.le_refl n)).rr, by have := redN_lens (p := p) (rows := rows) n; omega⟩
def ioS (CC : Addr) (p : Int) (n : Nat) (d : Dt) (T : List (List Int)) (P : List Nat) (ks : List Str) (ds : List Dt) : Ms := { sl := [.mu 0, .im (.int p), .im (.int (n : Int)), .im d, .im (TD T), .im (PD P)], mo := [.ob (.io CC ks ds)] }
theorem ioS_f {CC : Addr} {p : Int} {n : Nat} {d e : Dt} {T : List (List Int)} {P : List Nat} {ks : List Str} {ds : List Dt} {f : Str} {m : Ms → R Dt} (h : m (ioS CC p n d T P ks ds) = .ok e (ioS CC p n d T P ks ds)) (hf : f ∉ ks) (hl : ks.length < 100) : fldS CC f 0 m (ioS CC p n d T P ks ds) = .nx (ioS CC p n d T P (ks ++ [f]) (ds ++ [e])) := by
  rw [fldS_run (k := 0) (ds := ds) h (by rfl) hf hl]
  rfl
theorem Finit_run (CC CM CR : Addr) {p : Int} {n : Nat} {rows : List (List Int)} {d : Dt} (hd : d = .lst (rows.map Wd) ∨ d = .tup (rows.map Wd)) (hp : isP p = true) (hn : n ≤ 12) (hl : rows.length ≤ 1000) (h : okR p n rows) (hk : p ^ (redN p rows n).T.length ≤ 4096) : Finit CC CM CR [.int p, .int (n : Int), d] = .ok (codeD CC p n (redN p rows n).T) := by
  have hs : seqOf d = some (rows.map Wd) := by rcases hd with rfl | rfl <;> simp
  have hc := Fchk_run CM CR hd hp hn hl h
  have hr := Freduced_run (n := n) hs hp (by omega) hl h
  obtain ⟨k1, k2, hT⟩ := okR_red hp (by omega : n ≤ 1000) h
  have hf := Fpow_run (a := p) (k := ((redN p rows n).T.length : Int)) (by have := isP_cases hp; omega) (by omega)
  rw [Int.toNat_natCast] at hf
  have hker := Fkernel_run (seqOf_td (redN p rows n).T) hp (by omega : n ≤ 1000) (by omega) k1
  have hlen := len_td (redN p rows n).T
  unfold redD at hr
  have hr' : Freduced [d, .int (n : Int), .int p] = .ok (.tup [TD (redN p rows n).T, PD (redN p rows n).P]) := hr
  generalize redN p rows n = s at *
  have hk2 : ¬ (4096 : Int) < p ^ s.T.length := by omega
  have e0 : dropS (funE 3 (aCons (varE 1) (aCons (varE 2) (aCons (varE 3) aNil))) (Fchk CM CR)) (stI CC 6 [.int p, .int (n : Int), d]) = .nx { sl := [.mu 0, .im (.int p), .im (.int (n : Int)), .im d, .no, .no], mo := [.ob (.io CC [] [])] } := by
    have hst : stI CC 6 [.int p, .int (n : Int), d] = { sl := [.mu 0, .im (.int p), .im (.int (n : Int)), .im d, .no, .no], mo := [.ob (.io CC [] [])] } := rfl
    rw [hst]
    simp [hc]
  have e1 : asgT (Tk.tp [4, 5]) (funE 3 (aCons (varE 3) (aCons (varE 2) (aCons (varE 1) aNil))) Freduced) { sl := [.mu 0, .im (.int p), .im (.int (n : Int)), .im d, .no, .no], mo := [.ob (.io CC [] [])] } = .nx (ioS CC p n d s.T s.P [] []) := by
    simp [hr', kNames, ioS]
  have e2 : ifS (tst (op2 (funE 2 (aCons (varE 1) (aCons (calE (aCons (varE 4) aNil) lenO) aNil)) Fpow) (cE (.int 4096)) gtO)) (raiseS ⟨CR, ["reason"], [.str "large"]⟩) nilS (ioS CC p n d s.T s.P [] []) = .nx (ioS CC p n d s.T s.P [] []) := by
    simp [ioS, hlen, hf, hk2]
  have e7 : ∀ ks ds, (funE 3 (aCons (varE 4) (aCons (varE 2) (aCons (varE 1) aNil))) Fkernel) (ioS CC p n d s.T s.P ks ds) = .ok (TD (kerL p n (redN p s.T n))) (ioS CC p n d s.T s.P ks ds) := by
    intro ks ds
    simp [ioS, hker]
  have e8 : ∀ ks ds, (calE (aCons (varE 4) aNil) lenO) (ioS CC p n d s.T s.P ks ds) = .ok (.int (s.T.length : Int)) (ioS CC p n d s.T s.P ks ds) := by
    intro ks ds
    simp [ioS, hlen]
  unfold Finit runI m14_Code___init__
  rw [seqS_run, e0, seq_nx, seqS_run, e1, seq_nx, seqS_run, e2, seq_nx, seqS_run, ioS_f (m := varE 1) (e := .int p) rfl (by decide +kernel) (by decide), seq_nx, seqS_run, ioS_f (m := varE 2) (e := .int (n : Int)) rfl (by decide +kernel) (by decide), seq_nx, seqS_run, ioS_f (m := varE 4) (e := TD s.T) rfl (by decide +kernel) (by decide), seq_nx, seqS_run, ioS_f (e8 _ _) (by decide +kernel) (by decide), seq_nx, ioS_f (e7 _ _) (by decide +kernel) (by decide)]
  rfl
end Lq

namespace Lq
open PySem PySem.Spec PyProof.Rows L2
theorem varE_fz {i k : Nat} {S : Ms} {xs : List Dt} (h : S.sl[i]? = some (.mu k)) (h2 : S.mo[k]? = some (.ob (.ls xs))) : varE i S = .ok (.lst xs) { S with mo := S.mo.set k (.fz (.lst xs)) } := by
  unfold varE
  rw [h]
  dsimp only
  rw [h2]
theorem wtW_le {p : Int} {n : Nat} {w : List Int} (h : ok1 p n w) : wtW w ≤ n := ok_wt h
end Lq

namespace Lq
open PySem PySem.Spec PyProof.Rows L2
def SlIm (S : Ms) (i : Nat) (d : Dt) : Prop := S.sl[i]? = some (.im d)
theorem wipe1 (sl : List Sv) (k : Nat) : wipeL sl [k] = sl.set k .no := by simp [wipeL]
theorem SlIm.at {S : Ms} {i k : Nat} {d : Dt} {x : Sv} {mo : List Mo} (h : SlIm S i d) (hk : k ≠ i) : SlIm { sl := (wipeL S.sl [k]).set k x, mo := mo } i d := by
  unfold SlIm at *
  rw [wipe1]
  show ((S.sl.set k .no).set k x)[i]? = _
  rw [List.getElem?_set_ne hk, List.getElem?_set_ne hk, h]
end Lq

namespace Lq
open PySem PySem.Spec PyProof.Rows L2
structure CodeOf (p : Int) (n : Nat) (rows T W : List (List Int)) : Prop where
  okT : okR p n T
  len : T.length ≤ n
  eqT : T = (redN p rows n).T
  eqW : W = sortW (spanL p n rows)
  wds : wordsF p n T = W
  okW : ∀ w ∈ W, ok1 p n w
  crd : W.length = p.toNat ^ T.length
  sub : Sub p n W
theorem codeOf {p : Int} {n : Nat} {rows : List (List Int)} (hp : isP p = true) (hn : n ≤ 1000) (h : okR p n rows) : CodeOf p n rows (redN p rows n).T (sortW (spanL p n rows)) := by
  obtain ⟨k1, k2, k3⟩ := okR_red hp hn h
  obtain ⟨w1, w2, w3⟩ := wordsF_sort hp hn k1 k2
  rw [red_span hp hn h] at w1
  rw [w1] at w2 w3
  exact ⟨k1, k3, rfl, rfl, w1, w3, w2, Sub_words (isP_okP hp) hn h⟩
end Lq

namespace Lq
open PySem PySem.Spec PyProof.Rows L2

end Lq


namespace Lq
open PySem PySem.Spec PyProof.Rows L2
theorem g_zero0 (n j : Nat) : g (List.replicate n 0) j = 0 := by
  unfold g
  rw [List.getD_eq_getElem?_getD, List.getElem?_replicate]
  split <;> rfl
theorem add_zero_sc {p : Int} {n : Nat} {r : List Int} (hr : r.length = n) : addW p (List.replicate n 0) (scW p 0 r) = List.replicate n 0 := by
  have h1 : (scW p 0 r).length = n := by rw [scW_len]; exact hr
  refine g_ext (n := n) (by rw [addW_len _ _ _ (by simp [h1])]; simp) (by simp) fun j hj => ?_
  rw [show addW p (List.replicate n 0) (scW p 0 r) = lin p (List.replicate n 0) r 0 from rfl, g_lin (by simp) hr hj, g_zero0]
  simp
theorem wstep_head {p : Int} {n : Nat} {ws : List (List Int)} {r : List Int} (hp : 0 < p) (hr : r.length = n) (h : ws.head? = some (List.replicate n 0)) : (wstep p ws r).head? = some (List.replicate n 0) := by
  cases ws with
  | nil => cases h
  | cons w ws =>
    cases h
    unfold wstep
    obtain ⟨k, hk⟩ : ∃ k, p.toNat = k + 1 := ⟨p.toNat - 1, by omega⟩
    rw [List.flatMap_cons, hk, List.range_succ_eq_map, List.map_cons, List.cons_append, List.head?_cons]
    congr 1
    exact add_zero_sc hr
theorem wordsF_head {p : Int} {n : Nat} (hp : 0 < p) : ∀ (T ws : List (List Int)), (∀ r ∈ T, r.length = n) → ws.head? = some (List.replicate n 0) → (T.foldl (wstep p) ws).head? = some (List.replicate n 0)
  | [], ws, _, h => h
  | r :: T, ws, hT, h => wordsF_head hp T _ (fun x hx => hT x (List.mem_cons_of_mem _ hx)) (wstep_head hp (hT r List.mem_cons_self) h)
theorem words_head {p : Int} {n : Nat} {T : List (List Int)} (hp : 0 < p) (hT : okR p n T) : (wordsF p n T).head? = some (List.replicate n 0) := wordsF_head hp T _ (fun r hr => (hT r hr).2) rfl
end Lq

namespace Lq
open PySem PySem.Spec PyProof.Rows L2
theorem wstep_get {p : Int} {r : List Int} {a : Nat} (ha : a < p.toNat) : ∀ (ws : List (List Int)) (q : Nat), (wstep p ws r)[q * p.toNat + a]? = (ws[q]?).map fun w => addW p w (scW p (a : Int) r)
  | [], q => by simp [wstep]
  | w :: ws, q => by
    have e : wstep p (w :: ws) r = ((List.range p.toNat).map fun (a : Nat) => addW p w (scW p (a : Int) r)) ++ wstep p ws r := by simp [wstep]
    rw [e]
    cases q with
    | zero =>
      rw [List.getElem?_append_left (by simpa using ha)]
      simp [ha]
    | succ q =>
      rw [List.getElem?_append_right (by rw [List.length_map, List.length_range, Nat.succ_mul]; omega), List.length_map, List.length_range]
      have : (q + 1) * p.toNat + a - p.toNat = q * p.toNat + a := by rw [Nat.succ_mul]; omega
      rw [this, wstep_get ha ws q]
      simp
theorem wordsF_snoc (p : Int) (n : Nat) (T : List (List Int)) (r : List Int) : wordsF p n (T ++ [r]) = wstep p (wordsF p n T) r := by simp [wordsF, List.foldl_append]
theorem words_row {p : Int} {n : Nat} (hp : isP p = true) (hn : n ≤ 1000) : ∀ (m : Nat) (T : List (List Int)), T.length = m → okR p n T → ∀ j, j < m → (wordsF p n T)[p.toNat ^ (m - 1 - j)]? = T[j]?
  | 0, _, _, _, j, h => absurd h (Nat.not_lt_zero j)
  | m + 1, T, hl, hT, j, hj => by
    have hc := isP_cases hp
    have hp2 : 2 ≤ p.toNat := by omega
    rcases List.eq_nil_or_concat T with rfl | ⟨T', r, rfl⟩
    · simp at hl
    · rw [List.concat_eq_append] at *
      have hl' : T'.length = m := by simpa using hl
      have hT' : okR p n T' := fun x hx => hT x (List.mem_append_left _ hx)
      have hr := hT r (by simp)
      rw [wordsF_snoc]
      by_cases e : j = m
      · subst e
        have e1 : p.toNat ^ (j + 1 - 1 - j) = 0 * p.toNat + 1 := by simp
        have hh := words_head (p := p) (n := n) (T := T') (by omega) hT'
        rw [e1, wstep_get (by omega), List.getElem?_append_right (by omega), hl', Nat.sub_self]
        have h0 : (wordsF p n T')[0]? = some (List.replicate n 0) := by rw [← List.head?_eq_getElem?]; exact hh
        rw [h0]
        simp only [Option.map_some, List.getElem?_cons_zero]
        congr 1
        exact zero_lin hr
      · have hj' : j < m := by omega
        have ih := words_row hp hn m T' hl' hT' j hj'
        have e1 : p.toNat ^ (m + 1 - 1 - j) = p.toNat ^ (m - 1 - j) * p.toNat + 0 := by
          rw [Nat.add_zero, ← Nat.pow_succ]
          congr 1
          omega
        rw [e1, wstep_get (by omega), ih, List.getElem?_append_left (by omega), List.getElem?_eq_getElem (by omega : j < T'.length), Option.map_some]
        congr 1
        exact lin_none (hT' _ (List.getElem_mem _)) hr.2
theorem wordsF_len {p : Int} {n : Nat} (T : List (List Int)) : (wordsF p n T).length = p.toNat ^ T.length := by
  have : ∀ (T ws : List (List Int)), (T.foldl (wstep p) ws).length = ws.length * p.toNat ^ T.length := fun T => by
    induction T with
    | nil => intro ws; simp
    | cons r T ih =>
      intro ws
      rw [List.foldl_cons, ih, wstep_len, List.length_cons, Nat.pow_succ, Nat.mul_assoc, Nat.mul_comm p.toNat]
  have h := this T [List.replicate n 0]
  unfold wordsF
  rw [h]
  simp
theorem table_of_words {p : Int} {n : Nat} {T T' : List (List Int)} (hp : isP p = true) (hn : n ≤ 1000) (hT : okR p n T) (hT' : okR p n T') (h : wordsF p n T = wordsF p n T') : T = T' := by
  have hc := isP_cases hp
  have hl : T.length = T'.length := by
    have := congrArg List.length h
    rw [wordsF_len, wordsF_len] at this
    rcases Nat.lt_trichotomy T.length T'.length with q | q | q
    · have := Nat.pow_lt_pow_right (by omega : 1 < p.toNat) q
      omega
    · exact q
    · have := Nat.pow_lt_pow_right (by omega : 1 < p.toNat) q
      omega
  refine List.ext_getElem? fun j => ?_
  by_cases hj : j < T.length
  · rw [← words_row hp hn T.length T rfl hT j hj, ← words_row hp hn T'.length T' rfl hT' j (by omega), h, hl]
  · rw [List.getElem?_eq_none (by omega), List.getElem?_eq_none (by omega)]
theorem mem_code {p : Int} {n : Nat} {rows T W : List (List Int)} (hp : isP p = true) (hn : n ≤ 1000) (h : okR p n rows) (hc : CodeOf p n rows T W) {y : List Int} : y ∈ W ↔ Sp p n rows y := by
  rw [hc.eqW]
  unfold sortW
  rw [(List.mergeSort_perm _ _).mem_iff]
  exact spanL_iff (isP_okP hp) hn h
theorem Sp_tab {p : Int} {n : Nat} {rows T W : List (List Int)} (hp : isP p = true) (hn : n ≤ 1000) (h : okR p n rows) (hc : CodeOf p n rows T W) {y : List Int} : Sp p n T y ↔ y ∈ W := by
  rw [mem_code hp hn h hc, hc.eqT]
  exact red_Sp hp hn h y
end Lq

namespace Lq
open PySem PySem.Spec PyProof.Rows L2
theorem kerL_ok {p : Int} {n : Nat} (hp : isP p = true) (hn : n ≤ 1000) (s : Red) : okR p n (kerL p n s) := ker_ok hp hn
theorem checks_iff {p : Int} {n : Nat} {T W : List (List Int)} (hp : isP p = true) (hn : n ≤ 1000) (hT : okR p n T) (hS : Sub p n W) (hW : ∀ y, Sp p n T y ↔ y ∈ W) {y : List Int} : Zr p n (kerL p n (redN p T n)) y ↔ y ∈ W := by
  have hp' := isP_okP hp
  have hK := kerL_ok hp hn (redN p T n)
  have hdual : ∀ u, Zr p n T u ↔ u ∈ dualL p n W := fun u => by
    rw [dual_mem hn hS.ok]
    constructor
    · intro h
      refine ⟨h.1, fun x hx => ?_⟩
      rw [sm_comm]
      exact Zr_Sp hp' hn hT h ((hW x).mpr hx)
    · intro h
      refine ⟨h.1, fun r hr => ?_⟩
      rw [sm_comm]
      exact h.2 r ((hW r).mp (Sp_row hp' hT hr))
  constructor
  · intro h
    have hdd : y ∈ dualL p n (dualL p n W) := (dual_mem hn (Sub_dual hp' hn hS.ok).ok).mpr ⟨h.1, fun u hu => by
      rw [sm_comm]
      exact Zr_Sp hp' hn hK h ((ker_iff hp hn hT u).mpr ((hdual u).mpr hu))⟩
    exact (dual_dual hp hn hS).mem_iff.mp hdd
  · intro h
    refine ⟨hS.ok y h, fun k hk => ?_⟩
    have hz := (ker_iff hp hn hT k).mp (Sp_row hp' hK hk)
    rw [sm_comm]
    exact Zr_Sp hp' hn hT hz ((hW y).mpr h)
end Lq

namespace Lq
open PySem PySem.Spec PyProof.Rows L2

noncomputable def m09_Code_checks (CC : Addr) : Ms → O := (retS (fldE CC "_checks" (varE 0)))
noncomputable def Fchecks (CC : Addr) : List Dt → Fo := runD 1 (m09_Code_checks CC)
theorem Fchecks_run {CC : Addr} {p : Int} {n : Nat} {T : List (List Int)} : Fchecks CC [codeD CC p n T] = .ok (TD (kerL p n (redN p T n))) := by
  have h1 := code_checks CC p n T
  unfold Fchecks runD m09_Code_checks
  have hst : st0 1 [codeD CC p n T] = { sl := [.im (codeD CC p n T)], mo := [] } := rfl
  rw [hst]
  generalize codeD CC p n T = C at *
  simp [h1, O.fo]
theorem kerL_len {p : Int} {n : Nat} (s : Red) : (kerL p n s).length ≤ n := by
  unfold kerL frees
  rw [List.length_map]
  have := List.length_filter_le (fun c => decide (c ∉ s.P)) (List.range n)
  rw [List.length_range] at this
  exact this
end Lq


namespace Lq
open PySem PySem.Spec PyProof.Rows L2
theorem prime_isP (q : Int × Int) : isP (primeF q) = true := decide_eq_true (primeF_mem q)
theorem rows_ok9 {p : Int} {n : Nat} {m : Int} (hp : isP p = true) (hn : n ≤ 1000) (hm : 0 ≤ m) (q : Int × Int) : okR p n (rowsF p n m q).1 ∧ (((rowsF p n m q).1.length : Nat) : Int) ≤ m := by
  have hc := isP_cases hp
  have hr := takeF_range (m := m + 1) (by omega) q
  refine ⟨fun r hr => ?_, ?_⟩
  · obtain ⟨h1, h2⟩ := rowsN_mem (p := p) (by omega) n _ _ r hr
    refine ⟨?_, h1⟩
    unfold okW
    rw [Bool.and_eq_true, decide_eq_true_eq, List.all_eq_true]
    exact ⟨by omega, fun x hx => decide_eq_true (h2 x hx)⟩
  · unfold rowsF
    rw [rowsN_len]
    omega
theorem make9 (CC CM CR : Addr) {p : Int} {n : Nat} {rows T W : List (List Int)} {d : Dt} (hd : d = .lst (rows.map Wd) ∨ d = .tup (rows.map Wd)) (hp : isP p = true) (hn : n ≤ 12) (hl : rows.length ≤ 1000) (h : okR p n rows) (hc : CodeOf p n rows T W) (hk : p ^ T.length ≤ 4096) : Finit CC CM CR [.int p, .int (n : Int), d] = .ok (codeD CC p n T) := by
  have hi := Finit_run CC CM CR hd hp hn hl h (by rw [← hc.eqT]; exact hk)
  rw [← hc.eqT] at hi
  exact hi

theorem empty_code {CC CM CR : Addr} {p : Int} {n : Nat} (hp : isP p = true) (hn : n ≤ 12) : Finit CC CM CR [.int p, .int (n : Int), .tup []] = .ok (codeD CC p n (redN p [] n).T) := by
  have hT : (redN p [] n).T = [] := by
    have h := RI_N hp (by omega : n ≤ 1000) (rows := []) (fun r hr => absurd hr List.not_mem_nil) n (Nat.le_refl _)
    have hok := okR_red hp (by omega : n ≤ 1000) (rows := []) (fun r hr => absurd hr List.not_mem_nil)
    cases ht : (redN p [] n).T with
    | nil => rfl
    | cons r T =>
      have hsp : Sp p n [] r := (red_Sp hp (by omega : n ≤ 1000) (fun r hr => absurd hr List.not_mem_nil) r).mp (Sp_row (isP_okP hp) hok.1 (by rw [ht]; exact List.mem_cons_self))
      have hz : r = List.replicate n 0 := by
        cases hsp with
        | zero => rfl
        | step a _ hr => exact absurd hr List.not_mem_nil
      have hone := hok.2.1.one 0 (by rw [← hok.2.1.len, ht]; simp)
      have : tk (redN p [] n).T 0 = r := by rw [ht]; rfl
      rw [this, hz, g_zero] at hone
      exact absurd hone (by decide)
  have := Finit_run CC CM CR (rows := []) (d := .tup []) (.inr rfl) hp hn (by simp) (fun r hr => absurd hr List.not_mem_nil) (by rw [hT]; simp)
  exact this
end Lq

namespace Lq
open PySem PySem.Spec PyProof.Rows L2
theorem g_app_lo {w : List Int} {k j : Nat} {a : Int} (hw : w.length = k) (hj : j < k) : g (w ++ [a]) j = g w j := by
  unfold g
  rw [List.getD_eq_getElem?_getD, List.getD_eq_getElem?_getD, List.getElem?_append_left (by omega)]
theorem g_app_hi {w : List Int} {k : Nat} {a : Int} (hw : w.length = k) : g (w ++ [a]) k = a := by
  unfold g
  rw [List.getD_eq_getElem?_getD, List.getElem?_append_right (by omega), hw, Nat.sub_self]
  rfl
theorem allN_at (p : Int) : ∀ k, (allN p k).Pairwise (LtAt k)
  | 0 => by simp [allN]
  | k + 1 => by
    rw [allN_succ, List.pairwise_flatMap]
    refine ⟨fun w hw => ?_, ?_⟩
    · have hl := allN_wlen p k w hw
      unfold extW
      rw [List.pairwise_map]
      refine List.pairwise_lt_range.imp fun {a b} hab => ⟨k, by omega, fun j hj => ?_, ?_⟩
      · rw [g_app_lo hl hj, g_app_lo hl hj]
      · rw [g_app_hi hl, g_app_hi hl]; omega
    · refine (allN_at p k).imp_of_mem fun {w v} hw hv h x hx y hy => ?_
      obtain ⟨d, hd, h1, h2⟩ := h
      have lw := allN_wlen p k w hw
      have lv := allN_wlen p k v hv
      obtain ⟨a, _, rfl⟩ := List.mem_map.mp hx
      obtain ⟨b, _, rfl⟩ := List.mem_map.mp hy
      refine ⟨d, by omega, fun j hj => ?_, ?_⟩
      · rw [g_app_lo lw (by omega), g_app_lo lv (by omega)]; exact h1 j hj
      · rw [g_app_lo lw (by omega), g_app_lo lv (by omega)]; exact h2
theorem allN_sort (p : Int) (n : Nat) (b : List Int → Bool) : sortW ((allN p n).filter b) = (allN p n).filter b := by
  have hlt : (allN p n).Pairwise (· < ·) := (allN_at p n).imp_of_mem fun {a c} ha hc q => ltAt_lt (by rw [allN_wlen p n a ha, allN_wlen p n c hc]) (by rw [allN_wlen p n a ha]; exact Nat.le_refl _) q
  unfold sortW
  exact List.mergeSort_of_pairwise ((hlt.filter _).imp fun {a c} q => by simpa using List.le_of_lt q)
theorem frees_len {n : Nat} {P : List Nat} (hnd : P.Nodup) (h : ∀ c ∈ P, c < n) : (frees n P).length + P.length = n := by
  have e1 : ((List.range n).filter fun c => decide (c ∈ P)).Perm P := (List.perm_ext_iff_of_nodup (List.nodup_range.filter _) hnd).mpr fun c => by
    rw [List.mem_filter, List.mem_range, decide_eq_true_eq]
    exact ⟨fun z => z.2, fun z => ⟨h c z, z⟩⟩
  have e2 : ∀ (l : List Nat), (l.filter fun c => decide (c ∉ P)).length + (l.filter fun c => decide (c ∈ P)).length = l.length := fun l => by
    induction l with
    | nil => rfl
    | cons c l ih =>
      by_cases q : c ∈ P
      · rw [List.filter_cons_of_neg (by simpa using q), List.filter_cons_of_pos (by simpa using q), List.length_cons, List.length_cons]; omega
      · rw [List.filter_cons_of_pos (by simpa using q), List.filter_cons_of_neg (by simpa using q), List.length_cons, List.length_cons]; omega
  have := e2 (List.range n)
  rw [e1.length_eq, List.length_range] at this
  exact this
theorem checks_len {p : Int} {n : Nat} {rows T W : List (List Int)} (hp : isP p = true) (hn : n ≤ 1000) (h : okR p n rows) (hc : CodeOf p n rows T W) : (kerL p n (redN p T n)).length + T.length = n := by
  have hr := okR_red hp hn h
  rw [← hc.eqT] at hr
  obtain ⟨k1, k2, k3⟩ := hr
  have ha := red_again (L := T) hp hn k1 k2 fun r => Iff.rfl
  unfold kerL
  rw [List.length_map, ha.2, k2.len]
  exact frees_len (Rr_nd k2) fun c hc => by
    obtain ⟨k, hk, rfl⟩ := mem_pk hc
    exact k2.lt k hk
def synd (p : Int) (H : List (List Int)) (v : List Int) : List Int := H.map fun h => sm h v % p
theorem synd_eq {p : Int} {n : Nat} {H : List (List Int)} {v w : List Int} (hp : isP p = true) (hH : okR p n H) (hv : ok1 p n v) (hw : ok1 p n w) : synd p H v = synd p H w ↔ Zr p n H (lin p v w (-1)) := by
  unfold synd Zr
  rw [List.map_inj_left]
  have hl := ok_lin (a := -1) (isP_okP hp) hv hw
  constructor
  · intro h
    refine ⟨hl, fun r hr => ?_⟩
    have e := h r hr
    rw [sm_lin p (-1) r v w (by rw [(hH r hr).2, hv.2]) (by rw [hw.2, hv.2])]
    generalize sm r v = x at *
    generalize sm r w = y at *
    rcases isP_cases hp with rfl | rfl | rfl | rfl <;> omega
  · intro h r hr
    have e := h.2 r hr
    rw [sm_lin p (-1) r v w (by rw [(hH r hr).2, hv.2]) (by rw [hw.2, hv.2])] at e
    generalize sm r v = x at *
    generalize sm r w = y at *
    rcases isP_cases hp with rfl | rfl | rfl | rfl <;> omega
end Lq

namespace Lq
open PySem PySem.Spec PyProof.Rows L2

noncomputable def m08_Code_syndrome (CC CM : Addr) : Ms → O := (seqS (ifS (notT (truT (funE 3 (aCons (varE 1) (aCons (fldE CC "p" (varE 0)) (aCons (fldE CC "n" (varE 0)) aNil))) Fisword))) (raiseS ⟨CM, [], []⟩) nilS)
  (retS (calE (aCons (frz (lcE (itS (fldE CC "_checks" (varE 0))) (Tk.nm 2).k yesT (funE 3 (aCons (varE 2) (aCons (varE 1) (aCons (fldE CC "p" (varE 0)) aNil))) Fdot) [2])) aNil) tupO)))
noncomputable def Fsynd (CC CM : Addr) : List Dt → Fo := runD 3 (m08_Code_syndrome CC CM)
theorem Fsynd_run {CC CM : Addr} {p : Int} {n : Nat} {T H : List (List Int)} {v : List Int} (hp : isP p = true) (hn : n ≤ 1000) (hH : H = kerL p n (redN p T n)) (hv : ok1 p n v) : Fsynd CC CM [codeD CC p n T, Wd v] = .ok (Wd (synd p H v)) := by
  have h1 := code_p CC p n T
  have h2 := code_n CC p n T
  have h3 := code_checks CC p n T
  rw [← hH] at h3
  have hl : H.length ≤ n := by rw [hH]; exact kerL_len _
  have hok : okR p n H := by rw [hH]; exact kerL_ok hp hn _
  have hw := Fisword_run (p := p) (m := (n : Int)) (okV_wd (v := v) (by have := hv.2; omega))
  rw [wordB_ok1 hv] at hw
  unfold Fsynd runD m08_Code_syndrome
  have hst : st0 3 [codeD CC p n T, Wd v] = { sl := [.im (codeD CC p n T), .im (Wd v), .no], mo := [] } := rfl
  rw [hst]
  generalize codeD CC p n T = C at *
  have hit : itS (fldE CC "_checks" (varE 0)) { sl := [.im C, .im (Wd v), .no], mo := [] } = .ok (H.map Wd) { sl := [.im C, .im (Wd v), .no], mo := [] } := by
    simp [h3, seqOf_td]
  have key := lcE_map (k := (Tk.nm 2).k) (e := funE 3 (aCons (varE 2) (aCons (varE 1) (aCons (fldE CC "p" (varE 0)) aNil))) Fdot) (own := [2]) Wd (fun h => Dt.int (sm h v % p)) H hit (fun h hh => by
    have hd := Fdot_run (isP_okP hp) (hok h hh).1 hv.1 (by rw [(hok h hh).2, hv.2])
    generalize sm h v % p = z at *
    exact ⟨{ sl := [.im C, .im (Wd v), .im (Wd h)], mo := [] }, rfl, { sl := [.im C, .im (Wd v), .im (Wd h)], mo := [] }, by simp [hd, h1], rfl⟩) (fun d T T' => Tk.mo) (by omega)
  have e0 : ifS (notT (truT (funE 3 (aCons (varE 1) (aCons (fldE CC "p" (varE 0)) (aCons (fldE CC "n" (varE 0)) aNil))) Fisword))) (raiseS ⟨CM, [], []⟩) nilS { sl := [.im C, .im (Wd v), .no], mo := [] } = .nx { sl := [.im C, .im (Wd v), .no], mo := [] } := by
    simp [h1, h2, hw, tru_bl]
  have e1 : (H.map fun h => Dt.int (sm h v % p)) = (synd p H v).map Dt.int := by unfold synd; rw [List.map_map]; rfl
  rw [seqS_run, e0, seq_nx, retS_run, calE_run, aCons_run, frz_run', key, e1]
  simp only [R.bind_ok, aNil_run, tupO_lst, R.of_some, R.stmt_ok]
  rfl
end Lq


namespace Lq
open PySem PySem.Spec PyProof.Rows L2

structure Kd (d : Dt) (t l b : Bool) : Prop where
  t : isiO "tuple" d = some (.bl t)
  l : isiO "list" d = some (.bl l)
  b : isiO "bool" d = some (.bl b)
end Lq

namespace Lq
open PySem PySem.Spec PyProof.Rows L2

noncomputable def m07_Code_size (CC : Addr) : Ms → O := (retS (funE 2 (aCons (fldE CC "p" (varE 0)) (aCons (fldE CC "k" (varE 0)) aNil)) Fpow))
noncomputable def Fsize07 (CC : Addr) : List Dt → Fo := runD 1 (m07_Code_size CC)
theorem Fsize07_run {CC : Addr} {p : Int} {n : Nat} {T : List (List Int)} (hp : isP p = true) (hl : T.length ≤ 12) : Fsize07 CC [codeD CC p n T] = .ok (.int (p ^ T.length)) := by
  have h1 := code_p CC p n T
  have h2 := code_k CC p n T
  have hst : st0 1 [codeD CC p n T] = { sl := [.im (codeD CC p n T)], mo := [] } := rfl
  have v0 : varE 0 { sl := [.im (codeD CC p n T)], mo := [] } = .ok (codeD CC p n T) { sl := [.im (codeD CC p n T)], mo := [] } := rfl
  have hc := isP_cases hp
  have hf := Fpow_run (a := p) (k := (T.length : Int)) (by omega) (by omega)
  rw [Int.toNat_natCast] at hf
  unfold Fsize07 runD m07_Code_size
  rw [hst]
  generalize ({ sl := [.im (codeD CC p n T)], mo := [] } : Ms) = U at *
  generalize codeD CC p n T = C at *
  simp only [retS_run, funE_run, aCons_run, aNil_run, fldE_run', v0, R.bind_ok, h1, h2, R.of_some, List.length_cons, List.length_nil, Nat.zero_add, Nat.reduceAdd, if_true, hf, R.stmt_ok]
  rfl
theorem table_self {p : Int} {n : Nat} {rows T W : List (List Int)} (hp : isP p = true) (hn : n ≤ 1000) (h : okR p n rows) (hc : CodeOf p n rows T W) : T = (redN p T n).T := by
  have c2 := codeOf hp hn hc.okT
  refine table_of_words hp hn hc.okT c2.okT ?_
  rw [hc.wds, c2.wds, hc.eqT, red_span hp hn h, hc.eqW]

end Lq

namespace Lq
open PySem PySem.Spec PyProof.Rows L2
end Lq

namespace Lq
open PySem PySem.Spec PyProof.Rows L2
end Lq

namespace Lq
open PySem PySem.Spec PyProof.Rows L2

structure CW (CC : Addr) (p : Int) (n : Nat) (T W : List (List Int)) (v : List Int) : Prop where
  hp : isP p = true
  hn : n ≤ 12
  wds : Fwords CC [codeD CC p n T] = .ok (W.map Wd)
  ok : ∀ w ∈ W, ok1 p n w
  len : W.length ≤ 1000
  hv : ok1 p n v
end Lq


namespace Lq
open PySem PySem.Spec PyProof.Rows L2
def setW (u : List Int) (a : Nat) (x : Int) : List Int := u.take a ++ x :: u.drop (a + 1)
theorem split_at {u : List Int} {a : Nat} (h : a < u.length) : u = u.take a ++ g u a :: u.drop (a + 1) := by
  have e : u.drop a = u[a] :: u.drop (a + 1) := List.drop_eq_getElem_cons h
  have hg : g u a = u[a] := by unfold g; simp [h]
  rw [hg, ← e, List.take_append_drop]
theorem setW_len {u : List Int} {a : Nat} {x : Int} (h : a < u.length) : (setW u a x).length = u.length := by
  unfold setW
  rw [List.length_append, List.length_cons, List.length_take, List.length_drop]
  omega
theorem setW_g {u : List Int} {a : Nat} {x : Int} (h : a < u.length) (j : Nat) : g (setW u a x) j = if j = a then x else g u j := by
  have hl : (u.take a).length = a := by rw [List.length_take]; omega
  unfold g setW
  rw [List.getD_eq_getElem?_getD, List.getD_eq_getElem?_getD]
  by_cases e : j = a
  · rw [if_pos e, e, List.getElem?_append_right (by omega), hl, Nat.sub_self]
    rfl
  · rw [if_neg e]
    rcases Nat.lt_or_gt_of_ne e with hj | hj
    · rw [List.getElem?_append_left (by omega), List.getElem?_take, if_pos hj]
    · rw [List.getElem?_append_right (by omega), hl]
      obtain ⟨k, hk⟩ : ∃ k, j - a = k + 1 := ⟨j - a - 1, by omega⟩
      rw [hk, List.getElem?_cons_succ, List.getElem?_drop]
      congr 2
      omega
theorem wt_app (a b : List Int) : wtW (a ++ b) = wtW a + wtW b := by unfold wtW; rw [List.filter_append, List.length_append]
theorem wt_cons (x : Int) (b : List Int) : wtW (x :: b) = (if x ≠ 0 then 1 else 0) + wtW b := by
  unfold wtW
  rw [List.filter_cons]
  by_cases h : x ≠ 0
  · simp [h]; omega
  · simp [h]
theorem wt_set {u : List Int} {a : Nat} {x : Int} (h : a < u.length) : wtW (setW u a x) + (if g u a ≠ 0 then 1 else 0) = wtW u + (if x ≠ 0 then 1 else 0) := by
  have e := split_at h
  have e2 : wtW u = wtW (u.take a ++ g u a :: u.drop (a + 1)) := by rw [← e]
  unfold setW
  rw [e2, wt_app, wt_app, wt_cons, wt_cons]
  omega
theorem sm_mid : ∀ (ha a hb b : List Int) (y x : Int), ha.length = a.length → sm (ha ++ y :: hb) (a ++ x :: b) = sm ha a + y * x + sm hb b
  | [], [], hb, b, y, x, _ => by
    rw [List.nil_append, List.nil_append, sm_cons]
    simp [sm]
  | _ :: _, [], _, _, _, _, h => by simp at h
  | [], _ :: _, _, _, _, _, h => by simp at h
  | z :: ha, w :: a, hb, b, y, x, h => by
    rw [List.cons_append, List.cons_append, sm_cons, sm_cons, sm_mid ha a hb b y x (by simpa using h)]
    omega
theorem sm_set {h u : List Int} {a : Nat} {x : Int} (hl : h.length = u.length) (ha : a < u.length) : sm h (setW u a x) = sm h u + g h a * x - g h a * g u a := by
  have e1 := split_at (u := h) (a := a) (by omega)
  have e2 := split_at ha
  have h1 : sm h u = sm (h.take a ++ g h a :: h.drop (a + 1)) (u.take a ++ g u a :: u.drop (a + 1)) := by rw [← e1, ← e2]
  have h2 : sm h (setW u a x) = sm (h.take a ++ g h a :: h.drop (a + 1)) (u.take a ++ x :: u.drop (a + 1)) := by rw [← e1]; rfl
  have hlt : (h.take a).length = (u.take a).length := by rw [List.length_take, List.length_take, hl]
  rw [h1, h2, sm_mid _ _ _ _ _ _ hlt, sm_mid _ _ _ _ _ _ hlt]
  omega
def colH (H : List (List Int)) (a : Nat) : List Int := H.map fun h => g h a
theorem synd_set {p : Int} {n : Nat} {H : List (List Int)} {u : List Int} {a : Nat} {x : Int} (hp : 0 < p) (hH : okR p n H) (hu : u.length = n) (ha : a < n) : synd p H (setW u a ((g u a + x) % p)) = addW p (synd p H u) (scW p x (colH H a)) := by
  unfold synd addW scW colH
  rw [List.map_map, List.zipWith_map]
  induction H with
  | nil => rfl
  | cons h H ih =>
    have hl := (hH h (List.mem_cons_self ..)).2
    rw [List.map_cons, List.zipWith_cons_cons, ih (fun y hy => hH y (List.mem_cons_of_mem _ hy))]
    congr 1
    rw [sm_set (by omega) (by omega)]
    show _ = (sm h u % p + (g h a * x) % p) % p
    have e : sm h u + g h a * ((g u a + x) % p) - g h a * g u a = (sm h u + g h a * x) + p * (g h a * -((g u a + x) / p)) := by
      have := Int.emod_add_mul_ediv (g u a + x) p
      have h3 : (g u a + x) % p = g u a + x - p * ((g u a + x) / p) := by omega
      rw [h3]
      grind
    rw [e, Int.add_mul_emod_self_left, Int.add_emod]
def usedL (u : List Int) : List Nat := (List.range u.length).filter fun j => decide (g u j ≠ 0)
def fstN (u : List Int) : Nat := match (usedL u).getLast? with | some a => a + 1 | none => 0
theorem last_max : ∀ {l : List Nat} {a : Nat}, l.Pairwise (· < ·) → l.getLast? = some a → ∀ j ∈ l, j ≤ a
  | [], _, _, h => by simp at h
  | [x], a, _, h => by
    intro j hj
    simp at h hj
    omega
  | x :: y :: r, a, hp, h => by
    rw [List.getLast?_cons_cons] at h
    rw [List.pairwise_cons] at hp
    have ih := last_max hp.2 h
    intro j hj
    rcases List.mem_cons.mp hj with rfl | hj
    · have h1 := hp.1 y (List.mem_cons_self ..)
      have h2 := ih y (List.mem_cons_self ..)
      omega
    · exact ih j hj
theorem used_sorted (u : List Int) : (usedL u).Pairwise (· < ·) := (List.pairwise_lt_range).filter _
theorem mem_used {u : List Int} {j : Nat} : j ∈ usedL u ↔ j < u.length ∧ g u j ≠ 0 := by
  unfold usedL
  rw [List.mem_filter, List.mem_range, decide_eq_true_eq]
def IsF (u : List Int) (m : Nat) : Prop := (∀ j, m ≤ j → g u j = 0) ∧ (m = 0 ∨ (m - 1 < u.length ∧ g u (m - 1) ≠ 0))
theorem g_out21 {u : List Int} {j : Nat} (h : u.length ≤ j) : g u j = 0 := by
  unfold g
  rw [List.getD_eq_getElem?_getD, List.getElem?_eq_none h]
  rfl
theorem fst_is (u : List Int) : IsF u (fstN u) := by
  unfold fstN
  cases h : (usedL u).getLast? with
  | none =>
    have e : usedL u = [] := by simpa using h
    refine ⟨fun j _ => ?_, .inl rfl⟩
    by_cases hj : j < u.length
    · refine Classical.byContradiction fun hg => ?_
      have := mem_used.mpr ⟨hj, hg⟩
      rw [e] at this
      cases this
    · exact g_out21 (by omega)
  | some a =>
    have hm := mem_used.mp (List.mem_of_getLast? h)
    refine ⟨fun j hj => ?_, .inr ?_⟩
    · by_cases hj2 : j < u.length
      · refine Classical.byContradiction fun hg => ?_
        have := last_max (used_sorted u) h j (mem_used.mpr ⟨hj2, hg⟩)
        dsimp only at hj
        omega
      · exact g_out21 (by omega)
    · dsimp only
      rw [Nat.add_sub_cancel]
      exact hm
theorem isF_uniq {u : List Int} {m k : Nat} (hm : IsF u m) (hk : IsF u k) : m = k := by
  rcases Nat.lt_trichotomy m k with h | h | h
  · rcases hk.2 with e | e
    · omega
    · exact absurd (hm.1 (k - 1) (by omega)) e.2
  · exact h
  · rcases hm.2 with e | e
    · omega
    · exact absurd (hk.1 (m - 1) (by omega)) e.2
theorem fst_set {u : List Int} {a : Nat} {x : Int} (h1 : fstN u ≤ a) (h2 : a < u.length) (hx : x ≠ 0) : fstN (setW u a x) = a + 1 := by
  refine isF_uniq (fst_is _) ⟨fun j hj => ?_, .inr ⟨by rw [setW_len h2]; omega, ?_⟩⟩
  · rw [setW_g h2, if_neg (by omega)]
    exact (fst_is u).1 j (by omega)
  · rw [setW_g h2, if_pos (by omega)]
    exact hx
def lonA (p : Int) (u : List Int) (a : Nat) : List (List Int) := (List.range (p - 1).toNat).map fun (x : Nat) => setW u a (1 + (x : Int))
def lonW (p : Int) (u : List Int) : List (List Int) := ((List.range' (fstN u) (u.length - fstN u)).map (lonA p u)).flatten
theorem mem_lon {p : Int} {u y : List Int} (hp : 0 < p) : y ∈ lonW p u ↔ ∃ a x, fstN u ≤ a ∧ a < u.length ∧ 1 ≤ x ∧ x < p ∧ y = setW u a x := by
  unfold lonW lonA
  simp only [List.mem_flatten, List.mem_map, List.mem_range'_1, List.mem_range]
  constructor
  · rintro ⟨l, ⟨a, ha, rfl⟩, hy⟩
    obtain ⟨x, hx, rfl⟩ := List.mem_map.mp hy
    rw [List.mem_range] at hx
    exact ⟨a, _, ha.1, by omega, by omega, by omega, rfl⟩
  · rintro ⟨a, x, h1, h2, h3, h4, rfl⟩
    refine ⟨_, ⟨a, ⟨h1, by omega⟩, rfl⟩, List.mem_map.mpr ⟨(x - 1).toNat, List.mem_range.mpr (by omega), ?_⟩⟩
    congr 1
    omega
theorem nodup_flat {α β : Type} {f : α → List β} {r : β → α} : ∀ {L : List α}, L.Nodup → (∀ l ∈ L, (f l).Nodup) → (∀ l ∈ L, ∀ y ∈ f l, r y = l) → ((L.map f).flatten).Nodup
  | [], _, _, _ => List.nodup_nil
  | l :: L, hn, h1, h2 => by
    rw [List.map_cons, List.flatten_cons, List.nodup_append]
    rw [List.nodup_cons] at hn
    refine ⟨h1 l (List.mem_cons_self ..), nodup_flat hn.2 (fun x hx => h1 x (List.mem_cons_of_mem _ hx)) (fun x hx => h2 x (List.mem_cons_of_mem _ hx)), fun a ha b hb e => ?_⟩
    obtain ⟨q, hq, hbq⟩ := List.mem_flatten.mp hb
    obtain ⟨l', hl', rfl⟩ := List.mem_map.mp hq
    have e1 := h2 l (List.mem_cons_self ..) a ha
    have e2 := h2 l' (List.mem_cons_of_mem _ hl') b hbq
    rw [e, e2] at e1
    exact hn.1 (e1 ▸ hl')
theorem lon_nodup {p : Int} (u : List Int) (hp : 0 < p) : (lonW p u).Nodup := by
  unfold lonW
  refine nodup_flat (r := fun y => fstN y - 1) List.nodup_range' (fun a ha => ?_) (fun a ha y hy => ?_)
  · rw [List.mem_range'_1] at ha
    refine nodup_map_on List.nodup_range fun x _ z _ e => ?_
    have := congrArg (fun w => g w a) e
    rw [setW_g (by omega), setW_g (by omega), if_pos rfl, if_pos rfl] at this
    omega
  · rw [List.mem_range'_1] at ha
    obtain ⟨x, _, rfl⟩ := List.mem_map.mp hy
    skip
    rw [fst_set ha.1 (by omega) (by omega), Nat.add_sub_cancel]
theorem lons_nodup {p : Int} {n : Nat} {L : List (List Int)} (hp : 0 < p) (hL : L.Nodup) (hl : ∀ u ∈ L, u.length = n) : ((L.map (lonW p)).flatten).Nodup := by
  refine nodup_flat (r := fun y => setW y (fstN y - 1) 0) hL (fun u _ => lon_nodup u hp) (fun u hu y hy => ?_)
  obtain ⟨a, x, h1, h2, h3, h4, rfl⟩ := (mem_lon hp).mp hy
  skip
  rw [fst_set h1 h2 (by omega), Nat.add_sub_cancel]
  refine g_ext (n := n) (by rw [setW_len (by rw [setW_len h2]; exact h2), setW_len h2]; exact hl u hu) (hl u hu) fun j _ => ?_
  rw [setW_g (by rw [setW_len h2]; exact h2), setW_g h2]
  by_cases e : j = a
  · rw [if_pos e, e, (fst_is u).1 a h1]
  · rw [if_neg e, if_neg e]
def Lead (p : Int) (n : Nat) (H : List (List Int)) (u : List Int) : Prop := ok1 p n u ∧ ∀ x, ok1 p n x → synd p H x = synd p H u → wtW u ≤ wtW x
section
variable {p : Int} {n : Nat} {H : List (List Int)}
theorem ok1_set {u : List Int} {a : Nat} {x : Int} (hu : ok1 p n u) (ha : a < n) (hx : 0 ≤ x ∧ x < p) : ok1 p n (setW u a x) := by
  have h2 := okW_iff.mp hu.1
  have hl := hu.2
  refine ⟨okW_iff.mpr ⟨by rw [setW_len (by omega)]; exact h2.1, fun y hy => ?_⟩, by rw [setW_len (by omega)]; exact hl⟩
  unfold setW at hy
  rcases List.mem_append.mp hy with hy | hy
  · exact h2.2 y (List.mem_of_mem_take hy)
  · rcases List.mem_cons.mp hy with rfl | hy
    · exact hx
    · exact h2.2 y (List.mem_of_mem_drop hy)
theorem g_rg {u : List Int} (hp : 0 < p) (hu : ok1 p n u) (j : Nat) : 0 ≤ g u j ∧ g u j < p := by
  by_cases h : j < u.length
  · have e : g u j = u[j] := by unfold g; simp [h]
    rw [e]
    exact (okW_iff.mp hu.1).2 _ (List.getElem_mem h)
  · rw [g_out21 (by omega)]
    omega
theorem lead_pre {u : List Int} {a : Nat} {x : Int} (hp : 0 < p) (hH : okR p n H) (hu : ok1 p n u) (ha : a < n) (h0 : g u a = 0) (hx : 1 ≤ x ∧ x < p) (hl : Lead p n H (setW u a x)) : Lead p n H u := by
  refine ⟨hu, fun y hy e => ?_⟩
  have hul := hu.2
  have hyl := hy.2
  have e1 := synd_set (x := x) hp hH hul ha
  have e2 := synd_set (x := x) hp hH hyl ha
  rw [h0, Int.zero_add, Int.emod_eq_of_lt (by omega) hx.2] at e1
  rw [e, ← e1] at e2
  have hz := hl.2 _ (ok1_set hy ha ⟨Int.emod_nonneg _ (by omega), Int.emod_lt_of_pos _ hp⟩) e2
  have w1 := wt_set (u := u) (a := a) (x := x) (by omega)
  have w2 := wt_set (u := y) (a := a) (x := (g y a + x) % p) (by omega)
  rw [h0, if_neg (by simp), if_pos (by omega)] at w1
  have : (if (g y a + x) % p ≠ 0 then 1 else 0) ≤ 1 := by split <;> omega
  omega
theorem wt_zero_iff {u : List Int} : wtW u = 0 ↔ ∀ x ∈ u, x = 0 := by
  unfold wtW
  rw [List.length_eq_zero_iff, List.filter_eq_nil_iff]
  simp
theorem has_pre {u : List Int} (hu : ok1 p n u) (hp : 0 < p) (hw : wtW u ≠ 0) : ∃ v a x, ok1 p n v ∧ fstN v ≤ a ∧ a < n ∧ 1 ≤ x ∧ x < p ∧ g v a = 0 ∧ u = setW v a x ∧ wtW v + 1 = wtW u := by
  have hf := fst_is u
  have hul := hu.2
  rcases hf.2 with h | ⟨h1, h2⟩
  · exfalso
    apply hw
    rw [wt_zero_iff]
    intro x hx
    obtain ⟨j, hj, rfl⟩ := List.getElem_of_mem hx
    have := hf.1 j (by omega)
    unfold g at this
    simpa [hj] using this
  · have hpos : fstN u ≠ 0 := fun z => by
      have := hf.1 (fstN u - 1) (by omega)
      exact h2 this
    have hrg := g_rg hp hu (fstN u - 1)
    generalize ha : fstN u - 1 = a at *
    have hv := ok1_set (x := 0) hu (by omega : a < n) ⟨by omega, by omega⟩
    have hg0 : g (setW u a 0) a = 0 := by rw [setW_g h1, if_pos rfl]
    refine ⟨setW u a 0, a, g u a, hv, ?_, by omega, by omega, hrg.2, hg0, ?_, ?_⟩
    · have hF := fst_is (setW u a 0)
      rcases hF.2 with e | ⟨e1, e2⟩
      · omega
      · refine Nat.le_of_not_lt fun hlt => e2 ?_
        rw [setW_g h1]
        split
        · rfl
        · exact hf.1 _ (by omega)
    · refine g_ext (n := n) hul (by rw [setW_len (by rw [setW_len h1]; exact h1), setW_len h1]; exact hul) fun j _ => ?_
      rw [setW_g (by rw [setW_len h1]; exact h1), setW_g h1]
      by_cases e : j = a
      · rw [if_pos e, e]
      · rw [if_neg e, if_neg e]
    · have := wt_set (u := u) (a := a) (x := 0) h1
      rw [if_pos h2, if_neg (by simp)] at this
      omega
theorem lead_step {u : List Int} (hp : 0 < p) (hH : okR p n H) (hu : Lead p n H u) (hw : wtW u ≠ 0) : ∃ v, Lead p n H v ∧ wtW v + 1 = wtW u ∧ u ∈ lonW p v := by
  obtain ⟨v, a, x, h1, h2, h3, h4, h5, h6, h7, h8⟩ := has_pre hu.1 hp hw
  subst h7
  refine ⟨v, lead_pre hp hH h1 h3 h6 ⟨h4, h5⟩ hu, h8, (mem_lon hp).mpr ⟨a, x, h2, by rw [h1.2]; exact h3, h4, h5, rfl⟩⟩
theorem lon_ok {v y : List Int} (hp : 0 < p) (hv : ok1 p n v) (hy : y ∈ lonW p v) : ok1 p n y ∧ wtW y = wtW v + 1 := by
  obtain ⟨a, x, h1, h2, h3, h4, rfl⟩ := (mem_lon hp).mp hy
  have hl := hv.2
  refine ⟨ok1_set hv (by omega) ⟨by omega, h4⟩, ?_⟩
  have := wt_set (u := v) (a := a) (x := x) h2
  rw [(fst_is v).1 a h1, if_neg (by simp), if_pos (by omega)] at this
  omega
theorem has_lead (y : List Int) (hy : ok1 p n y) : ∃ u, Lead p n H u ∧ synd p H u = synd p H y := by
  have key : ∀ (m : Nat) (y : List Int), ok1 p n y → wtW y ≤ m → ∃ u, Lead p n H u ∧ synd p H u = synd p H y := by
    intro m
    induction m with
    | zero =>
      intro y hy hw
      exact ⟨y, ⟨hy, fun x _ _ => by omega⟩, rfl⟩
    | succ m ih =>
      intro y hy hw
      by_cases h : ∃ x, ok1 p n x ∧ synd p H x = synd p H y ∧ wtW x < wtW y
      · obtain ⟨x, h1, h2, h3⟩ := h
        obtain ⟨u, h4, h5⟩ := ih x h1 (by omega)
        exact ⟨u, h4, h5.trans h2⟩
      · refine ⟨y, ⟨hy, fun x hx e => Nat.le_of_not_lt fun hl => h ⟨x, hx, e, hl⟩⟩, rfl⟩
  exact key _ y hy (Nat.le_refl _)
end
abbrev Tb := List (List Int × List (List Int))
def cD (D : Tb) (s : List Int) : List (List Int) := ((D.find? fun q => decide (q.1 = s)).map (·.2)).getD []
def addD (D : Tb) (s : List Int) (u : List Int) : Tb := if s ∈ D.map (·.1) then D.map (fun q => if q.1 = s then (q.1, q.2 ++ [u]) else q) else D ++ [(s, [u])]
theorem addD_keys (D : Tb) (s u : List Int) : (addD D s u).map (·.1) = if s ∈ D.map (·.1) then D.map (·.1) else D.map (·.1) ++ [s] := by
  unfold addD
  split
  · rw [List.map_map]
    refine List.map_congr_left fun q _ => ?_
    show (if q.1 = s then (q.1, q.2 ++ [u]) else q).1 = q.1
    split <;> rfl
  · rw [List.map_append]
    rfl
theorem cD_no {D : Tb} {s : List Int} (h : s ∉ D.map (·.1)) : cD D s = [] := by
  unfold cD
  have : D.find? (fun q => decide (q.1 = s)) = none := List.find?_eq_none.mpr fun q hq e => h (List.mem_map.mpr ⟨q, hq, of_decide_eq_true e⟩)
  rw [this]
  rfl
theorem cD_add (D : Tb) (s u t : List Int) : cD (addD D s u) t = if t = s then cD D s ++ [u] else cD D t := by
  unfold addD
  split
  · rename_i h
    unfold cD
    rw [List.find?_map]
    have e : ((fun q : List Int × List (List Int) => decide (q.1 = t)) ∘ fun q => if q.1 = s then (q.1, q.2 ++ [u]) else q) = fun q => decide (q.1 = t) := by
      funext q
      show decide ((if q.1 = s then (q.1, q.2 ++ [u]) else q).1 = t) = _
      split <;> rfl
    rw [e]
    by_cases hts : t = s
    · rw [if_pos hts, hts]
      cases hf : D.find? fun q => decide (q.1 = s) with
      | none =>
        obtain ⟨q, hq, e⟩ := List.mem_map.mp h
        exact absurd (decide_eq_true e) (List.find?_eq_none.mp hf q hq)
      | some q =>
        have h0 := List.find?_some hf
        have := of_decide_eq_true h0
        simp [this]
    · rw [if_neg hts]
      cases hf : D.find? fun q => decide (q.1 = t) with
      | none => rfl
      | some q =>
        have h0 := List.find?_some hf
        have h1 := of_decide_eq_true h0
        have h2 : ¬ q.1 = s := fun z => hts (h1.symm.trans z)
        simp [h2]
  · rename_i h
    by_cases hts : t = s
    · rw [if_pos hts, cD_no h, hts]
      unfold cD
      rw [List.find?_append]
      have : D.find? (fun q => decide (q.1 = s)) = none := List.find?_eq_none.mpr fun q hq e => h (List.mem_map.mpr ⟨q, hq, of_decide_eq_true e⟩)
      rw [this]
      simp
    · rw [if_neg hts]
      unfold cD
      rw [List.find?_append]
      have : ¬ s = t := fun z => hts z.symm
      simp [this]
def layD (f : List Int → List Int) (D : Tb) (L : List (List Int)) : Tb := L.foldl (fun D u => addD D (f u) u) D
theorem layD_c (f : List Int → List Int) : ∀ (L : List (List Int)) (D : Tb) (t : List Int), cD (layD f D L) t = cD D t ++ L.filter fun u => decide (f u = t)
  | [], D, t => by simp [layD]
  | u :: L, D, t => by
    have ih := layD_c f L (addD D (f u) u) t
    have e : layD f D (u :: L) = layD f (addD D (f u) u) L := rfl
    rw [e, ih, cD_add, List.filter_cons]
    by_cases h : f u = t
    · rw [if_pos h.symm, if_pos (decide_eq_true h), h, List.append_assoc]
      rfl
    · rw [if_neg (fun z => h z.symm), if_neg (fun z => h (of_decide_eq_true z))]
theorem layD_k (f : List Int → List Int) : ∀ (L : List (List Int)) (D : Tb) (t : List Int), t ∈ (layD f D L).map (·.1) ↔ t ∈ D.map (·.1) ∨ ∃ u ∈ L, f u = t
  | [], D, t => by simp [layD]
  | u :: L, D, t => by
    have ih := layD_k f L (addD D (f u) u) t
    have e : layD f D (u :: L) = layD f (addD D (f u) u) L := rfl
    have hk : t ∈ (addD D (f u) u).map (·.1) ↔ t ∈ D.map (·.1) ∨ f u = t := by
      rw [addD_keys]
      split
      · rename_i h
        exact ⟨.inl, fun z => z.elim id fun z => z ▸ h⟩
      · rw [List.mem_append, List.mem_singleton]
        exact ⟨fun z => z.imp id Eq.symm, fun z => z.imp id Eq.symm⟩
    rw [e, ih, hk]
    constructor
    · rintro ((h | h) | ⟨v, hv, h⟩)
      · exact .inl h
      · exact .inr ⟨u, List.mem_cons_self .., h⟩
      · exact .inr ⟨v, List.mem_cons_of_mem _ hv, h⟩
    · rintro (h | ⟨v, hv, h⟩)
      · exact .inl (.inl h)
      · rcases List.mem_cons.mp hv with rfl | hv
        · exact .inl (.inr h)
        · exact .inr ⟨v, hv, h⟩
theorem layD_nd (f : List Int → List Int) : ∀ (L : List (List Int)) (D : Tb), (D.map (·.1)).Nodup → ((layD f D L).map (·.1)).Nodup
  | [], D, h => h
  | u :: L, D, h => by
    refine layD_nd f L (addD D (f u) u) ?_
    rw [addD_keys]
    split
    · exact h
    · rename_i hs
      rw [List.nodup_append]
      exact ⟨h, by simp, fun a ha b hb e => by
        rw [List.mem_singleton] at hb
        rw [e, hb] at ha
        exact hs ha⟩
structure InvL (p : Int) (n : Nat) (H : List (List Int)) (w : Nat) (D : Tb) (L : List (List Int)) : Prop where
  nd : (D.map (·.1)).Nodup
  key : ∀ s, s ∈ D.map (·.1) ↔ ∃ x, ok1 p n x ∧ synd p H x = s ∧ wtW x ≤ w
  cnt : ∀ s ∈ D.map (·.1), (cD D s).Nodup ∧ ∀ u, u ∈ cD D s ↔ Lead p n H u ∧ synd p H u = s
  lnd : L.Nodup
  lay : ∀ u, u ∈ L ↔ Lead p n H u ∧ wtW u = w
def nextL (p : Int) (H : List (List Int)) (D : Tb) (L : List (List Int)) : List (List Int) := ((L.map (lonW p)).flatten).filter fun u => !decide (synd p H u ∈ D.map (·.1))
section
variable {p : Int} {n : Nat} {H : List (List Int)}
theorem inv_zero (hp : 0 < p) (hn : n ≤ 1000) : InvL p n H 0 [(synd p H (List.replicate n 0), [List.replicate n 0])] [List.replicate n 0] := by
  have h0 : ok1 p n (List.replicate n 0) := ⟨okW_iff.mpr ⟨by rw [List.length_replicate]; exact hn, fun x hx => by rw [List.eq_of_mem_replicate hx]; omega⟩, List.length_replicate ..⟩
  have hz : ∀ u, ok1 p n u → wtW u = 0 → u = List.replicate n 0 := fun u hu hw => List.eq_replicate_iff.mpr ⟨hu.2, wt_zero_iff.mp hw⟩
  have hw0 : wtW (List.replicate n 0) = 0 := wt_zero_iff.mpr fun x hx => List.eq_of_mem_replicate hx
  have hl : Lead p n H (List.replicate n 0) := ⟨h0, fun x _ _ => by omega⟩
  refine ⟨by simp, fun s => ?_, fun s hs => ?_, by simp, fun u => ?_⟩
  · rw [List.map_cons, List.map_nil, List.mem_singleton]
    constructor
    · rintro rfl
      exact ⟨_, h0, rfl, by omega⟩
    · rintro ⟨x, h1, h2, h3⟩
      rw [← h2, hz x h1 (by omega)]
  · rw [List.map_cons, List.map_nil, List.mem_singleton] at hs
    dsimp only at hs
    have e : cD [(synd p H (List.replicate n 0), [List.replicate n 0])] s = [List.replicate n 0] := by
      unfold cD
      simp [hs]
    rw [e]
    refine ⟨by simp, fun u => ?_⟩
    rw [List.mem_singleton]
    constructor
    · rintro rfl
      exact ⟨hl, hs.symm⟩
    · rintro ⟨h1, h2⟩
      refine hz u h1.1 ?_
      have := h1.2 _ h0 (by rw [h2, hs])
      omega
  · rw [List.mem_singleton]
    constructor
    · rintro rfl
      exact ⟨hl, hw0⟩
    · rintro ⟨h1, h2⟩
      exact hz u h1.1 h2
theorem inv_step {w : Nat} {D : Tb} {L : List (List Int)} (hp : 0 < p) (hH : okR p n H) (h : InvL p n H w D L) : InvL p n H (w + 1) (layD (synd p H) D (nextL p H D L)) (nextL p H D L) := by
  have hN : ∀ u, u ∈ nextL p H D L ↔ Lead p n H u ∧ wtW u = w + 1 := by
    intro u
    unfold nextL
    rw [List.mem_filter, List.mem_flatten]
    constructor
    · rintro ⟨⟨l, hl, hu⟩, hs⟩
      obtain ⟨v, hv, rfl⟩ := List.mem_map.mp hl
      obtain ⟨hv1, hv2⟩ := (h.lay v).mp hv
      obtain ⟨h1, h2⟩ := lon_ok hp hv1.1 hu
      rw [Bool.not_eq_true', decide_eq_false_iff_not, h.key] at hs
      refine ⟨⟨h1, fun x hx e => ?_⟩, by omega⟩
      refine Nat.le_of_not_lt fun hlt => hs ⟨x, hx, e, by omega⟩
    · rintro ⟨h1, h2⟩
      obtain ⟨v, h3, h4, h5⟩ := lead_step hp hH h1 (by omega)
      refine ⟨⟨_, List.mem_map.mpr ⟨v, (h.lay v).mpr ⟨h3, by omega⟩, rfl⟩, h5⟩, ?_⟩
      rw [Bool.not_eq_true', decide_eq_false_iff_not, h.key]
      rintro ⟨x, h6, h7, h8⟩
      have := h1.2 x h6 h7
      omega
  have hnd : (nextL p H D L).Nodup := (lons_nodup hp h.lnd fun u hu => ((h.lay u).mp hu).1.1.2).filter _
  refine ⟨layD_nd _ _ _ h.nd, fun s => ?_, fun s hs => ?_, hnd, hN⟩
  · rw [layD_k, h.key]
    constructor
    · rintro (⟨x, h1, h2, h3⟩ | ⟨u, hu, e⟩)
      · exact ⟨x, h1, h2, by omega⟩
      · obtain ⟨h1, h2⟩ := (hN u).mp hu
        exact ⟨u, h1.1, e, by omega⟩
    · rintro ⟨x, h1, h2, h3⟩
      obtain ⟨u, h4, h5⟩ := has_lead (H := H) x h1
      have h6 := h4.2 x h1 h5.symm
      by_cases hw : wtW u ≤ w
      · exact .inl ⟨u, h4.1, h5.trans h2, hw⟩
      · exact .inr ⟨u, (hN u).mpr ⟨h4, by omega⟩, h5.trans h2⟩
  · rw [layD_c]
    by_cases hk : s ∈ D.map (·.1)
    · have hno : (nextL p H D L).filter (fun u => decide (synd p H u = s)) = [] := by
        rw [List.filter_eq_nil_iff]
        intro u hu e
        have e := of_decide_eq_true e
        obtain ⟨x, h1, h2, h3⟩ := (h.key s).mp hk
        obtain ⟨h4, h5⟩ := (hN u).mp hu
        have := h4.2 x h1 (by rw [h2, e])
        omega
      rw [hno, List.append_nil]
      exact h.cnt s hk
    · rw [cD_no hk, List.nil_append]
      refine ⟨hnd.filter _, fun u => ?_⟩
      rw [List.mem_filter, hN, decide_eq_true_eq]
      constructor
      · rintro ⟨⟨h1, h2⟩, h3⟩
        exact ⟨h1, h3⟩
      · rintro ⟨h1, h3⟩
        refine ⟨⟨h1, ?_⟩, h3⟩
        have hgt : w < wtW u := Nat.lt_of_not_le fun z => hk ((h.key s).mpr ⟨u, h1.1, h3, z⟩)
        rw [layD_k] at hs
        rcases hs with hs | ⟨v, hv, e⟩
        · exact absurd hs hk
        · obtain ⟨h4, h5⟩ := (hN v).mp hv
          have := h1.2 v h4.1 (by rw [h3, e])
          omega
theorem inv_end {w : Nat} {D : Tb} (hp : 0 < p) (hH : okR p n H) (h : InvL p n H w D []) : ∀ s, s ∈ D.map (·.1) ↔ ∃ x, ok1 p n x ∧ synd p H x = s := by
  have none_at : ∀ k u, Lead p n H u → wtW u ≠ w + k := by
    intro k
    induction k with
    | zero =>
      intro u hu e
      have := (h.lay u).mpr ⟨hu, by omega⟩
      cases this
    | succ k ih =>
      intro u hu e
      obtain ⟨v, h1, h2, _⟩ := lead_step hp hH hu (by omega)
      exact ih v h1 (by omega)
  intro s
  rw [h.key]
  constructor
  · rintro ⟨x, h1, h2, _⟩
    exact ⟨x, h1, h2⟩
  · rintro ⟨x, h1, h2⟩
    obtain ⟨u, h3, h4⟩ := has_lead (H := H) x h1
    refine ⟨u, h3.1, h4.trans h2, ?_⟩
    refine Nat.le_of_not_lt fun hlt => none_at (wtW u - w) u h3 (by omega)
theorem inv_stop {w : Nat} {D : Tb} {L : List (List Int)} (h : InvL p n H w D L) (hw : n < w) : L = [] := by
  cases L with
  | nil => rfl
  | cons u L =>
    obtain ⟨h1, h2⟩ := (h.lay u).mp (List.mem_cons_self ..)
    have := wtW_le h1.1
    omega
end
end Lq

namespace Lq
open PySem PySem.Spec PyProof.Rows L2
def bld (n : Nat) : List (Nat × Int) → List Int
  | [] => List.replicate n 0
  | q :: r => setW (bld n r) q.1 q.2
section
variable {p : Int} {n : Nat}
theorem bld_ok (hp : 0 < p) (hn : n ≤ 1000) : ∀ qs : List (Nat × Int), (∀ q ∈ qs, q.1 < n ∧ 0 ≤ q.2 ∧ q.2 < p) → ok1 p n (bld n qs)
  | [], _ => ⟨okW_iff.mpr ⟨by unfold bld; rw [List.length_replicate]; exact hn, fun x hx => by unfold bld at hx; rw [List.eq_of_mem_replicate hx]; omega⟩, List.length_replicate ..⟩
  | q :: r, h => by
    have h1 := h q (List.mem_cons_self ..)
    exact ok1_set (bld_ok hp hn r fun x hx => h x (List.mem_cons_of_mem _ hx)) h1.1 h1.2
theorem bld_g (hp : 0 < p) (hn : n ≤ 1000) : ∀ (qs : List (Nat × Int)), (∀ q ∈ qs, q.1 < n ∧ 0 ≤ q.2 ∧ q.2 < p) → ∀ f, f ∉ qs.map (·.1) → g (bld n qs) f = 0
  | [], _, f, _ => by
    unfold bld
    exact g_zero
  | q :: r, h, f, hf => by
    have h1 := h q (List.mem_cons_self ..)
    have hb := bld_ok hp hn r fun x hx => h x (List.mem_cons_of_mem _ hx)
    rw [List.map_cons, List.mem_cons, not_or] at hf
    unfold bld
    rw [setW_g (by rw [hb.2]; exact h1.1), if_neg hf.1]
    exact bld_g hp hn r (fun x hx => h x (List.mem_cons_of_mem _ hx)) f hf.2
theorem bld_sm (hp : 0 < p) (hn : n ≤ 1000) {h : List Int} (hh : h.length = n) : ∀ (qs : List (Nat × Int)), (∀ q ∈ qs, q.1 < n ∧ 0 ≤ q.2 ∧ q.2 < p) → (qs.map (·.1)).Nodup → sm h (bld n qs) = (qs.map fun q => g h q.1 * q.2).sum
  | [], _, _ => by
    unfold bld
    exact sm_zero _ _ fun j => by rw [g_zero, Int.mul_zero]
  | q :: r, hq, hn2 => by
    have h1 := hq q (List.mem_cons_self ..)
    have hr : ∀ x ∈ r, x.1 < n ∧ 0 ≤ x.2 ∧ x.2 < p := fun x hx => hq x (List.mem_cons_of_mem _ hx)
    have hb := bld_ok hp hn r hr
    rw [List.map_cons, List.nodup_cons] at hn2
    have e := bld_g hp hn r hr q.1 hn2.1
    unfold bld
    rw [sm_set (by rw [hh, hb.2]) (by rw [hb.2]; exact h1.1), e, bld_sm hp hn hh r hr hn2.2, List.map_cons, List.sum_cons]
    omega
theorem sum_ind : ∀ (fs : List Nat) (s : List Int) (i : Nat) (d : Nat → Int), fs.Nodup → fs.length = s.length → (hi : i < fs.length) → (∀ f ∈ fs, d f = if f = fs[i] then 1 else 0) → (((fs.zip s).map fun q => d q.1 * q.2).sum) = s.getD i 0
  | [], _, i, _, _, _, hi, _ => by simp at hi
  | _ :: _, [], _, _, _, hl, _, _ => by simp at hl
  | f :: fs, c :: s, 0, d, hn, hl, hi, hd => by
    rw [List.nodup_cons] at hn
    have hz : ∀ (l : List (Nat × Int)), (∀ q ∈ l, q.1 ∈ fs) → (l.map fun q => d q.1 * q.2).sum = 0 := by
      intro l
      induction l with
      | nil => intro _; rfl
      | cons q l ih =>
        intro h
        have h1 := h q (List.mem_cons_self ..)
        have h2 := hd q.1 (List.mem_cons_of_mem _ h1)
        rw [List.getElem_cons_zero] at h2
        rw [if_neg (fun z => hn.1 (by rw [← z]; exact h1))] at h2
        rw [List.map_cons, List.sum_cons, ih (fun x hx => h x (List.mem_cons_of_mem _ hx)), h2]
        omega
    have h0 := hd f (List.mem_cons_self ..)
    rw [List.getElem_cons_zero, if_pos rfl] at h0
    rw [List.zip_cons_cons, List.map_cons, List.sum_cons, hz _ (fun q hq => (List.of_mem_zip hq).1), h0]
    simp
  | f :: fs, c :: s, i + 1, d, hn, hl, hi, hd => by
    rw [List.nodup_cons] at hn
    have hi2 : i < fs.length := by simpa using hi
    have h0 := hd f (List.mem_cons_self ..)
    rw [List.getElem_cons_succ] at h0
    rw [if_neg (fun z => hn.1 (by rw [z]; exact List.getElem_mem hi2))] at h0
    have ih := sum_ind fs s i d hn.2 (by simpa using hl) hi2 (fun x hx => by have := hd x (List.mem_cons_of_mem _ hx); rwa [List.getElem_cons_succ] at this)
    rw [List.zip_cons_cons, List.map_cons, List.sum_cons, ih, h0]
    simp
theorem synd_onto {rows : List (List Int)} {s : List Int} (hp : isP p = true) (hn : n ≤ 1000) (h : okR p n rows) (hs : ok1 p (kerL p n (redN p rows n)).length s) : ∃ x, ok1 p n x ∧ synd p (kerL p n (redN p rows n)) x = s := by
  have hc := isP_cases hp
  have hp0 : 0 < p := by omega
  obtain ⟨hT, hR, _⟩ := okR_red hp hn h
  have e : kerL p n (redN p rows n) = (frees n (redN p rows n).P).map fun f => kwL p n f ((redN p rows n).T.zip (redN p rows n).P) := rfl
  have hlen : (frees n (redN p rows n).P).length = s.length := by rw [hs.2, e, List.length_map]
  have hnd : (frees n (redN p rows n).P).Nodup := List.nodup_range.filter _
  have hq : ∀ q ∈ (frees n (redN p rows n).P).zip s, q.1 < n ∧ 0 ≤ q.2 ∧ q.2 < p := fun q hq => by
    obtain ⟨h1, h2⟩ := List.of_mem_zip hq
    exact ⟨(mem_frees.mp h1).1, (okW_iff.mp hs.1).2 _ h2⟩
  have hmap : ((frees n (redN p rows n).P).zip s).map (·.1) = frees n (redN p rows n).P := List.map_fst_zip (by omega)
  have hok := bld_ok hp0 hn _ hq
  refine ⟨bld n ((frees n (redN p rows n).P).zip s), hok, ?_⟩
  rw [e]
  unfold synd
  rw [List.map_map]
  refine List.ext_getElem (by rw [List.length_map, hlen]) fun i h1 h2 => ?_
  rw [List.getElem_map]
  have hi : i < (frees n (redN p rows n).P).length := by rw [hlen]; exact h2
  have hfi := mem_frees.mp (List.getElem_mem hi)
  have hkw : ok1 p n (kwL p n ((frees n (redN p rows n).P)[i]) ((redN p rows n).T.zip (redN p rows n).P)) := kw_ok hp hn
  show sm (kwL p n ((frees n (redN p rows n).P)[i]) ((redN p rows n).T.zip (redN p rows n).P)) _ % p = _
  rw [bld_sm hp0 hn hkw.2 _ hq (by rw [hmap]; exact hnd)]
  have := sum_ind (frees n (redN p rows n).P) s i (fun f => g (kwL p n ((frees n (redN p rows n).P)[i]) ((redN p rows n).T.zip (redN p rows n).P)) f) hnd hlen hi (fun f hf => by
    obtain ⟨f1, f2⟩ := mem_frees.mp hf
    by_cases e2 : f = (frees n (redN p rows n).P)[i]
    · rw [if_pos e2, ← e2]
      exact kw_self f1 f2
    · rw [if_neg e2]
      exact kw_free f2 e2)
  rw [this]
  have hsi : s.getD i 0 = s[i] := by simp [h2]
  rw [hsi]
  have hr := (okW_iff.mp hs.1).2 _ (List.getElem_mem h2)
  exact Int.emod_eq_of_lt hr.1 hr.2
end
def ldL (p : Int) (n : Nat) (H : List (List Int)) (s : List Int) : List (List Int) := (allN p n).filter fun u => decide (synd p H u = s ∧ ∀ x ∈ allN p n, synd p H x = s → wtW u ≤ wtW x)
theorem mem_ldL {p : Int} {n : Nat} {H : List (List Int)} {s u : List Int} (hn : n ≤ 1000) : u ∈ ldL p n H s ↔ Lead p n H u ∧ synd p H u = s := by
  unfold ldL Lead
  rw [List.mem_filter, decide_eq_true_eq, ok_all hn]
  constructor
  · rintro ⟨h1, h2, h3⟩
    exact ⟨⟨h1, fun x hx e => h3 x ((ok_all hn).mpr hx) (e.trans h2)⟩, h2⟩
  · rintro ⟨⟨h1, h2⟩, h3⟩
    exact ⟨h1, h3, fun x hx e => h2 x ((ok_all hn).mp hx) (e.trans h3.symm)⟩
theorem ld_sort {p : Int} {n : Nat} {H L : List (List Int)} {s : List Int} (hn : n ≤ 1000) (h1 : L.Nodup) (h2 : ∀ u, u ∈ L ↔ Lead p n H u ∧ synd p H u = s) : sortW L = ldL p n H s := by
  have hnd : (ldL p n H s).Nodup := (allN_nd p n).filter _
  have e := sort_eq h1 hnd fun u => by rw [h2, mem_ldL hn]
  rw [e]
  exact allN_sort p n _
theorem synd_ok1 {p : Int} {H : List (List Int)} {x : List Int} (hp : 0 < p) (hl : H.length ≤ 1000) : ok1 p H.length (synd p H x) := by
  unfold synd
  refine ⟨okW_iff.mpr ⟨by rw [List.length_map]; exact hl, fun y hy => ?_⟩, List.length_map ..⟩
  obtain ⟨h, _, rfl⟩ := List.mem_map.mp hy
  exact ⟨Int.emod_nonneg _ (by omega), Int.emod_lt_of_pos _ hp⟩
theorem keys_sort {p : Int} {n : Nat} {rows : List (List Int)} {D : Tb} (hp : isP p = true) (hn : n ≤ 1000) (h : okR p n rows) (hnd : (D.map (·.1)).Nodup) (hk : ∀ s, s ∈ D.map (·.1) ↔ ∃ x, ok1 p n x ∧ synd p (kerL p n (redN p rows n)) x = s) : sortW (D.map (·.1)) = allN p (kerL p n (redN p rows n)).length := by
  have hc := isP_cases hp
  have hl : (kerL p n (redN p rows n)).length ≤ n := kerL_len _
  have e := sort_eq hnd (allN_nd p (kerL p n (redN p rows n)).length) fun s => by
    rw [hk, ok_all (by omega)]
    constructor
    · rintro ⟨x, _, rfl⟩
      exact synd_ok1 (by omega) (by omega)
    · exact fun hs => synd_onto hp hn h hs
  rw [e]
  have := allN_sort p (kerL p n (redN p rows n)).length fun _ => true
  have e2 : (allN p (kerL p n (redN p rows n)).length).filter (fun _ => true) = allN p (kerL p n (redN p rows n)).length := List.filter_eq_self.mpr fun _ _ => rfl
  rwa [e2] at this
end Lq

namespace Lq
open PySem PySem.Spec PyProof.Rows L2
def Cg (p x y : Int) : Prop := ∃ k, x - y = p * k
theorem Cg.refl {p : Int} (x : Int) : Cg p x x := ⟨0, by grind⟩
theorem Cg.symm {p x y : Int} (h : Cg p x y) : Cg p y x := by obtain ⟨k, h⟩ := h; exact ⟨-k, by grind⟩
theorem Cg.trans {p x y z : Int} (h : Cg p x y) (h2 : Cg p y z) : Cg p x z := by obtain ⟨k, h⟩ := h; obtain ⟨l, h2⟩ := h2; exact ⟨k + l, by grind⟩
theorem Cg.add {p x y z w : Int} (h : Cg p x y) (h2 : Cg p z w) : Cg p (x + z) (y + w) := by obtain ⟨k, h⟩ := h; obtain ⟨l, h2⟩ := h2; exact ⟨k + l, by grind⟩
theorem Cg.mul {p x y : Int} (h : Cg p x y) (a : Int) : Cg p (a * x) (a * y) := by obtain ⟨k, h⟩ := h; exact ⟨a * k, by grind⟩
theorem Cg.mod (p x : Int) : Cg p (x % p) x := ⟨-(x / p), by have := Int.emod_add_mul_ediv x p; grind⟩
theorem snocInd {α : Type} {P : List α → Prop} (h0 : P []) (h1 : ∀ l x, P l → P (l ++ [x])) (l : List α) : P l := by
  have : ∀ m : List α, P m.reverse := by
    intro m
    induction m with
    | nil => exact h0
    | cons x m ih => rw [List.reverse_cons]; exact h1 _ _ ih
  have := this l.reverse
  rwa [List.reverse_reverse] at this
theorem g_out {l : List Int} {n : Nat} (h : l.length ≤ n) : g l n = 0 := by unfold g; rw [List.getD_eq_getElem?_getD, List.getElem?_eq_none h]; rfl
def Rg (p : Int) (l : List Int) : Prop := ∀ x ∈ l, 0 ≤ x ∧ x < p
theorem Rg.g {p : Int} {l : List Int} (hp : 0 < p) (h : Rg p l) (n : Nat) : 0 ≤ g l n ∧ g l n < p := by
  by_cases hn : n < l.length
  · unfold Lq.g
    rw [List.getD_eq_getElem?_getD, List.getElem?_eq_getElem hn]
    exact h _ (List.getElem_mem _)
  · rw [g_out (by omega)]
    omega
def shg (k : Nat) (b : List Int) (n : Nat) : Int := if k ≤ n then g b (n - k) else 0
theorem shg_up (k : Nat) (b : List Int) (n : Nat) : shg (k + 1) b n = if 1 ≤ n then shg k b (n - 1) else 0 := by
  unfold shg
  by_cases h : 1 ≤ n
  · rw [if_pos h]
    by_cases e : k ≤ n - 1
    · rw [if_pos e, if_pos (by omega), show n - (k + 1) = n - 1 - k by omega]
    · rw [if_neg e, if_neg (by omega)]
  · rw [if_neg h, if_neg (by omega)]
theorem shg_zero (b : List Int) (n : Nat) : shg 0 b n = g b n := by unfold shg; simp
theorem shg_out {k : Nat} {b : List Int} {n : Nat} (h : k + b.length ≤ n) : shg k b n = 0 := by
  unfold shg
  rw [if_pos (by omega), g_out (by omega)]
def cmb : Nat → List Int → List Int → Nat → Int
  | _, [], _, _ => 0
  | i, x :: a, b, n => x * shg i b n + cmb (i + 1) a b n
theorem cmb_snoc (u : List Int) (f : Int) (b : List Int) (n : Nat) : ∀ i, cmb i (u ++ [f]) b n = cmb i u b n + f * shg (i + u.length) b n := by
  induction u with
  | nil => intro i; simp [cmb]
  | cons x u ih =>
    intro i
    rw [List.cons_append, cmb, cmb, ih, List.length_cons, show i + 1 + u.length = i + (u.length + 1) by omega]
    omega
theorem cmb_out {b : List Int} {n : Nat} : ∀ (a : List Int) (i : Nat), 1 ≤ b.length → i + a.length + b.length ≤ n + 1 → cmb i a b n = 0
  | [], _, _, _ => rfl
  | x :: a, i, hb, h => by
    rw [List.length_cons] at h
    rw [cmb, shg_out (by omega), cmb_out a (i + 1) hb (by omega)]
    omega
theorem cmb_up (b : List Int) (n : Nat) : ∀ (c : List Int) (i : Nat), cmb (i + 1) c b n = if 1 ≤ n then cmb i c b (n - 1) else 0
  | [], _ => by simp [cmb]
  | x :: c, i => by
    rw [cmb, cmb, shg_up, cmb_up b n c (i + 1)]
    split <;> simp
def padd : List Int → List Int → List Int
  | [], c => c
  | c, [] => c
  | x :: c, y :: d => (x + y) :: padd c d
theorem cmb_padd (b : List Int) (n : Nat) : ∀ (c d : List Int) (i : Nat), cmb i (padd c d) b n = cmb i c b n + cmb i d b n
  | [], d, i => by simp [padd, cmb]
  | x :: c, [], i => by simp [padd, cmb]
  | x :: c, y :: d, i => by
    rw [padd, cmb, cmb, cmb, cmb_padd b n c d (i + 1)]
    grind
theorem cmb_map (a : Int) (b : List Int) (n : Nat) : ∀ (c : List Int) (i : Nat), cmb i (c.map (a * ·)) b n = a * cmb i c b n
  | [], i => by simp [cmb]
  | x :: c, i => by
    rw [List.map_cons, cmb, cmb, cmb_map a b n c (i + 1)]
    grind
def InI (p : Int) (d : List Int) (f : Nat → Int) : Prop := ∃ c : List Int, ∀ n, Cg p (f n) (cmb 0 c d n)
theorem InI.congr {p : Int} {d : List Int} {f h : Nat → Int} (e : ∀ n, Cg p (f n) (h n)) (q : InI p d h) : InI p d f := by
  obtain ⟨c, q⟩ := q
  exact ⟨c, fun n => (e n).trans (q n)⟩
theorem InI.zero {p : Int} {d : List Int} : InI p d (fun _ => 0) := ⟨[], fun n => Cg.refl _⟩
theorem InI.add {p : Int} {d : List Int} {f h : Nat → Int} (q : InI p d f) (r : InI p d h) : InI p d (fun n => f n + h n) := by
  obtain ⟨c, q⟩ := q
  obtain ⟨e, r⟩ := r
  exact ⟨padd c e, fun n => by rw [cmb_padd]; exact (q n).add (r n)⟩
theorem InI.smul {p : Int} {d : List Int} {f : Nat → Int} (a : Int) (q : InI p d f) : InI p d (fun n => a * f n) := by
  obtain ⟨c, q⟩ := q
  exact ⟨c.map (a * ·), fun n => by rw [cmb_map]; exact (q n).mul a⟩
theorem InI.shift {p : Int} {d : List Int} {f : Nat → Int} (q : InI p d f) : InI p d (fun n => if 1 ≤ n then f (n - 1) else 0) := by
  obtain ⟨c, q⟩ := q
  refine ⟨0 :: c, fun n => ?_⟩
  rw [cmb, cmb_up]
  show Cg p (if 1 ≤ n then f (n - 1) else 0) _
  split
  · have := q (n - 1)
    rw [Int.zero_mul, Int.zero_add]
    exact this
  · rw [Int.zero_mul, Int.zero_add]
    exact Cg.refl _
theorem InI.self {p : Int} (d : List Int) : InI p d (g d) := ⟨[1], fun n => by rw [cmb, cmb, shg_zero]; exact ⟨0, by grind⟩⟩
theorem InI.shg {p : Int} {d b : List Int} (h : InI p d (g b)) : ∀ k, InI p d (Lq.shg k b)
  | 0 => h.congr fun n => by rw [shg_zero]; exact Cg.refl _
  | k + 1 => (InI.shg h k).shift.congr fun n => by rw [shg_up]; exact Cg.refl _
theorem InI.cmb {p : Int} {d b : List Int} (h : InI p d (g b)) : ∀ (a : List Int) (i : Nat), InI p d (Lq.cmb i a b)
  | [], i => InI.zero
  | x :: a, i => ((h.shg i).smul x).add (InI.cmb h a (i + 1))
theorem InI.trans {p : Int} {d e : List Int} {f : Nat → Int} (h : InI p d (g e)) (q : InI p e f) : InI p d f := by
  obtain ⟨c, q⟩ := q
  exact (h.cmb c 0).congr q
theorem InI.low {p h : Int} {d : List Int} {f : Nat → Int} (hd : 1 ≤ d.length) (hu : Cg p (h * g d (d.length - 1)) 1) (q : InI p d f) (hf : ∀ n, d.length - 1 ≤ n → Cg p (f n) 0) : ∀ n, Cg p (f n) 0 := by
  obtain ⟨c, q⟩ := q
  revert q
  refine snocInd (P := fun c => (∀ n, Cg p (f n) (Lq.cmb 0 c d n)) → ∀ n, Cg p (f n) 0) (fun q n => q n) (fun c x ih q => ?_) c
  have h1 := q (c.length + (d.length - 1))
  rw [cmb_snoc, cmb_out c 0 hd (by omega), Int.zero_add, Nat.zero_add] at h1
  have h2 : Lq.shg c.length d (c.length + (d.length - 1)) = g d (d.length - 1) := by
    unfold Lq.shg
    rw [if_pos (by omega), Nat.add_sub_cancel_left]
  rw [h2] at h1
  have h3 := hf (c.length + (d.length - 1)) (by omega)
  have hx : Cg p x 0 := by
    obtain ⟨k, h1⟩ := h1
    obtain ⟨l, h3⟩ := h3
    obtain ⟨m, hu⟩ := hu
    exact ⟨h * (l - k) - x * m, by grind⟩
  refine ih fun n => (q n).trans ?_
  rw [cmb_snoc]
  obtain ⟨k, hx⟩ := hx
  exact ⟨k * Lq.shg (0 + c.length) d n, by grind⟩
end Lq

namespace Lq
open PySem PySem.Spec PyProof.Rows L2

theorem cut_pre3 {α : Type} {xs : List α} {a : Nat} (h : a ≤ xs.length) : cut xs none (some (a : Int)) = xs.take a := by
  unfold cut
  rw [show HT.sIx xs.length xs.length (some (a : Int)) = min a xs.length from HT.sIx_nat _ _ a, HT.sIx_none, Nat.min_eq_left h]
  simp
theorem Rg.app {p : Int} {a b : List Int} (ha : Rg p a) (hb : Rg p b) : Rg p (a ++ b) := fun x hx => by
  rcases List.mem_append.mp hx with h | h
  · exact ha x h
  · exact hb x h
end Lq

namespace Lq
open PySem PySem.Spec PyProof.Rows L2
def shp7 (p : Int) (n : Nat) : Prop := isP p = true ∧ n ≤ 5 ∧ (3 < p → n ≤ 3)
theorem shp7_pow {p : Int} {n k : Nat} (hs : shp7 p n) (hk : k ≤ n) : p.toNat ^ k ≤ 343 ∧ p ^ k ≤ 343 := by
  obtain ⟨h1, h2, h3⟩ := hs
  have hc := isP_cases h1
  have key : p.toNat ^ k ≤ 343 := by
    by_cases h : 3 < p
    · have h4 := h3 h
      have e : p.toNat ^ k ≤ 7 ^ 3 := Nat.le_trans (Nat.pow_le_pow_left (by omega) _) (Nat.pow_le_pow_right (by decide) (by omega))
      omega
    · have e : p.toNat ^ k ≤ 3 ^ 5 := Nat.le_trans (Nat.pow_le_pow_left (by omega) _) (Nat.pow_le_pow_right (by decide) (by omega))
      omega
  refine ⟨key, ?_⟩
  obtain ⟨m, rfl⟩ : ∃ m : Nat, p = (m : Int) := ⟨p.toNat, by omega⟩
  rw [Int.toNat_natCast] at key
  have : ((m : Int) ^ k) = ((m ^ k : Nat) : Int) := by rw [Int.natCast_pow]
  rw [this]
  omega
theorem catT_wd07 {v w : List Int} (h : v.length + w.length ≤ 1000) : catT (Wd v) (Wd w) = some (Wd (v ++ w)) := by
  unfold catT Wd
  dsimp only
  rw [if_pos (by rw [List.length_map, List.length_map]; omega), List.map_append]
theorem ixLast {xs : List Dt} {d : Dt} (h0 : 0 < xs.length) (h : xs[xs.length - 1]? = some d) : ixO (.lst xs) (.int (-1)) = some d := by
  unfold ixO atI ixN
  have e : ((xs.length : Int) + -1).toNat = xs.length - 1 := by omega
  have e2 : (-1 + (xs.length : Int)).toNat = xs.length - 1 := by omega
  have e3 : (1 : Int) ≤ (xs.length : Int) := by omega
  have e4 : ((xs.length : Int) - 1).toNat = xs.length - 1 := by omega
  simp [e, e2, e3, e4, h]
structure C7 (p : Int) (n : Nat) (ra T W : List (List Int)) : Prop where
  hs : shp7 p n
  ha : okR p n ra
  la : ra.length ≤ 3
  hc : CodeOf p n ra T W
section
variable {p : Int} {n : Nat} {ra T W : List (List Int)}
theorem C7.hp (h : C7 p n ra T W) : isP p = true := h.hs.1
theorem C7.hn (h : C7 p n ra T W) : n ≤ 5 := h.hs.2.1
theorem C7.tl (h : C7 p n ra T W) : T.length ≤ 5 := Nat.le_trans h.hc.len h.hn
theorem C7.w1 (h : C7 p n ra T W) : 1 ≤ W.length ∧ W.length ≤ 343 := by
  have hc := isP_cases h.hp
  rw [h.hc.crd]
  exact ⟨Nat.pow_pos (by omega), (shp7_pow h.hs h.hc.len).1⟩
theorem C7.sub (h : C7 p n ra T W) : ∀ y, Zr p n (kerL p n (redN p T n)) y ↔ y ∈ W := fun y =>
  checks_iff h.hp (by have := h.hn; omega) h.hc.okT h.hc.sub (fun y => Sp_tab h.hp (by have := h.hn; omega) h.ha h.hc)
end

theorem len_t7 (T : List (List Int)) : lenO [TD T] = some (.int (T.length : Int)) := by
  show some (Dt.int ((T.map Wd).length : Int)) = _
  rw [List.length_map]
theorem C7.self (h : C7 p n ra T W) : T = (redN p T n).T := table_self h.hp (by have := h.hn; omega) h.ha h.hc
end Lq

namespace Lq
open PySem PySem.Spec PyProof.Rows L2

noncomputable def m21_steps (CC : Addr) : Ms → O := (seqS (asgN 1 (lstE aNil))
  (seqS (forS (itR1 (aCons (fldE CC "n" (varE 0)) aNil)) (Tk.nm 2).k (seqS (asgS 3 (calE (aCons (frz (lcE (itS (metE CC "checks" 1 (varE 0) aNil (Fchecks CC))) (Tk.nm 4).k yesT (op2 (varE 4) (varE 2) ixO) [4])) aNil) tupO))
  (appS 1 (frz (lcE (itR2 (aCons (cE (.int 1)) (aCons (fldE CC "p" (varE 0)) aNil))) (Tk.nm 5).k yesT (tupE (aCons (varE 5) (aCons (funE 3 (aCons (varE 3) (aCons (varE 5) (aCons (fldE CC "p" (varE 0)) aNil))) FscW) aNil))) [5])))))
  (retS (varE 1))))
noncomputable def Fsteps (CC : Addr) : List Dt → Fo := runD 6 (m21_steps CC)
noncomputable def m21_longer : Ms → O := (seqS (asgS 4 (frz (lcE (itEn (aCons (varE 0) aNil)) (Tk.tp [6, 7]).k (tst (op2 (varE 7) (cE (.int 0)) neO)) (varE 6) [6, 7])))
  (seqS (asgS 5 (ifE (truT (varE 4)) (op2 (op2 (varE 4) (op1 (cE (.int 1)) negO) ixO) (cE (.int 1)) addO) (cE (.int 0))))
  (retS (frz (lcE2 (itR2 (aCons (varE 5) (aCons (calE (aCons (varE 0) aNil) lenO) aNil))) (Tk.nm 6).k yesT (itS (op2 (varE 2) (varE 6) ixO)) (Tk.tp [7, 8]).k yesT (tupE (aCons (op2 (op2 (slT (varE 0) oNone (oSome (varE 6))) (tupE (aCons (varE 7) aNil)) catT) (slT (varE 0) (oSome (op2 (varE 6) (cE (.int 1)) addO)) oNone) catT) (aCons (funE 3 (aCons (varE 1) (aCons (varE 8) (aCons (varE 3) aNil))) FaddW) aNil))) [6, 7, 8] [7, 8])))))
noncomputable def Flonger : List Dt → Fo := runD 9 (m21_longer)
noncomputable def m21_cosets (CC CM CR : Addr) : Ms → O := (seqS (ifS (tst (op2 (funE 2 (aCons (fldE CC "p" (varE 0)) (aCons (op2 (fldE CC "n" (varE 0)) (fldE CC "k" (varE 0)) subO) aNil)) Fpow) (cE (.int 4096)) gtO)) (raiseS ⟨CR, ["reason"], [.str "large"]⟩) nilS)
  (seqS (asgS 1 (op2 (tupE (aCons (cE (.int 0)) aNil)) (fldE CC "n" (varE 0)) repT))
  (seqS (asgDM 2 (metE CC "syndrome" 2 (varE 0) (aCons (varE 1) aNil) (Fsynd CC CM)) (lstE (aCons (varE 1) aNil)))
  (seqS (asgS 3 (frz (lstE (aCons (tupE (aCons (varE 1) (aCons (metE CC "syndrome" 2 (varE 0) (aCons (varE 1) aNil) (Fsynd CC CM)) aNil))) aNil))))
  (seqS (asgS 4 (funE 1 (aCons (varE 0) aNil) (Fsteps CC)))
  (seqS (whileS (fun _ => 64) (truT (varE 3)) (seqS (asgN 5 (lcE2 (itS (varE 3)) (Tk.tp [6, 7]).k yesT (itS (funE 4 (aCons (varE 6) (aCons (varE 7) (aCons (varE 4) (aCons (fldE CC "p" (varE 0)) aNil)))) Flonger)) (Tk.nm 8).k yesT (varE 8) [6, 7, 8] [8]))
  (seqS (asgS 3 (frz (lcE (itS (varE 5)) (Tk.tp [6, 7]).k (tst (inK true 2 (varE 7))) (tupE (aCons (varE 6) (aCons (varE 7) aNil))) [6, 7])))
  (forS (itS (varE 3)) (Tk.tp [6, 7]).k (sdaS 2 (varE 7) (varE 6))))))
  (retS (calE (aCons (frz (lcE (itS (frz (sortK 2))) (Tk.nm 7).k yesT (tupE (aCons (varE 7) (aCons (calE (aCons (frz (calN (aCons (ixDM 2 (varE 7)) aNil) sortO2)) aNil) tupO) aNil))) [7])) aNil) tupO))))))))
noncomputable def Fcosets (CC CM CR : Addr) : List Dt → Fo := runD 9 (m21_cosets CC CM CR)
noncomputable def m21_covering_radius (CC CM CR : Addr) : Ms → O := (retS (calE (aCons (frz (lcE (itS (funE 1 (aCons (varE 0) aNil) (Fcosets CC CM CR))) (Tk.tp [1, 2]).k yesT (funE 1 (aCons (op2 (varE 2) (cE (.int 0)) ixO) aNil) Fweight) [1, 2])) aNil) maxLO))
noncomputable def Fcovrad (CC CM CR : Addr) : List Dt → Fo := runD 3 (m21_covering_radius CC CM CR)
noncomputable def m21_count_decided (CC CM CR : Addr) : Ms → O := (retS (op2 (metE CC "size" 1 (varE 0) aNil (Fsize07 CC)) (calE (aCons (frz (lcE (itS (funE 1 (aCons (varE 0) aNil) (Fcosets CC CM CR))) (Tk.tp [1, 2]).k (tst (op2 (calE (aCons (varE 2) aNil) lenO) (cE (.int 1)) eqO)) (cE (.int 1)) [1, 2])) aNil) lenO) mulO))
noncomputable def Fcountd (CC CM CR : Addr) : List Dt → Fo := runD 3 (m21_count_decided CC CM CR)
noncomputable def m21_law_reasons (CC CM CR : Addr) : Ms → O := (seqS (asgN 1 (lstE aNil))
  (seqS (tryX [⟨CR, [CR], [], (.ap "reason" 2 1)⟩] (dropS (funE 1 (aCons (varE 0) aNil) (Fcosets CC CM CR))))
  (seqS (tryX [⟨CR, [CR], [], (.ap "reason" 2 1)⟩] (dropS (funE 1 (aCons (varE 0) aNil) (Fcovrad CC CM CR))))
  (seqS (tryX [⟨CR, [CR], [], (.ap "reason" 2 1)⟩] (dropS (funE 1 (aCons (varE 0) aNil) (Fcountd CC CM CR))))
  (retS (varE 1))))))
noncomputable def Flreasons21 (CC CM CR : Addr) : List Dt → Fo := runD 3 (m21_law_reasons CC CM CR)
theorem lcF2_gen {α β : Type} {sl : List Sv} {mo : List Mo} {it1 : Ms → R (List Dt)} {k k1 : Dt → Ms → Option Ms} {e : Ms → R Dt} {vs1 : List Nat} (enc : α → Dt) (zs : α → List β) (enc1 : α → β → Dt) (f : α → β → Dt) : ∀ (xs : List α) (acc : List Dt),
    (∀ x ∈ xs, ∃ T1, k (enc x) { sl := sl, mo := mo } = some T1 ∧ ∃ T2, it1 T1 = .ok ((zs x).map (enc1 x)) T2 ∧ T2.mo = mo ∧ ∀ y ∈ zs x, ∃ U1, k1 (enc1 x y) { sl := wipeL T2.sl vs1, mo := mo } = some U1 ∧ U1.mo = mo ∧ ∃ U2, e U1 = .ok (f x y) U2 ∧ U2.mo = mo) →
    acc.length + (xs.map fun x => (zs x).length).sum ≤ 100000 → lcF2 sl k yesT it1 k1 yesT e vs1 (xs.map enc) mo acc = .ok (acc ++ (xs.map fun x => (zs x).map (f x)).flatten) { sl := sl, mo := mo }
  | [], acc, _, _ => by simp [lcF2]
  | x :: xs, acc, h, hl => by
    obtain ⟨T1, h1, T2, h2, h3, h4⟩ := h x (List.mem_cons_self ..)
    rw [List.map_cons, List.sum_cons] at hl
    have hin := lcF_flt (sl := wipeL T2.sl vs1) (k := k1) (t := yesT) (e := e) (mo := mo) (enc1 x) (fun _ => true) (f x) (zs x) acc (fun y hy => by
      obtain ⟨U1, u1, u2, U2, u3, u4⟩ := h4 y hy
      exact ⟨U1, U1, u1, rfl, u2, fun _ => ⟨U2, u3, u4⟩⟩) (by omega)
    have hfl : (zs x).filter (fun _ => true) = zs x := List.filter_eq_self.mpr fun _ _ => rfl
    rw [hfl] at hin
    have ih := lcF2_gen enc zs enc1 f xs (acc ++ (zs x).map (f x)) (fun y hy => h y (List.mem_cons_of_mem _ hy)) (by rw [List.length_append, List.length_map]; omega)
    rw [List.map_cons, lcF2, h1]
    dsimp only [yesT]
    rw [h2]
    dsimp only
    rw [h3]
    rw [hin]
    dsimp only
    rw [ih, List.map_cons, List.flatten_cons, List.append_assoc]
theorem lcE2_gen {α β : Type} {it it1 : Ms → R (List Dt)} {k k1 : Dt → Ms → Option Ms} {e : Ms → R Dt} {own vs1 : List Nat} {S S1 : Ms} (enc : α → Dt) (zs : α → List β) (enc1 : α → β → Dt) (f : α → β → Dt) (xs : List α) (hi : it S = .ok (xs.map enc) S1)
    (h : ∀ x ∈ xs, ∃ T1, k (enc x) { sl := wipeL S1.sl own, mo := S1.mo } = some T1 ∧ ∃ T2, it1 T1 = .ok ((zs x).map (enc1 x)) T2 ∧ T2.mo = S1.mo ∧ ∀ y ∈ zs x, ∃ U1, k1 (enc1 x y) { sl := wipeL T2.sl vs1, mo := S1.mo } = some U1 ∧ U1.mo = S1.mo ∧ ∃ U2, e U1 = .ok (f x y) U2 ∧ U2.mo = S1.mo)
    (hl : (xs.map fun x => (zs x).length).sum ≤ 100000) : lcE2 it k yesT it1 k1 yesT e own vs1 S = .ok (xs.map fun x => (zs x).map (f x)).flatten S1 := by
  unfold lcE2
  rw [hi, R.bind_ok, lcF2_gen enc zs enc1 f xs [] h (by simpa using hl), R.bind_ok]
  rfl
def stD21 (p : Int) (H : List (List Int)) (a : Nat) : Dt := .lst ((List.range (p - 1).toNat).map fun (x : Nat) => .tup [.int (1 + (x : Int)), Wd (scW p (1 + (x : Int)) (colH H a))])
def stepsD (p : Int) (n : Nat) (H : List (List Int)) : Dt := .lst ((List.range n).map (stD21 p H))
def TS21 (C : Dt) (acc : List Dt) (x2 x3 : Sv) : Ms := { sl := [.im C, .mu 0, x2, x3, .no, .no], mo := [.ob (.ls acc)] }
theorem colH_ok {p : Int} {n a : Nat} {H : List (List Int)} (hp : 0 < p) (hH : okR p n H) (hl : H.length ≤ 1000) : okW p (colH H a) = true := by
  unfold colH
  refine okW_iff.mpr ⟨by rw [List.length_map]; exact hl, fun x hx => ?_⟩
  obtain ⟨h, hh, rfl⟩ := List.mem_map.mp hx
  exact g_rg hp (hH h hh) a
theorem Fsteps_run {CC : Addr} {p : Int} {n : Nat} {T H : List (List Int)} (hp : isP p = true) (hn : n ≤ 900) (hH : H = kerL p n (redN p T n)) : Fsteps CC [codeD CC p n T] = .ok (stepsD p n H) := by
  have hcs := isP_cases hp
  have h1 := code_p CC p n T
  have h2 := code_n CC p n T
  have hok : okR p n H := by rw [hH]; exact kerL_ok hp (by omega) _
  have hl : H.length ≤ n := by rw [hH]; exact kerL_len _
  have hck := Fchecks_run (CC := CC) (p := p) (n := n) (T := T)
  rw [← hH] at hck
  have hm : ∀ (S : Ms), varE 0 S = .ok (codeD CC p n T) S → metE CC "checks" 1 (varE 0) aNil (Fchecks CC) S = .ok (TD H) S := fun S h => metE_run h (by decide +kernel) rfl rfl hck
  have a1 : (asgN 1 (lstE aNil)) (st0 6 [codeD CC p n T]) = .nx (TS21 (codeD CC p n T) [] .no .no) := rfl
  have hit : itR1 (aCons (fldE CC "n" (varE 0)) aNil) (TS21 (codeD CC p n T) [] .no .no) = .ok ((List.range n).map fun (i : Nat) => Dt.int (i : Int)) (TS21 (codeD CC p n T) [] .no .no) := by
    have v0 : varE 0 (TS21 (codeD CC p n T) [] .no .no) = .ok (codeD CC p n T) (TS21 (codeD CC p n T) [] .no .no) := rfl
    refine itR1_run ?_ (by omega)
    generalize TS21 (codeD CC p n T) [] .no .no = U at *
    simp only [aCons_run, aNil_run, fldE_run', v0, h2, R.bind_ok, R.of_some]
  obtain ⟨S', f1, f2⟩ := forL_inv (k := (Tk.nm 2).k) (body := (seqS (asgS 3 (calE (aCons (frz (lcE (itS (metE CC "checks" 1 (varE 0) aNil (Fchecks CC))) (Tk.nm 4).k yesT (op2 (varE 4) (varE 2) ixO) [4])) aNil) tupO))
  (appS 1 (frz (lcE (itR2 (aCons (cE (.int 1)) (aCons (fldE CC "p" (varE 0)) aNil))) (Tk.nm 5).k yesT (tupE (aCons (varE 5) (aCons (funE 3 (aCons (varE 3) (aCons (varE 5) (aCons (fldE CC "p" (varE 0)) aNil))) FscW) aNil))) [5]))))) ((List.range n).map fun (i : Nat) => Dt.int (i : Int))
    (fun i S => ∃ x2 x3, S = TS21 (codeD CC p n T) (((List.range n).take i).map (stD21 p H)) x2 x3) (TS21 (codeD CC p n T) [] .no .no) ⟨.no, .no, rfl⟩ (fun i d S hd hI => by
    obtain ⟨x2, x3, rfl⟩ := hI
    rw [List.getElem?_map] at hd
    obtain ⟨a, ha, rfl⟩ := Option.map_eq_some_iff.mp hd
    have han : a < n := by
      have := List.mem_of_getElem? ha
      rwa [List.mem_range] at this
    have hlt : i < n := by
      obtain ⟨hlt, _⟩ := List.getElem?_eq_some_iff.mp ha
      simpa using hlt
    have htk : (List.range n).take (i + 1) = (List.range n).take i ++ [a] := by rw [List.take_succ, ha]; rfl
    refine ⟨TS21 (codeD CC p n T) (((List.range n).take i).map (stD21 p H)) (.im (.int (a : Int))) x3, TS21 (codeD CC p n T) (((List.range n).take (i + 1)).map (stD21 p H)) (.im (.int (a : Int))) (.im (Wd (colH H a))), rfl, .inl ?_, _, _, rfl⟩
    have hcol := colH_ok (a := a) (by omega : 0 < p) hok (by omega)
    have l1 : lcE (itS (metE CC "checks" 1 (varE 0) aNil (Fchecks CC))) (Tk.nm 4).k yesT (op2 (varE 4) (varE 2) ixO) [4] (TS21 (codeD CC p n T) (((List.range n).take i).map (stD21 p H)) (.im (.int (a : Int))) x3) = .ok (H.map fun h => Dt.int (g h a)) (TS21 (codeD CC p n T) (((List.range n).take i).map (stD21 p H)) (.im (.int (a : Int))) x3) := by
      refine lcE_map Wd (fun h => Dt.int (g h a)) H (by rw [itS_run, hm _ rfl, R.bind_ok]; rfl) (fun h hh => ?_) (fun d T T' => Tk.mo) (by omega)
      have hx := wg_ix (r := h) (k := a) (by rw [(hok h hh).2]; exact han)
      let U : Ms := { sl := [.im (codeD CC p n T), .mu 0, .im (.int (a : Int)), x3, .im (Wd h), .no], mo := [.ob (.ls (((List.range n).take i).map (stD21 p H)))] }
      have v4 : varE 4 U = .ok (Wd h) U := rfl
      have v2 : varE 2 U = .ok (.int (a : Int)) U := rfl
      refine ⟨U, rfl, U, ?_, rfl⟩
      clear_value U
      simp only [op2_run, v4, v2, hx, R.bind_ok, R.of_some]
    have e1 : (asgS 3 (calE (aCons (frz (lcE (itS (metE CC "checks" 1 (varE 0) aNil (Fchecks CC))) (Tk.nm 4).k yesT (op2 (varE 4) (varE 2) ixO) [4])) aNil) tupO)) (TS21 (codeD CC p n T) (((List.range n).take i).map (stD21 p H)) (.im (.int (a : Int))) x3) = .nx (TS21 (codeD CC p n T) (((List.range n).take i).map (stD21 p H)) (.im (.int (a : Int))) (.im (Wd (colH H a)))) := by
      rw [asgS_run', calE_run, aCons_run, frz_run', l1]
      simp only [R.bind_ok, aNil_run, tupO_lst, R.of_some, R.stmt_ok]
      have : (H.map fun h => Dt.int (g h a)) = (colH H a).map Dt.int := by unfold colH; rw [List.map_map]; rfl
      rw [this]
      rfl
    have l2 : lcE (itR2 (aCons (cE (.int 1)) (aCons (fldE CC "p" (varE 0)) aNil))) (Tk.nm 5).k yesT (tupE (aCons (varE 5) (aCons (funE 3 (aCons (varE 3) (aCons (varE 5) (aCons (fldE CC "p" (varE 0)) aNil))) FscW) aNil))) [5] (TS21 (codeD CC p n T) (((List.range n).take i).map (stD21 p H)) (.im (.int (a : Int))) (.im (Wd (colH H a)))) = .ok ((List.range (p - 1).toNat).map fun (x : Nat) => .tup [.int (1 + (x : Int)), Wd (scW p (1 + (x : Int)) (colH H a))]) (TS21 (codeD CC p n T) (((List.range n).take i).map (stD21 p H)) (.im (.int (a : Int))) (.im (Wd (colH H a)))) := by
      have v0 : varE 0 (TS21 (codeD CC p n T) (((List.range n).take i).map (stD21 p H)) (.im (.int (a : Int))) (.im (Wd (colH H a)))) = .ok (codeD CC p n T) (TS21 (codeD CC p n T) (((List.range n).take i).map (stD21 p H)) (.im (.int (a : Int))) (.im (Wd (colH H a)))) := rfl
      refine lcE_map (fun (x : Nat) => Dt.int (1 + (x : Int))) (fun (x : Nat) => .tup [.int (1 + (x : Int)), Wd (scW p (1 + (x : Int)) (colH H a))]) (List.range (p - 1).toNat) (itR2_run (by
        generalize TS21 (codeD CC p n T) (((List.range n).take i).map (stD21 p H)) (.im (.int (a : Int))) (.im (Wd (colH H a))) = U at *
        simp only [aCons_run, aNil_run, cE_run, fldE_run', v0, h1, R.bind_ok, R.of_some]) (by omega) (by omega)) (fun x hx => ?_) (fun d T T' => Tk.mo) (by simp; omega)
      have hs := FscW_run (a := 1 + (x : Int)) (isP_okP hp) hcol
      let U : Ms := { sl := [.im (codeD CC p n T), .mu 0, .im (.int (a : Int)), .im (Wd (colH H a)), .no, .im (.int (1 + (x : Int)))], mo := [.ob (.ls (((List.range n).take i).map (stD21 p H)))] }
      have v0 : varE 0 U = .ok (codeD CC p n T) U := rfl
      have v3 : varE 3 U = .ok (Wd (colH H a)) U := rfl
      have v5 : varE 5 U = .ok (.int (1 + (x : Int))) U := rfl
      refine ⟨U, rfl, U, ?_, rfl⟩
      clear_value U
      simp only [tupE_run, aCons_run, aNil_run, funE_run, fldE_run', v0, v3, v5, h1, hs, R.bind_ok, R.of_some, List.length_cons, List.length_nil, Nat.zero_add, Nat.reduceAdd, Nat.reduceLeDiff, if_true]
    rw [seqS_run, e1, seq_nx, htk, List.map_append]
    have hlen : (((List.range n).take i).map (stD21 p H)).length < 100000 := by
      rw [List.length_map, List.length_take, List.length_range]
      omega
    have hmu : muAt (TS21 (codeD CC p n T) (((List.range n).take i).map (stD21 p H)) (.im (.int (a : Int))) (.im (Wd (colH H a)))) 1 = some (0, ((List.range n).take i).map (stD21 p H)) := rfl
    rw [appS_run, hmu]
    dsimp only
    rw [frz_run', l2, R.bind_ok, R.stmt_ok, hmu]
    dsimp only
    rw [if_pos hlen]
    rfl)
  obtain ⟨x2, x3, rfl⟩ := f2
  rw [List.length_map, List.length_range, List.take_of_length_le (by simp)] at f1
  unfold Fsteps runD m21_steps
  rw [seqS_run, a1, seq_nx, seqS_run, forS_run, hit, R.stmt_ok, f1, seq_nx]
  rfl
theorem cut_suf21 {α : Type} {xs : List α} {a : Nat} (h : a ≤ xs.length) : cut xs (some (a : Int)) none = xs.drop a := by
  unfold cut
  rw [show HT.sIx xs.length 0 (some (a : Int)) = min a xs.length from HT.sIx_nat _ _ a, HT.sIx_none, Nat.min_eq_left h]
  exact List.take_of_length_le (by simp)
theorem ixR21 {f : Nat → Dt} {n a : Nat} (h : a < n) : ixO (.lst ((List.range n).map f)) (.int (a : Int)) = some (f a) := by
  unfold ixO atI ixN
  have h0 : (0 : Int) ≤ (a : Int) := by omega
  simp [h0, h]
def TL21 (v s : List Int) (st : Dt) (p : Int) (x4 x5 : Sv) : Ms := { sl := [.im (Wd v), .im (Wd s), .im st, .im (.int p), x4, x5, .no, .no, .no], mo := [] }
theorem Flonger_run {p : Int} {n : Nat} {H : List (List Int)} {v : List Int} (hp : isP p = true) (hn : n ≤ 400) (hH : okR p n H) (hHl : H.length ≤ 400) (hv : ok1 p n v) : Flonger [Wd v, Wd (synd p H v), stepsD p n H, .int p] = .ok (.lst ((lonW p v).map fun u => .tup [Wd u, Wd (synd p H u)])) := by
  have hcs := isP_cases hp
  have hp0 : 0 < p := by omega
  have hvl := hv.2
  have hst : st0 9 [Wd v, Wd (synd p H v), stepsD p n H, .int p] = TL21 v (synd p H v) (stepsD p n H) p .no .no := rfl
  have a1 : (asgS 4 (frz (lcE (itEn (aCons (varE 0) aNil)) (Tk.tp [6, 7]).k (tst (op2 (varE 7) (cE (.int 0)) neO)) (varE 6) [6, 7]))) (TL21 v (synd p H v) (stepsD p n H) p .no .no) = .nx (TL21 v (synd p H v) (stepsD p n H) p (.im (.lst ((usedL v).map fun (k : Nat) => Dt.int (k : Int)))) .no) := by
    have key : lcE (itEn (aCons (varE 0) aNil)) (Tk.tp [6, 7]).k (tst (op2 (varE 7) (cE (.int 0)) neO)) (varE 6) [6, 7] (TL21 v (synd p H v) (stepsD p n H) p .no .no) = .ok (((List.range v.length).filter fun j => decide (g v j ≠ 0)).map fun (k : Nat) => Dt.int (k : Int)) (TL21 v (synd p H v) (stepsD p n H) p .no .no) := by
      refine lcE_flt (fun i : Nat => Dt.tup [.int (i : Int), .int (v.getD i 0)]) (fun j => decide (g v j ≠ 0)) (fun (k : Nat) => Dt.int (k : Int)) (List.range v.length) (itEn_run rfl) (fun i hi => ?_) (by rw [List.length_range]; omega)
      let U : Ms := { sl := [.im (Wd v), .im (Wd (synd p H v)), .im (stepsD p n H), .im (.int p), .no, .no, .im (.int (i : Int)), .im (.int (g v i)), .no], mo := [] }
      have v6 : varE 6 U = .ok (.int (i : Int)) U := rfl
      have v7 : varE 7 U = .ok (.int (g v i)) U := rfl
      refine ⟨U, U, rfl, ?_, rfl, fun _ => ⟨U, v6, rfl⟩⟩
      clear_value U
      have e : (decide (g v i ≠ 0)) = !decide (g v i = 0) := by simp
      rw [e]
      simp only [tst_run', op2_run, v7, cE_run, R.bind_ok, neO_int, R.of_some]
    rw [asgS_run', frz_run', key, R.bind_ok, R.stmt_ok]
    rfl
  have a2 : (asgS 5 (ifE (truT (varE 4)) (op2 (op2 (varE 4) (op1 (cE (.int 1)) negO) ixO) (cE (.int 1)) addO) (cE (.int 0)))) (TL21 v (synd p H v) (stepsD p n H) p (.im (.lst ((usedL v).map fun (k : Nat) => Dt.int (k : Int)))) .no) = .nx (TL21 v (synd p H v) (stepsD p n H) p (.im (.lst ((usedL v).map fun (k : Nat) => Dt.int (k : Int)))) (.im (.int (fstN v : Int)))) := by
    have key : (ifE (truT (varE 4)) (op2 (op2 (varE 4) (op1 (cE (.int 1)) negO) ixO) (cE (.int 1)) addO) (cE (.int 0))) (TL21 v (synd p H v) (stepsD p n H) p (.im (.lst ((usedL v).map fun (k : Nat) => Dt.int (k : Int)))) .no) = .ok (.int (fstN v : Int)) (TL21 v (synd p H v) (stepsD p n H) p (.im (.lst ((usedL v).map fun (k : Nat) => Dt.int (k : Int)))) .no) := by
      have v4 : varE 4 (TL21 v (synd p H v) (stepsD p n H) p (.im (.lst ((usedL v).map fun (k : Nat) => Dt.int (k : Int)))) .no) = .ok (.lst ((usedL v).map fun (k : Nat) => Dt.int (k : Int))) (TL21 v (synd p H v) (stepsD p n H) p (.im (.lst ((usedL v).map fun (k : Nat) => Dt.int (k : Int)))) .no) := rfl
      have hng : negO (.int 1) = some (.int (-1)) := rfl
      generalize TL21 v (synd p H v) (stepsD p n H) p (.im (.lst ((usedL v).map fun (k : Nat) => Dt.int (k : Int)))) .no = U at *
      unfold ifE fstN
      cases hg : (usedL v).getLast? with
      | none =>
        have e : usedL v = [] := by simpa using hg
        rw [e] at v4
        rw [truT_run, v4, R.bind_ok]
        rfl
      | some a =>
        have hne : usedL v ≠ [] := fun z => by rw [z] at hg; simp at hg
        have hpos : 0 < (usedL v).length := List.length_pos_iff.mpr hne
        have htr : truO (.lst ((usedL v).map fun (k : Nat) => Dt.int (k : Int))) = some true := by
          show some (!((usedL v).map fun (k : Nat) => Dt.int (k : Int)).isEmpty) = _
          have : ((usedL v).map fun (k : Nat) => Dt.int (k : Int)).isEmpty = false := by simpa using hne
          rw [this]
          rfl
        have hix : ixO (.lst ((usedL v).map fun (k : Nat) => Dt.int (k : Int))) (.int (-1)) = some (.int (a : Int)) := ixLast (by rw [List.length_map]; exact hpos) (by
          rw [List.length_map, List.getElem?_map]
          rw [List.getLast?_eq_getElem?] at hg
          rw [hg]
          rfl)
        have hal : a < v.length := (mem_used.mp (List.mem_of_getLast? hg)).1
        have had : addO (.int (a : Int)) (.int 1) = some (.int ((a : Int) + 1)) := rfl
        simp only [truT_run, v4, R.bind_ok, htr, R.of_some, if_true, op2_run, op1_run, cE_run, hng, hix, had]
        rfl
    rw [asgS_run', key]
    rfl
  have hf := (fst_is v).2
  have hfl : fstN v ≤ v.length := by
    rcases hf with e | e
    · omega
    · omega
  have v0 : varE 0 (TL21 v (synd p H v) (stepsD p n H) p (.im (.lst ((usedL v).map fun (k : Nat) => Dt.int (k : Int)))) (.im (.int (fstN v : Int)))) = .ok (Wd v) (TL21 v (synd p H v) (stepsD p n H) p (.im (.lst ((usedL v).map fun (k : Nat) => Dt.int (k : Int)))) (.im (.int (fstN v : Int)))) := rfl
  have v5 : varE 5 (TL21 v (synd p H v) (stepsD p n H) p (.im (.lst ((usedL v).map fun (k : Nat) => Dt.int (k : Int)))) (.im (.int (fstN v : Int)))) = .ok (.int (fstN v : Int)) (TL21 v (synd p H v) (stepsD p n H) p (.im (.lst ((usedL v).map fun (k : Nat) => Dt.int (k : Int)))) (.im (.int (fstN v : Int)))) := rfl
  have hlo : lenO [Wd v] = some (.int (v.length : Int)) := by
    show some (Dt.int ((v.map Dt.int).length : Int)) = _
    rw [List.length_map]
  have key : lcE2 (itR2 (aCons (varE 5) (aCons (calE (aCons (varE 0) aNil) lenO) aNil))) (Tk.nm 6).k yesT (itS (op2 (varE 2) (varE 6) ixO)) (Tk.tp [7, 8]).k yesT (tupE (aCons (op2 (op2 (slT (varE 0) oNone (oSome (varE 6))) (tupE (aCons (varE 7) aNil)) catT) (slT (varE 0) (oSome (op2 (varE 6) (cE (.int 1)) addO)) oNone) catT) (aCons (funE 3 (aCons (varE 1) (aCons (varE 8) (aCons (varE 3) aNil))) FaddW) aNil))) [6, 7, 8] [7, 8] (TL21 v (synd p H v) (stepsD p n H) p (.im (.lst ((usedL v).map fun (k : Nat) => Dt.int (k : Int)))) (.im (.int (fstN v : Int)))) =
      .ok (((List.range (v.length - fstN v)).map fun (k : Nat) => (List.range (p - 1).toNat).map fun (x : Nat) => Dt.tup [Wd (setW v (fstN v + k) (1 + (x : Int))), Wd (synd p H (setW v (fstN v + k) (1 + (x : Int))))]).flatten) (TL21 v (synd p H v) (stepsD p n H) p (.im (.lst ((usedL v).map fun (k : Nat) => Dt.int (k : Int)))) (.im (.int (fstN v : Int)))) := by
    refine lcE2_gen (fun (k : Nat) => Dt.int ((fstN v : Int) + (k : Int))) (fun _ => List.range (p - 1).toNat) (fun k x => .tup [.int (1 + (x : Int)), Wd (scW p (1 + (x : Int)) (colH H (fstN v + k)))]) (fun k x => Dt.tup [Wd (setW v (fstN v + k) (1 + (x : Int))), Wd (synd p H (setW v (fstN v + k) (1 + (x : Int))))]) (List.range (v.length - fstN v)) ?_ (fun k hk => ?_) ?_
    · have := itR2_run (i := (fstN v : Int)) (j := (v.length : Int)) (fs := (aCons (varE 5) (aCons (calE (aCons (varE 0) aNil) lenO) aNil))) (S := (TL21 v (synd p H v) (stepsD p n H) p (.im (.lst ((usedL v).map fun (k : Nat) => Dt.int (k : Int)))) (.im (.int (fstN v : Int))))) (S1 := (TL21 v (synd p H v) (stepsD p n H) p (.im (.lst ((usedL v).map fun (k : Nat) => Dt.int (k : Int)))) (.im (.int (fstN v : Int))))) (by
        generalize TL21 v (synd p H v) (stepsD p n H) p (.im (.lst ((usedL v).map fun (k : Nat) => Dt.int (k : Int)))) (.im (.int (fstN v : Int))) = U at *
        simp only [aCons_run, aNil_run, calE_run, v0, v5, hlo, R.bind_ok, R.of_some]) (by omega) (by omega)
      have e : ((v.length : Int) - (fstN v : Int)).toNat = v.length - fstN v := by omega
      rw [e] at this
      exact this
    · rw [List.mem_range] at hk
      have hat : fstN v + k < n := by omega
      have hcast : (fstN v : Int) + (k : Int) = ((fstN v + k : Nat) : Int) := by omega
      have hix : ixO (stepsD p n H) (.int ((fstN v : Int) + (k : Int))) = some (stD21 p H (fstN v + k)) := by rw [hcast]; exact ixR21 hat
      let U : Ms := { sl := [.im (Wd v), .im (Wd (synd p H v)), .im (stepsD p n H), .im (.int p), .im (.lst ((usedL v).map fun (k : Nat) => Dt.int (k : Int))), .im (.int (fstN v : Int)), .im (.int ((fstN v : Int) + (k : Int))), .no, .no], mo := [] }
      refine ⟨U, rfl, U, ?_, rfl, fun x hx => ?_⟩
      · have v2 : varE 2 U = .ok (stepsD p n H) U := rfl
        have v6 : varE 6 U = .ok (.int ((fstN v : Int) + (k : Int))) U := rfl
        clear_value U
        simp only [itS_run, op2_run, v2, v6, hix, R.bind_ok, R.of_some]
        rfl
      · rw [List.mem_range] at hx
        let V : Ms := { sl := [.im (Wd v), .im (Wd (synd p H v)), .im (stepsD p n H), .im (.int p), .im (.lst ((usedL v).map fun (k : Nat) => Dt.int (k : Int))), .im (.int (fstN v : Int)), .im (.int ((fstN v : Int) + (k : Int))), .im (.int (1 + (x : Int))), .im (Wd (scW p (1 + (x : Int)) (colH H (fstN v + k))))], mo := [] }
        refine ⟨V, rfl, rfl, V, ?_, rfl⟩
        have w0 : varE 0 V = .ok (Wd v) V := rfl
        have w1 : varE 1 V = .ok (Wd (synd p H v)) V := rfl
        have w3 : varE 3 V = .ok (.int p) V := rfl
        have w6 : varE 6 V = .ok (.int ((fstN v : Int) + (k : Int))) V := rfl
        have w7 : varE 7 V = .ok (.int (1 + (x : Int))) V := rfl
        have w8 : varE 8 V = .ok (Wd (scW p (1 + (x : Int)) (colH H (fstN v + k)))) V := rfl
        clear_value V
        have g0 := (fst_is v).1 (fstN v + k) (by omega)
        have hsd := synd_set (x := 1 + (x : Int)) hp0 hH hvl hat
        rw [g0, Int.zero_add, Int.emod_eq_of_lt (by omega) (by omega)] at hsd
        have hcol := colH_ok (a := fstN v + k) hp0 hH (by omega)
        have hadd := FaddW_run (v := synd p H v) (w := scW p (1 + (x : Int)) (colH H (fstN v + k))) (isP_okP hp) (synd_ok1 hp0 (by omega)).1 (okW_scW (isP_okP hp) hcol) (by
          unfold scW colH synd
          rw [List.length_map, List.length_map, List.length_map])
        have s1 : slT (varE 0) oNone (oSome (varE 6)) V = .ok (Wd (v.take (fstN v + k))) V := by
          unfold slT
          rw [w0, R.bind_ok]
          unfold oNone oSome
          rw [R.bind_ok, w6, R.bind_ok]
          show R.ok (Dt.tup (cut (v.map Dt.int) none (some ((fstN v : Int) + (k : Int))))) V = _
          rw [hcast, cut_pre3 (by rw [List.length_map]; omega), ← List.map_take]
          rfl
        have had : addO (.int ((fstN v : Int) + (k : Int))) (.int 1) = some (.int (((fstN v + k + 1 : Nat) : Int))) := by
          show some (Dt.int ((fstN v : Int) + (k : Int) + 1)) = _
          congr 1
        have s2 : slT (varE 0) (oSome (op2 (varE 6) (cE (.int 1)) addO)) oNone V = .ok (Wd (v.drop (fstN v + k + 1))) V := by
          unfold slT
          rw [w0, R.bind_ok]
          unfold oNone oSome
          rw [op2_run, w6, R.bind_ok, cE_run, R.bind_ok, had, R.of_some, R.bind_ok]
          show R.ok (Dt.tup (cut (v.map Dt.int) (some ((fstN v + k + 1 : Nat) : Int)) none)) V = _
          rw [cut_suf21 (by rw [List.length_map]; omega), ← List.map_drop]
          rfl
        have c1 : catT (Wd (v.take (fstN v + k))) (.tup [.int (1 + (x : Int))]) = some (Wd (v.take (fstN v + k) ++ [1 + (x : Int)])) := catT_wd07 (w := [1 + (x : Int)]) (by rw [List.length_take]; simp; omega)
        have c2 : catT (Wd (v.take (fstN v + k) ++ [1 + (x : Int)])) (Wd (v.drop (fstN v + k + 1))) = some (Wd (setW v (fstN v + k) (1 + (x : Int)))) := by
          rw [catT_wd07 (by rw [List.length_append, List.length_take, List.length_drop]; simp; omega)]
          unfold setW
          rw [List.append_assoc]
          rfl
        rw [hsd]
        simp only [tupE_run, aCons_run, aNil_run, op2_run, s1, s2, w1, w3, w7, w8, c1, c2, funE_run, hadd, R.bind_ok, R.of_some, List.length_cons, List.length_nil, Nat.zero_add, Nat.reduceAdd, Nat.reduceLeDiff, if_true]
    · have : ∀ m : Nat, ((List.range m).map fun _ => (List.range (p - 1).toNat).length).sum = m * (p - 1).toNat := by
        intro m
        induction m with
        | zero => simp
        | succ m ih =>
          rw [List.range_succ, List.map_append, List.sum_append, ih, List.length_range]
          simp [Nat.succ_mul]
      rw [this]
      have h6 : (p - 1).toNat ≤ 6 := by omega
      have h7 : (v.length - fstN v) * (p - 1).toNat ≤ 400 * 6 := Nat.mul_le_mul (by omega) h6
      omega
  have hfin : ((List.range (v.length - fstN v)).map fun (k : Nat) => (List.range (p - 1).toNat).map fun (x : Nat) => Dt.tup [Wd (setW v (fstN v + k) (1 + (x : Int))), Wd (synd p H (setW v (fstN v + k) (1 + (x : Int))))]).flatten = (lonW p v).map fun u => Dt.tup [Wd u, Wd (synd p H u)] := by
    unfold lonW lonA
    rw [List.map_flatten, List.map_map, List.range'_eq_map_range, List.map_map]
    refine congrArg List.flatten (List.map_congr_left fun k _ => ?_)
    show _ = ((List.range (p - 1).toNat).map fun (x : Nat) => setW v (fstN v + k) (1 + (x : Int))).map _
    rw [List.map_map]
    rfl
  unfold Flonger runD m21_longer
  rw [hst, seqS_run, a1, seq_nx, seqS_run, a2, seq_nx, retS_run, frz_run', key, R.bind_ok, R.stmt_ok, hfin]
  rfl
theorem nd_sub_len {α : Type} [BEq α] [LawfulBEq α] : ∀ {a b : List α}, a.Nodup → (∀ x ∈ a, x ∈ b) → a.length ≤ b.length
  | [], _, _, _ => Nat.zero_le _
  | x :: a, b, hn, h => by
    rw [List.nodup_cons] at hn
    have hx := h x (List.mem_cons_self ..)
    have ih := nd_sub_len (a := a) (b := b.erase x) hn.2 fun y hy => by
      have : y ≠ x := fun e => hn.1 (e ▸ hy)
      exact (List.mem_erase_of_ne this).mpr (h y (List.mem_cons_of_mem _ hy))
    have hl := List.length_erase_of_mem hx
    have hp : 0 < b.length := List.length_pos_of_mem hx
    rw [List.length_cons]
    omega
def HoldsD (mo : List Mo) (D : Tb) : Prop := ∃ kvs : List (List Int × Nat), mo[1]? = some (.ob (.dm kvs)) ∧ Paired (fun (q : List Int × Nat) (d : List Int × List (List Int)) => q.1 = d.1 ∧ mo[q.2]? = some (.ob (.ls (d.2.map Wd)))) kvs D ∧ (kvs.map (·.2)).Nodup
theorem hd_keys {mo : List Mo} {kvs : List (List Int × Nat)} {D : Tb} {G : List Int × Nat → List Int × List (List Int) → Prop} (h : Paired (fun q d => q.1 = d.1 ∧ G q d) kvs D) : kvs.map (·.1) = D.map (·.1) := by
  induction h with
  | nil => rfl
  | cons h _ ih => rw [List.map_cons, List.map_cons, h.1, ih]
theorem hd_idx {mo : List Mo} {kvs : List (List Int × Nat)} {D : Tb} (h : Paired (fun (q : List Int × Nat) (d : List Int × List (List Int)) => q.1 = d.1 ∧ mo[q.2]? = some (.ob (.ls (d.2.map Wd)))) kvs D) : ∀ j ∈ kvs.map (·.2), ∃ xs, mo[j]? = some (.ob (.ls xs)) := by
  induction h with
  | nil => intro j hj; cases hj
  | cons h _ ih =>
    intro j hj
    rw [List.map_cons] at hj
    rcases List.mem_cons.mp hj with rfl | hj
    · exact ⟨_, h.2⟩
    · exact ih j hj
theorem HoldsD.keep {mo mo' : List Mo} {D : Tb} (h : HoldsD mo D) (k : ∀ (j : Nat) (c : Ob), mo[j]? = some (Mo.ob c) → mo'[j]? = some (Mo.ob c)) : HoldsD mo' D := by
  obtain ⟨kvs, h1, h2, h3⟩ := h
  exact ⟨kvs, k _ _ h1, h2.mono fun q d z => ⟨z.1, k _ _ z.2⟩, h3⟩
theorem look_mem {kvs : List (List Int × Nat)} {s : List Int} {j : Nat} (h : lookD kvs s = some j) : (s, j) ∈ kvs := by
  unfold lookD at h
  obtain ⟨q, hq, rfl⟩ := Option.map_eq_some_iff.mp h
  have h1 := List.find?_some hq
  have h2 := of_decide_eq_true h1
  rw [← h2]
  exact List.mem_of_find?_eq_some hq
theorem look_none {kvs : List (List Int × Nat)} {s : List Int} (h : lookD kvs s = none) : s ∉ kvs.map (·.1) := fun hm => by
  obtain ⟨q, hq, e⟩ := List.mem_map.mp hm
  unfold lookD at h
  rw [Option.map_eq_none_iff] at h
  exact absurd (decide_eq_true e) (List.find?_eq_none.mp h q hq)
theorem put_there {mo : List Mo} {s u : List Int} {j : Nat} : ∀ {kvs : List (List Int × Nat)} {D : Tb}, Paired (fun (q : List Int × Nat) (d : List Int × List (List Int)) => q.1 = d.1 ∧ mo[q.2]? = some (.ob (.ls (d.2.map Wd)))) kvs D → (kvs.map (·.2)).Nodup → (D.map (·.1)).Nodup → (s, j) ∈ kvs →
    ∃ ws, mo[j]? = some (.ob (.ls (ws.map Wd))) ∧ (s, ws) ∈ D ∧ Paired (fun (q : List Int × Nat) (d : List Int × List (List Int)) => q.1 = d.1 ∧ (mo.set j (.ob (.ls ((ws ++ [u]).map Wd))))[q.2]? = some (.ob (.ls (d.2.map Wd)))) kvs (D.map fun q => if q.1 = s then (q.1, q.2 ++ [u]) else q)
  | _, _, .nil, _, _, h => by cases h
  | q :: kvs, d :: D, .cons z t, h1, h2, h => by
    rw [List.map_cons, List.nodup_cons] at h1 h2
    rcases List.mem_cons.mp h with e | h
    · subst e
      have hj : j < mo.length := (List.getElem?_eq_some_iff.mp z.2).1
      refine ⟨d.2, z.2, List.mem_cons.mpr (.inl (Prod.ext z.1 rfl)), ?_⟩
      rw [List.map_cons, if_pos z.1.symm]
      refine .cons ⟨z.1, by rw [List.getElem?_set_self hj]⟩ ?_
      have go : ∀ {kvs : List (List Int × Nat)} {D : Tb} (X : Mo), Paired (fun (q : List Int × Nat) (d : List Int × List (List Int)) => q.1 = d.1 ∧ mo[q.2]? = some (.ob (.ls (d.2.map Wd)))) kvs D → j ∉ kvs.map (·.2) → s ∉ D.map (·.1) →
          Paired (fun (q : List Int × Nat) (d : List Int × List (List Int)) => q.1 = d.1 ∧ (mo.set j X)[q.2]? = some (.ob (.ls (d.2.map Wd)))) kvs (D.map fun q => if q.1 = s then (q.1, q.2 ++ [u]) else q) := by
        intro kvs D X hp
        induction hp with
        | nil => intro _ _; exact .nil
        | @cons q' d' ks ds z' _ ih =>
          intro g1 g2
          rw [List.map_cons, List.mem_cons, not_or] at g1 g2
          rw [List.map_cons, if_neg (fun e => g2.1 e.symm)]
          refine .cons ⟨z'.1, ?_⟩ (ih g1.2 g2.2)
          rw [List.getElem?_set_ne (fun e => g1.1 e)]
          exact z'.2
      refine go _ t h1.1 ?_
      have e : s = d.1 := z.1
      rw [e]
      exact h2.1
    · obtain ⟨ws, g1, g2, g3⟩ := put_there (u := u) t h1.2 h2.2 h
      have hqj : ¬ q.2 = j := fun e => h1.1 (by rw [e]; exact List.mem_map.mpr ⟨_, h, rfl⟩)
      have hds : ¬ d.1 = s := fun e => h2.1 (by rw [e]; exact List.mem_map.mpr ⟨_, g2, rfl⟩)
      refine ⟨ws, g1, List.mem_cons_of_mem _ g2, ?_⟩
      rw [List.map_cons, if_neg hds]
      refine .cons ⟨z.1, ?_⟩ g3
      rw [List.getElem?_set_ne (fun e => hqj e.symm)]
      exact z.2
theorem sda_run {S : Ms} {D : Tb} {f g : Ms → R Dt} {s u : List Int} (hS : S.sl[2]? = some (.mu 1)) (h : HoldsD S.mo D) (hk : (D.map (·.1)).Nodup) (hf : f S = .ok (Wd s) S) (hg : ∀ mo', g { sl := S.sl, mo := mo' } = .ok (Wd u) { sl := S.sl, mo := mo' }) (hl : D.length < 100000) (hll : ∀ d ∈ D, d.2.length < 100000) :
    ∃ mo', sdaS 2 f g S = .nx { sl := S.sl, mo := mo' } ∧ HoldsD mo' (addD D s u) := by
  obtain ⟨kvs, h1, h2, h3⟩ := h
  have hdm : dmAt S 2 = some (1, kvs) := by unfold dmAt; rw [hS]; dsimp only; rw [h1]
  have hkl : kvs.length < 100000 := by rw [Paired.length h2]; exact hl
  have hks := hd_keys (mo := S.mo) h2
  cases hlk : lookD kvs s with
  | some j =>
    obtain ⟨ws, g1, g2, g3⟩ := put_there (u := u) h2 h3 hk (look_mem hlk)
    have hsd : sdK S 2 s = some (j, S) := by unfold sdK; rw [hdm]; dsimp only; rw [if_pos hkl, hlk]
    have hls : lsAt S j = some (ws.map Wd) := by unfold lsAt; rw [g1]
    have hj1 : j ≠ 1 := fun e => by rw [e, h1] at g1; cases g1
    refine ⟨S.mo.set j (.ob (.ls ((ws ++ [u]).map Wd))), ?_, ?_⟩
    · unfold sdaS
      rw [hdm]
      dsimp only
      rw [hf, R.stmt_ok, wordOf_Wd]
      dsimp only
      rw [hsd]
      dsimp only
      rw [hls]
      dsimp only
      have := hg S.mo
      have e : ({ sl := S.sl, mo := S.mo } : Ms) = S := rfl
      rw [e] at this
      rw [this, R.stmt_ok, hls]
      dsimp only
      rw [if_pos (by rw [List.length_map]; exact hll _ g2), List.map_append]
      rfl
    · refine ⟨kvs, by rw [List.getElem?_set_ne hj1]; exact h1, ?_, h3⟩
      unfold addD
      rw [if_pos (List.mem_map.mpr ⟨_, g2, rfl⟩)]
      exact g3
  | none =>
    have hns : s ∉ D.map (·.1) := by rw [← hks]; exact look_none hlk
    have hlt : 1 < S.mo.length := (List.getElem?_eq_some_iff.mp h1).1
    have hsd : sdK S 2 s = some (S.mo.length, { S with mo := (S.mo ++ [Mo.ob (.ls [])]).set 1 (.ob (.dm (kvs ++ [(s, S.mo.length)]))) }) := by unfold sdK; rw [hdm]; dsimp only; rw [if_pos hkl, hlk]
    have hat : ((S.mo ++ [Mo.ob (.ls [])]).set 1 (.ob (.dm (kvs ++ [(s, S.mo.length)]))))[S.mo.length]? = some (.ob (.ls [])) := by
      rw [List.getElem?_set_ne (by omega), List.getElem?_append_right (Nat.le_refl _), Nat.sub_self]
      rfl
    have hls : lsAt { S with mo := (S.mo ++ [Mo.ob (.ls [])]).set 1 (.ob (.dm (kvs ++ [(s, S.mo.length)]))) } S.mo.length = some [] := by unfold lsAt; dsimp only; rw [hat]
    refine ⟨((S.mo ++ [Mo.ob (.ls [])]).set 1 (.ob (.dm (kvs ++ [(s, S.mo.length)])))).set S.mo.length (.ob (.ls [Wd u])), ?_, ?_⟩
    · unfold sdaS
      rw [hdm]
      dsimp only
      rw [hf, R.stmt_ok, wordOf_Wd]
      dsimp only
      rw [hsd]
      dsimp only
      rw [hls]
      dsimp only
      have := hg ((S.mo ++ [Mo.ob (.ls [])]).set 1 (.ob (.dm (kvs ++ [(s, S.mo.length)]))))
      rw [this, R.stmt_ok]
      have hls' : lsAt { sl := S.sl, mo := (S.mo ++ [Mo.ob (.ls [])]).set 1 (.ob (.dm (kvs ++ [(s, S.mo.length)]))) } S.mo.length = some [] := hls
      rw [hls']
      rfl
    · have hlen : ((S.mo ++ [Mo.ob (.ls [])]).set 1 (.ob (.dm (kvs ++ [(s, S.mo.length)])))).length = S.mo.length + 1 := by rw [List.length_set, List.length_append]; rfl
      refine ⟨kvs ++ [(s, S.mo.length)], by rw [List.getElem?_set_ne (by omega), List.getElem?_set_self (by rw [List.length_append]; simp; omega)], ?_, ?_⟩
      · unfold addD
        rw [if_neg hns]
        refine Paired.snoc (h2.mono fun q d z => ⟨z.1, ?_⟩) ⟨rfl, ?_⟩
        · rw [List.getElem?_set_self (by rw [hlen]; omega)]
          rfl
        · have hq : q.2 < S.mo.length := (List.getElem?_eq_some_iff.mp z.2).1
          have hq1 : 1 ≠ q.2 := fun e => by
            have := z.2
            rw [← e, h1] at this
            cases this
          rw [List.getElem?_set_ne (by omega), List.getElem?_set_ne hq1, List.getElem?_append_left hq]
          exact z.2
      · rw [List.map_append, List.nodup_append]
        refine ⟨h3, by simp, fun a ha b hb e => ?_⟩
        obtain ⟨xs, hxs⟩ := hd_idx h2 a ha
        have := (List.getElem?_eq_some_iff.mp hxs).1
        have hb' : b = S.mo.length := by simpa using hb
        omega
def enU (p : Int) (H : List (List Int)) (u : List Int) : Dt := .tup [Wd u, Wd (synd p H u)]
def TC21 (C : Dt) (z : List Int) (mo : List Mo) (x3 : Sv) (st : Dt) (x5 x6 x7 x8 : Sv) : Ms := { sl := [.im C, .im (Wd z), .mu 1, x3, .im st, x5, x6, x7, x8], mo := mo }
def BdD (m : Nat) (D : Tb) (L : List (List Int)) : Prop := D.length + L.length ≤ m ∧ ∀ d ∈ D, d.2.length + L.length ≤ m
theorem bd_step {m : Nat} {D : Tb} {s u : List Int} {L : List (List Int)} (h : BdD m D (u :: L)) (h0 : (u :: L).length ≤ m) : BdD m (addD D s u) L := by
  obtain ⟨h1, h2⟩ := h
  rw [List.length_cons] at h0 h1
  unfold addD
  split
  · refine ⟨by rw [List.length_map]; omega, fun d hd => ?_⟩
    obtain ⟨q, hq, rfl⟩ := List.mem_map.mp hd
    have := h2 q hq
    rw [List.length_cons] at this
    split
    · rw [List.length_append]; simp; omega
    · omega
  · refine ⟨by rw [List.length_append]; simp; omega, fun d hd => ?_⟩
    rcases List.mem_append.mp hd with hd | hd
    · have := h2 d hd
      rw [List.length_cons] at this
      omega
    · rw [List.mem_singleton.mp hd]
      simp
      omega
theorem sda_loop {p : Int} {H : List (List Int)} {C st : Dt} {z : List Int} {x3 x5 x8 : Sv} : ∀ (L : List (List Int)) (D : Tb) (mo : List Mo) (x6 x7 : Sv), HoldsD mo D → (D.map (·.1)).Nodup → BdD 90000 D L → L.length ≤ 90000 →
    ∃ mo' y6 y7, forL (Tk.tp [6, 7]).k (sdaS 2 (varE 7) (varE 6)) (L.map (enU p H)) (TC21 C z mo x3 st x5 x6 x7 x8) = .nx (TC21 C z mo' x3 st x5 y6 y7 x8) ∧ HoldsD mo' (layD (synd p H) D L)
  | [], D, mo, x6, x7, h, _, _, _ => ⟨mo, x6, x7, rfl, h⟩
  | u :: L, D, mo, x6, x7, h, hk, hb, hl => by
    have hk1 : (Tk.tp [6, 7]).k (enU p H u) (TC21 C z mo x3 st x5 x6 x7 x8) = some (TC21 C z mo x3 st x5 (.im (Wd u)) (.im (Wd (synd p H u))) x8) := rfl
    obtain ⟨mo1, e1, h1⟩ := sda_run (S := TC21 C z mo x3 st x5 (.im (Wd u)) (.im (Wd (synd p H u))) x8) (f := varE 7) (g := varE 6) (s := synd p H u) (u := u) rfl h hk rfl (fun _ => rfl) (by have := hb.1; omega) (fun d hd => by have := hb.2 d hd; omega)
    have hk2 : ((addD D (synd p H u) u).map (·.1)).Nodup := by
      have := layD_nd (synd p H) [u] D hk
      exact this
    obtain ⟨mo2, y6, y7, e2, h2⟩ := sda_loop L (addD D (synd p H u) u) mo1 (.im (Wd u)) (.im (Wd (synd p H u))) h1 hk2 (bd_step hb hl) (by rw [List.length_cons] at hl; omega)
    refine ⟨mo2, y6, y7, ?_, h2⟩
    rw [List.map_cons, forL, hk1]
    dsimp only
    rw [e1]
    exact e2
theorem keysOf_hd {S : Ms} {D : Tb} (hS : S.sl[2]? = some (.mu 1)) (h : HoldsD S.mo D) : keysOf S 2 = some (D.map (·.1)) := by
  obtain ⟨kvs, h1, h2, _⟩ := h
  unfold keysOf
  rw [hS]
  dsimp only
  rw [h1]
  dsimp only
  rw [hd_keys (mo := S.mo) h2]
noncomputable def ctB : Ms → O := (seqS (asgS 3 (frz (lcE (itS (varE 5)) (Tk.tp [6, 7]).k (tst (inK true 2 (varE 7))) (tupE (aCons (varE 6) (aCons (varE 7) aNil))) [6, 7])))
  (forS (itS (varE 3)) (Tk.tp [6, 7]).k (sdaS 2 (varE 7) (varE 6))))
noncomputable def ctA (CC : Addr) : Ms → O := (asgN 5 (lcE2 (itS (varE 3)) (Tk.tp [6, 7]).k yesT (itS (funE 4 (aCons (varE 6) (aCons (varE 7) (aCons (varE 4) (aCons (fldE CC "p" (varE 0)) aNil)))) Flonger)) (Tk.nm 8).k yesT (varE 8) [6, 7, 8] [8]))
section
variable {CC CM CR : Addr} {p : Int} {n : Nat} {T H : List (List Int)} {z : List Int}
theorem lon_len {u : List Int} (hp : isP p = true) (hu : u.length = n) : (lonW p u).length ≤ n * 6 := by
  have hcs := isP_cases hp
  unfold lonW
  have : ∀ (as : List Nat), ((as.map (lonA p u)).flatten).length = as.length * (p - 1).toNat := by
    intro as
    induction as with
    | nil => simp
    | cons a as ih =>
      rw [List.map_cons, List.flatten_cons, List.length_append, ih, List.length_cons, Nat.succ_mul]
      unfold lonA
      rw [List.length_map, List.length_range]
      omega
  rw [this, List.length_range']
  exact Nat.mul_le_mul (by omega) (by omega)
theorem ct_run {D : Tb} {L : List (List Int)} {mo : List Mo} {x5 x6 x7 x8 : Sv} {w : Nat} (hp : isP p = true) (hn : n ≤ 12) (hH : okR p n H) (hHl : H.length ≤ 12) (hpn : p.toNat ^ n ≤ 1000) (hI : InvL p n H w D L) (hD : HoldsD mo D) :
    ∃ mo' y5 y6 y7, seqS (ctA CC) ctB (TC21 (codeD CC p n T) z mo (.im (.lst (L.map (enU p H)))) (stepsD p n H) x5 x6 x7 x8) = .nx (TC21 (codeD CC p n T) z mo' (.im (.lst ((nextL p H D L).map (enU p H)))) (stepsD p n H) y5 y6 y7 x8) ∧ HoldsD mo' (layD (synd p H) D (nextL p H D L)) := by
  have hcs := isP_cases hp
  have h1 := code_p CC p n T
  have hLn : ∀ u ∈ L, ok1 p n u := fun u hu => ((hI.lay u).mp hu).1.1
  have all_len : (allN p n).length ≤ 1000 := by rw [allN_len]; exact hpn
  have hLl : L.length ≤ 1000 := Nat.le_trans (nd_sub_len hI.lnd fun u hu => (ok_all (by omega)).mpr (hLn u hu)) all_len
  have hNn := inv_step (by omega : 0 < p) hH hI
  have hNl : (nextL p H D L).length ≤ 1000 := Nat.le_trans (nd_sub_len hNn.lnd fun u hu => (ok_all (by omega)).mpr ((hNn.lay u).mp hu).1.1) all_len
  -- the words after the layer's
  have k1 : lcE2 (itS (varE 3)) (Tk.tp [6, 7]).k yesT (itS (funE 4 (aCons (varE 6) (aCons (varE 7) (aCons (varE 4) (aCons (fldE CC "p" (varE 0)) aNil)))) Flonger)) (Tk.nm 8).k yesT (varE 8) [6, 7, 8] [8] (TC21 (codeD CC p n T) z mo (.im (.lst (L.map (enU p H)))) (stepsD p n H) x5 x6 x7 x8) = .ok (L.map fun u => (lonW p u).map (enU p H)).flatten (TC21 (codeD CC p n T) z mo (.im (.lst (L.map (enU p H)))) (stepsD p n H) x5 x6 x7 x8) := by
    refine lcE2_gen (enU p H) (lonW p) (fun _ => enU p H) (fun _ => enU p H) L rfl (fun u hu => ?_) ?_
    · have hl := Flonger_run hp (by omega) hH (by omega) (hLn u hu)
      let U : Ms := TC21 (codeD CC p n T) z mo (.im (.lst (L.map (enU p H)))) (stepsD p n H) x5 (.im (Wd u)) (.im (Wd (synd p H u))) .no
      refine ⟨U, rfl, U, ?_, rfl, fun y hy => ⟨TC21 (codeD CC p n T) z mo (.im (.lst (L.map (enU p H)))) (stepsD p n H) x5 (.im (Wd u)) (.im (Wd (synd p H u))) (.im (enU p H y)), rfl, rfl, TC21 (codeD CC p n T) z mo (.im (.lst (L.map (enU p H)))) (stepsD p n H) x5 (.im (Wd u)) (.im (Wd (synd p H u))) (.im (enU p H y)), rfl, rfl⟩⟩
      have v0 : varE 0 U = .ok (codeD CC p n T) U := rfl
      have v4 : varE 4 U = .ok (stepsD p n H) U := rfl
      have v6 : varE 6 U = .ok (Wd u) U := rfl
      have v7 : varE 7 U = .ok (Wd (synd p H u)) U := rfl
      clear_value U
      simp only [itS_run, funE_run, aCons_run, aNil_run, fldE_run', v0, v4, v6, v7, h1, R.bind_ok, R.of_some, List.length_cons, List.length_nil, Nat.zero_add, Nat.reduceAdd, if_true, hl, seqOf_lst]
      rfl
    · have : ∀ l : List (List Int), (∀ u ∈ l, ok1 p n u) → (l.map fun u => (lonW p u).length).sum ≤ l.length * 72 := by
        intro l
        induction l with
        | nil => intro _; simp
        | cons u l ih =>
          intro h
          have a1 := lon_len (u := u) hp (h u (List.mem_cons_self ..)).2
          have a2 := ih fun x hx => h x (List.mem_cons_of_mem _ hx)
          rw [List.map_cons, List.sum_cons, List.length_cons, Nat.succ_mul]
          omega
      have := this L hLn
      omega
  have hmap : (L.map fun u => (lonW p u).map (enU p H)).flatten = ((L.map (lonW p)).flatten).map (enU p H) := by rw [List.map_flatten, List.map_map]; rfl
  rw [hmap] at k1
  have e1 : ctA CC (TC21 (codeD CC p n T) z mo (.im (.lst (L.map (enU p H)))) (stepsD p n H) x5 x6 x7 x8) = .nx (TC21 (codeD CC p n T) z (mo ++ [.ob (.ls (((L.map (lonW p)).flatten).map (enU p H)))]) (.im (.lst (L.map (enU p H)))) (stepsD p n H) (.mu mo.length) x6 x7 x8) := by
    unfold ctA
    rw [asgN_run', k1, R.stmt_ok]
    rfl
  have hfl : ((L.map (lonW p)).flatten).length ≤ 72000 := by
    have : ∀ l : List (List Int), (∀ u ∈ l, ok1 p n u) → ((l.map (lonW p)).flatten).length ≤ l.length * 72 := by
      intro l
      induction l with
      | nil => intro _; simp
      | cons u l ih =>
        intro h
        have a1 := lon_len (u := u) hp (h u (List.mem_cons_self ..)).2
        have a2 := ih fun x hx => h x (List.mem_cons_of_mem _ hx)
        rw [List.map_cons, List.flatten_cons, List.length_append, List.length_cons, Nat.succ_mul]
        omega
    have := this L hLn
    omega
  generalize hmo1 : (mo ++ [Mo.ob (.ls (((L.map (lonW p)).flatten).map (enU p H)))]).set mo.length (.fz (.lst (((L.map (lonW p)).flatten).map (enU p H)))) = mo1
  have hD1 : HoldsD mo1 D := by
    rw [← hmo1]
    refine hD.keep fun j c hj => ?_
    have hlt := (List.getElem?_eq_some_iff.mp hj).1
    rw [List.getElem?_set_ne (by omega), List.getElem?_append_left hlt]
    exact hj
  have hv5 : varE 5 (TC21 (codeD CC p n T) z (mo ++ [.ob (.ls (((L.map (lonW p)).flatten).map (enU p H)))]) (.im (.lst (L.map (enU p H)))) (stepsD p n H) (.mu mo.length) x6 x7 x8) = .ok (.lst (((L.map (lonW p)).flatten).map (enU p H))) (TC21 (codeD CC p n T) z mo1 (.im (.lst (L.map (enU p H)))) (stepsD p n H) (.mu mo.length) x6 x7 x8) := by
    rw [varE_fz (k := mo.length) (xs := ((L.map (lonW p)).flatten).map (enU p H)) rfl (by
      show (mo ++ [Mo.ob (.ls (((L.map (lonW p)).flatten).map (enU p H)))])[mo.length]? = _
      rw [List.getElem?_append_right (Nat.le_refl _), Nat.sub_self]
      rfl), ← hmo1]
    rfl
  have hi0 : itS (varE 5) (TC21 (codeD CC p n T) z (mo ++ [.ob (.ls (((L.map (lonW p)).flatten).map (enU p H)))]) (.im (.lst (L.map (enU p H)))) (stepsD p n H) (.mu mo.length) x6 x7 x8) = .ok (((L.map (lonW p)).flatten).map (enU p H)) (TC21 (codeD CC p n T) z mo1 (.im (.lst (L.map (enU p H)))) (stepsD p n H) (.mu mo.length) x6 x7 x8) := by
    rw [itS_run, hv5, R.bind_ok, seqOf_lst, R.of_some]
  have k2 : lcE (itS (varE 5)) (Tk.tp [6, 7]).k (tst (inK true 2 (varE 7))) (tupE (aCons (varE 6) (aCons (varE 7) aNil))) [6, 7] (TC21 (codeD CC p n T) z (mo ++ [.ob (.ls (((L.map (lonW p)).flatten).map (enU p H)))]) (.im (.lst (L.map (enU p H)))) (stepsD p n H) (.mu mo.length) x6 x7 x8) = .ok ((nextL p H D L).map (enU p H)) (TC21 (codeD CC p n T) z mo1 (.im (.lst (L.map (enU p H)))) (stepsD p n H) (.mu mo.length) x6 x7 x8) := by
    refine lcE_flt (enU p H) (fun u => !decide (synd p H u ∈ D.map (·.1))) (enU p H) ((L.map (lonW p)).flatten) hi0 (fun u hu => ?_) (by omega)
    let U : Ms := TC21 (codeD CC p n T) z mo1 (.im (.lst (L.map (enU p H)))) (stepsD p n H) (.mu mo.length) (.im (Wd u)) (.im (Wd (synd p H u))) x8
    have hk := keysOf_hd (S := U) rfl hD1
    have v6 : varE 6 U = .ok (Wd u) U := rfl
    have v7 : varE 7 U = .ok (Wd (synd p H u)) U := rfl
    refine ⟨U, U, rfl, ?_, rfl, fun _ => ⟨U, ?_, rfl⟩⟩
    · clear_value U
      unfold inK
      rw [tst_run', v7, R.bind_ok, wordOf_Wd, hk]
      rfl
    · clear_value U
      simp only [tupE_run, aCons_run, aNil_run, v6, v7, R.bind_ok, List.length_cons, List.length_nil, Nat.zero_add, Nat.reduceAdd, Nat.reduceLeDiff, if_true]
      rfl
  have hbd : BdD 90000 D (nextL p H D L) := by
    refine ⟨?_, fun d hd => ?_⟩
    · have hDl : D.length ≤ 1000 := by
        rw [← List.length_map (f := (·.1))]
        have := nd_sub_len (b := (allN p n).map (synd p H)) hI.nd fun s hs => by
          obtain ⟨x, h1, h2, _⟩ := (hI.key s).mp hs
          exact List.mem_map.mpr ⟨x, (ok_all (by omega)).mpr h1, h2⟩
        rw [List.length_map (f := synd p H)] at this
        omega
      omega
    · have hdk : d.1 ∈ D.map (·.1) := List.mem_map.mpr ⟨d, hd, rfl⟩
      have hc := hI.cnt d.1 hdk
      have he : cD D d.1 = d.2 := by
        have hnd := hI.nd
        unfold cD
        have : ∀ {D : Tb}, (D.map (·.1)).Nodup → d ∈ D → D.find? (fun q => decide (q.1 = d.1)) = some d := by
          intro D
          induction D with
          | nil => intro _ h; cases h
          | cons q D ih =>
            intro h1 h2
            rw [List.map_cons, List.nodup_cons] at h1
            rcases List.mem_cons.mp h2 with e | h2
            · rw [← e, List.find?_cons_of_pos (by simp)]
            · have hne : ¬ q.1 = d.1 := fun e => h1.1 (by rw [e]; exact List.mem_map.mpr ⟨d, h2, rfl⟩)
              rw [List.find?_cons_of_neg (by simpa using hne)]
              exact ih h1.2 h2
        rw [this hnd hd]
        rfl
      rw [he] at hc
      have := nd_sub_len hc.1 fun u hu => (ok_all (by omega)).mpr ((hc.2 u).mp hu).1.1
      omega
  obtain ⟨mo2, y6, y7, e3, h3⟩ := sda_loop (C := codeD CC p n T) (st := stepsD p n H) (z := z) (x3 := .im (.lst ((nextL p H D L).map (enU p H)))) (x5 := .mu mo.length) (x8 := x8) (nextL p H D L) D mo1 x6 x7 hD1 hI.nd hbd (by omega)
  refine ⟨mo2, .mu mo.length, y6, y7, ?_, h3⟩
  rw [seqS_run, e1, seq_nx]
  unfold ctB
  rw [seqS_run, asgS_run', frz_run', k2, R.bind_ok, R.stmt_ok, seq_nx, forS_run]
  have hit : itS (varE 3) (TC21 (codeD CC p n T) z mo1 (.im (.lst ((nextL p H D L).map (enU p H)))) (stepsD p n H) (.mu mo.length) x6 x7 x8) = .ok ((nextL p H D L).map (enU p H)) (TC21 (codeD CC p n T) z mo1 (.im (.lst ((nextL p H D L).map (enU p H)))) (stepsD p n H) (.mu mo.length) x6 x7 x8) := rfl
  have hst : ({ sl := (TC21 (codeD CC p n T) z mo1 (.im (.lst (L.map (enU p H)))) (stepsD p n H) (.mu mo.length) x6 x7 x8).sl.set 3 (.im (.lst ((nextL p H D L).map (enU p H)))), mo := (TC21 (codeD CC p n T) z mo1 (.im (.lst (L.map (enU p H)))) (stepsD p n H) (.mu mo.length) x6 x7 x8).mo } : Ms) = TC21 (codeD CC p n T) z mo1 (.im (.lst ((nextL p H D L).map (enU p H)))) (stepsD p n H) (.mu mo.length) x6 x7 x8 := rfl
  rw [hst, hit, R.stmt_ok, e3]
end

section
variable {CC CM CR : Addr} {p : Int} {n : Nat} {T H : List (List Int)} {z : List Int}
theorem ct_whl (hp : isP p = true) (hn : n ≤ 12) (hH : okR p n H) (hHl : H.length ≤ 12) (hpn : p.toNat ^ n ≤ 1000) : ∀ (m fuel w : Nat) (D : Tb) (L : List (List Int)) (mo : List Mo) (x5 x6 x7 x8 : Sv), InvL p n H w D L → HoldsD mo D → n + 1 ≤ w + m → m < fuel →
    ∃ D' w' mo' y5 y6 y7, whl (truT (varE 3)) (seqS (ctA CC) ctB) fuel (TC21 (codeD CC p n T) z mo (.im (.lst (L.map (enU p H)))) (stepsD p n H) x5 x6 x7 x8) = .nx (TC21 (codeD CC p n T) z mo' (.im (.lst [])) (stepsD p n H) y5 y6 y7 x8) ∧ InvL p n H w' D' [] ∧ HoldsD mo' D'
  | _, 0, _, _, _, _, _, _, _, _, _, _, _, hf => by omega
  | m, fuel + 1, w, D, L, mo, x5, x6, x7, x8, hI, hD, hm, hf => by
    have hcs := isP_cases hp
    have v3 : varE 3 (TC21 (codeD CC p n T) z mo (.im (.lst (L.map (enU p H)))) (stepsD p n H) x5 x6 x7 x8) = .ok (.lst (L.map (enU p H))) (TC21 (codeD CC p n T) z mo (.im (.lst (L.map (enU p H)))) (stepsD p n H) x5 x6 x7 x8) := rfl
    by_cases hL : L = []
    · subst hL
      refine ⟨D, w, mo, x5, x6, x7, ?_, hI, hD⟩
      conv => lhs; unfold whl
      rw [truT_run, v3, R.bind_ok]
      rfl
    · have hm0 : m ≠ 0 := fun e => hL (inv_stop hI (by omega))
      obtain ⟨mo1, y5, y6, y7, e1, h1⟩ := ct_run (CC := CC) (T := T) (z := z) (x5 := x5) (x6 := x6) (x7 := x7) (x8 := x8) hp hn hH hHl hpn hI hD
      obtain ⟨D', w', mo', z5, z6, z7, e2, h2, h3⟩ := ct_whl hp hn hH hHl hpn (m - 1) fuel (w + 1) _ _ mo1 y5 y6 y7 x8 (inv_step (by omega) hH hI) h1 (by omega) (by omega)
      refine ⟨D', w', mo', z5, z6, z7, ?_, h2, h3⟩
      have htr : truO (.lst (L.map (enU p H))) = some true := by
        show some (!(L.map (enU p H)).isEmpty) = _
        have : (L.map (enU p H)).isEmpty = false := by simpa using hL
        rw [this]
        rfl
      conv => lhs; unfold whl
      rw [truT_run, v3, R.bind_ok, htr, R.of_some, R.stmt_ok, if_pos rfl, e1]
      exact e2
def HoldsF (mo : List Mo) (D : Tb) : Prop := ∃ kvs : List (List Int × Nat), mo[1]? = some (.ob (.dm kvs)) ∧ Paired (fun (q : List Int × Nat) (d : List Int × List (List Int)) => q.1 = d.1 ∧ (mo[q.2]? = some (.ob (.ls (d.2.map Wd))) ∨ mo[q.2]? = some (.fz (.lst (d.2.map Wd))))) kvs D
theorem HoldsD.f {mo : List Mo} {D : Tb} (h : HoldsD mo D) : HoldsF mo D := by
  obtain ⟨kvs, h1, h2, _⟩ := h
  exact ⟨kvs, h1, h2.mono fun q d z => ⟨z.1, .inl z.2⟩⟩
theorem look_cD {G : List Int × Nat → List Int × List (List Int) → Prop} {s : List Int} : ∀ {kvs : List (List Int × Nat)} {D : Tb}, Paired (fun q d => q.1 = d.1 ∧ G q d) kvs D → s ∈ D.map (·.1) → ∃ j, lookD kvs s = some j ∧ ∃ d, G (s, j) d ∧ cD D s = d.2
  | _, _, .nil, h => by cases h
  | q :: kvs, d :: D, .cons z t, h => by
    by_cases e : d.1 = s
    · have e2 : q.1 = s := by rw [z.1, e]
      refine ⟨q.2, ?_, d, ?_, ?_⟩
      · unfold lookD
        rw [List.find?_cons_of_pos (by simp [e2])]
        rfl
      · have : (s, q.2) = q := by rw [← e2]
        rw [this]
        exact z.2
      · unfold cD
        rw [List.find?_cons_of_pos (by simp [e])]
        rfl
    · have e2 : ¬ q.1 = s := fun x => e (by rw [← z.1, x])
      rw [List.map_cons, List.mem_cons] at h
      obtain ⟨j, h1, d', h2, h3⟩ := look_cD t (h.resolve_left fun x => e x.symm)
      refine ⟨j, ?_, d', h2, ?_⟩
      · unfold lookD at h1 ⊢
        rw [List.find?_cons_of_neg (by simp [e2])]
        exact h1
      · unfold cD at h3 ⊢
        rw [List.find?_cons_of_neg (by simp [e])]
        exact h3
theorem ixDM_run {S : Ms} {D : Tb} {f : Ms → R Dt} {s : List Int} (hS : S.sl[2]? = some (.mu 1)) (h : HoldsF S.mo D) (hs : s ∈ D.map (·.1)) (hf : f S = .ok (Wd s) S) : ∃ mo', ixDM 2 f S = .ok (.lst ((cD D s).map Wd)) { sl := S.sl, mo := mo' } ∧ HoldsF mo' D := by
  obtain ⟨kvs, h1, h2⟩ := h
  have hdm : dmAt S 2 = some (1, kvs) := by unfold dmAt; rw [hS]; dsimp only; rw [h1]
  obtain ⟨j, g1, d, g2, g3⟩ := look_cD h2 hs
  unfold ixDM
  rw [hdm]
  dsimp only
  rw [hf, R.bind_ok, wordOf_Wd, hdm]
  dsimp only
  rw [g1, g3]
  dsimp only
  rcases g2 with g2 | g2
  · dsimp only at g2
    have hj1 : j ≠ 1 := fun e => by rw [e, h1] at g2; cases g2
    rw [g2]
    refine ⟨S.mo.set j (.fz (.lst (d.2.map Wd))), rfl, kvs, by rw [List.getElem?_set_ne hj1]; exact h1, h2.mono fun q e z => ⟨z.1, ?_⟩⟩
    by_cases hq : q.2 = j
    · rw [hq] at z ⊢
      have hlt := (List.getElem?_eq_some_iff.mp g2).1
      rw [List.getElem?_set_self hlt]
      rcases z.2 with z2 | z2
      · rw [g2] at z2
        have e3 : d.2.map Wd = e.2.map Wd := by
          injection z2 with z3
          injection z3 with z4
          injection z4
        right
        rw [e3]
      · rw [g2] at z2
        cases z2
    · rw [List.getElem?_set_ne (fun e => hq e.symm)]
      exact z.2
  · dsimp only at g2
    rw [g2]
    exact ⟨S.mo, rfl, kvs, h1, h2⟩
end
theorem lcF_inv {α : Type} {sl : List Sv} {k : Dt → Ms → Option Ms} {e : Ms → R Dt} {I : List Mo → Prop} (enc : α → Dt) (g : α → Dt) : ∀ (xs : List α) (acc : List Dt) (mo : List Mo), I mo →
    (∀ x ∈ xs, ∀ mo, I mo → ∃ T1, k (enc x) { sl := sl, mo := mo } = some T1 ∧ ∃ T3, e T1 = .ok (g x) T3 ∧ I T3.mo) → acc.length + xs.length ≤ 100000 → ∃ mo', lcF sl k yesT e (xs.map enc) mo acc = .ok (acc ++ xs.map g) { sl := sl, mo := mo' } ∧ I mo'
  | [], acc, mo, hI, _, _ => ⟨mo, by simp [lcF], hI⟩
  | x :: xs, acc, mo, hI, h, hl => by
    obtain ⟨T1, h1, T3, h2, h3⟩ := h x (List.mem_cons_self ..) mo hI
    rw [List.length_cons] at hl
    obtain ⟨mo', h4, h5⟩ := lcF_inv enc g xs (acc ++ [g x]) T3.mo h3 (fun y hy => h y (List.mem_cons_of_mem _ hy)) (by rw [List.length_append]; simp; omega)
    refine ⟨mo', ?_, h5⟩
    rw [List.map_cons, lcF, h1]
    dsimp only [yesT]
    rw [h2]
    dsimp only
    rw [if_pos (by omega)]
    rw [h4, List.append_assoc]
    rfl
def cosD (p : Int) (n : Nat) (H : List (List Int)) : Dt := .tup ((allN p H.length).map fun s => .tup [Wd s, TD (ldL p n H s)])
theorem one21 {l : List (List Int)} (hn : l.Nodup) (h : ∀ a ∈ l, ∀ b ∈ l, a = b) : l.length ≤ 1 := by
  match l, hn, h with
  | [], _, _ => exact Nat.zero_le _
  | [_], _, _ => exact Nat.le_refl _
  | a :: b :: r, hn, h =>
    rw [List.nodup_cons] at hn
    exact absurd (List.mem_cons.mpr (.inl (h a (by simp) b (by simp)))) hn.1
theorem Fcosets_run {CC CM CR : Addr} {p : Int} {n : Nat} {rows T W : List (List Int)} (hp : isP p = true) (hn : n ≤ 12) (h : okR p n rows) (hc : CodeOf p n rows T W) (hpn : p.toNat ^ n ≤ 1000) : Fcosets CC CM CR [codeD CC p n T] = .ok (cosD p n (kerL p n (redN p T n))) := by
  have hcs := isP_cases hp
  have hp0 : 0 < p := by omega
  have h1 := code_p CC p n T
  have h2 := code_n CC p n T
  have h3 := code_k CC p n T
  have hTl := hc.len
  have hHo : okR p n (kerL p n (redN p T n)) := kerL_ok hp (by omega) _
  have hHl : (kerL p n (redN p T n)).length ≤ n := kerL_len _
  have hst5 := Fsteps_run (CC := CC) (T := T) hp (by omega : n ≤ 900) rfl
  have hsyz : ∀ v, ok1 p n v → Fsynd CC CM [codeD CC p n T, Wd v] = .ok (Wd (synd p (kerL p n (redN p T n)) v)) := fun v hv => Fsynd_run hp (by omega) rfl hv
  have hks := fun (D : Tb) => keys_sort (D := D) hp (by omega : n ≤ 1000) hc.okT
  generalize kerL p n (redN p T n) = H at *
  have hz0 : ok1 p n (List.replicate n 0) := ⟨okW_iff.mpr ⟨by rw [List.length_replicate]; omega, fun x hx => by rw [List.eq_of_mem_replicate hx]; omega⟩, List.length_replicate ..⟩
  have hsz := hsyz _ hz0
  have hst : st0 9 [codeD CC p n T] = { sl := [.im (codeD CC p n T), .no, .no, .no, .no, .no, .no, .no, .no], mo := [] } := rfl
  -- not too large
  have e0 : (ifS (tst (op2 (funE 2 (aCons (fldE CC "p" (varE 0)) (aCons (op2 (fldE CC "n" (varE 0)) (fldE CC "k" (varE 0)) subO) aNil)) Fpow) (cE (.int 4096)) gtO)) (raiseS ⟨CR, ["reason"], [.str "large"]⟩) nilS) { sl := [.im (codeD CC p n T), .no, .no, .no, .no, .no, .no, .no, .no], mo := [] } = .nx { sl := [.im (codeD CC p n T), .no, .no, .no, .no, .no, .no, .no, .no], mo := [] } := by
    have v0 : varE 0 { sl := [.im (codeD CC p n T), .no, .no, .no, .no, .no, .no, .no, .no], mo := [] } = .ok (codeD CC p n T) { sl := [.im (codeD CC p n T), .no, .no, .no, .no, .no, .no, .no, .no], mo := [] } := rfl
    have hsub : subO (.int (n : Int)) (.int (T.length : Int)) = some (.int ((n : Int) - (T.length : Int))) := rfl
    have hpw := Fpow_run (a := p) (k := (n : Int) - (T.length : Int)) (by omega) (by omega)
    have hle : p ^ ((n : Int) - (T.length : Int)).toNat ≤ 4096 := by
      have e : ((n : Int) - (T.length : Int)).toNat ≤ n := by omega
      obtain ⟨m, hm⟩ : ∃ m : Nat, p = (m : Int) := ⟨p.toNat, by omega⟩
      have h9 : p.toNat ^ ((n : Int) - (T.length : Int)).toNat ≤ 1000 := Nat.le_trans (Nat.pow_le_pow_right (by omega) e) hpn
      rw [hm] at h9 ⊢
      rw [Int.toNat_natCast] at h9
      have : ((m : Int) ^ ((n : Int) - (T.length : Int)).toNat) = ((m ^ ((n : Int) - (T.length : Int)).toNat : Nat) : Int) := by rw [Int.natCast_pow]
      rw [this]
      omega
    have hgt : gtO (.int (p ^ ((n : Int) - (T.length : Int)).toNat)) (.int 4096) = some (.bl false) := by
      show some (Dt.bl (decide (p ^ ((n : Int) - (T.length : Int)).toNat > 4096))) = _
      rw [decide_eq_false (by omega)]
    generalize ({ sl := [.im (codeD CC p n T), .no, .no, .no, .no, .no, .no, .no, .no], mo := [] } : Ms) = U at *
    simp only [ifS_run, tst_run', op2_run, funE_run, aCons_run, aNil_run, fldE_run', cE_run, v0, h1, h2, h3, hsub, R.bind_ok, R.of_some, List.length_cons, List.length_nil, Nat.zero_add, Nat.reduceAdd, if_true, hpw, hgt, Bool.false_eq_true, if_false, R.stmt_ok]
    rfl
  have e1 : (asgS 1 (op2 (tupE (aCons (cE (.int 0)) aNil)) (fldE CC "n" (varE 0)) repT)) { sl := [.im (codeD CC p n T), .no, .no, .no, .no, .no, .no, .no, .no], mo := [] } = .nx { sl := [.im (codeD CC p n T), .im (Wd (List.replicate n 0)), .no, .no, .no, .no, .no, .no, .no], mo := [] } := by
    have v0 : varE 0 { sl := [.im (codeD CC p n T), .no, .no, .no, .no, .no, .no, .no, .no], mo := [] } = .ok (codeD CC p n T) { sl := [.im (codeD CC p n T), .no, .no, .no, .no, .no, .no, .no, .no], mo := [] } := rfl
    have hr : repT (.tup [.int 0]) (.int (n : Int)) = some (Wd (List.replicate n 0)) := by
      unfold repT
      dsimp only
      rw [if_pos ⟨by simp, by simp, by omega, by omega⟩, Int.toNat_natCast]
      unfold Wd
      rw [List.map_replicate]
      have : ∀ m : Nat, (List.replicate m [Dt.int 0]).flatten = List.replicate m (Dt.int 0) := by
        intro m
        induction m with
        | zero => rfl
        | succ m ih => rw [List.replicate_succ, List.flatten_cons, ih]; rfl
      rw [this]
    have key : (op2 (tupE (aCons (cE (.int 0)) aNil)) (fldE CC "n" (varE 0)) repT) { sl := [.im (codeD CC p n T), .no, .no, .no, .no, .no, .no, .no, .no], mo := [] } = .ok (Wd (List.replicate n 0)) { sl := [.im (codeD CC p n T), .no, .no, .no, .no, .no, .no, .no, .no], mo := [] } := by
      generalize ({ sl := [.im (codeD CC p n T), .no, .no, .no, .no, .no, .no, .no, .no], mo := [] } : Ms) = U at *
      simp only [op2_run, tupE_run, aCons_run, aNil_run, cE_run, fldE_run', v0, h2, hr, R.bind_ok, R.of_some, List.length_cons, List.length_nil, Nat.zero_add, Nat.reduceLeDiff, if_true]
    rw [asgS_run', key]
    rfl
  have hmz : ∀ S : Ms, varE 0 S = .ok (codeD CC p n T) S → varE 1 S = .ok (Wd (List.replicate n 0)) S → metE CC "syndrome" 2 (varE 0) (aCons (varE 1) aNil) (Fsynd CC CM) S = .ok (Wd (synd p H (List.replicate n 0))) S := fun S g0 g1 => metE_run g0 (by decide +kernel) (show aCons (varE 1) aNil S = .ok [Wd (List.replicate n 0)] S by rw [aCons_run, g1]; rfl) rfl hsz
  have e2 : (asgDM 2 (metE CC "syndrome" 2 (varE 0) (aCons (varE 1) aNil) (Fsynd CC CM)) (lstE (aCons (varE 1) aNil))) { sl := [.im (codeD CC p n T), .im (Wd (List.replicate n 0)), .no, .no, .no, .no, .no, .no, .no], mo := [] } = .nx { sl := [.im (codeD CC p n T), .im (Wd (List.replicate n 0)), .mu 1, .no, .no, .no, .no, .no, .no], mo := [.ob (.ls [Wd (List.replicate n 0)]), .ob (.dm [(synd p H (List.replicate n 0), 0)])] } := by
    unfold asgDM
    rw [hmz _ rfl rfl, R.stmt_ok]
    have : lstE (aCons (varE 1) aNil) { sl := [.im (codeD CC p n T), .im (Wd (List.replicate n 0)), .no, .no, .no, .no, .no, .no, .no], mo := [] } = .ok [Wd (List.replicate n 0)] { sl := [.im (codeD CC p n T), .im (Wd (List.replicate n 0)), .no, .no, .no, .no, .no, .no, .no], mo := [] } := rfl
    rw [this, R.stmt_ok, wordOf_Wd]
    rfl
  have hD0 : HoldsD [.ob (.ls [Wd (List.replicate n 0)]), .ob (.dm [(synd p H (List.replicate n 0), 0)])] [(synd p H (List.replicate n 0), [List.replicate n 0])] := ⟨[(synd p H (List.replicate n 0), 0)], rfl, .cons ⟨rfl, rfl⟩ .nil, by simp⟩
  have e3 : (asgS 3 (frz (lstE (aCons (tupE (aCons (varE 1) (aCons (metE CC "syndrome" 2 (varE 0) (aCons (varE 1) aNil) (Fsynd CC CM)) aNil))) aNil)))) { sl := [.im (codeD CC p n T), .im (Wd (List.replicate n 0)), .mu 1, .no, .no, .no, .no, .no, .no], mo := [.ob (.ls [Wd (List.replicate n 0)]), .ob (.dm [(synd p H (List.replicate n 0), 0)])] } = .nx { sl := [.im (codeD CC p n T), .im (Wd (List.replicate n 0)), .mu 1, .im (.lst ([List.replicate n 0].map (enU p H))), .no, .no, .no, .no, .no], mo := [.ob (.ls [Wd (List.replicate n 0)]), .ob (.dm [(synd p H (List.replicate n 0), 0)])] } := by
    have v1 : varE 1 { sl := [.im (codeD CC p n T), .im (Wd (List.replicate n 0)), .mu 1, .no, .no, .no, .no, .no, .no], mo := [.ob (.ls [Wd (List.replicate n 0)]), .ob (.dm [(synd p H (List.replicate n 0), 0)])] } = .ok (Wd (List.replicate n 0)) { sl := [.im (codeD CC p n T), .im (Wd (List.replicate n 0)), .mu 1, .no, .no, .no, .no, .no, .no], mo := [.ob (.ls [Wd (List.replicate n 0)]), .ob (.dm [(synd p H (List.replicate n 0), 0)])] } := rfl
    have hm := hmz { sl := [.im (codeD CC p n T), .im (Wd (List.replicate n 0)), .mu 1, .no, .no, .no, .no, .no, .no], mo := [.ob (.ls [Wd (List.replicate n 0)]), .ob (.dm [(synd p H (List.replicate n 0), 0)])] } rfl v1
    have key : (frz (lstE (aCons (tupE (aCons (varE 1) (aCons (metE CC "syndrome" 2 (varE 0) (aCons (varE 1) aNil) (Fsynd CC CM)) aNil))) aNil))) { sl := [.im (codeD CC p n T), .im (Wd (List.replicate n 0)), .mu 1, .no, .no, .no, .no, .no, .no], mo := [.ob (.ls [Wd (List.replicate n 0)]), .ob (.dm [(synd p H (List.replicate n 0), 0)])] } = .ok (.lst [enU p H (List.replicate n 0)]) { sl := [.im (codeD CC p n T), .im (Wd (List.replicate n 0)), .mu 1, .no, .no, .no, .no, .no, .no], mo := [.ob (.ls [Wd (List.replicate n 0)]), .ob (.dm [(synd p H (List.replicate n 0), 0)])] } := by
      generalize ({ sl := [.im (codeD CC p n T), .im (Wd (List.replicate n 0)), .mu 1, .no, .no, .no, .no, .no, .no], mo := [.ob (.ls [Wd (List.replicate n 0)]), .ob (.dm [(synd p H (List.replicate n 0), 0)])] } : Ms) = U at *
      simp only [frz_run', lstE_run, aCons_run, aNil_run, tupE_run, v1, hm, R.bind_ok, List.length_cons, List.length_nil, Nat.zero_add, Nat.reduceAdd, Nat.reduceLeDiff, if_true]
      rfl
    rw [asgS_run', key]
    rfl
  have e4 : (asgS 4 (funE 1 (aCons (varE 0) aNil) (Fsteps CC))) { sl := [.im (codeD CC p n T), .im (Wd (List.replicate n 0)), .mu 1, .im (.lst ([List.replicate n 0].map (enU p H))), .no, .no, .no, .no, .no], mo := [.ob (.ls [Wd (List.replicate n 0)]), .ob (.dm [(synd p H (List.replicate n 0), 0)])] } = .nx (TC21 (codeD CC p n T) (List.replicate n 0) [.ob (.ls [Wd (List.replicate n 0)]), .ob (.dm [(synd p H (List.replicate n 0), 0)])] (.im (.lst ([List.replicate n 0].map (enU p H)))) (stepsD p n H) .no .no .no .no) := by
    have v0 : varE 0 { sl := [.im (codeD CC p n T), .im (Wd (List.replicate n 0)), .mu 1, .im (.lst ([List.replicate n 0].map (enU p H))), .no, .no, .no, .no, .no], mo := [.ob (.ls [Wd (List.replicate n 0)]), .ob (.dm [(synd p H (List.replicate n 0), 0)])] } = .ok (codeD CC p n T) { sl := [.im (codeD CC p n T), .im (Wd (List.replicate n 0)), .mu 1, .im (.lst ([List.replicate n 0].map (enU p H))), .no, .no, .no, .no, .no], mo := [.ob (.ls [Wd (List.replicate n 0)]), .ob (.dm [(synd p H (List.replicate n 0), 0)])] } := rfl
    rw [asgS_run', funE_run, aCons_run, v0, R.bind_ok, aNil_run, R.bind_ok, R.bind_ok]
    dsimp only [List.length_cons, List.length_nil]
    rw [if_pos rfl, hst5]
    rfl
  obtain ⟨D', w', mo', y5, y6, y7, e5, hI, hD⟩ := ct_whl (CC := CC) (T := T) (z := List.replicate n 0) hp hn hHo (by omega) hpn (n + 1) 64 0 _ _ _ .no .no .no .no (inv_zero (H := H) hp0 (by omega)) hD0 (by omega) (by omega)
  have hkey := inv_end hp0 hHo hI
  have hkeys := hks D' hI.nd hkey
  have v7 : ∀ (s : List Int) (mo : List Mo), varE 7 { sl := (wipeL (TC21 (codeD CC p n T) (List.replicate n 0) mo' (.im (.lst [])) (stepsD p n H) y5 y6 y7 .no).sl [7]).set 7 (.im (Wd s)), mo := mo } = .ok (Wd s) { sl := (wipeL (TC21 (codeD CC p n T) (List.replicate n 0) mo' (.im (.lst [])) (stepsD p n H) y5 y6 y7 .no).sl [7]).set 7 (.im (Wd s)), mo := mo } := fun s mo => rfl
  have hko := keysOf_hd (S := TC21 (codeD CC p n T) (List.replicate n 0) mo' (.im (.lst [])) (stepsD p n H) y5 y6 y7 .no) rfl hD
  have hklen : ∀ s ∈ D'.map (·.1), s.length = H.length := fun s hs => by
    obtain ⟨x, hx, rfl⟩ := (hkey s).mp hs
    exact (synd_ok1 hp0 (by omega)).2
  have hsk : sortK 2 (TC21 (codeD CC p n T) (List.replicate n 0) mo' (.im (.lst [])) (stepsD p n H) y5 y6 y7 .no) = .ok ((allN p H.length).map Wd) (TC21 (codeD CC p n T) (List.replicate n 0) mo' (.im (.lst [])) (stepsD p n H) y5 y6 y7 .no) := by
    unfold sortK
    rw [hko]
    dsimp only
    rw [if_pos, hkeys]
    by_cases hH0 : H.length = 0
    · left
      refine one21 hI.nd fun a ha b hb => ?_
      have e1 := hklen a ha
      have e2 := hklen b hb
      rw [hH0] at e1 e2
      rw [List.eq_nil_of_length_eq_zero e1, List.eq_nil_of_length_eq_zero e2]
    · right
      intro w hw
      have e1 := hklen w hw
      cases hk : D'.map (·.1) with
      | nil => rw [hk] at hw; cases hw
      | cons x r =>
        have e2 := hklen x (by rw [hk]; exact List.mem_cons_self ..)
        rw [List.headD_cons]
        omega
  have hall : (allN p H.length).length ≤ 1000 := by
    rw [allN_len]
    exact Nat.le_trans (Nat.pow_le_pow_right (by omega) hHl) hpn
  obtain ⟨mo2, e6, _⟩ := lcF_inv (sl := wipeL (TC21 (codeD CC p n T) (List.replicate n 0) mo' (.im (.lst [])) (stepsD p n H) y5 y6 y7 .no).sl [7]) (k := (Tk.nm 7).k) (e := (tupE (aCons (varE 7) (aCons (calE (aCons (frz (calN (aCons (ixDM 2 (varE 7)) aNil) sortO2)) aNil) tupO) aNil)))) (I := fun mo => HoldsF mo D') Wd (fun s => .tup [Wd s, TD (ldL p n H s)]) (allN p H.length) [] mo' hD.f (fun s hs mo hmo => by
    have hsk : s ∈ D'.map (·.1) := by
      rw [hkey]
      have : s ∈ sortW (D'.map (·.1)) := by rw [hkeys]; exact hs
      exact (hkey s).mp ((List.mergeSort_perm _ _).mem_iff.mp this)
    obtain ⟨mo3, g1, g2⟩ := ixDM_run (S := { sl := (wipeL (TC21 (codeD CC p n T) (List.replicate n 0) mo' (.im (.lst [])) (stepsD p n H) y5 y6 y7 .no).sl [7]).set 7 (.im (Wd s)), mo := mo }) (f := varE 7) (s := s) rfl hmo hsk (v7 s mo)
    have hcn := hI.cnt s hsk
    have hld := ld_sort (by omega : n ≤ 1000) hcn.1 hcn.2
    have hso := sortO2_run (ws := cD D' s) (n := n) (fun w hw => ((hcn.2 w).mp hw).1.1.2)
    rw [hld] at hso
    refine ⟨{ sl := (wipeL (TC21 (codeD CC p n T) (List.replicate n 0) mo' (.im (.lst [])) (stepsD p n H) y5 y6 y7 .no).sl [7]).set 7 (.im (Wd s)), mo := mo }, rfl, { sl := (wipeL (TC21 (codeD CC p n T) (List.replicate n 0) mo' (.im (.lst [])) (stepsD p n H) y5 y6 y7 .no).sl [7]).set 7 (.im (Wd s)), mo := mo3 }, ?_, g2⟩
    have w7 := v7 s mo
    generalize (wipeL (TC21 (codeD CC p n T) (List.replicate n 0) mo' (.im (.lst [])) (stepsD p n H) y5 y6 y7 .no).sl [7]).set 7 (.im (Wd s)) = sl at *
    have htp : tupO [.lst ((ldL p n H s).map Wd)] = some (TD (ldL p n H s)) := rfl
    simp only [tupE_run, aCons_run, aNil_run, calE_run, calN_run, frz_run', w7, g1, hso, htp, R.bind_ok, R.of_some, List.length_cons, List.length_nil, Nat.zero_add, Nat.reduceAdd, Nat.reduceLeDiff, if_true]) (by simp; omega)
  have e7 : lcE (itS (frz (sortK 2))) (Tk.nm 7).k yesT (tupE (aCons (varE 7) (aCons (calE (aCons (frz (calN (aCons (ixDM 2 (varE 7)) aNil) sortO2)) aNil) tupO) aNil))) [7] (TC21 (codeD CC p n T) (List.replicate n 0) mo' (.im (.lst [])) (stepsD p n H) y5 y6 y7 .no) = .ok ((allN p H.length).map fun s => Dt.tup [Wd s, TD (ldL p n H s)]) (TC21 (codeD CC p n T) (List.replicate n 0) mo2 (.im (.lst [])) (stepsD p n H) y5 y6 y7 .no) := by
    unfold lcE
    rw [itS_run, frz_run', hsk, R.bind_ok, R.bind_ok, seqOf_lst, R.of_some, R.bind_ok]
    have : (TC21 (codeD CC p n T) (List.replicate n 0) mo' (.im (.lst [])) (stepsD p n H) y5 y6 y7 .no).mo = mo' := rfl
    rw [this, e6, R.bind_ok, List.nil_append]
    rfl
  unfold Fcosets runD m21_cosets
  rw [hst, seqS_run, e0, seq_nx, seqS_run, e1, seq_nx, seqS_run, e2, seq_nx, seqS_run, e3, seq_nx, seqS_run, e4, seq_nx, seqS_run]
  have hwh : (whileS (fun _ => 64) (truT (varE 3)) (seqS (asgN 5 (lcE2 (itS (varE 3)) (Tk.tp [6, 7]).k yesT (itS (funE 4 (aCons (varE 6) (aCons (varE 7) (aCons (varE 4) (aCons (fldE CC "p" (varE 0)) aNil)))) Flonger)) (Tk.nm 8).k yesT (varE 8) [6, 7, 8] [8]))
  (seqS (asgS 3 (frz (lcE (itS (varE 5)) (Tk.tp [6, 7]).k (tst (inK true 2 (varE 7))) (tupE (aCons (varE 6) (aCons (varE 7) aNil))) [6, 7])))
  (forS (itS (varE 3)) (Tk.tp [6, 7]).k (sdaS 2 (varE 7) (varE 6)))))) (TC21 (codeD CC p n T) (List.replicate n 0) [.ob (.ls [Wd (List.replicate n 0)]), .ob (.dm [(synd p H (List.replicate n 0), 0)])] (.im (.lst ([List.replicate n 0].map (enU p H)))) (stepsD p n H) .no .no .no .no) = .nx (TC21 (codeD CC p n T) (List.replicate n 0) mo' (.im (.lst [])) (stepsD p n H) y5 y6 y7 .no) := e5
  rw [hwh, seq_nx, retS_run, calE_run, aCons_run, frz_run', e7, R.bind_ok, R.bind_ok, aNil_run, R.bind_ok, R.bind_ok]
  have htp : tupO [.lst ((allN p H.length).map fun s => Dt.tup [Wd s, TD (ldL p n H s)])] = some (cosD p n H) := rfl
  rw [htp, R.of_some, R.stmt_ok]
  rfl
theorem Fcosets_large {CC CM CR : Addr} {p : Int} {n : Nat} {T : List (List Int)} (hp : isP p = true) (hn : n ≤ 12) (hT : T.length ≤ n) (hk : 4096 < p ^ (n - T.length)) : Fcosets CC CM CR [codeD CC p n T] = .er ⟨CR, ["reason"], [.str "large"]⟩ := by
  have hcs := isP_cases hp
  have h1 := code_p CC p n T
  have h2 := code_n CC p n T
  have h3 := code_k CC p n T
  have hst : st0 9 [codeD CC p n T] = { sl := [.im (codeD CC p n T), .no, .no, .no, .no, .no, .no, .no, .no], mo := [] } := rfl
  have v0 : varE 0 { sl := [.im (codeD CC p n T), .no, .no, .no, .no, .no, .no, .no, .no], mo := [] } = .ok (codeD CC p n T) { sl := [.im (codeD CC p n T), .no, .no, .no, .no, .no, .no, .no, .no], mo := [] } := rfl
  have hsub : subO (.int (n : Int)) (.int (T.length : Int)) = some (.int ((n : Int) - (T.length : Int))) := rfl
  have hpw := Fpow_run (a := p) (k := (n : Int) - (T.length : Int)) (by omega) (by omega)
  have e : ((n : Int) - (T.length : Int)).toNat = n - T.length := by omega
  rw [e] at hpw
  have hgt : gtO (.int (p ^ (n - T.length))) (.int 4096) = some (.bl true) := by
    show some (Dt.bl (decide (p ^ (n - T.length) > 4096))) = _
    rw [decide_eq_true (by omega)]
  have hr : ∀ S, raiseS ⟨CR, ["reason"], [.str "large"]⟩ S = .er ⟨CR, ["reason"], [.str "large"]⟩ S := fun _ => rfl
  unfold Fcosets runD m21_cosets
  rw [hst]
  generalize ({ sl := [.im (codeD CC p n T), .no, .no, .no, .no, .no, .no, .no, .no], mo := [] } : Ms) = U at *
  simp only [seqS_run, ifS_run, tst_run', op2_run, funE_run, aCons_run, aNil_run, fldE_run', cE_run, v0, h1, h2, h3, hsub, R.bind_ok, R.of_some, List.length_cons, List.length_nil, Nat.zero_add, Nat.reduceAdd, if_true, hpw, hgt, R.stmt_ok, hr]
  rfl
theorem mulO_c {a b : Int} (h : CMul a b) : mulO (.int a) (.int b) = some (.int (a * b)) := if_pos h
def enC (p : Int) (n : Nat) (H : List (List Int)) (s : List Int) : Dt := .tup [Wd s, TD (ldL p n H s)]
theorem ld_ne {p : Int} {n : Nat} {rows T W : List (List Int)} {s : List Int} (hp : isP p = true) (hn : n ≤ 12) (h : okR p n rows) (hc : CodeOf p n rows T W) (hs : s ∈ allN p (kerL p n (redN p T n)).length) : ∃ u r, ldL p n (kerL p n (redN p T n)) s = u :: r ∧ Lead p n (kerL p n (redN p T n)) u ∧ synd p (kerL p n (redN p T n)) u = s := by
  have hHl : (kerL p n (redN p T n)).length ≤ n := kerL_len _
  obtain ⟨x, h1, h2⟩ := synd_onto hp (by omega : n ≤ 1000) hc.okT ((ok_all (by omega)).mp hs)
  obtain ⟨u, h3, h4⟩ := has_lead (H := kerL p n (redN p T n)) x h1
  cases hl : ldL p n (kerL p n (redN p T n)) s with
  | nil =>
    have := (mem_ldL (by omega : n ≤ 1000)).mpr ⟨h3, h4.trans h2⟩
    rw [hl] at this
    cases this
  | cons v r =>
    have := (mem_ldL (p := p) (H := kerL p n (redN p T n)) (s := s) (u := v) (by omega : n ≤ 1000)).mp (by rw [hl]; exact List.mem_cons_self ..)
    exact ⟨v, r, rfl, this⟩
def ldwS (p : Int) (n : Nat) (H : List (List Int)) (s : List Int) : Nat := wtW ((ldL p n H s).headD [])
theorem Fcovrad_run {CC CM CR : Addr} {p : Int} {n : Nat} {rows T W : List (List Int)} {m : Int} (hp : isP p = true) (hn : n ≤ 12) (h : okR p n rows) (hc : CodeOf p n rows T W) (hpn : p.toNat ^ n ≤ 1000) (hm : maxF ((allN p (kerL p n (redN p T n)).length).map fun s => (ldwS p n (kerL p n (redN p T n)) s : Int)) = some m) : Fcovrad CC CM CR [codeD CC p n T] = .ok (.int m) := by
  have hcs := isP_cases hp
  have hf := Fcosets_run (CC := CC) (CM := CM) (CR := CR) hp hn h hc hpn
  have hHl : (kerL p n (redN p T n)).length ≤ n := kerL_len _
  have hne := fun s hs => ld_ne (s := s) hp hn h hc hs
  generalize kerL p n (redN p T n) = H at *
  have hall : (allN p H.length).length ≤ 1000 := by
    rw [allN_len]
    exact Nat.le_trans (Nat.pow_le_pow_right (by omega) hHl) hpn
  have hst : st0 3 [codeD CC p n T] = { sl := [.im (codeD CC p n T), .no, .no], mo := [] } := rfl
  have hit : itS (funE 1 (aCons (varE 0) aNil) (Fcosets CC CM CR)) { sl := [.im (codeD CC p n T), .no, .no], mo := [] } = .ok ((allN p H.length).map (enC p n H)) { sl := [.im (codeD CC p n T), .no, .no], mo := [] } := by
    have v0 : varE 0 { sl := [.im (codeD CC p n T), .no, .no], mo := [] } = .ok (codeD CC p n T) { sl := [.im (codeD CC p n T), .no, .no], mo := [] } := rfl
    generalize ({ sl := [.im (codeD CC p n T), .no, .no], mo := [] } : Ms) = U at *
    simp only [itS_run, funE_run, aCons_run, aNil_run, v0, R.bind_ok, List.length_cons, List.length_nil, Nat.zero_add, if_true, hf]
    rfl
  have key := lcE_map (k := (Tk.tp [1, 2]).k) (e := (funE 1 (aCons (op2 (varE 2) (cE (.int 0)) ixO) aNil) Fweight)) (own := [1, 2]) (enC p n H) (fun s => Dt.int (ldwS p n H s : Int)) (allN p H.length) hit (fun s hs => by
    obtain ⟨u, r, g1, g2, _⟩ := hne s hs
    have hw := Fweight_run (v := u) (by have := g2.1.2; omega)
    have hix : ixO (TD (ldL p n H s)) (.int 0) = some (Wd u) := by
      rw [g1]
      show atI (((u :: r).map Wd)) 0 = _
      unfold atI ixN
      simp
    have e : ldwS p n H s = wtW u := by unfold ldwS; rw [g1]; rfl
    let U : Ms := { sl := [.im (codeD CC p n T), .im (Wd s), .im (TD (ldL p n H s))], mo := [] }
    have v2 : varE 2 U = .ok (TD (ldL p n H s)) U := rfl
    refine ⟨U, rfl, U, ?_, rfl⟩
    clear_value U
    rw [e]
    simp only [funE_run, aCons_run, aNil_run, op2_run, cE_run, v2, hix, R.bind_ok, R.of_some, List.length_cons, List.length_nil, Nat.zero_add, if_true, hw]) (fun d T T' => Tk.mo) (by omega)
  unfold Fcovrad runD m21_covering_radius
  have e : ((allN p H.length).map fun s => Dt.int (ldwS p n H s : Int)) = ((allN p H.length).map fun s => (ldwS p n H s : Int)).map Dt.int := by rw [List.map_map]; rfl
  rw [hst, retS_run, calE_run, aCons_run, frz_run', key, e]
  simp only [R.bind_ok, aNil_run, maxLO_run, hm, Option.map_some, R.of_some, R.stmt_ok]
  rfl
theorem Fcountd_run {CC CM CR : Addr} {p : Int} {n : Nat} {rows T W : List (List Int)} (hp : isP p = true) (hn : n ≤ 12) (h : okR p n rows) (hc : CodeOf p n rows T W) (hpn : p.toNat ^ n ≤ 1000) : Fcountd CC CM CR [codeD CC p n T] = .ok (.int ((W.length : Int) * (((allN p (kerL p n (redN p T n)).length).filter fun s => decide ((ldL p n (kerL p n (redN p T n)) s).length = 1)).length : Int))) := by
  have hcs := isP_cases hp
  have hf := Fcosets_run (CC := CC) (CM := CM) (CR := CR) hp hn h hc hpn
  have hHl : (kerL p n (redN p T n)).length ≤ n := kerL_len _
  generalize kerL p n (redN p T n) = H at *
  have hall : (allN p H.length).length ≤ 1000 := by
    rw [allN_len]
    exact Nat.le_trans (Nat.pow_le_pow_right (by omega) hHl) hpn
  have hst : st0 3 [codeD CC p n T] = { sl := [.im (codeD CC p n T), .no, .no], mo := [] } := rfl
  have hit : itS (funE 1 (aCons (varE 0) aNil) (Fcosets CC CM CR)) { sl := [.im (codeD CC p n T), .no, .no], mo := [] } = .ok ((allN p H.length).map (enC p n H)) { sl := [.im (codeD CC p n T), .no, .no], mo := [] } := by
    have v0 : varE 0 { sl := [.im (codeD CC p n T), .no, .no], mo := [] } = .ok (codeD CC p n T) { sl := [.im (codeD CC p n T), .no, .no], mo := [] } := rfl
    generalize ({ sl := [.im (codeD CC p n T), .no, .no], mo := [] } : Ms) = U at *
    simp only [itS_run, funE_run, aCons_run, aNil_run, v0, R.bind_ok, List.length_cons, List.length_nil, Nat.zero_add, if_true, hf]
    rfl
  have key := lcE_flt (k := (Tk.tp [1, 2]).k) (t := (tst (op2 (calE (aCons (varE 2) aNil) lenO) (cE (.int 1)) eqO))) (e := (cE (.int 1))) (own := [1, 2]) (enC p n H) (fun s => decide ((ldL p n H s).length = 1)) (fun _ => Dt.int 1) (allN p H.length) hit (fun s hs => by
    let U : Ms := { sl := [.im (codeD CC p n T), .im (Wd s), .im (TD (ldL p n H s))], mo := [] }
    have v2 : varE 2 U = .ok (TD (ldL p n H s)) U := rfl
    have l1 := len_t7 (ldL p n H s)
    refine ⟨U, U, rfl, ?_, rfl, fun _ => ⟨U, rfl, rfl⟩⟩
    clear_value U
    have e : decide ((ldL p n H s).length = 1) = decide (((ldL p n H s).length : Int) = 1) := decide_eq_decide.mpr (by omega)
    rw [e]
    simp only [tst_run', op2_run, calE_run, aCons_run, aNil_run, cE_run, v2, l1, eqO_int, R.bind_ok, R.of_some]) (by omega)
  have hTl := hc.len
  have hsz := Fsize07_run (CC := CC) (n := n) (T := T) hp (by omega)
  have hmt : metE CC "size" 1 (varE 0) aNil (Fsize07 CC) { sl := [.im (codeD CC p n T), .no, .no], mo := [] } = .ok (.int (p ^ T.length)) { sl := [.im (codeD CC p n T), .no, .no], mo := [] } := metE_run (varE_im rfl) (by decide +kernel) rfl rfl hsz
  have hcd : p ^ T.length = (W.length : Int) := by
    rw [hc.crd]
    obtain ⟨m, hm⟩ : ∃ m : Nat, p = (m : Int) := ⟨p.toNat, by omega⟩
    rw [hm, Int.toNat_natCast, Int.natCast_pow]
  have hWl : W.length ≤ 1000 := by
    rw [hc.crd]
    exact Nat.le_trans (Nat.pow_le_pow_right (by omega) hTl) hpn
  have hfl := List.length_filter_le (fun s => decide ((ldL p n H s).length = 1)) (allN p H.length)
  unfold Fcountd runD m21_count_decided
  rw [hst, retS_run, op2_run, hmt, R.bind_ok, calE_run, aCons_run, frz_run', key, hcd]
  have hln : lenO [.lst (((allN p H.length).filter fun s => decide ((ldL p n H s).length = 1)).map fun _ => Dt.int 1)] = some (.int ((((allN p H.length).filter fun s => decide ((ldL p n H s).length = 1)).length : Nat) : Int)) := by
    show some (Dt.int ((((allN p H.length).filter fun s => decide ((ldL p n H s).length = 1)).map fun _ => Dt.int 1).length : Int)) = _
    rw [List.length_map]
  have hmul : mulO (.int (W.length : Int)) (.int ((((allN p H.length).filter fun s => decide ((ldL p n H s).length = 1)).length : Nat) : Int)) = some (.int ((W.length : Int) * ((((allN p H.length).filter fun s => decide ((ldL p n H s).length = 1)).length : Nat) : Int))) := by
    exact mulO_c (cmul_small (by omega) (by omega) _)
  simp only [R.bind_ok, aNil_run, hln, hmul, R.of_some, R.stmt_ok]
  rfl
def TR21 (C : Dt) (xs : List Dt) : Ms := { sl := [.im C, .mu 0, .no], mo := [.ob (.ls xs)] }
theorem try_R21 {CR : Addr} {C : Dt} {xs : List Dt} {x : Str} {f : List Dt → Fo} (h : f [C] = .er ⟨CR, ["reason"], [.str x]⟩) (hl : xs.length ≤ 100) : (tryX [⟨CR, [CR], [], (.ap "reason" 2 1)⟩] (dropS (funE 1 (aCons (varE 0) aNil) f))) (TR21 C xs) = .nx (TR21 C (xs ++ [.str x])) := by
  have e0 : dropS (funE 1 (aCons (varE 0) aNil) f) (TR21 C xs) = .er ⟨CR, ["reason"], [.str x]⟩ (TR21 C xs) := by
    have v0 : varE 0 (TR21 C xs) = .ok C (TR21 C xs) := rfl
    generalize TR21 C xs = U at *
    rw [dropS_run, funE_run, aCons_run, v0, R.bind_ok]
    simp only [R.bind_ok, aNil_run, List.length_cons, List.length_nil, Nat.zero_add, Nat.reduceAdd, if_true, h]
    rfl
  unfold tryX
  rw [e0]
  dsimp only
  unfold catchX
  rw [if_pos (List.mem_singleton.mpr rfl)]
  unfold runH
  dsimp only
  rw [if_pos ⟨rfl, by simp [TR21], by decide⟩]
  rw [muAt_run (k := 0) (xs := xs) rfl rfl]
  dsimp only
  rw [if_pos (by omega)]
  rfl
theorem Fcovrad_er {CC CM CR : Addr} {C : Dt} {e : Er} (h : Fcosets CC CM CR [C] = .er e) : Fcovrad CC CM CR [C] = .er e := by
  have hst : st0 3 [C] = { sl := [.im C, .no, .no], mo := [] } := rfl
  have v0 : varE 0 { sl := [.im C, .no, .no], mo := [] } = .ok C { sl := [.im C, .no, .no], mo := [] } := rfl
  unfold Fcovrad runD m21_covering_radius
  rw [hst]
  generalize ({ sl := [.im C, .no, .no], mo := [] } : Ms) = U at *
  have : lcE (itS (funE 1 (aCons (varE 0) aNil) (Fcosets CC CM CR))) (Tk.tp [1, 2]).k yesT (funE 1 (aCons (op2 (varE 2) (cE (.int 0)) ixO) aNil) Fweight) [1, 2] U = .er e U := by
    unfold lcE
    simp only [itS_run, funE_run, aCons_run, aNil_run, v0, R.bind_ok, List.length_cons, List.length_nil, Nat.zero_add, if_true, h, R.bind_er]
  rw [retS_run, calE_run, aCons_run, frz_run', this]
  rfl
theorem Fcountd_er {CC CM CR : Addr} {p : Int} {n : Nat} {T : List (List Int)} {e : Er} (hp : isP p = true) (hT : T.length ≤ 12) (h : Fcosets CC CM CR [codeD CC p n T] = .er e) : Fcountd CC CM CR [codeD CC p n T] = .er e := by
  have hst : st0 3 [codeD CC p n T] = { sl := [.im (codeD CC p n T), .no, .no], mo := [] } := rfl
  have v0 : varE 0 { sl := [.im (codeD CC p n T), .no, .no], mo := [] } = .ok (codeD CC p n T) { sl := [.im (codeD CC p n T), .no, .no], mo := [] } := rfl
  have hsz := Fsize07_run (CC := CC) (n := n) (T := T) hp hT
  have hmt : metE CC "size" 1 (varE 0) aNil (Fsize07 CC) { sl := [.im (codeD CC p n T), .no, .no], mo := [] } = .ok (.int (p ^ T.length)) { sl := [.im (codeD CC p n T), .no, .no], mo := [] } := metE_run (varE_im rfl) (by decide +kernel) rfl rfl hsz
  unfold Fcountd runD m21_count_decided
  rw [hst]
  generalize ({ sl := [.im (codeD CC p n T), .no, .no], mo := [] } : Ms) = U at *
  have : lcE (itS (funE 1 (aCons (varE 0) aNil) (Fcosets CC CM CR))) (Tk.tp [1, 2]).k (tst (op2 (calE (aCons (varE 2) aNil) lenO) (cE (.int 1)) eqO)) (cE (.int 1)) [1, 2] U = .er e U := by
    unfold lcE
    simp only [itS_run, funE_run, aCons_run, aNil_run, v0, R.bind_ok, List.length_cons, List.length_nil, Nat.zero_add, if_true, h, R.bind_er]
  rw [retS_run, op2_run, hmt, R.bind_ok, calE_run, aCons_run, frz_run', this]
  rfl
theorem Flreasons21_run {CC CM CR : Addr} {p : Int} (hp : isP p = true) (h3 : 3 ≤ p) : Flreasons21 CC CM CR [codeD CC p 12 []] = .ok (.lst [.str "large", .str "large", .str "large"]) := by
  have hl : 4096 < p ^ (12 - ([] : List (List Int)).length) := by
    have hcs := isP_cases hp
    rcases hcs with rfl | rfl | rfl | rfl
    · omega
    · decide
    · decide
    · decide
  have h := Fcosets_large (CC := CC) (CM := CM) (CR := CR) (T := []) hp (by decide) (by simp) hl
  have a1 : (asgN 1 (lstE aNil)) (st0 3 [codeD CC p 12 []]) = .nx (TR21 (codeD CC p 12 []) []) := rfl
  unfold Flreasons21 runD m21_law_reasons
  rw [seqS_run, a1, seq_nx, seqS_run, try_R21 h (by simp), seq_nx, seqS_run, try_R21 (Fcovrad_er h) (by simp), seq_nx, seqS_run, try_R21 (Fcountd_er hp (by simp) h) (by simp), seq_nx]
  rfl

end Lq

namespace Lq
open PySem PySem.Spec PyProof.Rows L2
def LX21 (a0 : Sv) (ms : List Mo) (a2 a3 a4 a5 a6 a7 a8 a9 a10 a11 a12 a13 a14 a15 a16 a17 a18 : Sv) : Ms := { sl := [a0, .mu 0, a2, a3, a4, a5, a6, a7, a8, a9, a10, a11, a12, a13, a14, a15, a16, a17, a18], mo := ms }
theorem sqT21 {m n : Ms → O} {S S' : Ms} (h : m S = .nx S') : seqS m n S = n S' := by rw [seqS_run, h]; rfl
theorem look_put {kvs : List (List Int × Dt)} {k s : List Int} {d : Dt} : lookD (putD kvs k d) s = if s = k then some d else lookD kvs s := by
  unfold putD
  split
  · rename_i h
    unfold lookD
    rw [List.find?_map]
    have e : ((fun q : List Int × Dt => decide (q.1 = s)) ∘ fun kv => if kv.1 = k then (kv.1, d) else kv) = fun q => decide (q.1 = s) := by
      funext q
      show decide ((if q.1 = k then (q.1, d) else q).1 = s) = _
      split <;> rfl
    rw [e]
    by_cases hsk : s = k
    · rw [if_pos hsk, hsk]
      cases hf : kvs.find? fun q => decide (q.1 = k) with
      | none =>
        obtain ⟨q, hq, e⟩ := List.any_eq_true.mp h
        exact absurd e (List.find?_eq_none.mp hf q hq)
      | some q =>
        have h0 := List.find?_some hf
        have h1 := of_decide_eq_true h0
        simp [h1]
    · rw [if_neg hsk]
      cases hf : kvs.find? fun q => decide (q.1 = s) with
      | none => rfl
      | some q =>
        have h0 := List.find?_some hf
        have h1 := of_decide_eq_true h0
        have h2 : ¬ q.1 = k := fun z => hsk (h1.symm.trans z)
        simp [h2]
  · rename_i h
    have hno : ∀ q ∈ kvs, ¬ q.1 = k := fun q hq e => h (List.any_eq_true.mpr ⟨q, hq, decide_eq_true e⟩)
    unfold lookD
    rw [List.find?_append]
    by_cases hsk : s = k
    · rw [if_pos hsk, hsk, List.find?_eq_none.mpr (fun q hq e => hno q hq (of_decide_eq_true e))]
      simp
    · rw [if_neg hsk]
      have : ¬ k = s := fun z => hsk z.symm
      simp [this]
theorem len_put (kvs : List (List Int × Dt)) (k : List Int) (d : Dt) : (putD kvs k d).length ≤ kvs.length + 1 := by
  unfold putD
  split
  · rw [List.length_map]; omega
  · rw [List.length_append]; simp
def fbL (p : Int) (n : Nat) (H : List (List Int)) (s : List Int) : List (List Int) := (allN p n).filter fun u => decide (synd p H u = s)
structure D21 (p : Int) (n : Nat) (ra T W H : List (List Int)) : Prop where
  c : C7 p n ra T W
  eH : H = kerL p n (redN p T n)
section
variable {p : Int} {n : Nat} {ra T W H : List (List Int)}
theorem D21.ok (h : D21 p n ra T W H) : okR p n H := by rw [h.eH]; exact kerL_ok h.c.hp (by have := h.c.hn; omega) _
theorem D21.hl (h : D21 p n ra T W H) : H.length + T.length = n := by
  rw [h.eH]
  exact checks_len h.c.hp (by have := h.c.hn; omega : n ≤ 1000) h.c.ha h.c.hc
theorem D21.pn (h : D21 p n ra T W H) : p.toNat ^ n ≤ 343 := (shp7_pow h.c.hs (Nat.le_refl n)).1
end

theorem k21_0 {ss : List Int} (h : ss.length ≤ 63) : (asgN 1 (funN 1 (aCons (varE 0) aNil) Fstate)) (st0 19 [scrD ss]) = .nx (LX21 (.im (scrD ss)) [.ob (.ls (stD (stL ss)))] .no .no .no .no .no .no .no .no .no .no .no .no .no .no .no .no .no) := by
  have hf := Fstate_run h
  have hst : st0 19 [scrD ss] = { sl := [.im (scrD ss), .no, .no, .no, .no, .no, .no, .no, .no, .no, .no, .no, .no, .no, .no, .no, .no, .no, .no], mo := [] } := rfl
  rw [hst]
  simp [funN, hf, LX21]
theorem k21_1 {ss : List Int} {q : Int × Int} : ∃ p q', isP p = true ∧ (asgS 2 (funM 0 1 aNil Fprime)) (LX21 (.im (scrD ss)) [.ob (.ls (stD q))] .no .no .no .no .no .no .no .no .no .no .no .no .no .no .no .no .no) = .nx (LX21 (.im (scrD ss)) [.ob (.ls (stD q'))] (.im (.int p)) .no .no .no .no .no .no .no .no .no .no .no .no .no .no .no .no) := by
  have hf : Fprime (stD q) [] = .ok (.int (primeF q)) (stD (takeF 6 q).2) := rfl
  refine ⟨primeF q, (takeF 6 q).2, prime_isP q, ?_⟩
  simp [LX21, funM, muAt, hf]
theorem k21_2 {ss : List Int} {q : Int × Int} {p : Int} (hp : isP p = true) : ∃ (n : Nat) (q' : Int × Int), shp7 p n ∧ n ≤ 4 ∧ (asgS 3 (funM 1 1 (aCons (op2 (cE (.int 5)) (op2 (cE (.int 2)) (calE (aCons (op2 (varE 2) (cE (.int 3)) gtO) aNil) intO) mulO) subO) aNil) Ftake)) (LX21 (.im (scrD ss)) [.ob (.ls (stD q))] (.im (.int p)) .no .no .no .no .no .no .no .no .no .no .no .no .no .no .no .no) = .nx (LX21 (.im (scrD ss)) [.ob (.ls (stD q'))] (.im (.int p)) (.im (.int (n : Int))) .no .no .no .no .no .no .no .no .no .no .no .no .no .no .no) := by
  have hc := isP_cases hp
  by_cases h : 3 < p
  · have hf := Ftake_run (m := 3) q (by decide)
    have hr := takeF_range (m := 3) (by decide) q
    generalize takeF 3 q = u at *
    obtain ⟨v, q'⟩ := u
    dsimp only at hf hr
    obtain ⟨v, rfl⟩ : ∃ k : Nat, v = (k : Int) := ⟨v.toNat, by omega⟩
    refine ⟨v, q', ⟨hp, by omega, fun _ => by omega⟩, by omega, ?_⟩
    simp [LX21, funM, muAt, h, hf, (by decide : CMul 2 1)]
  · have hf := Ftake_run (m := 5) q (by decide)
    have hr := takeF_range (m := 5) (by decide) q
    generalize takeF 5 q = u at *
    obtain ⟨v, q'⟩ := u
    dsimp only at hf hr
    obtain ⟨v, rfl⟩ : ∃ k : Nat, v = (k : Int) := ⟨v.toNat, by omega⟩
    refine ⟨v, q', ⟨hp, by omega, fun h2 => absurd h2 h⟩, by omega, ?_⟩
    simp [LX21, funM, muAt, h, hf, (by decide : CMul 2 0)]
theorem k21_3 {ss : List Int} {q : Int × Int} {p : Int} {n : Nat} (hs : shp7 p n) : ∃ ra q', okR p n ra ∧ ra.length ≤ 3 ∧ (asgS 4 (funM 3 1 (aCons (varE 3) (aCons (varE 2) (aCons (cE (.int 2)) aNil))) Frows)) (LX21 (.im (scrD ss)) [.ob (.ls (stD q))] (.im (.int p)) (.im (.int (n : Int))) .no .no .no .no .no .no .no .no .no .no .no .no .no .no .no) = .nx (LX21 (.im (scrD ss)) [.ob (.ls (stD q'))] (.im (.int p)) (.im (.int (n : Int))) (.im (.lst (ra.map Wd))) .no .no .no .no .no .no .no .no .no .no .no .no .no .no) := by
  obtain ⟨hp, hn, _⟩ := hs
  have hc := isP_cases hp
  have hf := Frows_run (n := n) (p := p) (most := 2) q (by omega) (by omega) (by omega)
  obtain ⟨h1, h2⟩ := rows_ok9 (m := 2) hp (by omega : n ≤ 1000) (by omega) q
  generalize rowsF p n 2 q = u at *
  obtain ⟨rows, q'⟩ := u
  dsimp only at hf h1 h2
  refine ⟨rows, q', h1, by omega, ?_⟩
  simp [LX21, funM, muAt, hf]
theorem k21_4 {CC CM CR : Addr} {ss : List Int} {q : Int × Int} {p : Int} {n : Nat} {ra T W H : List (List Int)} (h : C7 p n ra T W) : (asgS 5 (makE CC 3 (aCons (varE 2) (aCons (varE 3) (aCons (varE 4) aNil))) (Finit CC CM CR))) (LX21 (.im (scrD ss)) [.ob (.ls (stD q))] (.im (.int p)) (.im (.int (n : Int))) (.im (.lst (ra.map Wd))) .no .no .no .no .no .no .no .no .no .no .no .no .no .no) = .nx (LX21 (.im (scrD ss)) [.ob (.ls (stD q))] (.im (.int p)) (.im (.int (n : Int))) (.im (.lst (ra.map Wd))) (.im (codeD CC p n T)) .no .no .no .no .no .no .no .no .no .no .no .no .no) := by
  have hk := (shp7_pow h.hs h.hc.len).2
  have hn := h.hn
  have la := h.la
  have hi := make9 CC CM CR (.inl rfl) h.hp (by omega : n ≤ 12) (by omega) h.ha h.hc (by omega)
  have hm : makE CC 3 (aCons (varE 2) (aCons (varE 3) (aCons (varE 4) aNil))) (Finit CC CM CR) (LX21 (.im (scrD ss)) [.ob (.ls (stD q))] (.im (.int p)) (.im (.int (n : Int))) (.im (.lst (ra.map Wd))) .no .no .no .no .no .no .no .no .no .no .no .no .no .no) = .ok (codeD CC p n T) (LX21 (.im (scrD ss)) [.ob (.ls (stD q))] (.im (.int p)) (.im (.int (n : Int))) (.im (.lst (ra.map Wd))) .no .no .no .no .no .no .no .no .no .no .no .no .no .no) := makE_run (ds := [.int p, .int (n : Int), .lst (ra.map Wd)]) (by simp [LX21]) rfl hi
  rw [asgS_run', hm]
  rfl
theorem k21_5 {CC : Addr} {ss : List Int} {q : Int × Int} {p : Int} {n : Nat} {ra T W H : List (List Int)} (h : D21 p n ra T W H) : (asgS 6 (metE CC "checks" 1 (varE 5) aNil (Fchecks CC))) (LX21 (.im (scrD ss)) [.ob (.ls (stD q))] (.im (.int p)) (.im (.int (n : Int))) (.im (.lst (ra.map Wd))) (.im (codeD CC p n T)) .no .no .no .no .no .no .no .no .no .no .no .no .no) = .nx (LX21 (.im (scrD ss)) [.ob (.ls (stD q))] (.im (.int p)) (.im (.int (n : Int))) (.im (.lst (ra.map Wd))) (.im (codeD CC p n T)) (.im (TD H)) .no .no .no .no .no .no .no .no .no .no .no .no) := by
  have hf := Fchecks_run (CC := CC) (p := p) (n := n) (T := T)
  rw [← h.eH] at hf
  have hm : metE CC "checks" 1 (varE 5) aNil (Fchecks CC) (LX21 (.im (scrD ss)) [.ob (.ls (stD q))] (.im (.int p)) (.im (.int (n : Int))) (.im (.lst (ra.map Wd))) (.im (codeD CC p n T)) .no .no .no .no .no .no .no .no .no .no .no .no .no) = .ok (TD H) (LX21 (.im (scrD ss)) [.ob (.ls (stD q))] (.im (.int p)) (.im (.int (n : Int))) (.im (.lst (ra.map Wd))) (.im (codeD CC p n T)) .no .no .no .no .no .no .no .no .no .no .no .no .no) := metE_run (varE_im rfl) (by decide +kernel) rfl rfl hf
  rw [asgS_run', hm]
  rfl
theorem k21_6 {CC : Addr} {ss : List Int} {q : Int × Int} {p : Int} {n : Nat} {ra T W H : List (List Int)} : (asgM 7 dct0) (LX21 (.im (scrD ss)) [.ob (.ls (stD q))] (.im (.int p)) (.im (.int (n : Int))) (.im (.lst (ra.map Wd))) (.im (codeD CC p n T)) (.im (TD H)) .no .no .no .no .no .no .no .no .no .no .no .no) = .nx (LX21 (.im (scrD ss)) [.ob (.ls (stD q)), .ob (.dc [])] (.im (.int p)) (.im (.int (n : Int))) (.im (.lst (ra.map Wd))) (.im (codeD CC p n T)) (.im (TD H)) (.mu 1) .no .no .no .no .no .no .no .no .no .no .no) := rfl
def tb21 (p : Int) (H : List (List Int)) (A : List (List Int)) (s : List Int) : Option Dt := if (A.filter fun u => decide (synd p H u = s)) = [] then none else some (TD (A.filter fun u => decide (synd p H u = s)))
theorem tb_get (p : Int) (H : List (List Int)) (A : List (List Int)) (s : List Int) : (tb21 p H A s).getD (.tup []) = TD (A.filter fun u => decide (synd p H u = s)) := by
  unfold tb21
  split
  · rename_i h
    rw [h]
    rfl
  · rfl
theorem tb_snoc (p : Int) (H : List (List Int)) (A : List (List Int)) (d s : List Int) : tb21 p H (A ++ [d]) s = if s = synd p H d then some (TD ((A.filter fun u => decide (synd p H u = s)) ++ [d])) else tb21 p H A s := by
  unfold tb21
  rw [List.filter_append]
  by_cases e : s = synd p H d
  · rw [if_pos e]
    have : ([d].filter fun u => decide (synd p H u = s)) = [d] := by simp [e]
    rw [this, if_neg (by simp)]
  · rw [if_neg e]
    have : ([d].filter fun u => decide (synd p H u = s)) = [] := by
      simp
      exact fun z => e z.symm
    rw [this, List.append_nil]
theorem catT_td21 {X : List (List Int)} {d : List Int} (h : X.length ≤ 1000) : catT (TD X) (.tup [Wd d]) = some (TD (X ++ [d])) := by
  unfold catT TD
  dsimp only
  rw [if_pos (by rw [List.length_map]; simp; omega), List.map_append]
  rfl
theorem k21_7 {CC : Addr} {ss : List Int} {q : Int × Int} {p : Int} {n : Nat} {ra T W H : List (List Int)} (h : D21 p n ra T W H) : ∃ kvs x8 x12, (forS (itS (funE 2 (aCons (varE 3) (aCons (varE 2) aNil)) Fall)) (Tk.nm 8).k (seqS (asgS 12 (calE (aCons (frz (lcE (itS (varE 6)) (Tk.nm 18).k yesT (funE 3 (aCons (varE 18) (aCons (varE 8) (aCons (varE 2) aNil))) Fdot) [18])) aNil) tupO))
  (setD 7 (op2 (getDf 7 (varE 12) (tupE aNil)) (tupE (aCons (varE 8) aNil)) catT) (varE 12)))) (LX21 (.im (scrD ss)) [.ob (.ls (stD q)), .ob (.dc [])] (.im (.int p)) (.im (.int (n : Int))) (.im (.lst (ra.map Wd))) (.im (codeD CC p n T)) (.im (TD H)) (.mu 1) .no .no .no .no .no .no .no .no .no .no .no) = .nx (LX21 (.im (scrD ss)) [.ob (.ls (stD q)), .ob (.dc kvs)] (.im (.int p)) (.im (.int (n : Int))) (.im (.lst (ra.map Wd))) (.im (codeD CC p n T)) (.im (TD H)) (.mu 1) x8 .no .no .no x12 .no .no .no .no .no .no) ∧ ∀ s, lookD kvs s = tb21 p H (allN p n) s := by
  have hp := h.c.hp
  have hcs := isP_cases hp
  have hn := h.c.hn
  have hl := h.hl
  have hpn := h.pn
  have hok := h.ok
  have all_len : (allN p n).length ≤ 343 := by rw [allN_len]; exact hpn
  have v2 : varE 2 (LX21 (.im (scrD ss)) [.ob (.ls (stD q)), .ob (.dc [])] (.im (.int p)) (.im (.int (n : Int))) (.im (.lst (ra.map Wd))) (.im (codeD CC p n T)) (.im (TD H)) (.mu 1) .no .no .no .no .no .no .no .no .no .no .no) = .ok (.int p) (LX21 (.im (scrD ss)) [.ob (.ls (stD q)), .ob (.dc [])] (.im (.int p)) (.im (.int (n : Int))) (.im (.lst (ra.map Wd))) (.im (codeD CC p n T)) (.im (TD H)) (.mu 1) .no .no .no .no .no .no .no .no .no .no .no) := varE_im rfl
  have v3 : varE 3 (LX21 (.im (scrD ss)) [.ob (.ls (stD q)), .ob (.dc [])] (.im (.int p)) (.im (.int (n : Int))) (.im (.lst (ra.map Wd))) (.im (codeD CC p n T)) (.im (TD H)) (.mu 1) .no .no .no .no .no .no .no .no .no .no .no) = .ok (.int (n : Int)) (LX21 (.im (scrD ss)) [.ob (.ls (stD q)), .ob (.dc [])] (.im (.int p)) (.im (.int (n : Int))) (.im (.lst (ra.map Wd))) (.im (codeD CC p n T)) (.im (TD H)) (.mu 1) .no .no .no .no .no .no .no .no .no .no .no) := varE_im rfl
  have hal := Fall_run (n := n) (isP_okP hp) (by omega) (by omega)
  have hit : (itS (funE 2 (aCons (varE 3) (aCons (varE 2) aNil)) Fall)) (LX21 (.im (scrD ss)) [.ob (.ls (stD q)), .ob (.dc [])] (.im (.int p)) (.im (.int (n : Int))) (.im (.lst (ra.map Wd))) (.im (codeD CC p n T)) (.im (TD H)) (.mu 1) .no .no .no .no .no .no .no .no .no .no .no) = .ok ((allN p n).map Wd) (LX21 (.im (scrD ss)) [.ob (.ls (stD q)), .ob (.dc [])] (.im (.int p)) (.im (.int (n : Int))) (.im (.lst (ra.map Wd))) (.im (codeD CC p n T)) (.im (TD H)) (.mu 1) .no .no .no .no .no .no .no .no .no .no .no) := by
    generalize (LX21 (.im (scrD ss)) [.ob (.ls (stD q)), .ob (.dc [])] (.im (.int p)) (.im (.int (n : Int))) (.im (.lst (ra.map Wd))) (.im (codeD CC p n T)) (.im (TD H)) (.mu 1) .no .no .no .no .no .no .no .no .no .no .no) = U at *
    simp only [itS_run, funE_run, aCons_run, aNil_run, v2, v3, R.bind_ok, List.length_cons, List.length_nil, Nat.zero_add, Nat.reduceAdd, if_true, hal, seqOf_lst, R.of_some]
  obtain ⟨S', f1, f2⟩ := forL_inv (k := (Tk.nm 8).k) (body := (seqS (asgS 12 (calE (aCons (frz (lcE (itS (varE 6)) (Tk.nm 18).k yesT (funE 3 (aCons (varE 18) (aCons (varE 8) (aCons (varE 2) aNil))) Fdot) [18])) aNil) tupO))
  (setD 7 (op2 (getDf 7 (varE 12) (tupE aNil)) (tupE (aCons (varE 8) aNil)) catT) (varE 12)))) ((allN p n).map Wd) (fun i S => ∃ kvs x8 x12, S = (LX21 (.im (scrD ss)) [.ob (.ls (stD q)), .ob (.dc kvs)] (.im (.int p)) (.im (.int (n : Int))) (.im (.lst (ra.map Wd))) (.im (codeD CC p n T)) (.im (TD H)) (.mu 1) x8 .no .no .no x12 .no .no .no .no .no .no) ∧ (∀ s, lookD kvs s = tb21 p H ((allN p n).take i) s) ∧ kvs.length ≤ i) (LX21 (.im (scrD ss)) [.ob (.ls (stD q)), .ob (.dc [])] (.im (.int p)) (.im (.int (n : Int))) (.im (.lst (ra.map Wd))) (.im (codeD CC p n T)) (.im (TD H)) (.mu 1) .no .no .no .no .no .no .no .no .no .no .no) ⟨[], .no, .no, rfl, fun s => by simp [tb21, lookD], Nat.zero_le _⟩ (fun i d' S hd hI => by
    obtain ⟨kvs, x8, x12, rfl, hk, hkl⟩ := hI
    rw [List.getElem?_map] at hd
    obtain ⟨d, hd2, rfl⟩ := Option.map_eq_some_iff.mp hd
    have hd1 := (ok_all (by omega : n ≤ 1000)).mp (List.mem_of_getElem? hd2)
    have htk : (allN p n).take (i + 1) = (allN p n).take i ++ [d] := by rw [List.take_succ, hd2]; rfl
    have hil : i < (allN p n).length := (List.getElem?_eq_some_iff.mp hd2).1
    have l1 : lcE (itS (varE 6)) (Tk.nm 18).k yesT (funE 3 (aCons (varE 18) (aCons (varE 8) (aCons (varE 2) aNil))) Fdot) [18] (LX21 (.im (scrD ss)) [.ob (.ls (stD q)), .ob (.dc kvs)] (.im (.int p)) (.im (.int (n : Int))) (.im (.lst (ra.map Wd))) (.im (codeD CC p n T)) (.im (TD H)) (.mu 1) (.im (Wd d)) .no .no .no x12 .no .no .no .no .no .no) = .ok (H.map fun r => Dt.int (sm r d % p)) (LX21 (.im (scrD ss)) [.ob (.ls (stD q)), .ob (.dc kvs)] (.im (.int p)) (.im (.int (n : Int))) (.im (.lst (ra.map Wd))) (.im (codeD CC p n T)) (.im (TD H)) (.mu 1) (.im (Wd d)) .no .no .no x12 .no .no .no .no .no .no) := by
      refine lcE_map Wd (fun r => Dt.int (sm r d % p)) H rfl (fun r hr => ?_) (fun d T T' => Tk.mo) (by omega)
      have hdt := Fdot_run (isP_okP hp) (hok r hr).1 hd1.1 (by rw [(hok r hr).2, hd1.2])
      let U : Ms := (LX21 (.im (scrD ss)) [.ob (.ls (stD q)), .ob (.dc kvs)] (.im (.int p)) (.im (.int (n : Int))) (.im (.lst (ra.map Wd))) (.im (codeD CC p n T)) (.im (TD H)) (.mu 1) (.im (Wd d)) .no .no .no x12 .no .no .no .no .no (.im (Wd r)))
      have w2 : varE 2 U = .ok (.int p) U := rfl
      have w8 : varE 8 U = .ok (Wd d) U := rfl
      have w18 : varE 18 U = .ok (Wd r) U := rfl
      refine ⟨U, rfl, U, ?_, rfl⟩
      clear_value U
      simp only [funE_run, aCons_run, aNil_run, w2, w8, w18, R.bind_ok, List.length_cons, List.length_nil, Nat.zero_add, Nat.reduceAdd, if_true, hdt]
    have e1 : (asgS 12 (calE (aCons (frz (lcE (itS (varE 6)) (Tk.nm 18).k yesT (funE 3 (aCons (varE 18) (aCons (varE 8) (aCons (varE 2) aNil))) Fdot) [18])) aNil) tupO)) (LX21 (.im (scrD ss)) [.ob (.ls (stD q)), .ob (.dc kvs)] (.im (.int p)) (.im (.int (n : Int))) (.im (.lst (ra.map Wd))) (.im (codeD CC p n T)) (.im (TD H)) (.mu 1) (.im (Wd d)) .no .no .no x12 .no .no .no .no .no .no) = .nx (LX21 (.im (scrD ss)) [.ob (.ls (stD q)), .ob (.dc kvs)] (.im (.int p)) (.im (.int (n : Int))) (.im (.lst (ra.map Wd))) (.im (codeD CC p n T)) (.im (TD H)) (.mu 1) (.im (Wd d)) .no .no .no (.im (Wd (synd p H d))) .no .no .no .no .no .no) := by
      rw [asgS_run', calE_run, aCons_run, frz_run', l1]
      simp only [R.bind_ok, aNil_run, tupO_lst, R.of_some, R.stmt_ok]
      have : (H.map fun r => Dt.int (sm r d % p)) = (synd p H d).map Dt.int := by unfold synd; rw [List.map_map]; rfl
      rw [this]
      rfl
    have hfl : (((allN p n).take i).filter fun u => decide (synd p H u = synd p H d)).length ≤ 1000 := by
      have a1 := List.length_filter_le (fun u => decide (synd p H u = synd p H d)) ((allN p n).take i)
      rw [List.length_take] at a1
      omega
    have hg : getDf 7 (varE 12) (tupE aNil) (LX21 (.im (scrD ss)) [.ob (.ls (stD q)), .ob (.dc kvs)] (.im (.int p)) (.im (.int (n : Int))) (.im (.lst (ra.map Wd))) (.im (codeD CC p n T)) (.im (TD H)) (.mu 1) (.im (Wd d)) .no .no .no (.im (Wd (synd p H d))) .no .no .no .no .no .no) = .ok (TD (((allN p n).take i).filter fun u => decide (synd p H u = synd p H d))) (LX21 (.im (scrD ss)) [.ob (.ls (stD q)), .ob (.dc kvs)] (.im (.int p)) (.im (.int (n : Int))) (.im (.lst (ra.map Wd))) (.im (codeD CC p n T)) (.im (TD H)) (.mu 1) (.im (Wd d)) .no .no .no (.im (Wd (synd p H d))) .no .no .no .no .no .no) := by
      have hdc : dcAt (LX21 (.im (scrD ss)) [.ob (.ls (stD q)), .ob (.dc kvs)] (.im (.int p)) (.im (.int (n : Int))) (.im (.lst (ra.map Wd))) (.im (codeD CC p n T)) (.im (TD H)) (.mu 1) (.im (Wd d)) .no .no .no (.im (Wd (synd p H d))) .no .no .no .no .no .no) 7 = some (1, kvs) := rfl
      have v12 : varE 12 (LX21 (.im (scrD ss)) [.ob (.ls (stD q)), .ob (.dc kvs)] (.im (.int p)) (.im (.int (n : Int))) (.im (.lst (ra.map Wd))) (.im (codeD CC p n T)) (.im (TD H)) (.mu 1) (.im (Wd d)) .no .no .no (.im (Wd (synd p H d))) .no .no .no .no .no .no) = .ok (Wd (synd p H d)) (LX21 (.im (scrD ss)) [.ob (.ls (stD q)), .ob (.dc kvs)] (.im (.int p)) (.im (.int (n : Int))) (.im (.lst (ra.map Wd))) (.im (codeD CC p n T)) (.im (TD H)) (.mu 1) (.im (Wd d)) .no .no .no (.im (Wd (synd p H d))) .no .no .no .no .no .no) := varE_im rfl
      have ht : tupE aNil (LX21 (.im (scrD ss)) [.ob (.ls (stD q)), .ob (.dc kvs)] (.im (.int p)) (.im (.int (n : Int))) (.im (.lst (ra.map Wd))) (.im (codeD CC p n T)) (.im (TD H)) (.mu 1) (.im (Wd d)) .no .no .no (.im (Wd (synd p H d))) .no .no .no .no .no .no) = .ok (.tup []) (LX21 (.im (scrD ss)) [.ob (.ls (stD q)), .ob (.dc kvs)] (.im (.int p)) (.im (.int (n : Int))) (.im (.lst (ra.map Wd))) (.im (codeD CC p n T)) (.im (TD H)) (.mu 1) (.im (Wd d)) .no .no .no (.im (Wd (synd p H d))) .no .no .no .no .no .no) := rfl
      unfold getDf
      rw [hdc]
      dsimp only
      rw [v12, R.bind_ok, ht, R.bind_ok, wordOf_Wd, hdc]
      dsimp only
      rw [hk, tb_get]
    refine ⟨(LX21 (.im (scrD ss)) [.ob (.ls (stD q)), .ob (.dc kvs)] (.im (.int p)) (.im (.int (n : Int))) (.im (.lst (ra.map Wd))) (.im (codeD CC p n T)) (.im (TD H)) (.mu 1) (.im (Wd d)) .no .no .no x12 .no .no .no .no .no .no), (LX21 (.im (scrD ss)) [.ob (.ls (stD q)), .ob (.dc (putD kvs (synd p H d) (TD ((((allN p n).take i).filter fun u => decide (synd p H u = synd p H d)) ++ [d]))))] (.im (.int p)) (.im (.int (n : Int))) (.im (.lst (ra.map Wd))) (.im (codeD CC p n T)) (.im (TD H)) (.mu 1) (.im (Wd d)) .no .no .no (.im (Wd (synd p H d))) .no .no .no .no .no .no), rfl, .inl ?_, _, _, _, rfl, fun s => ?_, ?_⟩
    · rw [sqT21 e1]
      have key : (op2 (getDf 7 (varE 12) (tupE aNil)) (tupE (aCons (varE 8) aNil)) catT) (LX21 (.im (scrD ss)) [.ob (.ls (stD q)), .ob (.dc kvs)] (.im (.int p)) (.im (.int (n : Int))) (.im (.lst (ra.map Wd))) (.im (codeD CC p n T)) (.im (TD H)) (.mu 1) (.im (Wd d)) .no .no .no (.im (Wd (synd p H d))) .no .no .no .no .no .no) = .ok (TD ((((allN p n).take i).filter fun u => decide (synd p H u = synd p H d)) ++ [d])) (LX21 (.im (scrD ss)) [.ob (.ls (stD q)), .ob (.dc kvs)] (.im (.int p)) (.im (.int (n : Int))) (.im (.lst (ra.map Wd))) (.im (codeD CC p n T)) (.im (TD H)) (.mu 1) (.im (Wd d)) .no .no .no (.im (Wd (synd p H d))) .no .no .no .no .no .no) := by
        have ht : tupE (aCons (varE 8) aNil) (LX21 (.im (scrD ss)) [.ob (.ls (stD q)), .ob (.dc kvs)] (.im (.int p)) (.im (.int (n : Int))) (.im (.lst (ra.map Wd))) (.im (codeD CC p n T)) (.im (TD H)) (.mu 1) (.im (Wd d)) .no .no .no (.im (Wd (synd p H d))) .no .no .no .no .no .no) = .ok (.tup [Wd d]) (LX21 (.im (scrD ss)) [.ob (.ls (stD q)), .ob (.dc kvs)] (.im (.int p)) (.im (.int (n : Int))) (.im (.lst (ra.map Wd))) (.im (codeD CC p n T)) (.im (TD H)) (.mu 1) (.im (Wd d)) .no .no .no (.im (Wd (synd p H d))) .no .no .no .no .no .no) := rfl
        rw [op2_run, hg, R.bind_ok, ht, R.bind_ok, catT_td21 hfl, R.of_some]
      have hdc : dcAt (LX21 (.im (scrD ss)) [.ob (.ls (stD q)), .ob (.dc kvs)] (.im (.int p)) (.im (.int (n : Int))) (.im (.lst (ra.map Wd))) (.im (codeD CC p n T)) (.im (TD H)) (.mu 1) (.im (Wd d)) .no .no .no (.im (Wd (synd p H d))) .no .no .no .no .no .no) 7 = some (1, kvs) := rfl
      have v12 : varE 12 (LX21 (.im (scrD ss)) [.ob (.ls (stD q)), .ob (.dc kvs)] (.im (.int p)) (.im (.int (n : Int))) (.im (.lst (ra.map Wd))) (.im (codeD CC p n T)) (.im (TD H)) (.mu 1) (.im (Wd d)) .no .no .no (.im (Wd (synd p H d))) .no .no .no .no .no .no) = .ok (Wd (synd p H d)) (LX21 (.im (scrD ss)) [.ob (.ls (stD q)), .ob (.dc kvs)] (.im (.int p)) (.im (.int (n : Int))) (.im (.lst (ra.map Wd))) (.im (codeD CC p n T)) (.im (TD H)) (.mu 1) (.im (Wd d)) .no .no .no (.im (Wd (synd p H d))) .no .no .no .no .no .no) := varE_im rfl
      unfold setD
      rw [key, R.stmt_ok, hdc]
      dsimp only
      rw [v12, R.stmt_ok, hdc, wordOf_Wd]
      dsimp only
      rw [if_pos (by omega)]
      rfl
    · rw [look_put, htk, tb_snoc]
      by_cases e : s = synd p H d
      · rw [if_pos e, if_pos e, e]
      · rw [if_neg e, if_neg e, hk]
    · have := len_put kvs (synd p H d) (TD ((((allN p n).take i).filter fun u => decide (synd p H u = synd p H d)) ++ [d]))
      omega)
  obtain ⟨kvs, x8, x12, rfl, hk, _⟩ := f2
  rw [List.length_map, List.take_length] at hk
  refine ⟨kvs, x8, x12, ?_, hk⟩
  rw [forS_run, hit, R.stmt_ok, f1]
theorem k21_8 {CC : Addr} {ss : List Int} {q : Int × Int} {p : Int} {n : Nat} {ra T W H : List (List Int)} {kvs : List (List Int × Dt)} {x8 x12 : Sv} : (asgN 9 (lstE aNil)) (LX21 (.im (scrD ss)) [.ob (.ls (stD q)), .ob (.dc kvs)] (.im (.int p)) (.im (.int (n : Int))) (.im (.lst (ra.map Wd))) (.im (codeD CC p n T)) (.im (TD H)) (.mu 1) x8 .no .no .no x12 .no .no .no .no .no .no) = .nx (LX21 (.im (scrD ss)) [.ob (.ls (stD q)), .ob (.dc kvs), .ob (.ls [])] (.im (.int p)) (.im (.int (n : Int))) (.im (.lst (ra.map Wd))) (.im (codeD CC p n T)) (.im (TD H)) (.mu 1) x8 (.mu 2) .no .no x12 .no .no .no .no .no .no) := rfl
theorem k21_9 {CC : Addr} {ss : List Int} {q : Int × Int} {p : Int} {n : Nat} {ra T W H : List (List Int)} {kvs : List (List Int × Dt)} {x8 x12 : Sv} : (asgS 10 (cE (.int 0))) (LX21 (.im (scrD ss)) [.ob (.ls (stD q)), .ob (.dc kvs), .ob (.ls [])] (.im (.int p)) (.im (.int (n : Int))) (.im (.lst (ra.map Wd))) (.im (codeD CC p n T)) (.im (TD H)) (.mu 1) x8 (.mu 2) .no .no x12 .no .no .no .no .no .no) = .nx (LX21 (.im (scrD ss)) [.ob (.ls (stD q)), .ob (.dc kvs), .ob (.ls [])] (.im (.int p)) (.im (.int (n : Int))) (.im (.lst (ra.map Wd))) (.im (codeD CC p n T)) (.im (TD H)) (.mu 1) x8 (.mu 2) (.im (.int 0)) .no x12 .no .no .no .no .no .no) := rfl
theorem k21_10 {CC : Addr} {ss : List Int} {q : Int × Int} {p : Int} {n : Nat} {ra T W H : List (List Int)} {kvs : List (List Int × Dt)} {x8 x12 : Sv} : (asgS 11 (cE (.int 0))) (LX21 (.im (scrD ss)) [.ob (.ls (stD q)), .ob (.dc kvs), .ob (.ls [])] (.im (.int p)) (.im (.int (n : Int))) (.im (.lst (ra.map Wd))) (.im (codeD CC p n T)) (.im (TD H)) (.mu 1) x8 (.mu 2) (.im (.int 0)) .no x12 .no .no .no .no .no .no) = .nx (LX21 (.im (scrD ss)) [.ob (.ls (stD q)), .ob (.dc kvs), .ob (.ls [])] (.im (.int p)) (.im (.int (n : Int))) (.im (.lst (ra.map Wd))) (.im (codeD CC p n T)) (.im (TD H)) (.mu 1) x8 (.mu 2) (.im (.int 0)) (.im (.int 0)) x12 .no .no .no .no .no .no) := rfl
def rad21 (p : Int) (n : Nat) (H A : List (List Int)) : Int := (A.map fun s => (ldwS p n H s : Int)).foldl max 0
def dec21 (p : Int) (n : Nat) (H W A : List (List Int)) : Int := (W.length : Int) * ((A.filter fun s => decide ((ldL p n H s).length = 1)).length : Int)
theorem foldl_min_le : ∀ (l : List Int) (a : Int), l.foldl min a ≤ a ∧ (∀ x ∈ l, l.foldl min a ≤ x) ∧ (l.foldl min a = a ∨ l.foldl min a ∈ l)
  | [], a => ⟨Int.le_refl _, fun x hx => (by cases hx), .inl rfl⟩
  | y :: l, a => by
    obtain ⟨h1, h2, h3⟩ := foldl_min_le l (min a y)
    rw [List.foldl_cons]
    refine ⟨by omega, fun x hx => ?_, ?_⟩
    · rcases List.mem_cons.mp hx with rfl | hx
      · omega
      · exact h2 x hx
    · rcases h3 with h3 | h3
      · by_cases h : a ≤ y
        · left; omega
        · right
          have : l.foldl min (min a y) = y := by omega
          rw [this]
          exact List.mem_cons_self ..
      · exact .inr (List.mem_cons_of_mem _ h3)
section
variable {p : Int} {n : Nat} {ra T W H : List (List Int)}
theorem mem_fb {s u : List Int} (hn : n ≤ 1000) : u ∈ fbL p n H s ↔ ok1 p n u ∧ synd p H u = s := by
  unfold fbL
  rw [List.mem_filter, decide_eq_true_eq, ok_all hn]
theorem D21.ld (h : D21 p n ra T W H) {s : List Int} (hs : s ∈ allN p H.length) : ∃ u r, ldL p n H s = u :: r ∧ Lead p n H u ∧ synd p H u = s ∧ ldwS p n H s = wtW u := by
  have e := h.eH
  have := ld_ne (s := s) h.c.hp (by have := h.c.hn; omega) h.c.ha h.c.hc (by rw [← e]; exact hs)
  rw [← e] at this
  obtain ⟨u, r, h1, h2, h3⟩ := this
  exact ⟨u, r, h1, h2, h3, by unfold ldwS; rw [h1]; rfl⟩
theorem D21.least (h : D21 p n ra T W H) {s : List Int} (hs : s ∈ allN p H.length) : minF ((fbL p n H s).map fun u => (wtW u : Int)) = some (ldwS p n H s : Int) := by
  obtain ⟨u, r, h1, h2, h3, h4⟩ := h.ld hs
  have hn := h.c.hn
  have hu : u ∈ fbL p n H s := (mem_fb (by omega)).mpr ⟨h2.1, h3⟩
  have hlo : ∀ x ∈ (fbL p n H s).map fun u => (wtW u : Int), (wtW u : Int) ≤ x := fun x hx => by
    obtain ⟨y, hy, rfl⟩ := List.mem_map.mp hx
    have hy2 := (mem_fb (by omega : n ≤ 1000)).mp hy
    have := h2.2 y hy2.1 (hy2.2.trans h3.symm)
    omega
  have hin : (wtW u : Int) ∈ (fbL p n H s).map fun u => (wtW u : Int) := List.mem_map.mpr ⟨u, hu, rfl⟩
  rw [h4]
  generalize (fbL p n H s).map (fun u => (wtW u : Int)) = l at *
  cases l with
  | nil => cases hin
  | cons a l =>
    obtain ⟨g1, g2, g3⟩ := foldl_min_le l a
    show some (l.foldl min a) = _
    congr 1
    refine Int.le_antisymm ?_ ?_
    · rcases List.mem_cons.mp hin with e | e
      · rw [e]; exact g1
      · exact g2 _ e
    · rcases g3 with e | e
      · rw [e]; exact hlo a (List.mem_cons_self ..)
      · exact hlo _ (List.mem_cons_of_mem _ e)
theorem D21.lead_eq (h : D21 p n ra T W H) {s : List Int} (hs : s ∈ allN p H.length) : (fbL p n H s).filter (fun u => decide ((wtW u : Int) = (ldwS p n H s : Int))) = ldL p n H s := by
  obtain ⟨u, r, h1, h2, h3, h4⟩ := h.ld hs
  have hn := h.c.hn
  rw [h4]
  unfold fbL ldL
  rw [List.filter_filter]
  refine List.filter_congr fun y hy => ?_
  have hy1 := (ok_all (by omega : n ≤ 1000)).mp hy
  rw [Bool.eq_iff_iff, Bool.and_eq_true, decide_eq_true_eq, decide_eq_true_eq, decide_eq_true_eq]
  constructor
  · rintro ⟨g1, g2⟩
    refine ⟨g2, fun x hx e => ?_⟩
    have := h2.2 x ((ok_all (by omega)).mp hx) (e.trans h3.symm)
    omega
  · rintro ⟨g1, g2⟩
    refine ⟨?_, g1⟩
    have a1 := g2 u ((ok_all (by omega)).mpr h2.1) h3
    have a2 := h2.2 y hy1 (g1.trans h3.symm)
    omega
theorem D21.fb_len (h : D21 p n ra T W H) {s : List Int} (hs : s ∈ allN p H.length) : (fbL p n H s).length = W.length := by
  obtain ⟨u, r, h1, h2, h3, h4⟩ := h.ld hs
  have hn := h.c.hn
  have hp := h.c.hp
  have hp' := isP_okP hp
  have hnd : (fbL p n H s).Nodup := (allN_nd p n).filter _
  have hWnd : W.Nodup := h.c.hc.sub.nd
  have hz : ∀ y, Zr p n H y ↔ y ∈ W := fun y => by rw [h.eH]; exact h.c.sub y
  have hok := h.ok
  have back : ∀ {x y : List Int}, ok1 p n x → ok1 p n y → lin p (lin p x y (-1)) y 1 = x := fun {x y} hx hy => by
    rw [lin_twice hx.2 hy.2]
    have : (-1 : Int) + 1 = 0 := by decide
    rw [this, lin_none hx hy.2]
  have forth : ∀ {x y : List Int}, ok1 p n x → ok1 p n y → lin p (lin p x y 1) y (-1) = x := fun {x y} hx hy => by
    rw [lin_twice hx.2 hy.2]
    have : (1 : Int) + -1 = 0 := by decide
    rw [this, lin_none hx hy.2]
  refine Nat.le_antisymm ?_ ?_
  · have := nd_sub_len (a := (fbL p n H s).map fun y => lin p y u (-1)) (b := W) (nodup_map_on hnd fun a ha b hb e => by
      have ha1 := ((mem_fb (by omega : n ≤ 1000)).mp ha).1
      have hb1 := ((mem_fb (by omega : n ≤ 1000)).mp hb).1
      rw [← back ha1 h2.1, e, back hb1 h2.1]) (fun x hx => by
      obtain ⟨y, hy, rfl⟩ := List.mem_map.mp hx
      obtain ⟨g1, g2⟩ := (mem_fb (by omega : n ≤ 1000)).mp hy
      exact (hz _).mp ((synd_eq hp hok g1 h2.1).mp (g2.trans h3.symm)))
    rwa [List.length_map] at this
  · have := nd_sub_len (a := W.map fun y => lin p y u 1) (b := fbL p n H s) (nodup_map_on hWnd fun a ha b hb e => by
      rw [← forth (h.c.hc.okW a ha) h2.1, e, forth (h.c.hc.okW b hb) h2.1]) (fun x hx => by
      obtain ⟨y, hy, rfl⟩ := List.mem_map.mp hx
      have hy1 := h.c.hc.okW y hy
      have hl1 := ok_lin (a := 1) hp' hy1 h2.1
      refine (mem_fb (by omega)).mpr ⟨hl1, ?_⟩
      rw [← h3, synd_eq hp hok hl1 h2.1, forth hy1 h2.1]
      exact (hz y).mpr hy)
    rwa [List.length_map] at this
end
theorem k21_11 {CC : Addr} {ss : List Int} {q : Int × Int} {p : Int} {n : Nat} {ra T W H : List (List Int)} {kvs : List (List Int × Dt)} {x8 x12 : Sv} (h : D21 p n ra T W H) (hk : ∀ s, lookD kvs s = tb21 p H (allN p n) s) : ∃ y8 y12 y15 y16 y17, (forS (itS (funE 2 (aCons (op2 (varE 3) (fldE CC "k" (varE 5)) subO) (aCons (varE 2) aNil)) Fall)) (Tk.nm 12).k (seqS (asgS 15 (getDf 7 (varE 12) (tupE aNil)))
  (seqS (ifS (tst (op2 (calE (aCons (varE 15) aNil) lenO) (cE (.int 0)) eqO)) (retS (cE (.bl false))) nilS)
  (seqS (asgS 16 (calE (aCons (frz (lcE (itS (varE 15)) (Tk.nm 8).k yesT (funE 1 (aCons (varE 8) aNil) Fweight) [8])) aNil) minLO))
  (seqS (asgS 17 (calE (aCons (frz (lcE (itS (varE 15)) (Tk.nm 8).k (tst (op2 (funE 1 (aCons (varE 8) aNil) Fweight) (varE 16) eqO)) (varE 8) [8])) aNil) tupO))
  (seqS (appS 9 (tupE (aCons (varE 12) (aCons (varE 17) aNil))))
  (seqS (asgS 11 (calE (aCons (varE 11) (aCons (varE 16) aNil)) maxO))
  (asgS 10 (op2 (varE 10) (op2 (calE (aCons (op2 (calE (aCons (varE 17) aNil) lenO) (cE (.int 1)) eqO) aNil) intO) (calE (aCons (varE 15) aNil) lenO) mulO) addO))))))))) (LX21 (.im (scrD ss)) [.ob (.ls (stD q)), .ob (.dc kvs), .ob (.ls [])] (.im (.int p)) (.im (.int (n : Int))) (.im (.lst (ra.map Wd))) (.im (codeD CC p n T)) (.im (TD H)) (.mu 1) x8 (.mu 2) (.im (.int 0)) (.im (.int 0)) x12 .no .no .no .no .no .no) = .nx (LX21 (.im (scrD ss)) [.ob (.ls (stD q)), .ob (.dc kvs), .ob (.ls (((allN p H.length)).map (enC p n H)))] (.im (.int p)) (.im (.int (n : Int))) (.im (.lst (ra.map Wd))) (.im (codeD CC p n T)) (.im (TD H)) (.mu 1) y8 (.mu 2) (.im (.int (dec21 p n H W (allN p H.length)))) (.im (.int (rad21 p n H (allN p H.length)))) y12 .no .no y15 y16 y17 .no) := by
  have hp := h.c.hp
  have hcs := isP_cases hp
  have hn := h.c.hn
  have hl := h.hl
  have hpn := h.pn
  obtain ⟨w1, w2⟩ := h.c.w1
  have hHn : p.toNat ^ H.length ≤ 343 := (shp7_pow h.c.hs (by omega)).1
  have all_len : (allN p n).length ≤ 343 := by rw [allN_len]; exact hpn
  have allH : (allN p H.length).length ≤ 343 := by rw [allN_len]; exact hHn
  have h1 := code_k CC p n T
  have v2 : varE 2 (LX21 (.im (scrD ss)) [.ob (.ls (stD q)), .ob (.dc kvs), .ob (.ls [])] (.im (.int p)) (.im (.int (n : Int))) (.im (.lst (ra.map Wd))) (.im (codeD CC p n T)) (.im (TD H)) (.mu 1) x8 (.mu 2) (.im (.int 0)) (.im (.int 0)) x12 .no .no .no .no .no .no) = .ok (.int p) (LX21 (.im (scrD ss)) [.ob (.ls (stD q)), .ob (.dc kvs), .ob (.ls [])] (.im (.int p)) (.im (.int (n : Int))) (.im (.lst (ra.map Wd))) (.im (codeD CC p n T)) (.im (TD H)) (.mu 1) x8 (.mu 2) (.im (.int 0)) (.im (.int 0)) x12 .no .no .no .no .no .no) := varE_im rfl
  have v3 : varE 3 (LX21 (.im (scrD ss)) [.ob (.ls (stD q)), .ob (.dc kvs), .ob (.ls [])] (.im (.int p)) (.im (.int (n : Int))) (.im (.lst (ra.map Wd))) (.im (codeD CC p n T)) (.im (TD H)) (.mu 1) x8 (.mu 2) (.im (.int 0)) (.im (.int 0)) x12 .no .no .no .no .no .no) = .ok (.int (n : Int)) (LX21 (.im (scrD ss)) [.ob (.ls (stD q)), .ob (.dc kvs), .ob (.ls [])] (.im (.int p)) (.im (.int (n : Int))) (.im (.lst (ra.map Wd))) (.im (codeD CC p n T)) (.im (TD H)) (.mu 1) x8 (.mu 2) (.im (.int 0)) (.im (.int 0)) x12 .no .no .no .no .no .no) := varE_im rfl
  have v5 : varE 5 (LX21 (.im (scrD ss)) [.ob (.ls (stD q)), .ob (.dc kvs), .ob (.ls [])] (.im (.int p)) (.im (.int (n : Int))) (.im (.lst (ra.map Wd))) (.im (codeD CC p n T)) (.im (TD H)) (.mu 1) x8 (.mu 2) (.im (.int 0)) (.im (.int 0)) x12 .no .no .no .no .no .no) = .ok (codeD CC p n T) (LX21 (.im (scrD ss)) [.ob (.ls (stD q)), .ob (.dc kvs), .ob (.ls [])] (.im (.int p)) (.im (.int (n : Int))) (.im (.lst (ra.map Wd))) (.im (codeD CC p n T)) (.im (TD H)) (.mu 1) x8 (.mu 2) (.im (.int 0)) (.im (.int 0)) x12 .no .no .no .no .no .no) := varE_im rfl
  have hsub : subO (.int (n : Int)) (.int (T.length : Int)) = some (.int (H.length : Int)) := by
    show some (Dt.int ((n : Int) - (T.length : Int))) = _
    congr 2
    omega
  have hal := Fall_run (n := H.length) (isP_okP hp) (by omega) (by omega)
  have hit : (itS (funE 2 (aCons (op2 (varE 3) (fldE CC "k" (varE 5)) subO) (aCons (varE 2) aNil)) Fall)) (LX21 (.im (scrD ss)) [.ob (.ls (stD q)), .ob (.dc kvs), .ob (.ls [])] (.im (.int p)) (.im (.int (n : Int))) (.im (.lst (ra.map Wd))) (.im (codeD CC p n T)) (.im (TD H)) (.mu 1) x8 (.mu 2) (.im (.int 0)) (.im (.int 0)) x12 .no .no .no .no .no .no) = .ok ((allN p H.length).map Wd) (LX21 (.im (scrD ss)) [.ob (.ls (stD q)), .ob (.dc kvs), .ob (.ls [])] (.im (.int p)) (.im (.int (n : Int))) (.im (.lst (ra.map Wd))) (.im (codeD CC p n T)) (.im (TD H)) (.mu 1) x8 (.mu 2) (.im (.int 0)) (.im (.int 0)) x12 .no .no .no .no .no .no) := by
    generalize (LX21 (.im (scrD ss)) [.ob (.ls (stD q)), .ob (.dc kvs), .ob (.ls [])] (.im (.int p)) (.im (.int (n : Int))) (.im (.lst (ra.map Wd))) (.im (codeD CC p n T)) (.im (TD H)) (.mu 1) x8 (.mu 2) (.im (.int 0)) (.im (.int 0)) x12 .no .no .no .no .no .no) = U at *
    simp only [itS_run, funE_run, aCons_run, aNil_run, op2_run, fldE_run', v2, v3, v5, h1, hsub, R.bind_ok, R.of_some, List.length_cons, List.length_nil, Nat.zero_add, Nat.reduceAdd, if_true, hal, seqOf_lst]
  obtain ⟨S', f1, f2⟩ := forL_inv (k := (Tk.nm 12).k) (body := (seqS (asgS 15 (getDf 7 (varE 12) (tupE aNil)))
  (seqS (ifS (tst (op2 (calE (aCons (varE 15) aNil) lenO) (cE (.int 0)) eqO)) (retS (cE (.bl false))) nilS)
  (seqS (asgS 16 (calE (aCons (frz (lcE (itS (varE 15)) (Tk.nm 8).k yesT (funE 1 (aCons (varE 8) aNil) Fweight) [8])) aNil) minLO))
  (seqS (asgS 17 (calE (aCons (frz (lcE (itS (varE 15)) (Tk.nm 8).k (tst (op2 (funE 1 (aCons (varE 8) aNil) Fweight) (varE 16) eqO)) (varE 8) [8])) aNil) tupO))
  (seqS (appS 9 (tupE (aCons (varE 12) (aCons (varE 17) aNil))))
  (seqS (asgS 11 (calE (aCons (varE 11) (aCons (varE 16) aNil)) maxO))
  (asgS 10 (op2 (varE 10) (op2 (calE (aCons (op2 (calE (aCons (varE 17) aNil) lenO) (cE (.int 1)) eqO) aNil) intO) (calE (aCons (varE 15) aNil) lenO) mulO) addO))))))))) ((allN p H.length).map Wd) (fun i S => ∃ y8 y12 y15 y16 y17, S = (LX21 (.im (scrD ss)) [.ob (.ls (stD q)), .ob (.dc kvs), .ob (.ls ((((allN p H.length).take i)).map (enC p n H)))] (.im (.int p)) (.im (.int (n : Int))) (.im (.lst (ra.map Wd))) (.im (codeD CC p n T)) (.im (TD H)) (.mu 1) y8 (.mu 2) (.im (.int (dec21 p n H W ((allN p H.length).take i)))) (.im (.int (rad21 p n H ((allN p H.length).take i)))) y12 .no .no y15 y16 y17 .no)) (LX21 (.im (scrD ss)) [.ob (.ls (stD q)), .ob (.dc kvs), .ob (.ls [])] (.im (.int p)) (.im (.int (n : Int))) (.im (.lst (ra.map Wd))) (.im (codeD CC p n T)) (.im (TD H)) (.mu 1) x8 (.mu 2) (.im (.int 0)) (.im (.int 0)) x12 .no .no .no .no .no .no) ⟨x8, x12, .no, .no, .no, by simp [rad21, dec21]⟩ (fun i d' S hd hI => by
    obtain ⟨y8, y12, y15, y16, y17, rfl⟩ := hI
    rw [List.getElem?_map] at hd
    obtain ⟨s, hs2, rfl⟩ := Option.map_eq_some_iff.mp hd
    have hs := List.mem_of_getElem? hs2
    have htk : ((allN p H.length).take (i + 1)) = ((allN p H.length).take i) ++ [s] := by rw [List.take_succ, hs2]; rfl
    have hil : i < (allN p H.length).length := (List.getElem?_eq_some_iff.mp hs2).1
    have hfl := h.fb_len hs
    have hmin := h.least hs
    have hle := h.lead_eq hs
    have hfok : ∀ u ∈ fbL p n H s, ok1 p n u := fun u hu => ((mem_fb (by omega : n ≤ 1000)).mp hu).1
    have hlw : (ldwS p n H s : Int) ≤ 1000 := by
      obtain ⟨u, r, g1, g2, g3, g4⟩ := h.ld hs
      have := wtW_le g2.1
      omega
    have a15 : (asgS 15 (getDf 7 (varE 12) (tupE aNil))) (LX21 (.im (scrD ss)) [.ob (.ls (stD q)), .ob (.dc kvs), .ob (.ls ((((allN p H.length).take i)).map (enC p n H)))] (.im (.int p)) (.im (.int (n : Int))) (.im (.lst (ra.map Wd))) (.im (codeD CC p n T)) (.im (TD H)) (.mu 1) y8 (.mu 2) (.im (.int (dec21 p n H W ((allN p H.length).take i)))) (.im (.int (rad21 p n H ((allN p H.length).take i)))) (.im (Wd s)) .no .no y15 y16 y17 .no) = .nx (LX21 (.im (scrD ss)) [.ob (.ls (stD q)), .ob (.dc kvs), .ob (.ls ((((allN p H.length).take i)).map (enC p n H)))] (.im (.int p)) (.im (.int (n : Int))) (.im (.lst (ra.map Wd))) (.im (codeD CC p n T)) (.im (TD H)) (.mu 1) y8 (.mu 2) (.im (.int (dec21 p n H W ((allN p H.length).take i)))) (.im (.int (rad21 p n H ((allN p H.length).take i)))) (.im (Wd s)) .no .no (.im (TD (fbL p n H s))) y16 y17 .no) := by
      have hdc : dcAt (LX21 (.im (scrD ss)) [.ob (.ls (stD q)), .ob (.dc kvs), .ob (.ls ((((allN p H.length).take i)).map (enC p n H)))] (.im (.int p)) (.im (.int (n : Int))) (.im (.lst (ra.map Wd))) (.im (codeD CC p n T)) (.im (TD H)) (.mu 1) y8 (.mu 2) (.im (.int (dec21 p n H W ((allN p H.length).take i)))) (.im (.int (rad21 p n H ((allN p H.length).take i)))) (.im (Wd s)) .no .no y15 y16 y17 .no) 7 = some (1, kvs) := rfl
      have v12 : varE 12 (LX21 (.im (scrD ss)) [.ob (.ls (stD q)), .ob (.dc kvs), .ob (.ls ((((allN p H.length).take i)).map (enC p n H)))] (.im (.int p)) (.im (.int (n : Int))) (.im (.lst (ra.map Wd))) (.im (codeD CC p n T)) (.im (TD H)) (.mu 1) y8 (.mu 2) (.im (.int (dec21 p n H W ((allN p H.length).take i)))) (.im (.int (rad21 p n H ((allN p H.length).take i)))) (.im (Wd s)) .no .no y15 y16 y17 .no) = .ok (Wd s) (LX21 (.im (scrD ss)) [.ob (.ls (stD q)), .ob (.dc kvs), .ob (.ls ((((allN p H.length).take i)).map (enC p n H)))] (.im (.int p)) (.im (.int (n : Int))) (.im (.lst (ra.map Wd))) (.im (codeD CC p n T)) (.im (TD H)) (.mu 1) y8 (.mu 2) (.im (.int (dec21 p n H W ((allN p H.length).take i)))) (.im (.int (rad21 p n H ((allN p H.length).take i)))) (.im (Wd s)) .no .no y15 y16 y17 .no) := rfl
      have ht : tupE aNil (LX21 (.im (scrD ss)) [.ob (.ls (stD q)), .ob (.dc kvs), .ob (.ls ((((allN p H.length).take i)).map (enC p n H)))] (.im (.int p)) (.im (.int (n : Int))) (.im (.lst (ra.map Wd))) (.im (codeD CC p n T)) (.im (TD H)) (.mu 1) y8 (.mu 2) (.im (.int (dec21 p n H W ((allN p H.length).take i)))) (.im (.int (rad21 p n H ((allN p H.length).take i)))) (.im (Wd s)) .no .no y15 y16 y17 .no) = .ok (.tup []) (LX21 (.im (scrD ss)) [.ob (.ls (stD q)), .ob (.dc kvs), .ob (.ls ((((allN p H.length).take i)).map (enC p n H)))] (.im (.int p)) (.im (.int (n : Int))) (.im (.lst (ra.map Wd))) (.im (codeD CC p n T)) (.im (TD H)) (.mu 1) y8 (.mu 2) (.im (.int (dec21 p n H W ((allN p H.length).take i)))) (.im (.int (rad21 p n H ((allN p H.length).take i)))) (.im (Wd s)) .no .no y15 y16 y17 .no) := rfl
      have hg : getDf 7 (varE 12) (tupE aNil) (LX21 (.im (scrD ss)) [.ob (.ls (stD q)), .ob (.dc kvs), .ob (.ls ((((allN p H.length).take i)).map (enC p n H)))] (.im (.int p)) (.im (.int (n : Int))) (.im (.lst (ra.map Wd))) (.im (codeD CC p n T)) (.im (TD H)) (.mu 1) y8 (.mu 2) (.im (.int (dec21 p n H W ((allN p H.length).take i)))) (.im (.int (rad21 p n H ((allN p H.length).take i)))) (.im (Wd s)) .no .no y15 y16 y17 .no) = .ok (TD (fbL p n H s)) (LX21 (.im (scrD ss)) [.ob (.ls (stD q)), .ob (.dc kvs), .ob (.ls ((((allN p H.length).take i)).map (enC p n H)))] (.im (.int p)) (.im (.int (n : Int))) (.im (.lst (ra.map Wd))) (.im (codeD CC p n T)) (.im (TD H)) (.mu 1) y8 (.mu 2) (.im (.int (dec21 p n H W ((allN p H.length).take i)))) (.im (.int (rad21 p n H ((allN p H.length).take i)))) (.im (Wd s)) .no .no y15 y16 y17 .no) := by
        unfold getDf
        rw [hdc]
        dsimp only
        rw [v12, R.bind_ok, ht, R.bind_ok, wordOf_Wd, hdc]
        dsimp only
        rw [hk, tb_get]
        rfl
      rw [asgS_run', hg]
      rfl
    have aif : (ifS (tst (op2 (calE (aCons (varE 15) aNil) lenO) (cE (.int 0)) eqO)) (retS (cE (.bl false))) nilS) (LX21 (.im (scrD ss)) [.ob (.ls (stD q)), .ob (.dc kvs), .ob (.ls ((((allN p H.length).take i)).map (enC p n H)))] (.im (.int p)) (.im (.int (n : Int))) (.im (.lst (ra.map Wd))) (.im (codeD CC p n T)) (.im (TD H)) (.mu 1) y8 (.mu 2) (.im (.int (dec21 p n H W ((allN p H.length).take i)))) (.im (.int (rad21 p n H ((allN p H.length).take i)))) (.im (Wd s)) .no .no (.im (TD (fbL p n H s))) y16 y17 .no) = .nx (LX21 (.im (scrD ss)) [.ob (.ls (stD q)), .ob (.dc kvs), .ob (.ls ((((allN p H.length).take i)).map (enC p n H)))] (.im (.int p)) (.im (.int (n : Int))) (.im (.lst (ra.map Wd))) (.im (codeD CC p n T)) (.im (TD H)) (.mu 1) y8 (.mu 2) (.im (.int (dec21 p n H W ((allN p H.length).take i)))) (.im (.int (rad21 p n H ((allN p H.length).take i)))) (.im (Wd s)) .no .no (.im (TD (fbL p n H s))) y16 y17 .no) := by
      have v15 : varE 15 (LX21 (.im (scrD ss)) [.ob (.ls (stD q)), .ob (.dc kvs), .ob (.ls ((((allN p H.length).take i)).map (enC p n H)))] (.im (.int p)) (.im (.int (n : Int))) (.im (.lst (ra.map Wd))) (.im (codeD CC p n T)) (.im (TD H)) (.mu 1) y8 (.mu 2) (.im (.int (dec21 p n H W ((allN p H.length).take i)))) (.im (.int (rad21 p n H ((allN p H.length).take i)))) (.im (Wd s)) .no .no (.im (TD (fbL p n H s))) y16 y17 .no) = .ok (TD (fbL p n H s)) (LX21 (.im (scrD ss)) [.ob (.ls (stD q)), .ob (.dc kvs), .ob (.ls ((((allN p H.length).take i)).map (enC p n H)))] (.im (.int p)) (.im (.int (n : Int))) (.im (.lst (ra.map Wd))) (.im (codeD CC p n T)) (.im (TD H)) (.mu 1) y8 (.mu 2) (.im (.int (dec21 p n H W ((allN p H.length).take i)))) (.im (.int (rad21 p n H ((allN p H.length).take i)))) (.im (Wd s)) .no .no (.im (TD (fbL p n H s))) y16 y17 .no) := rfl
      have ln := len_t7 (fbL p n H s)
      have e0 := eqO_int ((fbL p n H s).length : Int) 0
      rw [decide_eq_false (by omega)] at e0
      generalize (LX21 (.im (scrD ss)) [.ob (.ls (stD q)), .ob (.dc kvs), .ob (.ls ((((allN p H.length).take i)).map (enC p n H)))] (.im (.int p)) (.im (.int (n : Int))) (.im (.lst (ra.map Wd))) (.im (codeD CC p n T)) (.im (TD H)) (.mu 1) y8 (.mu 2) (.im (.int (dec21 p n H W ((allN p H.length).take i)))) (.im (.int (rad21 p n H ((allN p H.length).take i)))) (.im (Wd s)) .no .no (.im (TD (fbL p n H s))) y16 y17 .no) = U at *
      simp only [ifS_run, tst_run', op2_run, calE_run, aCons_run, aNil_run, cE_run, v15, ln, e0, R.bind_ok, R.of_some, Bool.false_eq_true, if_false, R.stmt_ok]
      rfl
    have l16 : lcE (itS (varE 15)) (Tk.nm 8).k yesT (funE 1 (aCons (varE 8) aNil) Fweight) [8] (LX21 (.im (scrD ss)) [.ob (.ls (stD q)), .ob (.dc kvs), .ob (.ls ((((allN p H.length).take i)).map (enC p n H)))] (.im (.int p)) (.im (.int (n : Int))) (.im (.lst (ra.map Wd))) (.im (codeD CC p n T)) (.im (TD H)) (.mu 1) y8 (.mu 2) (.im (.int (dec21 p n H W ((allN p H.length).take i)))) (.im (.int (rad21 p n H ((allN p H.length).take i)))) (.im (Wd s)) .no .no (.im (TD (fbL p n H s))) y16 y17 .no) = .ok ((fbL p n H s).map fun u => Dt.int (wtW u : Int)) (LX21 (.im (scrD ss)) [.ob (.ls (stD q)), .ob (.dc kvs), .ob (.ls ((((allN p H.length).take i)).map (enC p n H)))] (.im (.int p)) (.im (.int (n : Int))) (.im (.lst (ra.map Wd))) (.im (codeD CC p n T)) (.im (TD H)) (.mu 1) y8 (.mu 2) (.im (.int (dec21 p n H W ((allN p H.length).take i)))) (.im (.int (rad21 p n H ((allN p H.length).take i)))) (.im (Wd s)) .no .no (.im (TD (fbL p n H s))) y16 y17 .no) := by
      refine lcE_map Wd (fun u => Dt.int (wtW u : Int)) (fbL p n H s) rfl (fun u hu => ?_) (fun d T T' => Tk.mo) (by omega)
      have hw := Fweight_run (v := u) (by have := (hfok u hu).2; omega)
      let U : Ms := (LX21 (.im (scrD ss)) [.ob (.ls (stD q)), .ob (.dc kvs), .ob (.ls ((((allN p H.length).take i)).map (enC p n H)))] (.im (.int p)) (.im (.int (n : Int))) (.im (.lst (ra.map Wd))) (.im (codeD CC p n T)) (.im (TD H)) (.mu 1) (.im (Wd u)) (.mu 2) (.im (.int (dec21 p n H W ((allN p H.length).take i)))) (.im (.int (rad21 p n H ((allN p H.length).take i)))) (.im (Wd s)) .no .no (.im (TD (fbL p n H s))) y16 y17 .no)
      have w8 : varE 8 U = .ok (Wd u) U := rfl
      refine ⟨U, rfl, U, ?_, rfl⟩
      clear_value U
      simp only [funE_run, aCons_run, aNil_run, w8, R.bind_ok, List.length_cons, List.length_nil, Nat.zero_add, if_true, hw]
    have a16 : (asgS 16 (calE (aCons (frz (lcE (itS (varE 15)) (Tk.nm 8).k yesT (funE 1 (aCons (varE 8) aNil) Fweight) [8])) aNil) minLO)) (LX21 (.im (scrD ss)) [.ob (.ls (stD q)), .ob (.dc kvs), .ob (.ls ((((allN p H.length).take i)).map (enC p n H)))] (.im (.int p)) (.im (.int (n : Int))) (.im (.lst (ra.map Wd))) (.im (codeD CC p n T)) (.im (TD H)) (.mu 1) y8 (.mu 2) (.im (.int (dec21 p n H W ((allN p H.length).take i)))) (.im (.int (rad21 p n H ((allN p H.length).take i)))) (.im (Wd s)) .no .no (.im (TD (fbL p n H s))) y16 y17 .no) = .nx (LX21 (.im (scrD ss)) [.ob (.ls (stD q)), .ob (.dc kvs), .ob (.ls ((((allN p H.length).take i)).map (enC p n H)))] (.im (.int p)) (.im (.int (n : Int))) (.im (.lst (ra.map Wd))) (.im (codeD CC p n T)) (.im (TD H)) (.mu 1) y8 (.mu 2) (.im (.int (dec21 p n H W ((allN p H.length).take i)))) (.im (.int (rad21 p n H ((allN p H.length).take i)))) (.im (Wd s)) .no .no (.im (TD (fbL p n H s))) (.im (.int (ldwS p n H s : Int))) y17 .no) := by
      have e : ((fbL p n H s).map fun u => Dt.int (wtW u : Int)) = ((fbL p n H s).map fun u => (wtW u : Int)).map Dt.int := by rw [List.map_map]; rfl
      rw [asgS_run', calE_run, aCons_run, frz_run', l16, e]
      simp only [R.bind_ok, aNil_run, minLO_run, hmin, Option.map_some, R.of_some, R.stmt_ok]
      rfl
    have l17 : lcE (itS (varE 15)) (Tk.nm 8).k (tst (op2 (funE 1 (aCons (varE 8) aNil) Fweight) (varE 16) eqO)) (varE 8) [8] (LX21 (.im (scrD ss)) [.ob (.ls (stD q)), .ob (.dc kvs), .ob (.ls ((((allN p H.length).take i)).map (enC p n H)))] (.im (.int p)) (.im (.int (n : Int))) (.im (.lst (ra.map Wd))) (.im (codeD CC p n T)) (.im (TD H)) (.mu 1) y8 (.mu 2) (.im (.int (dec21 p n H W ((allN p H.length).take i)))) (.im (.int (rad21 p n H ((allN p H.length).take i)))) (.im (Wd s)) .no .no (.im (TD (fbL p n H s))) (.im (.int (ldwS p n H s : Int))) y17 .no) = .ok (((fbL p n H s).filter fun u => decide ((wtW u : Int) = (ldwS p n H s : Int))).map Wd) (LX21 (.im (scrD ss)) [.ob (.ls (stD q)), .ob (.dc kvs), .ob (.ls ((((allN p H.length).take i)).map (enC p n H)))] (.im (.int p)) (.im (.int (n : Int))) (.im (.lst (ra.map Wd))) (.im (codeD CC p n T)) (.im (TD H)) (.mu 1) y8 (.mu 2) (.im (.int (dec21 p n H W ((allN p H.length).take i)))) (.im (.int (rad21 p n H ((allN p H.length).take i)))) (.im (Wd s)) .no .no (.im (TD (fbL p n H s))) (.im (.int (ldwS p n H s : Int))) y17 .no) := by
      refine lcE_flt Wd (fun u => decide ((wtW u : Int) = (ldwS p n H s : Int))) Wd (fbL p n H s) rfl (fun u hu => ?_) (by omega)
      have hw := Fweight_run (v := u) (by have := (hfok u hu).2; omega)
      let U : Ms := (LX21 (.im (scrD ss)) [.ob (.ls (stD q)), .ob (.dc kvs), .ob (.ls ((((allN p H.length).take i)).map (enC p n H)))] (.im (.int p)) (.im (.int (n : Int))) (.im (.lst (ra.map Wd))) (.im (codeD CC p n T)) (.im (TD H)) (.mu 1) (.im (Wd u)) (.mu 2) (.im (.int (dec21 p n H W ((allN p H.length).take i)))) (.im (.int (rad21 p n H ((allN p H.length).take i)))) (.im (Wd s)) .no .no (.im (TD (fbL p n H s))) (.im (.int (ldwS p n H s : Int))) y17 .no)
      have w8 : varE 8 U = .ok (Wd u) U := rfl
      have w16 : varE 16 U = .ok (.int (ldwS p n H s : Int)) U := rfl
      refine ⟨U, U, rfl, ?_, rfl, fun _ => ⟨U, w8, rfl⟩⟩
      clear_value U
      simp only [tst_run', op2_run, funE_run, aCons_run, aNil_run, w8, w16, R.bind_ok, List.length_cons, List.length_nil, Nat.zero_add, if_true, hw, eqO_int, R.of_some]
    have a17 : (asgS 17 (calE (aCons (frz (lcE (itS (varE 15)) (Tk.nm 8).k (tst (op2 (funE 1 (aCons (varE 8) aNil) Fweight) (varE 16) eqO)) (varE 8) [8])) aNil) tupO)) (LX21 (.im (scrD ss)) [.ob (.ls (stD q)), .ob (.dc kvs), .ob (.ls ((((allN p H.length).take i)).map (enC p n H)))] (.im (.int p)) (.im (.int (n : Int))) (.im (.lst (ra.map Wd))) (.im (codeD CC p n T)) (.im (TD H)) (.mu 1) y8 (.mu 2) (.im (.int (dec21 p n H W ((allN p H.length).take i)))) (.im (.int (rad21 p n H ((allN p H.length).take i)))) (.im (Wd s)) .no .no (.im (TD (fbL p n H s))) (.im (.int (ldwS p n H s : Int))) y17 .no) = .nx (LX21 (.im (scrD ss)) [.ob (.ls (stD q)), .ob (.dc kvs), .ob (.ls ((((allN p H.length).take i)).map (enC p n H)))] (.im (.int p)) (.im (.int (n : Int))) (.im (.lst (ra.map Wd))) (.im (codeD CC p n T)) (.im (TD H)) (.mu 1) y8 (.mu 2) (.im (.int (dec21 p n H W ((allN p H.length).take i)))) (.im (.int (rad21 p n H ((allN p H.length).take i)))) (.im (Wd s)) .no .no (.im (TD (fbL p n H s))) (.im (.int (ldwS p n H s : Int))) (.im (TD (ldL p n H s))) .no) := by
      have htp : tupO [.lst ((ldL p n H s).map Wd)] = some (TD (ldL p n H s)) := rfl
      rw [asgS_run', calE_run, aCons_run, frz_run', l17, hle]
      simp only [R.bind_ok, aNil_run, htp, R.of_some, R.stmt_ok]
      rfl
    have hdl : ((((allN p H.length).take i)).map (enC p n H)).length < 100000 := by
      rw [List.length_map, List.length_take]
      omega
    have aap : (appS 9 (tupE (aCons (varE 12) (aCons (varE 17) aNil)))) (LX21 (.im (scrD ss)) [.ob (.ls (stD q)), .ob (.dc kvs), .ob (.ls ((((allN p H.length).take i)).map (enC p n H)))] (.im (.int p)) (.im (.int (n : Int))) (.im (.lst (ra.map Wd))) (.im (codeD CC p n T)) (.im (TD H)) (.mu 1) y8 (.mu 2) (.im (.int (dec21 p n H W ((allN p H.length).take i)))) (.im (.int (rad21 p n H ((allN p H.length).take i)))) (.im (Wd s)) .no .no (.im (TD (fbL p n H s))) (.im (.int (ldwS p n H s : Int))) (.im (TD (ldL p n H s))) .no) = .nx (LX21 (.im (scrD ss)) [.ob (.ls (stD q)), .ob (.dc kvs), .ob (.ls ((((allN p H.length).take i)).map (enC p n H) ++ [enC p n H s]))] (.im (.int p)) (.im (.int (n : Int))) (.im (.lst (ra.map Wd))) (.im (codeD CC p n T)) (.im (TD H)) (.mu 1) y8 (.mu 2) (.im (.int (dec21 p n H W ((allN p H.length).take i)))) (.im (.int (rad21 p n H ((allN p H.length).take i)))) (.im (Wd s)) .no .no (.im (TD (fbL p n H s))) (.im (.int (ldwS p n H s : Int))) (.im (TD (ldL p n H s))) .no) := by
      have hm : muAt (LX21 (.im (scrD ss)) [.ob (.ls (stD q)), .ob (.dc kvs), .ob (.ls ((((allN p H.length).take i)).map (enC p n H)))] (.im (.int p)) (.im (.int (n : Int))) (.im (.lst (ra.map Wd))) (.im (codeD CC p n T)) (.im (TD H)) (.mu 1) y8 (.mu 2) (.im (.int (dec21 p n H W ((allN p H.length).take i)))) (.im (.int (rad21 p n H ((allN p H.length).take i)))) (.im (Wd s)) .no .no (.im (TD (fbL p n H s))) (.im (.int (ldwS p n H s : Int))) (.im (TD (ldL p n H s))) .no) 9 = some (2, ((((allN p H.length).take i)).map (enC p n H))) := rfl
      have ht : tupE (aCons (varE 12) (aCons (varE 17) aNil)) (LX21 (.im (scrD ss)) [.ob (.ls (stD q)), .ob (.dc kvs), .ob (.ls ((((allN p H.length).take i)).map (enC p n H)))] (.im (.int p)) (.im (.int (n : Int))) (.im (.lst (ra.map Wd))) (.im (codeD CC p n T)) (.im (TD H)) (.mu 1) y8 (.mu 2) (.im (.int (dec21 p n H W ((allN p H.length).take i)))) (.im (.int (rad21 p n H ((allN p H.length).take i)))) (.im (Wd s)) .no .no (.im (TD (fbL p n H s))) (.im (.int (ldwS p n H s : Int))) (.im (TD (ldL p n H s))) .no) = .ok (enC p n H s) (LX21 (.im (scrD ss)) [.ob (.ls (stD q)), .ob (.dc kvs), .ob (.ls ((((allN p H.length).take i)).map (enC p n H)))] (.im (.int p)) (.im (.int (n : Int))) (.im (.lst (ra.map Wd))) (.im (codeD CC p n T)) (.im (TD H)) (.mu 1) y8 (.mu 2) (.im (.int (dec21 p n H W ((allN p H.length).take i)))) (.im (.int (rad21 p n H ((allN p H.length).take i)))) (.im (Wd s)) .no .no (.im (TD (fbL p n H s))) (.im (.int (ldwS p n H s : Int))) (.im (TD (ldL p n H s))) .no) := rfl
      rw [appS_run, hm]
      dsimp only
      rw [ht, R.stmt_ok, hm]
      dsimp only
      rw [if_pos hdl]
      rfl
    have hrad : rad21 p n H ((allN p H.length).take (i + 1)) = max (rad21 p n H ((allN p H.length).take i)) (ldwS p n H s : Int) := by
      unfold rad21
      rw [htk, List.map_append, List.foldl_append]
      rfl
    have hdec : dec21 p n H W ((allN p H.length).take (i + 1)) = dec21 p n H W ((allN p H.length).take i) + (if (ldL p n H s).length = 1 then 1 else 0) * (W.length : Int) := by
      unfold dec21
      rw [htk, List.filter_append, List.length_append]
      by_cases e : (ldL p n H s).length = 1
      · rw [if_pos e]
        have : ([s].filter fun s => decide ((ldL p n H s).length = 1)) = [s] := by simp [e]
        rw [this, List.length_cons, List.length_nil]
        grind
      · rw [if_neg e]
        have : ([s].filter fun s => decide ((ldL p n H s).length = 1)) = [] := by simp [e]
        rw [this, List.length_nil]
        grind
    have a11 : (asgS 11 (calE (aCons (varE 11) (aCons (varE 16) aNil)) maxO)) (LX21 (.im (scrD ss)) [.ob (.ls (stD q)), .ob (.dc kvs), .ob (.ls ((((allN p H.length).take i)).map (enC p n H) ++ [enC p n H s]))] (.im (.int p)) (.im (.int (n : Int))) (.im (.lst (ra.map Wd))) (.im (codeD CC p n T)) (.im (TD H)) (.mu 1) y8 (.mu 2) (.im (.int (dec21 p n H W ((allN p H.length).take i)))) (.im (.int (rad21 p n H ((allN p H.length).take i)))) (.im (Wd s)) .no .no (.im (TD (fbL p n H s))) (.im (.int (ldwS p n H s : Int))) (.im (TD (ldL p n H s))) .no) = .nx (LX21 (.im (scrD ss)) [.ob (.ls (stD q)), .ob (.dc kvs), .ob (.ls ((((allN p H.length).take i)).map (enC p n H) ++ [enC p n H s]))] (.im (.int p)) (.im (.int (n : Int))) (.im (.lst (ra.map Wd))) (.im (codeD CC p n T)) (.im (TD H)) (.mu 1) y8 (.mu 2) (.im (.int (dec21 p n H W ((allN p H.length).take i)))) (.im (.int (rad21 p n H ((allN p H.length).take (i + 1))))) (.im (Wd s)) .no .no (.im (TD (fbL p n H s))) (.im (.int (ldwS p n H s : Int))) (.im (TD (ldL p n H s))) .no) := by
      have v11 : varE 11 (LX21 (.im (scrD ss)) [.ob (.ls (stD q)), .ob (.dc kvs), .ob (.ls ((((allN p H.length).take i)).map (enC p n H) ++ [enC p n H s]))] (.im (.int p)) (.im (.int (n : Int))) (.im (.lst (ra.map Wd))) (.im (codeD CC p n T)) (.im (TD H)) (.mu 1) y8 (.mu 2) (.im (.int (dec21 p n H W ((allN p H.length).take i)))) (.im (.int (rad21 p n H ((allN p H.length).take i)))) (.im (Wd s)) .no .no (.im (TD (fbL p n H s))) (.im (.int (ldwS p n H s : Int))) (.im (TD (ldL p n H s))) .no) = .ok (.int (rad21 p n H ((allN p H.length).take i))) (LX21 (.im (scrD ss)) [.ob (.ls (stD q)), .ob (.dc kvs), .ob (.ls ((((allN p H.length).take i)).map (enC p n H) ++ [enC p n H s]))] (.im (.int p)) (.im (.int (n : Int))) (.im (.lst (ra.map Wd))) (.im (codeD CC p n T)) (.im (TD H)) (.mu 1) y8 (.mu 2) (.im (.int (dec21 p n H W ((allN p H.length).take i)))) (.im (.int (rad21 p n H ((allN p H.length).take i)))) (.im (Wd s)) .no .no (.im (TD (fbL p n H s))) (.im (.int (ldwS p n H s : Int))) (.im (TD (ldL p n H s))) .no) := rfl
      have v16 : varE 16 (LX21 (.im (scrD ss)) [.ob (.ls (stD q)), .ob (.dc kvs), .ob (.ls ((((allN p H.length).take i)).map (enC p n H) ++ [enC p n H s]))] (.im (.int p)) (.im (.int (n : Int))) (.im (.lst (ra.map Wd))) (.im (codeD CC p n T)) (.im (TD H)) (.mu 1) y8 (.mu 2) (.im (.int (dec21 p n H W ((allN p H.length).take i)))) (.im (.int (rad21 p n H ((allN p H.length).take i)))) (.im (Wd s)) .no .no (.im (TD (fbL p n H s))) (.im (.int (ldwS p n H s : Int))) (.im (TD (ldL p n H s))) .no) = .ok (.int (ldwS p n H s : Int)) (LX21 (.im (scrD ss)) [.ob (.ls (stD q)), .ob (.dc kvs), .ob (.ls ((((allN p H.length).take i)).map (enC p n H) ++ [enC p n H s]))] (.im (.int p)) (.im (.int (n : Int))) (.im (.lst (ra.map Wd))) (.im (codeD CC p n T)) (.im (TD H)) (.mu 1) y8 (.mu 2) (.im (.int (dec21 p n H W ((allN p H.length).take i)))) (.im (.int (rad21 p n H ((allN p H.length).take i)))) (.im (Wd s)) .no .no (.im (TD (fbL p n H s))) (.im (.int (ldwS p n H s : Int))) (.im (TD (ldL p n H s))) .no) := rfl
      have hmx : maxO [.int (rad21 p n H ((allN p H.length).take i)), .int (ldwS p n H s : Int)] = some (.int (rad21 p n H ((allN p H.length).take (i + 1)))) := by
        show some (Dt.int (if (ldwS p n H s : Int) > rad21 p n H ((allN p H.length).take i) then (ldwS p n H s : Int) else rad21 p n H ((allN p H.length).take i))) = _
        rw [hrad]
        congr 2
        split <;> omega
      have key : calE (aCons (varE 11) (aCons (varE 16) aNil)) maxO (LX21 (.im (scrD ss)) [.ob (.ls (stD q)), .ob (.dc kvs), .ob (.ls ((((allN p H.length).take i)).map (enC p n H) ++ [enC p n H s]))] (.im (.int p)) (.im (.int (n : Int))) (.im (.lst (ra.map Wd))) (.im (codeD CC p n T)) (.im (TD H)) (.mu 1) y8 (.mu 2) (.im (.int (dec21 p n H W ((allN p H.length).take i)))) (.im (.int (rad21 p n H ((allN p H.length).take i)))) (.im (Wd s)) .no .no (.im (TD (fbL p n H s))) (.im (.int (ldwS p n H s : Int))) (.im (TD (ldL p n H s))) .no) = .ok (.int (rad21 p n H ((allN p H.length).take (i + 1)))) (LX21 (.im (scrD ss)) [.ob (.ls (stD q)), .ob (.dc kvs), .ob (.ls ((((allN p H.length).take i)).map (enC p n H) ++ [enC p n H s]))] (.im (.int p)) (.im (.int (n : Int))) (.im (.lst (ra.map Wd))) (.im (codeD CC p n T)) (.im (TD H)) (.mu 1) y8 (.mu 2) (.im (.int (dec21 p n H W ((allN p H.length).take i)))) (.im (.int (rad21 p n H ((allN p H.length).take i)))) (.im (Wd s)) .no .no (.im (TD (fbL p n H s))) (.im (.int (ldwS p n H s : Int))) (.im (TD (ldL p n H s))) .no) := by
        generalize (LX21 (.im (scrD ss)) [.ob (.ls (stD q)), .ob (.dc kvs), .ob (.ls ((((allN p H.length).take i)).map (enC p n H) ++ [enC p n H s]))] (.im (.int p)) (.im (.int (n : Int))) (.im (.lst (ra.map Wd))) (.im (codeD CC p n T)) (.im (TD H)) (.mu 1) y8 (.mu 2) (.im (.int (dec21 p n H W ((allN p H.length).take i)))) (.im (.int (rad21 p n H ((allN p H.length).take i)))) (.im (Wd s)) .no .no (.im (TD (fbL p n H s))) (.im (.int (ldwS p n H s : Int))) (.im (TD (ldL p n H s))) .no) = U at *
        simp only [calE_run, aCons_run, aNil_run, v11, v16, hmx, R.bind_ok, R.of_some]
      rw [asgS_run', key]
      rfl
    have a10 : (asgS 10 (op2 (varE 10) (op2 (calE (aCons (op2 (calE (aCons (varE 17) aNil) lenO) (cE (.int 1)) eqO) aNil) intO) (calE (aCons (varE 15) aNil) lenO) mulO) addO)) (LX21 (.im (scrD ss)) [.ob (.ls (stD q)), .ob (.dc kvs), .ob (.ls ((((allN p H.length).take i)).map (enC p n H) ++ [enC p n H s]))] (.im (.int p)) (.im (.int (n : Int))) (.im (.lst (ra.map Wd))) (.im (codeD CC p n T)) (.im (TD H)) (.mu 1) y8 (.mu 2) (.im (.int (dec21 p n H W ((allN p H.length).take i)))) (.im (.int (rad21 p n H ((allN p H.length).take (i + 1))))) (.im (Wd s)) .no .no (.im (TD (fbL p n H s))) (.im (.int (ldwS p n H s : Int))) (.im (TD (ldL p n H s))) .no) = .nx (LX21 (.im (scrD ss)) [.ob (.ls (stD q)), .ob (.dc kvs), .ob (.ls ((((allN p H.length).take i)).map (enC p n H) ++ [enC p n H s]))] (.im (.int p)) (.im (.int (n : Int))) (.im (.lst (ra.map Wd))) (.im (codeD CC p n T)) (.im (TD H)) (.mu 1) y8 (.mu 2) (.im (.int (dec21 p n H W ((allN p H.length).take (i + 1))))) (.im (.int (rad21 p n H ((allN p H.length).take (i + 1))))) (.im (Wd s)) .no .no (.im (TD (fbL p n H s))) (.im (.int (ldwS p n H s : Int))) (.im (TD (ldL p n H s))) .no) := by
      have v10 : varE 10 (LX21 (.im (scrD ss)) [.ob (.ls (stD q)), .ob (.dc kvs), .ob (.ls ((((allN p H.length).take i)).map (enC p n H) ++ [enC p n H s]))] (.im (.int p)) (.im (.int (n : Int))) (.im (.lst (ra.map Wd))) (.im (codeD CC p n T)) (.im (TD H)) (.mu 1) y8 (.mu 2) (.im (.int (dec21 p n H W ((allN p H.length).take i)))) (.im (.int (rad21 p n H ((allN p H.length).take (i + 1))))) (.im (Wd s)) .no .no (.im (TD (fbL p n H s))) (.im (.int (ldwS p n H s : Int))) (.im (TD (ldL p n H s))) .no) = .ok (.int (dec21 p n H W ((allN p H.length).take i))) (LX21 (.im (scrD ss)) [.ob (.ls (stD q)), .ob (.dc kvs), .ob (.ls ((((allN p H.length).take i)).map (enC p n H) ++ [enC p n H s]))] (.im (.int p)) (.im (.int (n : Int))) (.im (.lst (ra.map Wd))) (.im (codeD CC p n T)) (.im (TD H)) (.mu 1) y8 (.mu 2) (.im (.int (dec21 p n H W ((allN p H.length).take i)))) (.im (.int (rad21 p n H ((allN p H.length).take (i + 1))))) (.im (Wd s)) .no .no (.im (TD (fbL p n H s))) (.im (.int (ldwS p n H s : Int))) (.im (TD (ldL p n H s))) .no) := rfl
      have v15 : varE 15 (LX21 (.im (scrD ss)) [.ob (.ls (stD q)), .ob (.dc kvs), .ob (.ls ((((allN p H.length).take i)).map (enC p n H) ++ [enC p n H s]))] (.im (.int p)) (.im (.int (n : Int))) (.im (.lst (ra.map Wd))) (.im (codeD CC p n T)) (.im (TD H)) (.mu 1) y8 (.mu 2) (.im (.int (dec21 p n H W ((allN p H.length).take i)))) (.im (.int (rad21 p n H ((allN p H.length).take (i + 1))))) (.im (Wd s)) .no .no (.im (TD (fbL p n H s))) (.im (.int (ldwS p n H s : Int))) (.im (TD (ldL p n H s))) .no) = .ok (TD (fbL p n H s)) (LX21 (.im (scrD ss)) [.ob (.ls (stD q)), .ob (.dc kvs), .ob (.ls ((((allN p H.length).take i)).map (enC p n H) ++ [enC p n H s]))] (.im (.int p)) (.im (.int (n : Int))) (.im (.lst (ra.map Wd))) (.im (codeD CC p n T)) (.im (TD H)) (.mu 1) y8 (.mu 2) (.im (.int (dec21 p n H W ((allN p H.length).take i)))) (.im (.int (rad21 p n H ((allN p H.length).take (i + 1))))) (.im (Wd s)) .no .no (.im (TD (fbL p n H s))) (.im (.int (ldwS p n H s : Int))) (.im (TD (ldL p n H s))) .no) := rfl
      have v17 : varE 17 (LX21 (.im (scrD ss)) [.ob (.ls (stD q)), .ob (.dc kvs), .ob (.ls ((((allN p H.length).take i)).map (enC p n H) ++ [enC p n H s]))] (.im (.int p)) (.im (.int (n : Int))) (.im (.lst (ra.map Wd))) (.im (codeD CC p n T)) (.im (TD H)) (.mu 1) y8 (.mu 2) (.im (.int (dec21 p n H W ((allN p H.length).take i)))) (.im (.int (rad21 p n H ((allN p H.length).take (i + 1))))) (.im (Wd s)) .no .no (.im (TD (fbL p n H s))) (.im (.int (ldwS p n H s : Int))) (.im (TD (ldL p n H s))) .no) = .ok (TD (ldL p n H s)) (LX21 (.im (scrD ss)) [.ob (.ls (stD q)), .ob (.dc kvs), .ob (.ls ((((allN p H.length).take i)).map (enC p n H) ++ [enC p n H s]))] (.im (.int p)) (.im (.int (n : Int))) (.im (.lst (ra.map Wd))) (.im (codeD CC p n T)) (.im (TD H)) (.mu 1) y8 (.mu 2) (.im (.int (dec21 p n H W ((allN p H.length).take i)))) (.im (.int (rad21 p n H ((allN p H.length).take (i + 1))))) (.im (Wd s)) .no .no (.im (TD (fbL p n H s))) (.im (.int (ldwS p n H s : Int))) (.im (TD (ldL p n H s))) .no) := rfl
      have ln1 := len_t7 (ldL p n H s)
      have ln2 := len_t7 (fbL p n H s)
      rw [hfl] at ln2
      have e0 := eqO_int ((ldL p n H s).length : Int) 1
      have hin : intO [.bl (decide (((ldL p n H s).length : Int) = 1))] = some (.int (if (ldL p n H s).length = 1 then 1 else 0)) := by
        by_cases e : (ldL p n H s).length = 1
        · rw [if_pos e, decide_eq_true (by omega)]
          rfl
        · rw [if_neg e, decide_eq_false (by omega)]
          rfl
      have hmul : mulO (.int (if (ldL p n H s).length = 1 then 1 else 0)) (.int (W.length : Int)) = some (.int ((if (ldL p n H s).length = 1 then 1 else 0) * (W.length : Int))) := mulO_c (cmul_small (by split <;> omega) (by split <;> omega) _)
      have had : addO (.int (dec21 p n H W ((allN p H.length).take i))) (.int ((if (ldL p n H s).length = 1 then 1 else 0) * (W.length : Int))) = some (.int (dec21 p n H W ((allN p H.length).take (i + 1)))) := by
        show some (Dt.int (dec21 p n H W ((allN p H.length).take i) + (if (ldL p n H s).length = 1 then 1 else 0) * (W.length : Int))) = _
        rw [hdec]
      have key : (op2 (varE 10) (op2 (calE (aCons (op2 (calE (aCons (varE 17) aNil) lenO) (cE (.int 1)) eqO) aNil) intO) (calE (aCons (varE 15) aNil) lenO) mulO) addO) (LX21 (.im (scrD ss)) [.ob (.ls (stD q)), .ob (.dc kvs), .ob (.ls ((((allN p H.length).take i)).map (enC p n H) ++ [enC p n H s]))] (.im (.int p)) (.im (.int (n : Int))) (.im (.lst (ra.map Wd))) (.im (codeD CC p n T)) (.im (TD H)) (.mu 1) y8 (.mu 2) (.im (.int (dec21 p n H W ((allN p H.length).take i)))) (.im (.int (rad21 p n H ((allN p H.length).take (i + 1))))) (.im (Wd s)) .no .no (.im (TD (fbL p n H s))) (.im (.int (ldwS p n H s : Int))) (.im (TD (ldL p n H s))) .no) = .ok (.int (dec21 p n H W ((allN p H.length).take (i + 1)))) (LX21 (.im (scrD ss)) [.ob (.ls (stD q)), .ob (.dc kvs), .ob (.ls ((((allN p H.length).take i)).map (enC p n H) ++ [enC p n H s]))] (.im (.int p)) (.im (.int (n : Int))) (.im (.lst (ra.map Wd))) (.im (codeD CC p n T)) (.im (TD H)) (.mu 1) y8 (.mu 2) (.im (.int (dec21 p n H W ((allN p H.length).take i)))) (.im (.int (rad21 p n H ((allN p H.length).take (i + 1))))) (.im (Wd s)) .no .no (.im (TD (fbL p n H s))) (.im (.int (ldwS p n H s : Int))) (.im (TD (ldL p n H s))) .no) := by
        generalize (LX21 (.im (scrD ss)) [.ob (.ls (stD q)), .ob (.dc kvs), .ob (.ls ((((allN p H.length).take i)).map (enC p n H) ++ [enC p n H s]))] (.im (.int p)) (.im (.int (n : Int))) (.im (.lst (ra.map Wd))) (.im (codeD CC p n T)) (.im (TD H)) (.mu 1) y8 (.mu 2) (.im (.int (dec21 p n H W ((allN p H.length).take i)))) (.im (.int (rad21 p n H ((allN p H.length).take (i + 1))))) (.im (Wd s)) .no .no (.im (TD (fbL p n H s))) (.im (.int (ldwS p n H s : Int))) (.im (TD (ldL p n H s))) .no) = U at *
        simp only [op2_run, calE_run, aCons_run, aNil_run, cE_run, v10, v15, v17, ln1, ln2, e0, hin, hmul, had, R.bind_ok, R.of_some]
      rw [asgS_run', key]
      rfl
    refine ⟨(LX21 (.im (scrD ss)) [.ob (.ls (stD q)), .ob (.dc kvs), .ob (.ls ((((allN p H.length).take i)).map (enC p n H)))] (.im (.int p)) (.im (.int (n : Int))) (.im (.lst (ra.map Wd))) (.im (codeD CC p n T)) (.im (TD H)) (.mu 1) y8 (.mu 2) (.im (.int (dec21 p n H W ((allN p H.length).take i)))) (.im (.int (rad21 p n H ((allN p H.length).take i)))) (.im (Wd s)) .no .no y15 y16 y17 .no), (LX21 (.im (scrD ss)) [.ob (.ls (stD q)), .ob (.dc kvs), .ob (.ls ((((allN p H.length).take i)).map (enC p n H) ++ [enC p n H s]))] (.im (.int p)) (.im (.int (n : Int))) (.im (.lst (ra.map Wd))) (.im (codeD CC p n T)) (.im (TD H)) (.mu 1) y8 (.mu 2) (.im (.int (dec21 p n H W ((allN p H.length).take (i + 1))))) (.im (.int (rad21 p n H ((allN p H.length).take (i + 1))))) (.im (Wd s)) .no .no (.im (TD (fbL p n H s))) (.im (.int (ldwS p n H s : Int))) (.im (TD (ldL p n H s))) .no), rfl, .inl ?_, y8, (.im (Wd s)), (.im (TD (fbL p n H s))), (.im (.int (ldwS p n H s : Int))), (.im (TD (ldL p n H s))), ?_⟩
    · rw [sqT21 a15, sqT21 aif, sqT21 a16, sqT21 a17, sqT21 aap, sqT21 a11, a10]
    · have e2 : (((allN p H.length).take (i + 1))).map (enC p n H) = ((((allN p H.length).take i)).map (enC p n H) ++ [enC p n H s]) := by rw [htk, List.map_append]; rfl
      rw [e2])
  obtain ⟨y8, y12, y15, y16, y17, rfl⟩ := f2
  rw [List.length_map, List.take_length] at f1
  refine ⟨y8, y12, y15, y16, y17, ?_⟩
  rw [forS_run, hit, R.stmt_ok, f1]
theorem k21_12 {CC CM CR : Addr} {ss : List Int} {q : Int × Int} {p : Int} {n : Nat} {ra T W H : List (List Int)} {kvs : List (List Int × Dt)} {y8 y12 y15 y16 y17 : Sv} (h : D21 p n ra T W H) : (asgS 13 (funE 1 (aCons (varE 5) aNil) (Fcosets CC CM CR))) (LX21 (.im (scrD ss)) [.ob (.ls (stD q)), .ob (.dc kvs), .ob (.ls (((allN p H.length)).map (enC p n H)))] (.im (.int p)) (.im (.int (n : Int))) (.im (.lst (ra.map Wd))) (.im (codeD CC p n T)) (.im (TD H)) (.mu 1) y8 (.mu 2) (.im (.int (dec21 p n H W (allN p H.length)))) (.im (.int (rad21 p n H (allN p H.length)))) y12 .no .no y15 y16 y17 .no) = .nx (LX21 (.im (scrD ss)) [.ob (.ls (stD q)), .ob (.dc kvs), .ob (.ls (((allN p H.length)).map (enC p n H)))] (.im (.int p)) (.im (.int (n : Int))) (.im (.lst (ra.map Wd))) (.im (codeD CC p n T)) (.im (TD H)) (.mu 1) y8 (.mu 2) (.im (.int (dec21 p n H W (allN p H.length)))) (.im (.int (rad21 p n H (allN p H.length)))) y12 (.im (cosD p n H)) .no y15 y16 y17 .no) := by
  have hn := h.c.hn
  have hf := Fcosets_run (CC := CC) (CM := CM) (CR := CR) h.c.hp (by omega : n ≤ 12) h.c.ha h.c.hc (by have := h.pn; omega)
  rw [← h.eH] at hf
  have v5 : varE 5 (LX21 (.im (scrD ss)) [.ob (.ls (stD q)), .ob (.dc kvs), .ob (.ls (((allN p H.length)).map (enC p n H)))] (.im (.int p)) (.im (.int (n : Int))) (.im (.lst (ra.map Wd))) (.im (codeD CC p n T)) (.im (TD H)) (.mu 1) y8 (.mu 2) (.im (.int (dec21 p n H W (allN p H.length)))) (.im (.int (rad21 p n H (allN p H.length)))) y12 .no .no y15 y16 y17 .no) = .ok (codeD CC p n T) (LX21 (.im (scrD ss)) [.ob (.ls (stD q)), .ob (.dc kvs), .ob (.ls (((allN p H.length)).map (enC p n H)))] (.im (.int p)) (.im (.int (n : Int))) (.im (.lst (ra.map Wd))) (.im (codeD CC p n T)) (.im (TD H)) (.mu 1) y8 (.mu 2) (.im (.int (dec21 p n H W (allN p H.length)))) (.im (.int (rad21 p n H (allN p H.length)))) y12 .no .no y15 y16 y17 .no) := rfl
  have key : funE 1 (aCons (varE 5) aNil) (Fcosets CC CM CR) (LX21 (.im (scrD ss)) [.ob (.ls (stD q)), .ob (.dc kvs), .ob (.ls (((allN p H.length)).map (enC p n H)))] (.im (.int p)) (.im (.int (n : Int))) (.im (.lst (ra.map Wd))) (.im (codeD CC p n T)) (.im (TD H)) (.mu 1) y8 (.mu 2) (.im (.int (dec21 p n H W (allN p H.length)))) (.im (.int (rad21 p n H (allN p H.length)))) y12 .no .no y15 y16 y17 .no) = .ok (cosD p n H) (LX21 (.im (scrD ss)) [.ob (.ls (stD q)), .ob (.dc kvs), .ob (.ls (((allN p H.length)).map (enC p n H)))] (.im (.int p)) (.im (.int (n : Int))) (.im (.lst (ra.map Wd))) (.im (codeD CC p n T)) (.im (TD H)) (.mu 1) y8 (.mu 2) (.im (.int (dec21 p n H W (allN p H.length)))) (.im (.int (rad21 p n H (allN p H.length)))) y12 .no .no y15 y16 y17 .no) := by
    generalize (LX21 (.im (scrD ss)) [.ob (.ls (stD q)), .ob (.dc kvs), .ob (.ls (((allN p H.length)).map (enC p n H)))] (.im (.int p)) (.im (.int (n : Int))) (.im (.lst (ra.map Wd))) (.im (codeD CC p n T)) (.im (TD H)) (.mu 1) y8 (.mu 2) (.im (.int (dec21 p n H W (allN p H.length)))) (.im (.int (rad21 p n H (allN p H.length)))) y12 .no .no y15 y16 y17 .no) = U at *
    simp only [funE_run, aCons_run, aNil_run, v5, R.bind_ok, List.length_cons, List.length_nil, Nat.zero_add, if_true, hf]
  rw [asgS_run', key]
  rfl
theorem max_rad {p : Int} {n : Nat} {H : List (List Int)} (hp : isP p = true) : maxF ((allN p H.length).map fun s => (ldwS p n H s : Int)) = some (rad21 p n H (allN p H.length)) := by
  have hcs := isP_cases hp
  have hl : 0 < (allN p H.length).length := by
    rw [allN_len]
    exact Nat.pow_pos (by omega)
  unfold rad21
  cases he : allN p H.length with
  | nil => rw [he] at hl; simp at hl
  | cons s r =>
    rw [List.map_cons, List.foldl_cons]
    show some _ = some _
    congr 2
    try omega
theorem k21_13 {CC CM CR : Addr} {ss : List Int} {q : Int × Int} {p : Int} {n : Nat} {ra T W H : List (List Int)} {kvs : List (List Int × Dt)} {y8 y12 y15 y16 y17 : Sv} (h : D21 p n ra T W H) : (ifS (orT (tst (op2 (varE 13) (calE (aCons (varE 9) aNil) tupO) neO)) (orT (tst (op2 (funE 1 (aCons (varE 5) aNil) (Fcovrad CC CM CR)) (varE 11) neO)) (tst (op2 (funE 1 (aCons (varE 5) aNil) (Fcountd CC CM CR)) (varE 10) neO)))) (retS (cE (.bl false))) nilS) (LX21 (.im (scrD ss)) [.ob (.ls (stD q)), .ob (.dc kvs), .ob (.ls (((allN p H.length)).map (enC p n H)))] (.im (.int p)) (.im (.int (n : Int))) (.im (.lst (ra.map Wd))) (.im (codeD CC p n T)) (.im (TD H)) (.mu 1) y8 (.mu 2) (.im (.int (dec21 p n H W (allN p H.length)))) (.im (.int (rad21 p n H (allN p H.length)))) y12 (.im (cosD p n H)) .no y15 y16 y17 .no) = .nx (LX21 (.im (scrD ss)) [.ob (.ls (stD q)), .ob (.dc kvs), .fz (.lst (((allN p H.length)).map (enC p n H)))] (.im (.int p)) (.im (.int (n : Int))) (.im (.lst (ra.map Wd))) (.im (codeD CC p n T)) (.im (TD H)) (.mu 1) y8 (.mu 2) (.im (.int (dec21 p n H W (allN p H.length)))) (.im (.int (rad21 p n H (allN p H.length)))) y12 (.im (cosD p n H)) .no y15 y16 y17 .no) := by
  have hn := h.c.hn
  have hpn := h.pn
  have hHn : p.toNat ^ H.length ≤ 343 := (shp7_pow h.c.hs (by have := h.hl; omega)).1
  have allH : (allN p H.length).length ≤ 343 := by rw [allN_len]; exact hHn
  have f2 := Fcovrad_run (CC := CC) (CM := CM) (CR := CR) (n := n) (m := rad21 p n H (allN p H.length)) h.c.hp (by omega : n ≤ 12) h.c.ha h.c.hc (by omega) (by rw [← h.eH]; exact max_rad h.c.hp)
  have f3 := Fcountd_run (CC := CC) (CM := CM) (CR := CR) h.c.hp (by omega : n ≤ 12) h.c.ha h.c.hc (by omega)
  rw [← h.eH] at f3
  have f3' : Fcountd CC CM CR [codeD CC p n T] = .ok (.int (dec21 p n H W (allN p H.length))) := f3
  have hne : neO (cosD p n H) (.tup ((allN p H.length).map (enC p n H))) = some (.bl false) := by
    have := neO_en (α := List (List Int × List (List Int))) ((allN p H.length).map fun s => (s, ldL p n H s)) ((allN p H.length).map fun s => (s, ldL p n H s))
    rw [decide_eq_true rfl] at this
    have e : (En.en ((allN p H.length).map fun s => (s, ldL p n H s)) : Dt) = .tup ((allN p H.length).map (enC p n H)) := by
      show Dt.tup (((allN p H.length).map fun s => (s, ldL p n H s)).map En.en) = _
      rw [List.map_map]
      rfl
    rw [e] at this
    exact this
  have v13 : varE 13 (LX21 (.im (scrD ss)) [.ob (.ls (stD q)), .ob (.dc kvs), .ob (.ls (((allN p H.length)).map (enC p n H)))] (.im (.int p)) (.im (.int (n : Int))) (.im (.lst (ra.map Wd))) (.im (codeD CC p n T)) (.im (TD H)) (.mu 1) y8 (.mu 2) (.im (.int (dec21 p n H W (allN p H.length)))) (.im (.int (rad21 p n H (allN p H.length)))) y12 (.im (cosD p n H)) .no y15 y16 y17 .no) = .ok (cosD p n H) (LX21 (.im (scrD ss)) [.ob (.ls (stD q)), .ob (.dc kvs), .ob (.ls (((allN p H.length)).map (enC p n H)))] (.im (.int p)) (.im (.int (n : Int))) (.im (.lst (ra.map Wd))) (.im (codeD CC p n T)) (.im (TD H)) (.mu 1) y8 (.mu 2) (.im (.int (dec21 p n H W (allN p H.length)))) (.im (.int (rad21 p n H (allN p H.length)))) y12 (.im (cosD p n H)) .no y15 y16 y17 .no) := rfl
  have v9 : varE 9 (LX21 (.im (scrD ss)) [.ob (.ls (stD q)), .ob (.dc kvs), .ob (.ls (((allN p H.length)).map (enC p n H)))] (.im (.int p)) (.im (.int (n : Int))) (.im (.lst (ra.map Wd))) (.im (codeD CC p n T)) (.im (TD H)) (.mu 1) y8 (.mu 2) (.im (.int (dec21 p n H W (allN p H.length)))) (.im (.int (rad21 p n H (allN p H.length)))) y12 (.im (cosD p n H)) .no y15 y16 y17 .no) = .ok (.lst ((allN p H.length).map (enC p n H))) (LX21 (.im (scrD ss)) [.ob (.ls (stD q)), .ob (.dc kvs), .fz (.lst (((allN p H.length)).map (enC p n H)))] (.im (.int p)) (.im (.int (n : Int))) (.im (.lst (ra.map Wd))) (.im (codeD CC p n T)) (.im (TD H)) (.mu 1) y8 (.mu 2) (.im (.int (dec21 p n H W (allN p H.length)))) (.im (.int (rad21 p n H (allN p H.length)))) y12 (.im (cosD p n H)) .no y15 y16 y17 .no) := varE_fz (k := 2) rfl rfl
  have htp : tupO [.lst ((allN p H.length).map (enC p n H))] = some (.tup ((allN p H.length).map (enC p n H))) := rfl
  have w5 : varE 5 (LX21 (.im (scrD ss)) [.ob (.ls (stD q)), .ob (.dc kvs), .fz (.lst (((allN p H.length)).map (enC p n H)))] (.im (.int p)) (.im (.int (n : Int))) (.im (.lst (ra.map Wd))) (.im (codeD CC p n T)) (.im (TD H)) (.mu 1) y8 (.mu 2) (.im (.int (dec21 p n H W (allN p H.length)))) (.im (.int (rad21 p n H (allN p H.length)))) y12 (.im (cosD p n H)) .no y15 y16 y17 .no) = .ok (codeD CC p n T) (LX21 (.im (scrD ss)) [.ob (.ls (stD q)), .ob (.dc kvs), .fz (.lst (((allN p H.length)).map (enC p n H)))] (.im (.int p)) (.im (.int (n : Int))) (.im (.lst (ra.map Wd))) (.im (codeD CC p n T)) (.im (TD H)) (.mu 1) y8 (.mu 2) (.im (.int (dec21 p n H W (allN p H.length)))) (.im (.int (rad21 p n H (allN p H.length)))) y12 (.im (cosD p n H)) .no y15 y16 y17 .no) := rfl
  have w10 : varE 10 (LX21 (.im (scrD ss)) [.ob (.ls (stD q)), .ob (.dc kvs), .fz (.lst (((allN p H.length)).map (enC p n H)))] (.im (.int p)) (.im (.int (n : Int))) (.im (.lst (ra.map Wd))) (.im (codeD CC p n T)) (.im (TD H)) (.mu 1) y8 (.mu 2) (.im (.int (dec21 p n H W (allN p H.length)))) (.im (.int (rad21 p n H (allN p H.length)))) y12 (.im (cosD p n H)) .no y15 y16 y17 .no) = .ok (.int (dec21 p n H W (allN p H.length))) (LX21 (.im (scrD ss)) [.ob (.ls (stD q)), .ob (.dc kvs), .fz (.lst (((allN p H.length)).map (enC p n H)))] (.im (.int p)) (.im (.int (n : Int))) (.im (.lst (ra.map Wd))) (.im (codeD CC p n T)) (.im (TD H)) (.mu 1) y8 (.mu 2) (.im (.int (dec21 p n H W (allN p H.length)))) (.im (.int (rad21 p n H (allN p H.length)))) y12 (.im (cosD p n H)) .no y15 y16 y17 .no) := rfl
  have w11 : varE 11 (LX21 (.im (scrD ss)) [.ob (.ls (stD q)), .ob (.dc kvs), .fz (.lst (((allN p H.length)).map (enC p n H)))] (.im (.int p)) (.im (.int (n : Int))) (.im (.lst (ra.map Wd))) (.im (codeD CC p n T)) (.im (TD H)) (.mu 1) y8 (.mu 2) (.im (.int (dec21 p n H W (allN p H.length)))) (.im (.int (rad21 p n H (allN p H.length)))) y12 (.im (cosD p n H)) .no y15 y16 y17 .no) = .ok (.int (rad21 p n H (allN p H.length))) (LX21 (.im (scrD ss)) [.ob (.ls (stD q)), .ob (.dc kvs), .fz (.lst (((allN p H.length)).map (enC p n H)))] (.im (.int p)) (.im (.int (n : Int))) (.im (.lst (ra.map Wd))) (.im (codeD CC p n T)) (.im (TD H)) (.mu 1) y8 (.mu 2) (.im (.int (dec21 p n H W (allN p H.length)))) (.im (.int (rad21 p n H (allN p H.length)))) y12 (.im (cosD p n H)) .no y15 y16 y17 .no) := rfl
  have n1 := neO_int (rad21 p n H (allN p H.length)) (rad21 p n H (allN p H.length))
  have n2 := neO_int (dec21 p n H W (allN p H.length)) (dec21 p n H W (allN p H.length))
  rw [decide_eq_true rfl] at n1 n2
  generalize (LX21 (.im (scrD ss)) [.ob (.ls (stD q)), .ob (.dc kvs), .ob (.ls (((allN p H.length)).map (enC p n H)))] (.im (.int p)) (.im (.int (n : Int))) (.im (.lst (ra.map Wd))) (.im (codeD CC p n T)) (.im (TD H)) (.mu 1) y8 (.mu 2) (.im (.int (dec21 p n H W (allN p H.length)))) (.im (.int (rad21 p n H (allN p H.length)))) y12 (.im (cosD p n H)) .no y15 y16 y17 .no) = U at *
  generalize (LX21 (.im (scrD ss)) [.ob (.ls (stD q)), .ob (.dc kvs), .fz (.lst (((allN p H.length)).map (enC p n H)))] (.im (.int p)) (.im (.int (n : Int))) (.im (.lst (ra.map Wd))) (.im (codeD CC p n T)) (.im (TD H)) (.mu 1) y8 (.mu 2) (.im (.int (dec21 p n H W (allN p H.length)))) (.im (.int (rad21 p n H (allN p H.length)))) y12 (.im (cosD p n H)) .no y15 y16 y17 .no) = V at *
  generalize cosD p n H = X at *
  generalize (allN p H.length).map (enC p n H) = Y at *
  generalize codeD CC p n T = C at *
  generalize rad21 p n H (allN p H.length) = a at *
  generalize dec21 p n H W (allN p H.length) = b at *
  simp only [ifS_run, orT_run, tst_run', op2_run, calE_run, funE_run, aCons_run, aNil_run, v13, v9, htp, hne, w5, w10, w11, f2, f3', n1, n2, R.bind_ok, R.of_some, List.length_cons, List.length_nil, Nat.zero_add, if_true, Bool.not_true, Bool.false_eq_true, if_false, R.stmt_ok]
  rfl
theorem k21_14 {CC : Addr} {ss : List Int} {q : Int × Int} {p : Int} {n : Nat} {ra T W H : List (List Int)} {kvs : List (List Int × Dt)} {y8 y12 y15 y16 y17 : Sv} : (moveS 14 2) (LX21 (.im (scrD ss)) [.ob (.ls (stD q)), .ob (.dc kvs), .fz (.lst (((allN p H.length)).map (enC p n H)))] (.im (.int p)) (.im (.int (n : Int))) (.im (.lst (ra.map Wd))) (.im (codeD CC p n T)) (.im (TD H)) (.mu 1) y8 (.mu 2) (.im (.int (dec21 p n H W (allN p H.length)))) (.im (.int (rad21 p n H (allN p H.length)))) y12 (.im (cosD p n H)) .no y15 y16 y17 .no) = .nx (LX21 (.im (scrD ss)) [.ob (.ls (stD q)), .ob (.dc kvs), .fz (.lst (((allN p H.length)).map (enC p n H)))] (.im (.int p)) (.im (.int (n : Int))) (.im (.lst (ra.map Wd))) (.im (codeD CC p n T)) (.im (TD H)) (.mu 1) y8 (.mu 2) (.im (.int (dec21 p n H W (allN p H.length)))) (.im (.int (rad21 p n H (allN p H.length)))) y12 (.im (cosD p n H)) (.im (.int p)) y15 y16 y17 .no) := moveS_im (d := .int p) rfl
theorem k21_15 {CC : Addr} {ss : List Int} {q : Int × Int} {p : Int} {n : Nat} {ra T W H : List (List Int)} {kvs : List (List Int × Dt)} {y8 y12 y15 y16 y17 : Sv} (hp : isP p = true) : ∃ z, isP z = true ∧ 3 ≤ z ∧ (ifS (tst (op2 (varE 2) (cE (.int 2)) eqO)) (asgS 14 (cE (.int 3))) nilS) (LX21 (.im (scrD ss)) [.ob (.ls (stD q)), .ob (.dc kvs), .fz (.lst (((allN p H.length)).map (enC p n H)))] (.im (.int p)) (.im (.int (n : Int))) (.im (.lst (ra.map Wd))) (.im (codeD CC p n T)) (.im (TD H)) (.mu 1) y8 (.mu 2) (.im (.int (dec21 p n H W (allN p H.length)))) (.im (.int (rad21 p n H (allN p H.length)))) y12 (.im (cosD p n H)) (.im (.int p)) y15 y16 y17 .no) = .nx (LX21 (.im (scrD ss)) [.ob (.ls (stD q)), .ob (.dc kvs), .fz (.lst (((allN p H.length)).map (enC p n H)))] (.im (.int p)) (.im (.int (n : Int))) (.im (.lst (ra.map Wd))) (.im (codeD CC p n T)) (.im (TD H)) (.mu 1) y8 (.mu 2) (.im (.int (dec21 p n H W (allN p H.length)))) (.im (.int (rad21 p n H (allN p H.length)))) y12 (.im (cosD p n H)) (.im (.int z)) y15 y16 y17 .no) := by
  have hcs := isP_cases hp
  have v2 : varE 2 (LX21 (.im (scrD ss)) [.ob (.ls (stD q)), .ob (.dc kvs), .fz (.lst (((allN p H.length)).map (enC p n H)))] (.im (.int p)) (.im (.int (n : Int))) (.im (.lst (ra.map Wd))) (.im (codeD CC p n T)) (.im (TD H)) (.mu 1) y8 (.mu 2) (.im (.int (dec21 p n H W (allN p H.length)))) (.im (.int (rad21 p n H (allN p H.length)))) y12 (.im (cosD p n H)) (.im (.int p)) y15 y16 y17 .no) = .ok (.int p) (LX21 (.im (scrD ss)) [.ob (.ls (stD q)), .ob (.dc kvs), .fz (.lst (((allN p H.length)).map (enC p n H)))] (.im (.int p)) (.im (.int (n : Int))) (.im (.lst (ra.map Wd))) (.im (codeD CC p n T)) (.im (TD H)) (.mu 1) y8 (.mu 2) (.im (.int (dec21 p n H W (allN p H.length)))) (.im (.int (rad21 p n H (allN p H.length)))) y12 (.im (cosD p n H)) (.im (.int p)) y15 y16 y17 .no) := rfl
  have e0 := eqO_int p 2
  by_cases h2 : p = 2
  · refine ⟨3, by decide, by omega, ?_⟩
    rw [decide_eq_true h2] at e0
    have hs : (asgS 14 (cE (.int 3))) (LX21 (.im (scrD ss)) [.ob (.ls (stD q)), .ob (.dc kvs), .fz (.lst (((allN p H.length)).map (enC p n H)))] (.im (.int p)) (.im (.int (n : Int))) (.im (.lst (ra.map Wd))) (.im (codeD CC p n T)) (.im (TD H)) (.mu 1) y8 (.mu 2) (.im (.int (dec21 p n H W (allN p H.length)))) (.im (.int (rad21 p n H (allN p H.length)))) y12 (.im (cosD p n H)) (.im (.int p)) y15 y16 y17 .no) = .nx (LX21 (.im (scrD ss)) [.ob (.ls (stD q)), .ob (.dc kvs), .fz (.lst (((allN p H.length)).map (enC p n H)))] (.im (.int p)) (.im (.int (n : Int))) (.im (.lst (ra.map Wd))) (.im (codeD CC p n T)) (.im (TD H)) (.mu 1) y8 (.mu 2) (.im (.int (dec21 p n H W (allN p H.length)))) (.im (.int (rad21 p n H (allN p H.length)))) y12 (.im (cosD p n H)) (.im (.int 3)) y15 y16 y17 .no) := rfl
    rw [← hs]
    generalize (LX21 (.im (scrD ss)) [.ob (.ls (stD q)), .ob (.dc kvs), .fz (.lst (((allN p H.length)).map (enC p n H)))] (.im (.int p)) (.im (.int (n : Int))) (.im (.lst (ra.map Wd))) (.im (codeD CC p n T)) (.im (TD H)) (.mu 1) y8 (.mu 2) (.im (.int (dec21 p n H W (allN p H.length)))) (.im (.int (rad21 p n H (allN p H.length)))) y12 (.im (cosD p n H)) (.im (.int p)) y15 y16 y17 .no) = U at *
    simp only [ifS_run, tst_run', op2_run, v2, cE_run, e0, R.bind_ok, R.of_some, if_true, R.stmt_ok]
  · refine ⟨p, hp, by omega, ?_⟩
    rw [decide_eq_false h2] at e0
    generalize (LX21 (.im (scrD ss)) [.ob (.ls (stD q)), .ob (.dc kvs), .fz (.lst (((allN p H.length)).map (enC p n H)))] (.im (.int p)) (.im (.int (n : Int))) (.im (.lst (ra.map Wd))) (.im (codeD CC p n T)) (.im (TD H)) (.mu 1) y8 (.mu 2) (.im (.int (dec21 p n H W (allN p H.length)))) (.im (.int (rad21 p n H (allN p H.length)))) y12 (.im (cosD p n H)) (.im (.int p)) y15 y16 y17 .no) = U at *
    simp only [ifS_run, tst_run', op2_run, v2, cE_run, e0, R.bind_ok, R.of_some, Bool.false_eq_true, if_false, R.stmt_ok]
    rfl
theorem empty_tab {z : Int} (hz : isP z = true) : (redN z [] 12).T = [] := by
  have hcs := isP_cases hz
  have hc := codeOf (rows := []) hz (by decide : 12 ≤ 1000) (fun r hr => by cases hr)
  have h1 := hc.crd
  have h2 : (sortW (spanL z 12 [])).length = 1 := by
    rw [sortW_len]
    rfl
  rw [h2] at h1
  refine List.eq_nil_of_length_eq_zero ?_
  refine Classical.byContradiction fun hne => ?_
  have h3 : 2 ^ 1 ≤ z.toNat ^ (redN z [] 12).T.length := Nat.le_trans (Nat.pow_le_pow_left (by omega) 1) (Nat.pow_le_pow_right (by omega) (by omega))
  omega
theorem k21_16 {CC CM CR : Addr} {ss : List Int} {q : Int × Int} {p : Int} {n : Nat} {ra T W H : List (List Int)} {kvs : List (List Int × Dt)} {y8 y12 y15 y16 y17 : Sv} {z : Int} (hz : isP z = true) (h3 : 3 ≤ z) : (retS (op2 (funE 1 (aCons (makE CC 3 (aCons (varE 14) (aCons (cE (.int 12)) (aCons (tupE aNil) aNil))) (Finit CC CM CR)) aNil) (Flreasons21 CC CM CR)) (frz (lstE (aCons (cE (.str "large")) (aCons (cE (.str "large")) (aCons (cE (.str "large")) aNil))))) eqO)) (LX21 (.im (scrD ss)) [.ob (.ls (stD q)), .ob (.dc kvs), .fz (.lst (((allN p H.length)).map (enC p n H)))] (.im (.int p)) (.im (.int (n : Int))) (.im (.lst (ra.map Wd))) (.im (codeD CC p n T)) (.im (TD H)) (.mu 1) y8 (.mu 2) (.im (.int (dec21 p n H W (allN p H.length)))) (.im (.int (rad21 p n H (allN p H.length)))) y12 (.im (cosD p n H)) (.im (.int z)) y15 y16 y17 .no) = .rt (.bl true) (LX21 (.im (scrD ss)) [.ob (.ls (stD q)), .ob (.dc kvs), .fz (.lst (((allN p H.length)).map (enC p n H)))] (.im (.int p)) (.im (.int (n : Int))) (.im (.lst (ra.map Wd))) (.im (codeD CC p n T)) (.im (TD H)) (.mu 1) y8 (.mu 2) (.im (.int (dec21 p n H W (allN p H.length)))) (.im (.int (rad21 p n H (allN p H.length)))) y12 (.im (cosD p n H)) (.im (.int z)) y15 y16 y17 .no) := by
  have hi := empty_code (CC := CC) (CM := CM) (CR := CR) (n := 12) hz (by decide)
  rw [empty_tab hz] at hi
  have hr := Flreasons21_run (CC := CC) (CM := CM) (CR := CR) hz h3
  have v14 : varE 14 (LX21 (.im (scrD ss)) [.ob (.ls (stD q)), .ob (.dc kvs), .fz (.lst (((allN p H.length)).map (enC p n H)))] (.im (.int p)) (.im (.int (n : Int))) (.im (.lst (ra.map Wd))) (.im (codeD CC p n T)) (.im (TD H)) (.mu 1) y8 (.mu 2) (.im (.int (dec21 p n H W (allN p H.length)))) (.im (.int (rad21 p n H (allN p H.length)))) y12 (.im (cosD p n H)) (.im (.int z)) y15 y16 y17 .no) = .ok (.int z) (LX21 (.im (scrD ss)) [.ob (.ls (stD q)), .ob (.dc kvs), .fz (.lst (((allN p H.length)).map (enC p n H)))] (.im (.int p)) (.im (.int (n : Int))) (.im (.lst (ra.map Wd))) (.im (codeD CC p n T)) (.im (TD H)) (.mu 1) y8 (.mu 2) (.im (.int (dec21 p n H W (allN p H.length)))) (.im (.int (rad21 p n H (allN p H.length)))) y12 (.im (cosD p n H)) (.im (.int z)) y15 y16 y17 .no) := rfl
  have hmk : makE CC 3 (aCons (varE 14) (aCons (cE (.int 12)) (aCons (tupE aNil) aNil))) (Finit CC CM CR) (LX21 (.im (scrD ss)) [.ob (.ls (stD q)), .ob (.dc kvs), .fz (.lst (((allN p H.length)).map (enC p n H)))] (.im (.int p)) (.im (.int (n : Int))) (.im (.lst (ra.map Wd))) (.im (codeD CC p n T)) (.im (TD H)) (.mu 1) y8 (.mu 2) (.im (.int (dec21 p n H W (allN p H.length)))) (.im (.int (rad21 p n H (allN p H.length)))) y12 (.im (cosD p n H)) (.im (.int z)) y15 y16 y17 .no) = .ok (codeD CC z 12 []) (LX21 (.im (scrD ss)) [.ob (.ls (stD q)), .ob (.dc kvs), .fz (.lst (((allN p H.length)).map (enC p n H)))] (.im (.int p)) (.im (.int (n : Int))) (.im (.lst (ra.map Wd))) (.im (codeD CC p n T)) (.im (TD H)) (.mu 1) y8 (.mu 2) (.im (.int (dec21 p n H W (allN p H.length)))) (.im (.int (rad21 p n H (allN p H.length)))) y12 (.im (cosD p n H)) (.im (.int z)) y15 y16 y17 .no) := by
    generalize (LX21 (.im (scrD ss)) [.ob (.ls (stD q)), .ob (.dc kvs), .fz (.lst (((allN p H.length)).map (enC p n H)))] (.im (.int p)) (.im (.int (n : Int))) (.im (.lst (ra.map Wd))) (.im (codeD CC p n T)) (.im (TD H)) (.mu 1) y8 (.mu 2) (.im (.int (dec21 p n H W (allN p H.length)))) (.im (.int (rad21 p n H (allN p H.length)))) y12 (.im (cosD p n H)) (.im (.int z)) y15 y16 y17 .no) = U at *
    refine makE_run (ds := [.int z, .int ((12 : Nat) : Int), .tup []]) ?_ rfl hi
    simp only [aCons_run, aNil_run, tupE_run, cE_run, v14, R.bind_ok, List.length_nil, Nat.zero_le, if_true]
    rfl
  have he : eqO (.lst [.str "large", .str "large", .str "large"]) (.lst [.str "large", .str "large", .str "large"]) = some (.bl true) := by kernel_rfl
  generalize (LX21 (.im (scrD ss)) [.ob (.ls (stD q)), .ob (.dc kvs), .fz (.lst (((allN p H.length)).map (enC p n H)))] (.im (.int p)) (.im (.int (n : Int))) (.im (.lst (ra.map Wd))) (.im (codeD CC p n T)) (.im (TD H)) (.mu 1) y8 (.mu 2) (.im (.int (dec21 p n H W (allN p H.length)))) (.im (.int (rad21 p n H (allN p H.length)))) y12 (.im (cosD p n H)) (.im (.int z)) y15 y16 y17 .no) = U at *
  generalize codeD CC z 12 [] = C at *
  simp only [retS_run, op2_run, funE_run, frz_run', lstE_run, aCons_run, aNil_run, cE_run, hmk, hr, he, R.bind_ok, R.of_some, List.length_cons, List.length_nil, Nat.zero_add, Nat.reduceAdd, Nat.reduceLeDiff, if_true, R.stmt_ok]
noncomputable def m_law21 (CC CM CR : Addr) : Ms → O := (seqS (asgN 1 (funN 1 (aCons (varE 0) aNil) Fstate))
  (seqS (asgS 2 (funM 0 1 aNil Fprime))
  (seqS (asgS 3 (funM 1 1 (aCons (op2 (cE (.int 5)) (op2 (cE (.int 2)) (calE (aCons (op2 (varE 2) (cE (.int 3)) gtO) aNil) intO) mulO) subO) aNil) Ftake))
  (seqS (asgS 4 (funM 3 1 (aCons (varE 3) (aCons (varE 2) (aCons (cE (.int 2)) aNil))) Frows))
  (seqS (asgS 5 (makE CC 3 (aCons (varE 2) (aCons (varE 3) (aCons (varE 4) aNil))) (Finit CC CM CR)))
  (seqS (asgS 6 (metE CC "checks" 1 (varE 5) aNil (Fchecks CC)))
  (seqS (asgM 7 dct0)
  (seqS (forS (itS (funE 2 (aCons (varE 3) (aCons (varE 2) aNil)) Fall)) (Tk.nm 8).k (seqS (asgS 12 (calE (aCons (frz (lcE (itS (varE 6)) (Tk.nm 18).k yesT (funE 3 (aCons (varE 18) (aCons (varE 8) (aCons (varE 2) aNil))) Fdot) [18])) aNil) tupO))
  (setD 7 (op2 (getDf 7 (varE 12) (tupE aNil)) (tupE (aCons (varE 8) aNil)) catT) (varE 12))))
  (seqS (asgN 9 (lstE aNil))
  (seqS (asgS 10 (cE (.int 0)))
  (seqS (asgS 11 (cE (.int 0)))
  (seqS (forS (itS (funE 2 (aCons (op2 (varE 3) (fldE CC "k" (varE 5)) subO) (aCons (varE 2) aNil)) Fall)) (Tk.nm 12).k (seqS (asgS 15 (getDf 7 (varE 12) (tupE aNil)))
  (seqS (ifS (tst (op2 (calE (aCons (varE 15) aNil) lenO) (cE (.int 0)) eqO)) (retS (cE (.bl false))) nilS)
  (seqS (asgS 16 (calE (aCons (frz (lcE (itS (varE 15)) (Tk.nm 8).k yesT (funE 1 (aCons (varE 8) aNil) Fweight) [8])) aNil) minLO))
  (seqS (asgS 17 (calE (aCons (frz (lcE (itS (varE 15)) (Tk.nm 8).k (tst (op2 (funE 1 (aCons (varE 8) aNil) Fweight) (varE 16) eqO)) (varE 8) [8])) aNil) tupO))
  (seqS (appS 9 (tupE (aCons (varE 12) (aCons (varE 17) aNil))))
  (seqS (asgS 11 (calE (aCons (varE 11) (aCons (varE 16) aNil)) maxO))
  (asgS 10 (op2 (varE 10) (op2 (calE (aCons (op2 (calE (aCons (varE 17) aNil) lenO) (cE (.int 1)) eqO) aNil) intO) (calE (aCons (varE 15) aNil) lenO) mulO) addO)))))))))
  (seqS (asgS 13 (funE 1 (aCons (varE 5) aNil) (Fcosets CC CM CR)))
  (seqS (ifS (orT (tst (op2 (varE 13) (calE (aCons (varE 9) aNil) tupO) neO)) (orT (tst (op2 (funE 1 (aCons (varE 5) aNil) (Fcovrad CC CM CR)) (varE 11) neO)) (tst (op2 (funE 1 (aCons (varE 5) aNil) (Fcountd CC CM CR)) (varE 10) neO)))) (retS (cE (.bl false))) nilS)
  (seqS (moveS 14 2)
  (seqS (ifS (tst (op2 (varE 2) (cE (.int 2)) eqO)) (asgS 14 (cE (.int 3))) nilS)
  (retS (op2 (funE 1 (aCons (makE CC 3 (aCons (varE 14) (aCons (cE (.int 12)) (aCons (tupE aNil) aNil))) (Finit CC CM CR)) aNil) (Flreasons21 CC CM CR)) (frz (lstE (aCons (cE (.str "large")) (aCons (cE (.str "large")) (aCons (cE (.str "large")) aNil))))) eqO))))))))))))))))))
theorem run_law21 (CC CM CR : Addr) (ss : List Int) (h : ss.length ≤ 63) : ∃ S', m_law21 CC CM CR (st0 19 [scrD ss]) = .rt (.bl true) S' := by
  have e0 := k21_0 h
  obtain ⟨p, q1, hp, e1⟩ := k21_1 (ss := ss) (q := stL ss)
  obtain ⟨n, q2, hs, hn4, e2⟩ := k21_2 (ss := ss) (q := q1) hp
  obtain ⟨ra, q3, ha, la, e3⟩ := k21_3 (ss := ss) (q := q2) hs
  have hn : n ≤ 1000 := by omega
  have hc := codeOf hp hn ha
  generalize (redN p ra n).T = T at *
  generalize sortW (spanL p n ra) = W at *
  have hC : C7 p n ra T W := ⟨hs, ha, la, hc⟩
  obtain ⟨H, eH⟩ : ∃ H, H = kerL p n (redN p T n) := ⟨_, rfl⟩
  have hD : D21 p n ra T W H := ⟨hC, eH⟩
  have e4 := k21_4 (CC := CC) (CM := CM) (CR := CR) (ss := ss) (q := q3) (H := H) hC
  have e5 := k21_5 (CC := CC) (ss := ss) (q := q3) hD
  have e6 := k21_6 (CC := CC) (ss := ss) (q := q3) (p := p) (n := n) (ra := ra) (T := T) (W := W) (H := H)
  obtain ⟨kvs, x8, x12, e7, hk⟩ := k21_7 (CC := CC) (ss := ss) (q := q3) hD
  have e8 := k21_8 (CC := CC) (ss := ss) (q := q3) (p := p) (n := n) (ra := ra) (T := T) (W := W) (H := H) (kvs := kvs) (x8 := x8) (x12 := x12)
  have e9 := k21_9 (CC := CC) (ss := ss) (q := q3) (p := p) (n := n) (ra := ra) (T := T) (W := W) (H := H) (kvs := kvs) (x8 := x8) (x12 := x12)
  have e10 := k21_10 (CC := CC) (ss := ss) (q := q3) (p := p) (n := n) (ra := ra) (T := T) (W := W) (H := H) (kvs := kvs) (x8 := x8) (x12 := x12)
  obtain ⟨y8, y12, y15, y16, y17, e11⟩ := k21_11 (CC := CC) (ss := ss) (q := q3) (kvs := kvs) (x8 := x8) (x12 := x12) hD hk
  have e12 := k21_12 (CC := CC) (CM := CM) (CR := CR) (ss := ss) (q := q3) (kvs := kvs) (y8 := y8) (y12 := y12) (y15 := y15) (y16 := y16) (y17 := y17) hD
  have e13 := k21_13 (CC := CC) (CM := CM) (CR := CR) (ss := ss) (q := q3) (kvs := kvs) (y8 := y8) (y12 := y12) (y15 := y15) (y16 := y16) (y17 := y17) hD
  have e14 := k21_14 (CC := CC) (ss := ss) (q := q3) (p := p) (n := n) (ra := ra) (T := T) (W := W) (H := H) (kvs := kvs) (y8 := y8) (y12 := y12) (y15 := y15) (y16 := y16) (y17 := y17)
  obtain ⟨z, hz, h3, e15⟩ := k21_15 (CC := CC) (ss := ss) (q := q3) (n := n) (ra := ra) (T := T) (W := W) (H := H) (kvs := kvs) (y8 := y8) (y12 := y12) (y15 := y15) (y16 := y16) (y17 := y17) hp
  have e16 := k21_16 (CC := CC) (CM := CM) (CR := CR) (ss := ss) (q := q3) (p := p) (n := n) (ra := ra) (T := T) (W := W) (H := H) (kvs := kvs) (y8 := y8) (y12 := y12) (y15 := y15) (y16 := y16) (y17 := y17) hz h3
  unfold m_law21
  rw [sqT21 e0, sqT21 e1, sqT21 e2, sqT21 e3, sqT21 e4, sqT21 e5, sqT21 e6, sqT21 e7, sqT21 e8, sqT21 e9, sqT21 e10, sqT21 e11, sqT21 e12, sqT21 e13, sqT21 e14, sqT21 e15, e16]
  exact ⟨_, rfl⟩
end Lq

namespace K21
open PySem PySem.Spec PyProof.Rows L2 Lq
def topS (i : Nat) : Stmt := PySem.Challenge.pw_weightkeepers_k21_whole_cosets.main.body.getD i (.Pass ⟨0, 0, 0, 0⟩)
noncomputable section
variable {P : Program} {w : World} {K : PySem.W.Frag} {mg : Str → Option Value} {base : Heap}
abbrev s_init_Refused : Stmt := inClass (topS 4) 0
theorem sc_init_Refused : ScC ["self", "reason"] ["self", "reason"] (defScope s_init_Refused) := ⟨rfl, rfl, rfl, by decide +kernel, rfl, by decide +kernel, by decide +kernel, by decide +kernel, by decide +kernel⟩
theorem ok_init_Refused {CX : CXT} {f cda cc D C : Addr} {params : Arguments} {kV doc pm ct oc cl : Value} {an od cld : Option Addr} {osl csl : Array (Option Value)} (lk : K.lookup f = some ⟨oc, od, .func (PySem.W.ksFn "__init__" "Refused.__init__" params (defBody s_init_Refused) (defScope s_init_Refused) .none kV doc pm an (.ref cda) ct cc), osl⟩) (hcd : PySem.W.codeIn K (.ref cda) "Refused.__init__" = true)
    (hcell : K.lookup cc = some ⟨cl, cld, .cell (some (.ref D)), csl⟩) (S : SupF P K mg f cda cc D C (defScope s_init_Refused) "self") (T : OexC K C) (nf : PySem.W.findIn K (.ref C) "reason" = some none) :
    FnOk P w K mg base CX 1 f (PySem.W.ksFn "__init__" "Refused.__init__" params (defBody s_init_Refused) (defScope s_init_Refused) .none kV doc pm an (.ref cda) ct cc) ["self", "reason"] (spI1 C "reason") := by
  refine fnK_of lk hcd sc_init_Refused hcell (fun vs H Q E h => ?_) (fun A outer s s1 H vs Q E hr h I => ?_)
  · obtain ⟨a, y, rfl, _⟩ := h
    rfl
  · obtain ⟨a, y, rfl, hy, he, k⟩ := h
    refine PySem.ks_wpAt_execs_cons (_root_.PySem.wpAt_mono (super_run (Rr := fun H1 => H1 = H) S rfl T I rfl rfl he (pa_cons (pe_joined (.cons pe_str (.cons (pe_fmt (pv 1)) .nil))) pa_nil) ?_) (fun fl s' hq => ?_) (fun _ _ z => z))
    · refine ⟨_, rfl, ?_, _, rfl, .inl ⟨y, rfl, ?_, _, rfl, ?_, ?_, he, rfl⟩⟩
      · decide +kernel
      · exact Nat.le_trans hy (by decide)
      · have e : (Str.empty ++ ("refused: " : Str)).length = 9 := by decide +kernel
        rw [Str.length_append, e]
        exact Nat.le_trans (Nat.add_le_add_left hy 9) (by decide)
      · show 1 ≤ 1000
        decide
    · obtain ⟨rfl, H1, I1, rfl⟩ := hq
      refine _root_.PySem.wpAt_of_wpAny ((pss_one (ps_ost (pv 0) (pv 1))).run [] s' _ _ _ I1 ?_)
      refine ⟨_, rfl, _, rfl, a, C, rfl, T, nf, .inl ⟨he, fun dx h1 h2 => k dx h1 h2⟩⟩
abbrev s_is_integer : Stmt := topS 6
abbrev N_is_integer : List Str := ["value"]
theorem sc_is_integer : FnScope N_is_integer ["value"] (defScope s_is_integer) := ⟨rfl, rfl, rfl, by decide +kernel, rfl, by decide +kernel, by decide +kernel⟩
noncomputable def m_is_integer : Ms → O := (retS (andV (op1 (varE 0) (isiO "int")) (op1 (op1 (varE 0) (isiO "bool")) notO)))
theorem ok_is_integer {f : Addr} {fd : FuncData} (F : Fun K "is_integer" "is_integer" s_is_integer f fd) (h_bool : mg "bool" = none) (h_int : mg "int" = none) (h_isinstance : mg "isinstance" = none) : FnOk P w K mg base (L2.CX P w) 1 f fd ["value"] (spD K 1 (runD 1 m_is_integer)) :=
  defOk F sc_is_integer fun cdv A outer s H E hr => by
    have nd : N_is_integer.Nodup := sc_is_integer.nd
    have tk : Takes (cxOf (L2.CX P w) P w K mg base N_is_integer "is_integer" (defScope s_is_integer) f cdv A outer s H E) (fun cls d _ H' => E cls d H') := takes_of rfl rfl rfl rfl
    have po : PassesOwn (model P w) (cxOf (L2.CX P w) P w K mg base N_is_integer "is_integer" (defScope s_is_integer) f cdv A outer s H E).A (cxOf (L2.CX P w) P w K mg base N_is_integer "is_integer" (defScope s_is_integer) f cdv A outer s H E).env (cxOf (L2.CX P w) P w K mg base N_is_integer "is_integer" (defScope s_is_integer) f cdv A outer s H E).xe := passes_of rfl
    have hu64 := hr.units
    have hu65 := hu65_of hr
    have hu0 := hr.units0
    have hu1 := hu_of hr
    exact (dss_one (ds_ret (de_and (de_isi (T := "int") (by decide +kernel) (by rfl) h_isinstance (by rfl) h_int (by constructor) (de_var (pv 0))) (de_one (de_not (de_isi (T := "bool") (by decide +kernel) (by rfl) h_isinstance (by rfl) h_bool (by constructor) (de_var (pv 0))))))))
abbrev s_inverse : Stmt := topS 7
abbrev N_inverse : List Str := ["a", "p", "candidate"]
theorem sc_inverse : FnScope N_inverse ["a", "p"] (defScope s_inverse) := ⟨rfl, rfl, rfl, by decide +kernel, rfl, by decide +kernel, by decide +kernel⟩
noncomputable def m_inverse : Ms → O := (seqS (forS (itR2 (aCons (cE (.int 1)) (aCons (varE 1) aNil))) (Tk.nm 2).k (ifS (tst (op2 (op2 (op2 (varE 0) (varE 2) mulO) (varE 1) modO) (cE (.int 1)) eqO)) (retS (varE 2)) nilS))
  noS)
theorem ok_inverse {f : Addr} {fd : FuncData} (F : Fun K "inverse" "inverse" s_inverse f fd) (h_range : mg "range" = none) : FnOk P w K mg base (L2.CX P w) 1 f fd ["a", "p"] (spD K 2 (runD 3 m_inverse)) :=
  defOk F sc_inverse fun cdv A outer s H E hr => by
    have nd : N_inverse.Nodup := sc_inverse.nd
    have tk : Takes (cxOf (L2.CX P w) P w K mg base N_inverse "inverse" (defScope s_inverse) f cdv A outer s H E) (fun cls d _ H' => E cls d H') := takes_of rfl rfl rfl rfl
    have po : PassesOwn (model P w) (cxOf (L2.CX P w) P w K mg base N_inverse "inverse" (defScope s_inverse) f cdv A outer s H E).A (cxOf (L2.CX P w) P w K mg base N_inverse "inverse" (defScope s_inverse) f cdv A outer s H E).env (cxOf (L2.CX P w) P w K mg base N_inverse "inverse" (defScope s_inverse) f cdv A outer s H E).xe := passes_of rfl
    have hu64 := hr.units
    have hu65 := hu65_of hr
    have hu0 := hr.units0
    have hu1 := hu_of hr
    exact (dss_cons (ds_for po (by rfl) (di_range2 (by rfl) h_range (da_cons de_int (da_cons (de_var (pv 1)) da_nil))) (dg_name (pg_name (i := 2) nd (by rfl) (by first | exact Or.inl rfl | exact Or.inr rfl))) (dss_one (ds_if (dt_eq hu64 (de_mod (de_mul (de_var (pv 0)) (de_var (pv 2))) (de_var (pv 1))) de_int) (dss_one (ds_ret (de_var (pv 2)))) dss_nil)))
      (dss_one ds_never))
abbrev s_power : Stmt := topS 8
abbrev N_power : List Str := ["a", "k", "result", "factor", "left"]
theorem sc_power : FnScope N_power ["a", "k"] (defScope s_power) := ⟨rfl, rfl, rfl, by decide +kernel, rfl, by decide +kernel, by decide +kernel⟩
noncomputable def m_power : Ms → O := (seqS (asgS 2 (cE (.int 1)))
  (seqS (moveS 3 0)
  (seqS (moveS 4 1)
  (seqS (whileS (fun _ => 64) (tst (op2 (varE 4) (cE (.int 0)) gtO)) (seqS (ifS (tst (op2 (op2 (varE 4) (cE (.int 2)) modO) (cE (.int 1)) eqO)) (asgS 2 (op2 (varE 2) (varE 3) mulO)) nilS)
  (seqS (asgS 3 (op2 (varE 3) (varE 3) mulO))
  (asgS 4 (op2 (varE 4) (cE (.int 2)) divO)))))
  (retS (varE 2))))))
theorem ok_power {f : Addr} {fd : FuncData} (F : Fun K "power" "power" s_power f fd) : FnOk P w K mg base (L2.CX P w) 1 f fd ["a", "k"] (spD K 2 (runD 5 m_power)) :=
  defOk F sc_power fun cdv A outer s H E hr => by
    have nd : N_power.Nodup := sc_power.nd
    have tk : Takes (cxOf (L2.CX P w) P w K mg base N_power "power" (defScope s_power) f cdv A outer s H E) (fun cls d _ H' => E cls d H') := takes_of rfl rfl rfl rfl
    have po : PassesOwn (model P w) (cxOf (L2.CX P w) P w K mg base N_power "power" (defScope s_power) f cdv A outer s H E).A (cxOf (L2.CX P w) P w K mg base N_power "power" (defScope s_power) f cdv A outer s H E).env (cxOf (L2.CX P w) P w K mg base N_power "power" (defScope s_power) f cdv A outer s H E).xe := passes_of rfl
    have hu64 := hr.units
    have hu65 := hu65_of hr
    have hu0 := hr.units0
    have hu1 := hu_of hr
    exact (dss_cons (ds_set (i := 2) nd (by rfl) (by first | exact Or.inl rfl | exact Or.inr rfl) de_int)
      (dss_cons (ds_mov (i := 3) nd (by rfl) (by first | exact Or.inl rfl | exact Or.inr rfl) (pv 0))
      (dss_cons (ds_mov (i := 4) nd (by rfl) (by first | exact Or.inl rfl | exact Or.inr rfl) (pv 1))
      (dss_cons (ds_while (fuel := fun _ => 64) po (dt_gt (de_var (pv 4)) de_int) (dss_cons (ds_if (dt_eq hu64 (de_mod (de_var (pv 4)) de_int) de_int) (dss_one (ds_set (i := 2) nd (by rfl) (by first | exact Or.inl rfl | exact Or.inr rfl) (de_mul (de_var (pv 2)) (de_var (pv 3))))) dss_nil)
      (dss_cons (ds_set (i := 3) nd (by rfl) (by first | exact Or.inl rfl | exact Or.inr rfl) (de_mul (de_var (pv 3)) (de_var (pv 3))))
      (dss_one (ds_set (i := 4) nd (by rfl) (by first | exact Or.inl rfl | exact Or.inr rfl) (de_div (de_var (pv 4)) de_int))))))
      (dss_one (ds_ret (de_var (pv 2))))))))
abbrev s_is_word : Stmt := topS 10
abbrev N_is_word : List Str := ["value", "p", "n", "item"]
theorem sc_is_word : FnScope N_is_word ["value", "p", "n"] (defScope s_is_word) := ⟨rfl, rfl, rfl, by decide +kernel, rfl, by decide +kernel, by decide +kernel⟩
noncomputable def m_is_word : Ms → O := (seqS (ifS (orT (notT (truT (op1 (varE 0) (isiO "tuple")))) (tst (op2 (calE (aCons (varE 0) aNil) lenO) (varE 2) neO))) (retS (cE (.bl false))) nilS)
  (retS (calE (aCons (frz (lcE (itS (varE 0)) (Tk.nm 3).k yesT (andV (funE 1 (aCons (varE 3) aNil) Fisint) (chT (cE (.int 0)) (varE 3) (varE 1) leO ltO)) [3])) aNil) allO)))
theorem ok_is_word {f : Addr} {fd : FuncData} (F : Fun K "is_word" "is_word" s_is_word f fd) (h_all : mg "all" = none) (h_isinstance : mg "isinstance" = none) (h_len : mg "len" = none) (h_tuple : mg "tuple" = none) (c_is_integer : Cal P w K mg base "is_integer" 1 ["value"] (spD K 1 Fisint)) : FnOk P w K mg base (L2.CX P w) 2 f fd ["value", "p", "n"] (spD K 3 (runD 4 m_is_word)) :=
  defOk F sc_is_word fun cdv A outer s H E hr => by
    have nd : N_is_word.Nodup := sc_is_word.nd
    have tk : Takes (cxOf (L2.CX P w) P w K mg base N_is_word "is_word" (defScope s_is_word) f cdv A outer s H E) (fun cls d _ H' => E cls d H') := takes_of rfl rfl rfl rfl
    have po : PassesOwn (model P w) (cxOf (L2.CX P w) P w K mg base N_is_word "is_word" (defScope s_is_word) f cdv A outer s H E).A (cxOf (L2.CX P w) P w K mg base N_is_word "is_word" (defScope s_is_word) f cdv A outer s H E).env (cxOf (L2.CX P w) P w K mg base N_is_word "is_word" (defScope s_is_word) f cdv A outer s H E).xe := passes_of rfl
    have hu64 := hr.units
    have hu65 := hu65_of hr
    have hu0 := hr.units0
    have hu1 := hu_of hr
    exact (dss_cons (ds_if (PW.pt (dw_or (dt_not (dt_tru (de_isi (T := "tuple") (by decide +kernel) (by rfl) h_isinstance (by rfl) h_tuple (by constructor) (de_var (pv 0))))) (dw_or1 (dt_ne hu64 (de_len (by rfl) h_len (de_var (pv 0))) (de_var (pv 2)))))) (dss_one (ds_ret de_bl)) dss_nil)
      (dss_one (ds_ret (de_all (by rfl) (by rfl) h_all (de_frz (dn_lc (by rfl) nd (di_seq (de_var (pv 0))) (blkOk_by (own := [("item", 3)]) (N := N_is_word) (sc := defScope s_is_word) (by decide +kernel)) (vs := [3]) (by decide) (fun _ _ _ _ _ => (dg_name (pg_name (i := 3) nd (by rfl) (by first | exact Or.inl rfl | exact Or.inr rfl)))) (fun _ _ _ _ _ => dts_nil) (fun _ _ _ _ _ => (de_and (de_cal c_is_integer takes0 hr (by decide) (by rfl) (da_cons (de_var (pv 3)) da_nil)) (de_one (de_chain op_le rd_C op_lt rd_C de_int (de_var (pv 3)) (de_var (pv 1))))))))))))
abbrev s_add : Stmt := topS 11
abbrev N_add : List Str := ["v", "w", "p", "a", "b"]
theorem sc_add : FnScope N_add ["v", "w", "p"] (defScope s_add) := ⟨rfl, rfl, rfl, by decide +kernel, rfl, by decide +kernel, by decide +kernel⟩
noncomputable def m_add : Ms → O := (retS (calE (aCons (frz (lcE (itZ (aCons (varE 0) (aCons (varE 1) aNil))) (Tk.tp [3, 4]).k yesT (op2 (op2 (varE 3) (varE 4) addO) (varE 2) modO) [3, 4])) aNil) tupO))
theorem ok_add {f : Addr} {fd : FuncData} (F : Fun K "add" "add" s_add f fd) (h_tuple : mg "tuple" = none) (h_zip : mg "zip" = none) : FnOk P w K mg base (L2.CX P w) 1 f fd ["v", "w", "p"] (spD K 3 (runD 5 m_add)) :=
  defOk F sc_add fun cdv A outer s H E hr => by
    have nd : N_add.Nodup := sc_add.nd
    have tk : Takes (cxOf (L2.CX P w) P w K mg base N_add "add" (defScope s_add) f cdv A outer s H E) (fun cls d _ H' => E cls d H') := takes_of rfl rfl rfl rfl
    have po : PassesOwn (model P w) (cxOf (L2.CX P w) P w K mg base N_add "add" (defScope s_add) f cdv A outer s H E).A (cxOf (L2.CX P w) P w K mg base N_add "add" (defScope s_add) f cdv A outer s H E).env (cxOf (L2.CX P w) P w K mg base N_add "add" (defScope s_add) f cdv A outer s H E).xe := passes_of rfl
    have hu64 := hr.units
    have hu65 := hu65_of hr
    have hu0 := hr.units0
    have hu1 := hu_of hr
    exact (dss_one (ds_ret (de_tupc (by rfl) h_tuple (de_frz (dn_lc (by rfl) nd (di_zip (by rfl) h_zip (da_cons (de_var (pv 0)) (da_cons (de_var (pv 1)) da_nil))) (blkOk_by (own := [("a", 3), ("b", 4)]) (N := N_add) (sc := defScope s_add) (by decide +kernel)) (vs := [3, 4]) (by decide) (fun _ _ _ _ _ => (dg_tup (by rfl) (dgs_cons (pg_name (i := 3) nd (by rfl) (by first | exact Or.inl rfl | exact Or.inr rfl)) (dgs_cons (pg_name (i := 4) nd (by rfl) (by first | exact Or.inl rfl | exact Or.inr rfl)) dgs_nil)))) (fun _ _ _ _ _ => dts_nil) (fun _ _ _ _ _ => (de_mod (de_add (de_var (pv 3)) (de_var (pv 4))) (de_var (pv 2)))))))))
abbrev s_scaled : Stmt := topS 12
abbrev N_scaled : List Str := ["v", "a", "p", "item"]
theorem sc_scaled : FnScope N_scaled ["v", "a", "p"] (defScope s_scaled) := ⟨rfl, rfl, rfl, by decide +kernel, rfl, by decide +kernel, by decide +kernel⟩
noncomputable def m_scaled : Ms → O := (retS (calE (aCons (frz (lcE (itS (varE 0)) (Tk.nm 3).k yesT (op2 (op2 (varE 3) (varE 1) mulO) (varE 2) modO) [3])) aNil) tupO))
theorem ok_scaled {f : Addr} {fd : FuncData} (F : Fun K "scaled" "scaled" s_scaled f fd) (h_tuple : mg "tuple" = none) : FnOk P w K mg base (L2.CX P w) 1 f fd ["v", "a", "p"] (spD K 3 (runD 4 m_scaled)) :=
  defOk F sc_scaled fun cdv A outer s H E hr => by
    have nd : N_scaled.Nodup := sc_scaled.nd
    have tk : Takes (cxOf (L2.CX P w) P w K mg base N_scaled "scaled" (defScope s_scaled) f cdv A outer s H E) (fun cls d _ H' => E cls d H') := takes_of rfl rfl rfl rfl
    have po : PassesOwn (model P w) (cxOf (L2.CX P w) P w K mg base N_scaled "scaled" (defScope s_scaled) f cdv A outer s H E).A (cxOf (L2.CX P w) P w K mg base N_scaled "scaled" (defScope s_scaled) f cdv A outer s H E).env (cxOf (L2.CX P w) P w K mg base N_scaled "scaled" (defScope s_scaled) f cdv A outer s H E).xe := passes_of rfl
    have hu64 := hr.units
    have hu65 := hu65_of hr
    have hu0 := hr.units0
    have hu1 := hu_of hr
    exact (dss_one (ds_ret (de_tupc (by rfl) h_tuple (de_frz (dn_lc (by rfl) nd (di_seq (de_var (pv 0))) (blkOk_by (own := [("item", 3)]) (N := N_scaled) (sc := defScope s_scaled) (by decide +kernel)) (vs := [3]) (by decide) (fun _ _ _ _ _ => (dg_name (pg_name (i := 3) nd (by rfl) (by first | exact Or.inl rfl | exact Or.inr rfl)))) (fun _ _ _ _ _ => dts_nil) (fun _ _ _ _ _ => (de_mod (de_mul (de_var (pv 3)) (de_var (pv 1))) (de_var (pv 2)))))))))
abbrev s_dot : Stmt := topS 13
abbrev N_dot : List Str := ["v", "w", "p", "a", "b"]
theorem sc_dot : FnScope N_dot ["v", "w", "p"] (defScope s_dot) := ⟨rfl, rfl, rfl, by decide +kernel, rfl, by decide +kernel, by decide +kernel⟩
noncomputable def m_dot : Ms → O := (retS (op2 (calE (aCons (frz (lcE (itZ (aCons (varE 0) (aCons (varE 1) aNil))) (Tk.tp [3, 4]).k yesT (op2 (varE 3) (varE 4) mulO) [3, 4])) aNil) sumO) (varE 2) modO))
theorem ok_dot {f : Addr} {fd : FuncData} (F : Fun K "dot" "dot" s_dot f fd) (h_sum : mg "sum" = none) (h_zip : mg "zip" = none) : FnOk P w K mg base (L2.CX P w) 1 f fd ["v", "w", "p"] (spD K 3 (runD 5 m_dot)) :=
  defOk F sc_dot fun cdv A outer s H E hr => by
    have nd : N_dot.Nodup := sc_dot.nd
    have tk : Takes (cxOf (L2.CX P w) P w K mg base N_dot "dot" (defScope s_dot) f cdv A outer s H E) (fun cls d _ H' => E cls d H') := takes_of rfl rfl rfl rfl
    have po : PassesOwn (model P w) (cxOf (L2.CX P w) P w K mg base N_dot "dot" (defScope s_dot) f cdv A outer s H E).A (cxOf (L2.CX P w) P w K mg base N_dot "dot" (defScope s_dot) f cdv A outer s H E).env (cxOf (L2.CX P w) P w K mg base N_dot "dot" (defScope s_dot) f cdv A outer s H E).xe := passes_of rfl
    have hu64 := hr.units
    have hu65 := hu65_of hr
    have hu0 := hr.units0
    have hu1 := hu_of hr
    exact (dss_one (ds_ret (de_mod (de_sum (by rfl) (by rfl) h_sum (de_frz (dn_lc (by rfl) nd (di_zip (by rfl) h_zip (da_cons (de_var (pv 0)) (da_cons (de_var (pv 1)) da_nil))) (blkOk_by (own := [("a", 3), ("b", 4)]) (N := N_dot) (sc := defScope s_dot) (by decide +kernel)) (vs := [3, 4]) (by decide) (fun _ _ _ _ _ => (dg_tup (by rfl) (dgs_cons (pg_name (i := 3) nd (by rfl) (by first | exact Or.inl rfl | exact Or.inr rfl)) (dgs_cons (pg_name (i := 4) nd (by rfl) (by first | exact Or.inl rfl | exact Or.inr rfl)) dgs_nil)))) (fun _ _ _ _ _ => dts_nil) (fun _ _ _ _ _ => (de_mul (de_var (pv 3)) (de_var (pv 4))))))) (de_var (pv 2)))))
abbrev s_reduced : Stmt := topS 14
abbrev N_reduced : List Str := ["rows", "width", "p", "table", "pivots", "left", "at", "found", "head", "row"]
theorem sc_reduced : FnScope N_reduced ["rows", "width", "p"] (defScope s_reduced) := ⟨rfl, rfl, rfl, by decide +kernel, rfl, by decide +kernel, by decide +kernel⟩
noncomputable def m_reduced : Ms → O := (seqS (asgS 3 (frz (lstE aNil)))
  (seqS (asgN 4 (lstE aNil))
  (seqS (moveS 5 0)
  (seqS (forS (itR1 (aCons (varE 1) aNil)) (Tk.nm 6).k (seqS (asgS 7 (frz (lcE (itS (varE 5)) (Tk.nm 9).k (tst (op2 (op2 (varE 9) (varE 6) ixO) (cE (.int 0)) neO)) (varE 9) [9])))
  (ifS (truT (varE 7)) (seqS (asgS 8 (funE 3 (aCons (op2 (varE 7) (cE (.int 0)) ixO) (aCons (funE 2 (aCons (op2 (op2 (varE 7) (cE (.int 0)) ixO) (varE 6) ixO) (aCons (varE 2) aNil)) Finverse) (aCons (varE 2) aNil))) FscW))
  (seqS (asgS 3 (frz (opN (frz (lcE (itS (varE 3)) (Tk.nm 9).k yesT (funE 4 (aCons (varE 9) (aCons (varE 8) (aCons (varE 6) (aCons (varE 2) aNil)))) Fcleared) [9])) (frz (lstE (aCons (varE 8) aNil))) catL)))
  (seqS (asgS 5 (frz (lcE (itS (varE 5)) (Tk.nm 9).k yesT (funE 4 (aCons (varE 9) (aCons (varE 8) (aCons (varE 6) (aCons (varE 2) aNil)))) Fcleared) [9])))
  (appS 4 (varE 6))))) nilS)))
  (retS (tupE (aCons (calE (aCons (varE 3) aNil) tupO) (aCons (calE (aCons (varE 4) aNil) tupO) aNil))))))))
theorem ok_reduced {f : Addr} {fd : FuncData} (F : Fun K "reduced" "reduced" s_reduced f fd) (h_range : mg "range" = none) (h_tuple : mg "tuple" = none) (c__cleared : Cal P w K mg base "_cleared" 2 ["row", "head", "at", "p"] (spD K 4 Fcleared)) (c_scaled : Cal P w K mg base "scaled" 1 ["v", "a", "p"] (spD K 3 FscW)) (c_inverse : Cal P w K mg base "inverse" 1 ["a", "p"] (spD K 2 Finverse)) : FnOk P w K mg base (L2.CX P w) 3 f fd ["rows", "width", "p"] (spD K 3 (runD 10 m_reduced)) :=
  defOk F sc_reduced fun cdv A outer s H E hr => by
    have nd : N_reduced.Nodup := sc_reduced.nd
    have tk : Takes (cxOf (L2.CX P w) P w K mg base N_reduced "reduced" (defScope s_reduced) f cdv A outer s H E) (fun cls d _ H' => E cls d H') := takes_of rfl rfl rfl rfl
    have po : PassesOwn (model P w) (cxOf (L2.CX P w) P w K mg base N_reduced "reduced" (defScope s_reduced) f cdv A outer s H E).A (cxOf (L2.CX P w) P w K mg base N_reduced "reduced" (defScope s_reduced) f cdv A outer s H E).env (cxOf (L2.CX P w) P w K mg base N_reduced "reduced" (defScope s_reduced) f cdv A outer s H E).xe := passes_of rfl
    have hu64 := hr.units
    have hu65 := hu65_of hr
    have hu0 := hr.units0
    have hu1 := hu_of hr
    exact (dss_cons (ds_set (i := 3) nd (by rfl) (by first | exact Or.inl rfl | exact Or.inr rfl) (de_frz (dn_lst da_nil)))
      (dss_cons (ds_setN (i := 4) nd (by rfl) (by first | exact Or.inl rfl | exact Or.inr rfl) (dn_lst da_nil))
      (dss_cons (ds_mov (i := 5) nd (by rfl) (by first | exact Or.inl rfl | exact Or.inr rfl) (pv 0))
      (dss_cons (ds_for po (by rfl) (di_range1 (by rfl) h_range (da_cons (de_var (pv 1)) da_nil)) (dg_name (pg_name (i := 6) nd (by rfl) (by first | exact Or.inl rfl | exact Or.inr rfl))) (dss_cons (ds_lc (i := 7) (by rfl) nd (by rfl) (by rfl) (sw_true (by rfl) (by rfl) (by rfl) (by decide +kernel)) (di_seq (de_var (pv 5))) (blkOk_by (own := [("row", 9)]) (N := N_reduced) (sc := defScope s_reduced) (by decide +kernel)) (vs := [9]) (by decide) (fun _ _ _ _ _ => (dg_name (pg_name (i := 9) nd (by rfl) (by first | exact Or.inl rfl | exact Or.inr rfl)))) (fun _ _ _ _ _ => (dts_one (dt_ne hu64 (de_sub1 (de_var (pv 9)) (de_var (pv 6))) de_int))) (fun _ _ _ _ _ => (de_var (pv 9))))
      (dss_one (ds_if (dt_tru (de_var (pv 7))) (dss_cons (ds_set (i := 8) nd (by rfl) (by first | exact Or.inl rfl | exact Or.inr rfl) (de_cal c_scaled tk hr (by decide) (by rfl) (da_cons (de_sub1 (de_var (pv 7)) de_int) (da_cons (de_cal c_inverse tk hr (by decide) (by rfl) (da_cons (de_sub1 (de_sub1 (de_var (pv 7)) de_int) (de_var (pv 6))) (da_cons (de_var (pv 2)) da_nil))) (da_cons (de_var (pv 2)) da_nil)))))
      (dss_cons (ds_set (i := 3) nd (by rfl) (by first | exact Or.inl rfl | exact Or.inr rfl) (de_frz (dn_catL (de_frz (dn_lc (by rfl) nd (di_seq (de_var (pv 3))) (blkOk_by (own := [("row", 9)]) (N := N_reduced) (sc := defScope s_reduced) (by decide +kernel)) (vs := [9]) (by decide) (fun _ _ _ _ _ => (dg_name (pg_name (i := 9) nd (by rfl) (by first | exact Or.inl rfl | exact Or.inr rfl)))) (fun _ _ _ _ _ => dts_nil) (fun _ _ _ _ _ => (de_cal c__cleared takes0 hr (by decide) (by rfl) (da_cons (de_var (pv 9)) (da_cons (de_var (pv 8)) (da_cons (de_var (pv 6)) (da_cons (de_var (pv 2)) da_nil)))))))) (de_frz (dn_lst (da_cons (de_var (pv 8)) da_nil))))))
      (dss_cons (ds_lc (i := 5) (by rfl) nd (by rfl) (by rfl) (sw_true (by rfl) (by rfl) (by rfl) (by decide +kernel)) (di_seq (de_var (pv 5))) (blkOk_by (own := [("row", 9)]) (N := N_reduced) (sc := defScope s_reduced) (by decide +kernel)) (vs := [9]) (by decide) (fun _ _ _ _ _ => (dg_name (pg_name (i := 9) nd (by rfl) (by first | exact Or.inl rfl | exact Or.inr rfl)))) (fun _ _ _ _ _ => dts_nil) (fun _ _ _ _ _ => (de_cal c__cleared takes0 hr (by decide) (by rfl) (da_cons (de_var (pv 9)) (da_cons (de_var (pv 8)) (da_cons (de_var (pv 6)) (da_cons (de_var (pv 2)) da_nil)))))))
      (dss_one (ds_app (pv 4) (de_var (pv 6))))))) dss_nil))))
      (dss_one (ds_ret (de_tup (da_cons (de_tupc (by rfl) h_tuple (de_var (pv 3))) (da_cons (de_tupc (by rfl) h_tuple (de_var (pv 4))) da_nil)))))))))
abbrev s__cleared : Stmt := topS 15
abbrev N__cleared : List Str := ["row", "head", "at", "p"]
theorem sc__cleared : FnScope N__cleared ["row", "head", "at", "p"] (defScope s__cleared) := ⟨rfl, rfl, rfl, by decide +kernel, rfl, by decide +kernel, by decide +kernel⟩
noncomputable def m__cleared : Ms → O := (retS (funE 3 (aCons (varE 0) (aCons (funE 3 (aCons (varE 1) (aCons (op1 (op2 (varE 0) (varE 2) ixO) negO) (aCons (varE 3) aNil))) FscW) (aCons (varE 3) aNil))) FaddW))
theorem ok__cleared {f : Addr} {fd : FuncData} (F : Fun K "_cleared" "_cleared" s__cleared f fd) (c_add : Cal P w K mg base "add" 1 ["v", "w", "p"] (spD K 3 FaddW)) (c_scaled : Cal P w K mg base "scaled" 1 ["v", "a", "p"] (spD K 3 FscW)) : FnOk P w K mg base (L2.CX P w) 2 f fd ["row", "head", "at", "p"] (spD K 4 (runD 4 m__cleared)) :=
  defOk F sc__cleared fun cdv A outer s H E hr => by
    have nd : N__cleared.Nodup := sc__cleared.nd
    have tk : Takes (cxOf (L2.CX P w) P w K mg base N__cleared "_cleared" (defScope s__cleared) f cdv A outer s H E) (fun cls d _ H' => E cls d H') := takes_of rfl rfl rfl rfl
    have po : PassesOwn (model P w) (cxOf (L2.CX P w) P w K mg base N__cleared "_cleared" (defScope s__cleared) f cdv A outer s H E).A (cxOf (L2.CX P w) P w K mg base N__cleared "_cleared" (defScope s__cleared) f cdv A outer s H E).env (cxOf (L2.CX P w) P w K mg base N__cleared "_cleared" (defScope s__cleared) f cdv A outer s H E).xe := passes_of rfl
    have hu64 := hr.units
    have hu65 := hu65_of hr
    have hu0 := hr.units0
    have hu1 := hu_of hr
    exact (dss_one (ds_ret (de_cal c_add tk hr (by decide) (by rfl) (da_cons (de_var (pv 0)) (da_cons (de_cal c_scaled tk hr (by decide) (by rfl) (da_cons (de_var (pv 1)) (da_cons (de_neg (de_sub1 (de_var (pv 0)) (de_var (pv 2)))) (da_cons (de_var (pv 3)) da_nil)))) (da_cons (de_var (pv 3)) da_nil))))))
abbrev s_kernel : Stmt := topS 16
abbrev N_kernel : List Str := ["rows", "width", "p", "table", "pivots", "at"]
theorem sc_kernel : FnScope N_kernel ["rows", "width", "p"] (defScope s_kernel) := ⟨rfl, rfl, rfl, by decide +kernel, rfl, by decide +kernel, by decide +kernel⟩
noncomputable def m_kernel : Ms → O := (seqS (asgT (Tk.tp [3, 4]) (funE 3 (aCons (varE 0) (aCons (varE 1) (aCons (varE 2) aNil))) Freduced))
  (retS (calE (aCons (frz (lcE (itR1 (aCons (varE 1) aNil)) (Tk.nm 5).k (tst (op2 (varE 5) (varE 4) (inI true))) (funE 5 (aCons (varE 3) (aCons (varE 4) (aCons (varE 5) (aCons (varE 1) (aCons (varE 2) aNil))))) Fkword) [5])) aNil) tupO)))
theorem ok_kernel {f : Addr} {fd : FuncData} (F : Fun K "kernel" "kernel" s_kernel f fd) (h_range : mg "range" = none) (h_tuple : mg "tuple" = none) (c__kernel_word : Cal P w K mg base "_kernel_word" 1 ["table", "pivots", "free", "width", "p"] (spD K 5 Fkword)) (c_reduced : Cal P w K mg base "reduced" 3 ["rows", "width", "p"] (spD K 3 Freduced)) : FnOk P w K mg base (L2.CX P w) 4 f fd ["rows", "width", "p"] (spD K 3 (runD 6 m_kernel)) :=
  defOk F sc_kernel fun cdv A outer s H E hr => by
    have nd : N_kernel.Nodup := sc_kernel.nd
    have tk : Takes (cxOf (L2.CX P w) P w K mg base N_kernel "kernel" (defScope s_kernel) f cdv A outer s H E) (fun cls d _ H' => E cls d H') := takes_of rfl rfl rfl rfl
    have po : PassesOwn (model P w) (cxOf (L2.CX P w) P w K mg base N_kernel "kernel" (defScope s_kernel) f cdv A outer s H E).A (cxOf (L2.CX P w) P w K mg base N_kernel "kernel" (defScope s_kernel) f cdv A outer s H E).env (cxOf (L2.CX P w) P w K mg base N_kernel "kernel" (defScope s_kernel) f cdv A outer s H E).xe := passes_of rfl
    have hu64 := hr.units
    have hu65 := hu65_of hr
    have hu0 := hr.units0
    have hu1 := hu_of hr
    exact (dss_cons (ds_tgt (de_cal c_reduced tk hr (by decide) (by rfl) (da_cons (de_var (pv 0)) (da_cons (de_var (pv 1)) (da_cons (de_var (pv 2)) da_nil)))) (dg_tup (by rfl) (dgs_cons (pg_name (i := 3) nd (by rfl) (by first | exact Or.inl rfl | exact Or.inr rfl)) (dgs_cons (pg_name (i := 4) nd (by rfl) (by first | exact Or.inl rfl | exact Or.inr rfl)) dgs_nil))))
      (dss_one (ds_ret (de_tupc (by rfl) h_tuple (de_frz (dn_lc (by rfl) nd (di_range1 (by rfl) h_range (da_cons (de_var (pv 1)) da_nil)) (blkOk_by (own := [("at", 5)]) (N := N_kernel) (sc := defScope s_kernel) (by decide +kernel)) (vs := [5]) (by decide) (fun _ _ _ _ _ => (dg_name (pg_name (i := 5) nd (by rfl) (by first | exact Or.inl rfl | exact Or.inr rfl)))) (fun _ _ _ _ _ => (dts_one (dt_nin (de_var (pv 5)) (de_var (pv 4))))) (fun _ _ _ _ _ => (de_cal c__kernel_word takes0 hr (by decide) (by rfl) (da_cons (de_var (pv 3)) (da_cons (de_var (pv 4)) (da_cons (de_var (pv 5)) (da_cons (de_var (pv 1)) (da_cons (de_var (pv 2)) da_nil)))))))))))))
abbrev s__kernel_word : Stmt := topS 17
abbrev N__kernel_word : List Str := ["table", "pivots", "free", "width", "p", "word", "row", "pivot"]
theorem sc__kernel_word : FnScope N__kernel_word ["table", "pivots", "free", "width", "p"] (defScope s__kernel_word) := ⟨rfl, rfl, rfl, by decide +kernel, rfl, by decide +kernel, by decide +kernel⟩
noncomputable def m__kernel_word : Ms → O := (seqS (asgN 5 (opN (frz (lstE (aCons (cE (.int 0)) aNil))) (varE 3) repL))
  (seqS (setS 5 (cE (.int 1)) (varE 2))
  (seqS (forS (itZ (aCons (varE 0) (aCons (varE 1) aNil))) (Tk.tp [6, 7]).k (setS 5 (op2 (op1 (op2 (varE 6) (varE 2) ixO) negO) (varE 4) modO) (varE 7)))
  (retS (calE (aCons (varE 5) aNil) tupO)))))
theorem ok__kernel_word {f : Addr} {fd : FuncData} (F : Fun K "_kernel_word" "_kernel_word" s__kernel_word f fd) (h_tuple : mg "tuple" = none) (h_zip : mg "zip" = none) : FnOk P w K mg base (L2.CX P w) 1 f fd ["table", "pivots", "free", "width", "p"] (spD K 5 (runD 8 m__kernel_word)) :=
  defOk F sc__kernel_word fun cdv A outer s H E hr => by
    have nd : N__kernel_word.Nodup := sc__kernel_word.nd
    have tk : Takes (cxOf (L2.CX P w) P w K mg base N__kernel_word "_kernel_word" (defScope s__kernel_word) f cdv A outer s H E) (fun cls d _ H' => E cls d H') := takes_of rfl rfl rfl rfl
    have po : PassesOwn (model P w) (cxOf (L2.CX P w) P w K mg base N__kernel_word "_kernel_word" (defScope s__kernel_word) f cdv A outer s H E).A (cxOf (L2.CX P w) P w K mg base N__kernel_word "_kernel_word" (defScope s__kernel_word) f cdv A outer s H E).env (cxOf (L2.CX P w) P w K mg base N__kernel_word "_kernel_word" (defScope s__kernel_word) f cdv A outer s H E).xe := passes_of rfl
    have hu64 := hr.units
    have hu65 := hu65_of hr
    have hu0 := hr.units0
    have hu1 := hu_of hr
    exact (dss_cons (ds_setN (i := 5) nd (by rfl) (by first | exact Or.inl rfl | exact Or.inr rfl) (dn_repL (de_frz (dn_lst (da_cons de_int da_nil))) (de_var (pv 3))))
      (dss_cons (ds_setI (pv 5) (de_var (pv 2)) de_int)
      (dss_cons (ds_for po (by rfl) (di_zip (by rfl) h_zip (da_cons (de_var (pv 0)) (da_cons (de_var (pv 1)) da_nil))) (dg_tup (by rfl) (dgs_cons (pg_name (i := 6) nd (by rfl) (by first | exact Or.inl rfl | exact Or.inr rfl)) (dgs_cons (pg_name (i := 7) nd (by rfl) (by first | exact Or.inl rfl | exact Or.inr rfl)) dgs_nil))) (dss_one (ds_setI (pv 5) (de_var (pv 7)) (de_mod (de_neg (de_sub1 (de_var (pv 6)) (de_var (pv 2)))) (de_var (pv 4))))))
      (dss_one (ds_ret (de_tupc (by rfl) h_tuple (de_var (pv 5))))))))
abbrev s_weight : Stmt := topS 19
abbrev N_weight : List Str := ["word", "item"]
theorem sc_weight : FnScope N_weight ["word"] (defScope s_weight) := ⟨rfl, rfl, rfl, by decide +kernel, rfl, by decide +kernel, by decide +kernel⟩
noncomputable def m_weight : Ms → O := (retS (calE (aCons (frz (lcE (itS (varE 0)) (Tk.nm 1).k (tst (op2 (varE 1) (cE (.int 0)) neO)) (varE 1) [1])) aNil) lenO))
theorem ok_weight {f : Addr} {fd : FuncData} (F : Fun K "weight" "weight" s_weight f fd) (h_len : mg "len" = none) : FnOk P w K mg base (L2.CX P w) 1 f fd ["word"] (spD K 1 (runD 2 m_weight)) :=
  defOk F sc_weight fun cdv A outer s H E hr => by
    have nd : N_weight.Nodup := sc_weight.nd
    have tk : Takes (cxOf (L2.CX P w) P w K mg base N_weight "weight" (defScope s_weight) f cdv A outer s H E) (fun cls d _ H' => E cls d H') := takes_of rfl rfl rfl rfl
    have po : PassesOwn (model P w) (cxOf (L2.CX P w) P w K mg base N_weight "weight" (defScope s_weight) f cdv A outer s H E).A (cxOf (L2.CX P w) P w K mg base N_weight "weight" (defScope s_weight) f cdv A outer s H E).env (cxOf (L2.CX P w) P w K mg base N_weight "weight" (defScope s_weight) f cdv A outer s H E).xe := passes_of rfl
    have hu64 := hr.units
    have hu65 := hu65_of hr
    have hu0 := hr.units0
    have hu1 := hu_of hr
    exact (dss_one (ds_ret (de_len (by rfl) h_len (de_frz (dn_lc (by rfl) nd (di_seq (de_var (pv 0))) (blkOk_by (own := [("item", 1)]) (N := N_weight) (sc := defScope s_weight) (by decide +kernel)) (vs := [1]) (by decide) (fun _ _ _ _ _ => (dg_name (pg_name (i := 1) nd (by rfl) (by first | exact Or.inl rfl | exact Or.inr rfl)))) (fun _ _ _ _ _ => (dts_one (dt_ne hu64 (de_var (pv 1)) de_int))) (fun _ _ _ _ _ => (de_var (pv 1))))))))
abbrev s_is_prime : Stmt := topS 32
abbrev N_is_prime : List Str := ["p"]
theorem sc_is_prime : FnScope N_is_prime ["p"] (defScope s_is_prime) := ⟨rfl, rfl, rfl, by decide +kernel, rfl, by decide +kernel, by decide +kernel⟩
noncomputable def m_is_prime : Ms → O := (retS (andV (funE 1 (aCons (varE 0) aNil) Fisint) (op2 (varE 0) (cE (.scr true [.int 2, .int 3, .int 5, .int 7])) (inI false))))
theorem ok_is_prime {f : Addr} {fd : FuncData} (F : Fun K "is_prime" "is_prime" s_is_prime f fd) (k__PRIMES : KTup K mg "_PRIMES" [.int 2, .int 3, .int 5, .int 7]) (c_is_integer : Cal P w K mg base "is_integer" 1 ["value"] (spD K 1 Fisint)) : FnOk P w K mg base (L2.CX P w) 2 f fd ["p"] (spD K 1 (runD 1 m_is_prime)) :=
  defOk F sc_is_prime fun cdv A outer s H E hr => by
    have nd : N_is_prime.Nodup := sc_is_prime.nd
    have tk : Takes (cxOf (L2.CX P w) P w K mg base N_is_prime "is_prime" (defScope s_is_prime) f cdv A outer s H E) (fun cls d _ H' => E cls d H') := takes_of rfl rfl rfl rfl
    have po : PassesOwn (model P w) (cxOf (L2.CX P w) P w K mg base N_is_prime "is_prime" (defScope s_is_prime) f cdv A outer s H E).A (cxOf (L2.CX P w) P w K mg base N_is_prime "is_prime" (defScope s_is_prime) f cdv A outer s H E).env (cxOf (L2.CX P w) P w K mg base N_is_prime "is_prime" (defScope s_is_prime) f cdv A outer s H E).xe := passes_of rfl
    have hu64 := hr.units
    have hu65 := hu65_of hr
    have hu0 := hr.units0
    have hu1 := hu_of hr
    exact (dss_one (ds_ret (de_and (de_cal c_is_integer tk hr (by decide) (by rfl) (da_cons (de_var (pv 0)) da_nil)) (de_one (de_in (de_var (pv 0)) (de_ktup k__PRIMES (by rfl)))))))
abbrev s_check_rows : Stmt := topS 33
abbrev N_check_rows : List Str := ["p", "n", "rows", "row"]
theorem sc_check_rows : FnScope N_check_rows ["p", "n", "rows"] (defScope s_check_rows) := ⟨rfl, rfl, rfl, by decide +kernel, rfl, by decide +kernel, by decide +kernel⟩
noncomputable def m_check_rows (CM CR : Addr) : Ms → O := (seqS (ifS (orT (notT (truT (funE 1 (aCons (varE 0) aNil) Fisprime))) (orT (notT (truT (funE 1 (aCons (varE 1) aNil) Fisint))) (tst (op2 (varE 1) (cE (.int 0)) ltO)))) (raiseS ⟨CM, [], []⟩) nilS)
  (seqS (ifS (tst (op2 (varE 1) (cE (.int 12)) gtO)) (raiseS ⟨CR, ["reason"], [.str "length"]⟩) nilS)
  (seqS (ifS (notT (truT (op1 (varE 2) (isi2O "list" "tuple")))) (raiseS ⟨CM, [], []⟩) nilS)
  (ifS (notT (truT (calE (aCons (frz (lcE (itS (varE 2)) (Tk.nm 3).k yesT (funE 3 (aCons (varE 3) (aCons (varE 0) (aCons (varE 1) aNil))) Fisword) [3])) aNil) allO))) (raiseS ⟨CM, [], []⟩) nilS))))
theorem ok_check_rows {f : Addr} {fd : FuncData} (F : Fun K "check_rows" "check_rows" s_check_rows f fd) {CM CR : Addr} {tkL : Tok} (h__LONGEST : mg "_LONGEST" = some (.int 12 tkL)) (h_all : mg "all" = none) (h_isinstance : mg "isinstance" = none) (h_list : mg "list" = none) (h_tuple : mg "tuple" = none) (R_Malformed : RaN P w K mg base "Malformed" CM) (R_Refused : RaS P w K mg base "Refused" CR "reason") (c_is_word : Cal P w K mg base "is_word" 2 ["value", "p", "n"] (spD K 3 Fisword)) (c_is_integer : Cal P w K mg base "is_integer" 1 ["value"] (spD K 1 Fisint)) (c_is_prime : Cal P w K mg base "is_prime" 2 ["p"] (spD K 1 Fisprime)) : FnOk P w K mg base (L2.CX P w) 3 f fd ["p", "n", "rows"] (spD K 3 (runD 4 (m_check_rows CM CR))) :=
  defOk F sc_check_rows fun cdv A outer s H E hr => by
    have nd : N_check_rows.Nodup := sc_check_rows.nd
    have tk : Takes (cxOf (L2.CX P w) P w K mg base N_check_rows "check_rows" (defScope s_check_rows) f cdv A outer s H E) (fun cls d _ H' => E cls d H') := takes_of rfl rfl rfl rfl
    have po : PassesOwn (model P w) (cxOf (L2.CX P w) P w K mg base N_check_rows "check_rows" (defScope s_check_rows) f cdv A outer s H E).A (cxOf (L2.CX P w) P w K mg base N_check_rows "check_rows" (defScope s_check_rows) f cdv A outer s H E).env (cxOf (L2.CX P w) P w K mg base N_check_rows "check_rows" (defScope s_check_rows) f cdv A outer s H E).xe := passes_of rfl
    have hu64 := hr.units
    have hu65 := hu65_of hr
    have hu0 := hr.units0
    have hu1 := hu_of hr
    exact (dss_cons (ds_if (PW.pt (dw_or (dt_not (dt_tru (de_cal c_is_prime tk hr (by decide) (by rfl) (da_cons (de_var (pv 0)) da_nil)))) (dw_or (dt_not (dt_tru (de_cal c_is_integer tk hr (by decide) (by rfl) (da_cons (de_var (pv 1)) da_nil)))) (dw_or1 (dt_lt (de_var (pv 1)) de_int))))) (dss_one (ds_raiseN R_Malformed (by rfl) tk (hr.mono (by decide)) (by rfl))) dss_nil)
      (dss_cons (ds_if (dt_gt (de_var (pv 1)) (de_gint (by rfl) h__LONGEST)) (dss_one (ds_raiseS R_Refused (by rfl) tk (hr.mono (by decide)) (by rfl) (by decide +kernel))) dss_nil)
      (dss_cons (ds_if (dt_not (dt_tru (de_isi2 (T := "list") (U := "tuple") (by decide +kernel) (by decide +kernel) (by rfl) h_isinstance (by rfl) h_list (by rfl) h_tuple (de_var (pv 2))))) (dss_one (ds_raiseN R_Malformed (by rfl) tk (hr.mono (by decide)) (by rfl))) dss_nil)
      (dss_one (ds_if (dt_not (dt_tru (de_all (by rfl) (by rfl) h_all (de_frz (dn_lc (by rfl) nd (di_seq (de_var (pv 2))) (blkOk_by (own := [("row", 3)]) (N := N_check_rows) (sc := defScope s_check_rows) (by decide +kernel)) (vs := [3]) (by decide) (fun _ _ _ _ _ => (dg_name (pg_name (i := 3) nd (by rfl) (by first | exact Or.inl rfl | exact Or.inr rfl)))) (fun _ _ _ _ _ => dts_nil) (fun _ _ _ _ _ => (de_cal c_is_word takes0 hr (by decide) (by rfl) (da_cons (de_var (pv 3)) (da_cons (de_var (pv 0)) (da_cons (de_var (pv 1)) da_nil)))))))))) (dss_one (ds_raiseN R_Malformed (by rfl) tk (hr.mono (by decide)) (by rfl))) dss_nil)))))
abbrev s_Code___init__ : Stmt := inClass (topS 34) 0
abbrev N_Code___init__ : List Str := ["self", "p", "n", "rows", "table", "_"]
theorem sc_Code___init__ : FnScope N_Code___init__ ["self", "p", "n", "rows"] (defScope s_Code___init__) := ⟨rfl, rfl, rfl, by decide +kernel, rfl, by decide +kernel, by decide +kernel⟩
noncomputable def m_Code___init__ (CC CM CR : Addr) : Ms → O := (seqS (dropS (funE 3 (aCons (varE 1) (aCons (varE 2) (aCons (varE 3) aNil))) (Fchk CM CR)))
  (seqS (asgT (Tk.tp [4, 5]) (funE 3 (aCons (varE 3) (aCons (varE 2) (aCons (varE 1) aNil))) Freduced))
  (seqS (ifS (tst (op2 (funE 2 (aCons (varE 1) (aCons (calE (aCons (varE 4) aNil) lenO) aNil)) Fpow) (cE (.int 4096)) gtO)) (raiseS ⟨CR, ["reason"], [.str "large"]⟩) nilS)
  (seqS (fldS CC "p" 0 (varE 1))
  (seqS (fldS CC "n" 0 (varE 2))
  (seqS (fldS CC "rows" 0 (varE 4))
  (seqS (fldS CC "k" 0 (calE (aCons (varE 4) aNil) lenO))
  (fldS CC "_checks" 0 (funE 3 (aCons (varE 4) (aCons (varE 2) (aCons (varE 1) aNil))) Fkernel)))))))))
theorem ok_Code___init__ {f : Addr} {fd : FuncData} (F : Fun K "__init__" "Code.__init__" s_Code___init__ f fd) {CC CM CR : Addr} {tkW : Tok} (h__MOST_WORDS : mg "_MOST_WORDS" = some (.int 4096 tkW)) (h_len : mg "len" = none) (R_Refused : RaS P w K mg base "Refused" CR "reason") (cl_Code : Cls K CC) (na_Code__checks : NoAttr K CC "_checks") (na_Code_k : NoAttr K CC "k") (na_Code_n : NoAttr K CC "n") (na_Code_p : NoAttr K CC "p") (na_Code_rows : NoAttr K CC "rows") (c_kernel : Cal P w K mg base "kernel" 4 ["rows", "width", "p"] (spD K 3 Fkernel)) (c_power : Cal P w K mg base "power" 1 ["a", "k"] (spD K 2 Fpow)) (c_reduced : Cal P w K mg base "reduced" 3 ["rows", "width", "p"] (spD K 3 Freduced)) (c_check_rows : Cal P w K mg base "check_rows" 3 ["p", "n", "rows"] (spD K 3 (Fchk CM CR))) : FnOk P w K mg base (L2.CX P w) 5 f fd ["self", "p", "n", "rows"] (spI K CC 3 (runI CC 6 (m_Code___init__ CC CM CR))) :=
  defOkI F sc_Code___init__ fun cdv A outer s H E hr => by
    have nd : N_Code___init__.Nodup := sc_Code___init__.nd
    have tk : Takes (cxOf (L2.CX P w) P w K mg base N_Code___init__ "Code.__init__" (defScope s_Code___init__) f cdv A outer s H E) (fun cls d _ H' => E cls d H') := takes_of rfl rfl rfl rfl
    have po : PassesOwn (model P w) (cxOf (L2.CX P w) P w K mg base N_Code___init__ "Code.__init__" (defScope s_Code___init__) f cdv A outer s H E).A (cxOf (L2.CX P w) P w K mg base N_Code___init__ "Code.__init__" (defScope s_Code___init__) f cdv A outer s H E).env (cxOf (L2.CX P w) P w K mg base N_Code___init__ "Code.__init__" (defScope s_Code___init__) f cdv A outer s H E).xe := passes_of rfl
    have hu64 := hr.units
    have hu65 := hu65_of hr
    have hu0 := hr.units0
    have hu1 := hu_of hr
    exact (dss_cons (ds_drop (de_cal c_check_rows tk hr (by decide) (by rfl) (da_cons (de_var (pv 1)) (da_cons (de_var (pv 2)) (da_cons (de_var (pv 3)) da_nil)))))
      (dss_cons (ds_tgt (de_cal c_reduced tk hr (by decide) (by rfl) (da_cons (de_var (pv 3)) (da_cons (de_var (pv 2)) (da_cons (de_var (pv 1)) da_nil)))) (dg_tup (by rfl) (dgs_cons (pg_name (i := 4) nd (by rfl) (by first | exact Or.inl rfl | exact Or.inr rfl)) (dgs_cons (pg_name (i := 5) nd (by rfl) (by first | exact Or.inl rfl | exact Or.inr rfl)) dgs_nil))))
      (dss_cons (ds_if (dt_gt (de_cal c_power tk hr (by decide) (by rfl) (da_cons (de_var (pv 1)) (da_cons (de_len (by rfl) h_len (de_var (pv 4))) da_nil))) (de_gint (by rfl) h__MOST_WORDS)) (dss_one (ds_raiseS R_Refused (by rfl) tk (hr.mono (by decide)) (by rfl) (by decide +kernel))) dss_nil)
      (dss_cons (ds_fldS cl_Code na_Code_p (pv 0) (de_var (pv 1)))
      (dss_cons (ds_fldS cl_Code na_Code_n (pv 0) (de_var (pv 2)))
      (dss_cons (ds_fldS cl_Code na_Code_rows (pv 0) (de_var (pv 4)))
      (dss_cons (ds_fldS cl_Code na_Code_k (pv 0) (de_len (by rfl) h_len (de_var (pv 4))))
      (dss_one (ds_fldS cl_Code na_Code__checks (pv 0) (de_cal c_kernel tk hr (by decide) (by rfl) (da_cons (de_var (pv 4)) (da_cons (de_var (pv 2)) (da_cons (de_var (pv 1)) da_nil)))))))))))))
abbrev s_Code_size : Stmt := inClass (topS 34) 3
abbrev N_Code_size : List Str := ["self"]
theorem sc_Code_size : FnScope N_Code_size ["self"] (defScope s_Code_size) := ⟨rfl, rfl, rfl, by decide +kernel, rfl, by decide +kernel, by decide +kernel⟩
noncomputable def m_Code_size (CC : Addr) : Ms → O := (retS (funE 2 (aCons (fldE CC "p" (varE 0)) (aCons (fldE CC "k" (varE 0)) aNil)) Fpow))
theorem ok_Code_size {f : Addr} {fd : FuncData} (F : Fun K "size" "Code.size" s_Code_size f fd) {CC : Addr} (cl_Code : Cls K CC) (na_Code_k : NoAttr K CC "k") (na_Code_p : NoAttr K CC "p") (c_power : Cal P w K mg base "power" 1 ["a", "k"] (spD K 2 Fpow)) : FnOk P w K mg base (L2.CX P w) 2 f fd ["self"] (spD K 1 (runD 1 (m_Code_size CC))) :=
  defOk F sc_Code_size fun cdv A outer s H E hr => by
    have nd : N_Code_size.Nodup := sc_Code_size.nd
    have tk : Takes (cxOf (L2.CX P w) P w K mg base N_Code_size "Code.size" (defScope s_Code_size) f cdv A outer s H E) (fun cls d _ H' => E cls d H') := takes_of rfl rfl rfl rfl
    have po : PassesOwn (model P w) (cxOf (L2.CX P w) P w K mg base N_Code_size "Code.size" (defScope s_Code_size) f cdv A outer s H E).A (cxOf (L2.CX P w) P w K mg base N_Code_size "Code.size" (defScope s_Code_size) f cdv A outer s H E).env (cxOf (L2.CX P w) P w K mg base N_Code_size "Code.size" (defScope s_Code_size) f cdv A outer s H E).xe := passes_of rfl
    have hu64 := hr.units
    have hu65 := hu65_of hr
    have hu0 := hr.units0
    have hu1 := hu_of hr
    exact (dss_one (ds_ret (de_cal c_power tk hr (by decide) (by rfl) (da_cons (de_fld cl_Code na_Code_p (de_var (pv 0))) (da_cons (de_fld cl_Code na_Code_k (de_var (pv 0))) da_nil)))))
abbrev s_Code_checks : Stmt := inClass (topS 34) 7
abbrev N_Code_checks : List Str := ["self"]
theorem sc_Code_checks : FnScope N_Code_checks ["self"] (defScope s_Code_checks) := ⟨rfl, rfl, rfl, by decide +kernel, rfl, by decide +kernel, by decide +kernel⟩
noncomputable def m_Code_checks (CC : Addr) : Ms → O := (retS (fldE CC "_checks" (varE 0)))
theorem ok_Code_checks {f : Addr} {fd : FuncData} (F : Fun K "checks" "Code.checks" s_Code_checks f fd) {CC : Addr} (cl_Code : Cls K CC) (na_Code__checks : NoAttr K CC "_checks") : FnOk P w K mg base (L2.CX P w) 1 f fd ["self"] (spD K 1 (runD 1 (m_Code_checks CC))) :=
  defOk F sc_Code_checks fun cdv A outer s H E hr => by
    have nd : N_Code_checks.Nodup := sc_Code_checks.nd
    have tk : Takes (cxOf (L2.CX P w) P w K mg base N_Code_checks "Code.checks" (defScope s_Code_checks) f cdv A outer s H E) (fun cls d _ H' => E cls d H') := takes_of rfl rfl rfl rfl
    have po : PassesOwn (model P w) (cxOf (L2.CX P w) P w K mg base N_Code_checks "Code.checks" (defScope s_Code_checks) f cdv A outer s H E).A (cxOf (L2.CX P w) P w K mg base N_Code_checks "Code.checks" (defScope s_Code_checks) f cdv A outer s H E).env (cxOf (L2.CX P w) P w K mg base N_Code_checks "Code.checks" (defScope s_Code_checks) f cdv A outer s H E).xe := passes_of rfl
    have hu64 := hr.units
    have hu65 := hu65_of hr
    have hu0 := hr.units0
    have hu1 := hu_of hr
    exact (dss_one (ds_ret (de_fld cl_Code na_Code__checks (de_var (pv 0)))))
abbrev s_Code_syndrome : Stmt := inClass (topS 34) 8
abbrev N_Code_syndrome : List Str := ["self", "word", "check"]
theorem sc_Code_syndrome : FnScope N_Code_syndrome ["self", "word"] (defScope s_Code_syndrome) := ⟨rfl, rfl, rfl, by decide +kernel, rfl, by decide +kernel, by decide +kernel⟩
noncomputable def m_Code_syndrome (CC CM : Addr) : Ms → O := (seqS (ifS (notT (truT (funE 3 (aCons (varE 1) (aCons (fldE CC "p" (varE 0)) (aCons (fldE CC "n" (varE 0)) aNil))) Fisword))) (raiseS ⟨CM, [], []⟩) nilS)
  (retS (calE (aCons (frz (lcE (itS (fldE CC "_checks" (varE 0))) (Tk.nm 2).k yesT (funE 3 (aCons (varE 2) (aCons (varE 1) (aCons (fldE CC "p" (varE 0)) aNil))) Fdot) [2])) aNil) tupO)))
theorem ok_Code_syndrome {f : Addr} {fd : FuncData} (F : Fun K "syndrome" "Code.syndrome" s_Code_syndrome f fd) {CC CM : Addr} (h_tuple : mg "tuple" = none) (R_Malformed : RaN P w K mg base "Malformed" CM) (cl_Code : Cls K CC) (na_Code__checks : NoAttr K CC "_checks") (na_Code_n : NoAttr K CC "n") (na_Code_p : NoAttr K CC "p") (c_dot : Cal P w K mg base "dot" 1 ["v", "w", "p"] (spD K 3 Fdot)) (c_is_word : Cal P w K mg base "is_word" 2 ["value", "p", "n"] (spD K 3 Fisword)) : FnOk P w K mg base (L2.CX P w) 3 f fd ["self", "word"] (spD K 2 (runD 3 (m_Code_syndrome CC CM))) :=
  defOk F sc_Code_syndrome fun cdv A outer s H E hr => by
    have nd : N_Code_syndrome.Nodup := sc_Code_syndrome.nd
    have tk : Takes (cxOf (L2.CX P w) P w K mg base N_Code_syndrome "Code.syndrome" (defScope s_Code_syndrome) f cdv A outer s H E) (fun cls d _ H' => E cls d H') := takes_of rfl rfl rfl rfl
    have po : PassesOwn (model P w) (cxOf (L2.CX P w) P w K mg base N_Code_syndrome "Code.syndrome" (defScope s_Code_syndrome) f cdv A outer s H E).A (cxOf (L2.CX P w) P w K mg base N_Code_syndrome "Code.syndrome" (defScope s_Code_syndrome) f cdv A outer s H E).env (cxOf (L2.CX P w) P w K mg base N_Code_syndrome "Code.syndrome" (defScope s_Code_syndrome) f cdv A outer s H E).xe := passes_of rfl
    have hu64 := hr.units
    have hu65 := hu65_of hr
    have hu0 := hr.units0
    have hu1 := hu_of hr
    exact (dss_cons (ds_if (dt_not (dt_tru (de_cal c_is_word tk hr (by decide) (by rfl) (da_cons (de_var (pv 1)) (da_cons (de_fld cl_Code na_Code_p (de_var (pv 0))) (da_cons (de_fld cl_Code na_Code_n (de_var (pv 0))) da_nil)))))) (dss_one (ds_raiseN R_Malformed (by rfl) tk (hr.mono (by decide)) (by rfl))) dss_nil)
      (dss_one (ds_ret (de_tupc (by rfl) h_tuple (de_frz (dn_lc (by rfl) nd (di_seq (de_fld cl_Code na_Code__checks (de_var (pv 0)))) (blkOk_by (own := [("check", 2)]) (N := N_Code_syndrome) (sc := defScope s_Code_syndrome) (by decide +kernel)) (vs := [2]) (by decide) (fun _ _ _ _ _ => (dg_name (pg_name (i := 2) nd (by rfl) (by first | exact Or.inl rfl | exact Or.inr rfl)))) (fun _ _ _ _ _ => dts_nil) (fun _ _ _ _ _ => (de_cal c_dot takes0 hr (by decide) (by rfl) (da_cons (de_var (pv 2)) (da_cons (de_var (pv 1)) (da_cons (de_fld cl_Code na_Code_p (de_var (pv 0))) da_nil)))))))))))
abbrev s__steps : Stmt := topS 24
abbrev N__steps : List Str := ["code", "steps", "at", "column", "check", "item"]
theorem sc__steps : FnScope N__steps ["code"] (defScope s__steps) := ⟨rfl, rfl, rfl, by decide +kernel, rfl, by decide +kernel, by decide +kernel⟩
noncomputable def m__steps (CC : Addr) : Ms → O := (seqS (asgN 1 (lstE aNil))
  (seqS (forS (itR1 (aCons (fldE CC "n" (varE 0)) aNil)) (Tk.nm 2).k (seqS (asgS 3 (calE (aCons (frz (lcE (itS (metE CC "checks" 1 (varE 0) aNil (Fchecks CC))) (Tk.nm 4).k yesT (op2 (varE 4) (varE 2) ixO) [4])) aNil) tupO))
  (appS 1 (frz (lcE (itR2 (aCons (cE (.int 1)) (aCons (fldE CC "p" (varE 0)) aNil))) (Tk.nm 5).k yesT (tupE (aCons (varE 5) (aCons (funE 3 (aCons (varE 3) (aCons (varE 5) (aCons (fldE CC "p" (varE 0)) aNil))) FscW) aNil))) [5])))))
  (retS (varE 1))))
theorem ok__steps {f : Addr} {fd : FuncData} (F : Fun K "_steps" "_steps" s__steps f fd) {CC : Addr} (h_range : mg "range" = none) (h_tuple : mg "tuple" = none) (cl_Code : Cls K CC) (na_Code_n : NoAttr K CC "n") (na_Code_p : NoAttr K CC "p") (cm_Code_checks : CalM P w K mg base CC "checks" 1 ["self"] (spD K 1 (Fchecks CC))) (c_scaled : Cal P w K mg base "scaled" 1 ["v", "a", "p"] (spD K 3 FscW)) : FnOk P w K mg base (L2.CX P w) 2 f fd ["code"] (spD K 1 (runD 6 (m__steps CC))) :=
  defOk F sc__steps fun cdv A outer s H E hr => by
    have nd : N__steps.Nodup := sc__steps.nd
    have tk : Takes (cxOf (L2.CX P w) P w K mg base N__steps "_steps" (defScope s__steps) f cdv A outer s H E) (fun cls d _ H' => E cls d H') := takes_of rfl rfl rfl rfl
    have po : PassesOwn (model P w) (cxOf (L2.CX P w) P w K mg base N__steps "_steps" (defScope s__steps) f cdv A outer s H E).A (cxOf (L2.CX P w) P w K mg base N__steps "_steps" (defScope s__steps) f cdv A outer s H E).env (cxOf (L2.CX P w) P w K mg base N__steps "_steps" (defScope s__steps) f cdv A outer s H E).xe := passes_of rfl
    have hu64 := hr.units
    have hu65 := hu65_of hr
    have hu0 := hr.units0
    have hu1 := hu_of hr
    exact (dss_cons (ds_setN (i := 1) nd (by rfl) (by first | exact Or.inl rfl | exact Or.inr rfl) (dn_lst da_nil))
      (dss_cons (ds_for po (by rfl) (di_range1 (by rfl) h_range (da_cons (de_fld cl_Code na_Code_n (de_var (pv 0))) da_nil)) (dg_name (pg_name (i := 2) nd (by rfl) (by first | exact Or.inl rfl | exact Or.inr rfl))) (dss_cons (ds_set (i := 3) nd (by rfl) (by first | exact Or.inl rfl | exact Or.inr rfl) (de_tupc (by rfl) h_tuple (de_frz (dn_lc (by rfl) nd (di_seq (de_met0 cm_Code_checks tk hr (by decide) (de_var (pv 0)))) (blkOk_by (own := [("check", 4)]) (N := N__steps) (sc := defScope s__steps) (by decide +kernel)) (vs := [4]) (by decide) (fun _ _ _ _ _ => (dg_name (pg_name (i := 4) nd (by rfl) (by first | exact Or.inl rfl | exact Or.inr rfl)))) (fun _ _ _ _ _ => dts_nil) (fun _ _ _ _ _ => (de_sub1 (de_var (pv 4)) (de_var (pv 2))))))))
      (dss_one (ds_app (pv 1) (de_frz (dn_lc (by rfl) nd (di_range2 (by rfl) h_range (da_cons de_int (da_cons (de_fld cl_Code na_Code_p (de_var (pv 0))) da_nil))) (blkOk_by (own := [("item", 5)]) (N := N__steps) (sc := defScope s__steps) (by decide +kernel)) (vs := [5]) (by decide) (fun _ _ _ _ _ => (dg_name (pg_name (i := 5) nd (by rfl) (by first | exact Or.inl rfl | exact Or.inr rfl)))) (fun _ _ _ _ _ => dts_nil) (fun _ _ _ _ _ => (de_tup (da_cons (de_var (pv 5)) (da_cons (de_cal c_scaled takes0 hr (by decide) (by rfl) (da_cons (de_var (pv 3)) (da_cons (de_var (pv 5)) (da_cons (de_fld cl_Code na_Code_p (de_var (pv 0))) da_nil)))) da_nil))))))))))
      (dss_one (ds_ret (de_var (pv 1))))))
abbrev s__longer : Stmt := topS 25
abbrev N__longer : List Str := ["word", "syndrome", "steps", "p", "used", "first", "at", "item", "step"]
theorem sc__longer : FnScope N__longer ["word", "syndrome", "steps", "p"] (defScope s__longer) := ⟨rfl, rfl, rfl, by decide +kernel, rfl, by decide +kernel, by decide +kernel⟩
noncomputable def m__longer : Ms → O := (seqS (asgS 4 (frz (lcE (itEn (aCons (varE 0) aNil)) (Tk.tp [6, 7]).k (tst (op2 (varE 7) (cE (.int 0)) neO)) (varE 6) [6, 7])))
  (seqS (asgS 5 (ifE (truT (varE 4)) (op2 (op2 (varE 4) (op1 (cE (.int 1)) negO) ixO) (cE (.int 1)) addO) (cE (.int 0))))
  (retS (frz (lcE2 (itR2 (aCons (varE 5) (aCons (calE (aCons (varE 0) aNil) lenO) aNil))) (Tk.nm 6).k yesT (itS (op2 (varE 2) (varE 6) ixO)) (Tk.tp [7, 8]).k yesT (tupE (aCons (op2 (op2 (slT (varE 0) oNone (oSome (varE 6))) (tupE (aCons (varE 7) aNil)) catT) (slT (varE 0) (oSome (op2 (varE 6) (cE (.int 1)) addO)) oNone) catT) (aCons (funE 3 (aCons (varE 1) (aCons (varE 8) (aCons (varE 3) aNil))) FaddW) aNil))) [6, 7, 8] [7, 8])))))
theorem ok__longer {f : Addr} {fd : FuncData} (F : Fun K "_longer" "_longer" s__longer f fd) (h_enumerate : mg "enumerate" = none) (h_len : mg "len" = none) (h_range : mg "range" = none) (c_add : Cal P w K mg base "add" 1 ["v", "w", "p"] (spD K 3 FaddW)) : FnOk P w K mg base (L2.CX P w) 2 f fd ["word", "syndrome", "steps", "p"] (spD K 4 (runD 9 m__longer)) :=
  defOk F sc__longer fun cdv A outer s H E hr => by
    have nd : N__longer.Nodup := sc__longer.nd
    have tk : Takes (cxOf (L2.CX P w) P w K mg base N__longer "_longer" (defScope s__longer) f cdv A outer s H E) (fun cls d _ H' => E cls d H') := takes_of rfl rfl rfl rfl
    have po : PassesOwn (model P w) (cxOf (L2.CX P w) P w K mg base N__longer "_longer" (defScope s__longer) f cdv A outer s H E).A (cxOf (L2.CX P w) P w K mg base N__longer "_longer" (defScope s__longer) f cdv A outer s H E).env (cxOf (L2.CX P w) P w K mg base N__longer "_longer" (defScope s__longer) f cdv A outer s H E).xe := passes_of rfl
    have hu64 := hr.units
    have hu65 := hu65_of hr
    have hu0 := hr.units0
    have hu1 := hu_of hr
    exact (dss_cons (ds_lc (i := 4) (by rfl) nd (by rfl) (by rfl) (sw_true (by rfl) (by rfl) (by rfl) (by decide +kernel)) (di_enum (by rfl) h_enumerate (da_cons (de_var (pv 0)) da_nil)) (blkOk_by (own := [("at", 6), ("item", 7)]) (N := N__longer) (sc := defScope s__longer) (by decide +kernel)) (vs := [6, 7]) (by decide) (fun _ _ _ _ _ => (dg_tup (by rfl) (dgs_cons (pg_name (i := 6) nd (by rfl) (by first | exact Or.inl rfl | exact Or.inr rfl)) (dgs_cons (pg_name (i := 7) nd (by rfl) (by first | exact Or.inl rfl | exact Or.inr rfl)) dgs_nil)))) (fun _ _ _ _ _ => (dts_one (dt_ne hu64 (de_var (pv 7)) de_int))) (fun _ _ _ _ _ => (de_var (pv 6))))
      (dss_cons (ds_set (i := 5) nd (by rfl) (by first | exact Or.inl rfl | exact Or.inr rfl) (de_ifx (dt_tru (de_var (pv 4))) (de_add (de_sub1 (de_var (pv 4)) (de_neg de_int)) de_int) de_int))
      (dss_one (ds_ret (de_frz (dn_lc2 (by rfl) nd (di_range2 (by rfl) h_range (da_cons (de_var (pv 5)) (da_cons (de_len (by rfl) h_len (de_var (pv 0))) da_nil))) (blkOk_by (own := [("at", 6), ("item", 7), ("step", 8)]) (N := N__longer) (sc := defScope s__longer) (by decide +kernel)) (by decide) (vs1 := [7, 8]) (by decide) (by decide) (fun _ _ _ _ _ => (dg_name (pg_name (i := 6) nd (by rfl) (by first | exact Or.inl rfl | exact Or.inr rfl)))) (fun _ _ _ _ _ => dts_nil) (fun _ _ _ _ _ => (di_seq (de_sub1 (de_var (pv 2)) (de_var (pv 6))))) (fun _ _ _ _ _ => (dg_tup (by rfl) (dgs_cons (pg_name (i := 7) nd (by rfl) (by first | exact Or.inl rfl | exact Or.inr rfl)) (dgs_cons (pg_name (i := 8) nd (by rfl) (by first | exact Or.inl rfl | exact Or.inr rfl)) dgs_nil)))) (fun _ _ _ _ _ => dts_nil) (fun _ _ _ _ _ => (de_tup (da_cons (de_catT (de_catT (de_sliceT (de_var (pv 0)) do_none (do_some (de_var (pv 6)))) (de_tup (da_cons (de_var (pv 7)) da_nil))) (de_sliceT (de_var (pv 0)) (do_some (de_add (de_var (pv 6)) de_int)) do_none)) (da_cons (de_cal c_add takes0 hr (by decide) (by rfl) (da_cons (de_var (pv 1)) (da_cons (de_var (pv 8)) (da_cons (de_var (pv 3)) da_nil)))) da_nil))))))))))
abbrev s_cosets : Stmt := topS 23
abbrev N_cosets : List Str := ["code", "zero", "leaders", "layer", "steps", "longer", "word", "syndrome", "pair"]
theorem sc_cosets : FnScope N_cosets ["code"] (defScope s_cosets) := ⟨rfl, rfl, rfl, by decide +kernel, rfl, by decide +kernel, by decide +kernel⟩
noncomputable def m_cosets (CC CM CR : Addr) : Ms → O := (seqS (ifS (tst (op2 (funE 2 (aCons (fldE CC "p" (varE 0)) (aCons (op2 (fldE CC "n" (varE 0)) (fldE CC "k" (varE 0)) subO) aNil)) Fpow) (cE (.int 4096)) gtO)) (raiseS ⟨CR, ["reason"], [.str "large"]⟩) nilS)
  (seqS (asgS 1 (op2 (tupE (aCons (cE (.int 0)) aNil)) (fldE CC "n" (varE 0)) repT))
  (seqS (asgDM 2 (metE CC "syndrome" 2 (varE 0) (aCons (varE 1) aNil) (Fsynd CC CM)) (lstE (aCons (varE 1) aNil)))
  (seqS (asgS 3 (frz (lstE (aCons (tupE (aCons (varE 1) (aCons (metE CC "syndrome" 2 (varE 0) (aCons (varE 1) aNil) (Fsynd CC CM)) aNil))) aNil))))
  (seqS (asgS 4 (funE 1 (aCons (varE 0) aNil) (Fsteps CC)))
  (seqS (whileS (fun _ => 64) (truT (varE 3)) (seqS (asgN 5 (lcE2 (itS (varE 3)) (Tk.tp [6, 7]).k yesT (itS (funE 4 (aCons (varE 6) (aCons (varE 7) (aCons (varE 4) (aCons (fldE CC "p" (varE 0)) aNil)))) Flonger)) (Tk.nm 8).k yesT (varE 8) [6, 7, 8] [8]))
  (seqS (asgS 3 (frz (lcE (itS (varE 5)) (Tk.tp [6, 7]).k (tst (inK true 2 (varE 7))) (tupE (aCons (varE 6) (aCons (varE 7) aNil))) [6, 7])))
  (forS (itS (varE 3)) (Tk.tp [6, 7]).k (sdaS 2 (varE 7) (varE 6))))))
  (retS (calE (aCons (frz (lcE (itS (frz (sortK 2))) (Tk.nm 7).k yesT (tupE (aCons (varE 7) (aCons (calE (aCons (frz (calN (aCons (ixDM 2 (varE 7)) aNil) sortO2)) aNil) tupO) aNil))) [7])) aNil) tupO))))))))
theorem ok_cosets {f : Addr} {fd : FuncData} (F : Fun K "cosets" "cosets" s_cosets f fd) {CC CM CR : Addr} {tkZ : Tok} (h__MOST_COSETS : mg "_MOST_COSETS" = some (.int 4096 tkZ)) (h_sorted : mg "sorted" = none) (h_tuple : mg "tuple" = none) (R_Refused : RaS P w K mg base "Refused" CR "reason") (cl_Code : Cls K CC) (na_Code_k : NoAttr K CC "k") (na_Code_n : NoAttr K CC "n") (na_Code_p : NoAttr K CC "p") (cm_Code_syndrome : CalM P w K mg base CC "syndrome" 3 ["self", "word"] (spD K 2 (Fsynd CC CM))) (c__longer : Cal P w K mg base "_longer" 2 ["word", "syndrome", "steps", "p"] (spD K 4 Flonger)) (c__steps : Cal P w K mg base "_steps" 2 ["code"] (spD K 1 (Fsteps CC))) (c_power : Cal P w K mg base "power" 1 ["a", "k"] (spD K 2 Fpow)) : FnOk P w K mg base (L2.CX P w) 4 f fd ["code"] (spD K 1 (runD 9 (m_cosets CC CM CR))) :=
  defOk F sc_cosets fun cdv A outer s H E hr => by
    have nd : N_cosets.Nodup := sc_cosets.nd
    have tk : Takes (cxOf (L2.CX P w) P w K mg base N_cosets "cosets" (defScope s_cosets) f cdv A outer s H E) (fun cls d _ H' => E cls d H') := takes_of rfl rfl rfl rfl
    have po : PassesOwn (model P w) (cxOf (L2.CX P w) P w K mg base N_cosets "cosets" (defScope s_cosets) f cdv A outer s H E).A (cxOf (L2.CX P w) P w K mg base N_cosets "cosets" (defScope s_cosets) f cdv A outer s H E).env (cxOf (L2.CX P w) P w K mg base N_cosets "cosets" (defScope s_cosets) f cdv A outer s H E).xe := passes_of rfl
    have hu64 := hr.units
    have hu65 := hu65_of hr
    have hu0 := hr.units0
    have hu1 := hu_of hr
    exact (dss_cons (ds_if (dt_gt (de_cal c_power tk hr (by decide) (by rfl) (da_cons (de_fld cl_Code na_Code_p (de_var (pv 0))) (da_cons (de_sub (de_fld cl_Code na_Code_n (de_var (pv 0))) (de_fld cl_Code na_Code_k (de_var (pv 0)))) da_nil))) (de_gint (by rfl) h__MOST_COSETS)) (dss_one (ds_raiseS R_Refused (by rfl) tk (hr.mono (by decide)) (by rfl) (by decide +kernel))) dss_nil)
      (dss_cons (ds_set (i := 1) nd (by rfl) (by first | exact Or.inl rfl | exact Or.inr rfl) (de_repT (de_tup (da_cons de_int da_nil)) (de_fld cl_Code na_Code_n (de_var (pv 0)))))
      (dss_cons (ds_setDM (i := 2) nd (by rfl) (by first | exact Or.inl rfl | exact Or.inr rfl) hu0 (de_met cm_Code_syndrome tk hr (by decide) (de_var (pv 0)) (da_cons (de_var (pv 1)) da_nil)) (dn_lst (da_cons (de_var (pv 1)) da_nil)))
      (dss_cons (ds_set (i := 3) nd (by rfl) (by first | exact Or.inl rfl | exact Or.inr rfl) (de_frz (dn_lst (da_cons (de_tup (da_cons (de_var (pv 1)) (da_cons (de_met cm_Code_syndrome tk hr (by decide) (de_var (pv 0)) (da_cons (de_var (pv 1)) da_nil)) da_nil))) da_nil))))
      (dss_cons (ds_set (i := 4) nd (by rfl) (by first | exact Or.inl rfl | exact Or.inr rfl) (de_cal c__steps tk hr (by decide) (by rfl) (da_cons (de_var (pv 0)) da_nil)))
      (dss_cons (ds_while (fuel := fun _ => 64) po (dt_tru (de_var (pv 3))) (dss_cons (ds_lc2N (i := 5) (by rfl) nd (by rfl) (by rfl) (sw_true (by rfl) (by rfl) (by rfl) (by decide +kernel)) (di_seq (de_var (pv 3))) (blkOk_by (own := [("word", 6), ("syndrome", 7), ("pair", 8)]) (N := N_cosets) (sc := defScope s_cosets) (by decide +kernel)) (by decide) (vs1 := [8]) (by decide) (by decide) (fun _ _ _ _ _ => (dg_tup (by rfl) (dgs_cons (pg_name (i := 6) nd (by rfl) (by first | exact Or.inl rfl | exact Or.inr rfl)) (dgs_cons (pg_name (i := 7) nd (by rfl) (by first | exact Or.inl rfl | exact Or.inr rfl)) dgs_nil)))) (fun _ _ _ _ _ => dts_nil) (fun _ _ _ _ _ => (di_seq (de_cal c__longer takes0 hr (by decide) (by rfl) (da_cons (de_var (pv 6)) (da_cons (de_var (pv 7)) (da_cons (de_var (pv 4)) (da_cons (de_fld cl_Code na_Code_p (de_var (pv 0))) da_nil))))))) (fun _ _ _ _ _ => (dg_name (pg_name (i := 8) nd (by rfl) (by first | exact Or.inl rfl | exact Or.inr rfl)))) (fun _ _ _ _ _ => dts_nil) (fun _ _ _ _ _ => (de_var (pv 8))))
      (dss_cons (ds_lc (i := 3) (by rfl) nd (by rfl) (by rfl) (sw_true (by rfl) (by rfl) (by rfl) (by decide +kernel)) (di_seq (de_var (pv 5))) (blkOk_by (own := [("word", 6), ("syndrome", 7)]) (N := N_cosets) (sc := defScope s_cosets) (by decide +kernel)) (vs := [6, 7]) (by decide) (fun _ _ _ _ _ => (dg_tup (by rfl) (dgs_cons (pg_name (i := 6) nd (by rfl) (by first | exact Or.inl rfl | exact Or.inr rfl)) (dgs_cons (pg_name (i := 7) nd (by rfl) (by first | exact Or.inl rfl | exact Or.inr rfl)) dgs_nil)))) (fun _ _ _ _ _ => (dts_one (dt_ninK hu1 (de_var (pv 7)) (pv 2)))) (fun _ _ _ _ _ => (de_tup (da_cons (de_var (pv 6)) (da_cons (de_var (pv 7)) da_nil)))))
      (dss_one (ds_for po (by rfl) (di_seq (de_var (pv 3))) (dg_tup (by rfl) (dgs_cons (pg_name (i := 6) nd (by rfl) (by first | exact Or.inl rfl | exact Or.inr rfl)) (dgs_cons (pg_name (i := 7) nd (by rfl) (by first | exact Or.inl rfl | exact Or.inr rfl)) dgs_nil))) (dss_one (ds_sda hu1 (pv 2) (de_var (pv 7)) (de_var (pv 6)))))))))
      (dss_one (ds_ret (de_tupc (by rfl) h_tuple (de_frz (dn_lc (by rfl) nd (di_seq (de_frz (dn_sortK (by rfl) hu64 (by rfl) h_sorted (pv 2)))) (blkOk_by (own := [("syndrome", 7)]) (N := N_cosets) (sc := defScope s_cosets) (by decide +kernel)) (vs := [7]) (by decide) (fun _ _ _ _ _ => (dg_name (pg_name (i := 7) nd (by rfl) (by first | exact Or.inl rfl | exact Or.inr rfl)))) (fun _ _ _ _ _ => dts_nil) (fun _ _ _ _ _ => (de_tup (da_cons (de_var (pv 7)) (da_cons (de_tupc (by rfl) h_tuple (de_frz (dn_sorted2 hu64 (by rfl) h_sorted (de_ixDM hu1 (pv 2) (de_var (pv 7)))))) da_nil)))))))))))))))
abbrev s_covering_radius : Stmt := topS 26
abbrev N_covering_radius : List Str := ["code", "_", "leaders"]
theorem sc_covering_radius : FnScope N_covering_radius ["code"] (defScope s_covering_radius) := ⟨rfl, rfl, rfl, by decide +kernel, rfl, by decide +kernel, by decide +kernel⟩
noncomputable def m_covering_radius (CC CM CR : Addr) : Ms → O := (retS (calE (aCons (frz (lcE (itS (funE 1 (aCons (varE 0) aNil) (Fcosets CC CM CR))) (Tk.tp [1, 2]).k yesT (funE 1 (aCons (op2 (varE 2) (cE (.int 0)) ixO) aNil) Fweight) [1, 2])) aNil) maxLO))
theorem ok_covering_radius {f : Addr} {fd : FuncData} (F : Fun K "covering_radius" "covering_radius" s_covering_radius f fd) {CC CM CR : Addr} (h_max : mg "max" = none) (c_cosets : Cal P w K mg base "cosets" 4 ["code"] (spD K 1 (Fcosets CC CM CR))) (c_weight : Cal P w K mg base "weight" 1 ["word"] (spD K 1 Fweight)) : FnOk P w K mg base (L2.CX P w) 5 f fd ["code"] (spD K 1 (runD 3 (m_covering_radius CC CM CR))) :=
  defOk F sc_covering_radius fun cdv A outer s H E hr => by
    have nd : N_covering_radius.Nodup := sc_covering_radius.nd
    have tk : Takes (cxOf (L2.CX P w) P w K mg base N_covering_radius "covering_radius" (defScope s_covering_radius) f cdv A outer s H E) (fun cls d _ H' => E cls d H') := takes_of rfl rfl rfl rfl
    have po : PassesOwn (model P w) (cxOf (L2.CX P w) P w K mg base N_covering_radius "covering_radius" (defScope s_covering_radius) f cdv A outer s H E).A (cxOf (L2.CX P w) P w K mg base N_covering_radius "covering_radius" (defScope s_covering_radius) f cdv A outer s H E).env (cxOf (L2.CX P w) P w K mg base N_covering_radius "covering_radius" (defScope s_covering_radius) f cdv A outer s H E).xe := passes_of rfl
    have hu64 := hr.units
    have hu65 := hu65_of hr
    have hu0 := hr.units0
    have hu1 := hu_of hr
    exact (dss_one (ds_ret (de_maxL (by rfl) (by rfl) h_max (de_frz (dn_lc (by rfl) nd (di_seq (de_cal c_cosets tk hr (by decide) (by rfl) (da_cons (de_var (pv 0)) da_nil))) (blkOk_by (own := [("_", 1), ("leaders", 2)]) (N := N_covering_radius) (sc := defScope s_covering_radius) (by decide +kernel)) (vs := [1, 2]) (by decide) (fun _ _ _ _ _ => (dg_tup (by rfl) (dgs_cons (pg_name (i := 1) nd (by rfl) (by first | exact Or.inl rfl | exact Or.inr rfl)) (dgs_cons (pg_name (i := 2) nd (by rfl) (by first | exact Or.inl rfl | exact Or.inr rfl)) dgs_nil)))) (fun _ _ _ _ _ => dts_nil) (fun _ _ _ _ _ => (de_cal c_weight takes0 hr (by decide) (by rfl) (da_cons (de_sub1 (de_var (pv 2)) de_int) da_nil))))))))
abbrev s_count_decided : Stmt := topS 27
abbrev N_count_decided : List Str := ["code", "_", "leaders"]
theorem sc_count_decided : FnScope N_count_decided ["code"] (defScope s_count_decided) := ⟨rfl, rfl, rfl, by decide +kernel, rfl, by decide +kernel, by decide +kernel⟩
noncomputable def m_count_decided (CC CM CR : Addr) : Ms → O := (retS (op2 (metE CC "size" 1 (varE 0) aNil (Fsize07 CC)) (calE (aCons (frz (lcE (itS (funE 1 (aCons (varE 0) aNil) (Fcosets CC CM CR))) (Tk.tp [1, 2]).k (tst (op2 (calE (aCons (varE 2) aNil) lenO) (cE (.int 1)) eqO)) (cE (.int 1)) [1, 2])) aNil) lenO) mulO))
theorem ok_count_decided {f : Addr} {fd : FuncData} (F : Fun K "count_decided" "count_decided" s_count_decided f fd) {CC CM CR : Addr} (h_len : mg "len" = none) (cm_Code_size : CalM P w K mg base CC "size" 2 ["self"] (spD K 1 (Fsize07 CC))) (c_cosets : Cal P w K mg base "cosets" 4 ["code"] (spD K 1 (Fcosets CC CM CR))) : FnOk P w K mg base (L2.CX P w) 5 f fd ["code"] (spD K 1 (runD 3 (m_count_decided CC CM CR))) :=
  defOk F sc_count_decided fun cdv A outer s H E hr => by
    have nd : N_count_decided.Nodup := sc_count_decided.nd
    have tk : Takes (cxOf (L2.CX P w) P w K mg base N_count_decided "count_decided" (defScope s_count_decided) f cdv A outer s H E) (fun cls d _ H' => E cls d H') := takes_of rfl rfl rfl rfl
    have po : PassesOwn (model P w) (cxOf (L2.CX P w) P w K mg base N_count_decided "count_decided" (defScope s_count_decided) f cdv A outer s H E).A (cxOf (L2.CX P w) P w K mg base N_count_decided "count_decided" (defScope s_count_decided) f cdv A outer s H E).env (cxOf (L2.CX P w) P w K mg base N_count_decided "count_decided" (defScope s_count_decided) f cdv A outer s H E).xe := passes_of rfl
    have hu64 := hr.units
    have hu65 := hu65_of hr
    have hu0 := hr.units0
    have hu1 := hu_of hr
    exact (dss_one (ds_ret (de_mul (de_met0 cm_Code_size tk hr (by decide) (de_var (pv 0))) (de_len (by rfl) h_len (de_frz (dn_lc (by rfl) nd (di_seq (de_cal c_cosets tk hr (by decide) (by rfl) (da_cons (de_var (pv 0)) da_nil))) (blkOk_by (own := [("_", 1), ("leaders", 2)]) (N := N_count_decided) (sc := defScope s_count_decided) (by decide +kernel)) (vs := [1, 2]) (by decide) (fun _ _ _ _ _ => (dg_tup (by rfl) (dgs_cons (pg_name (i := 1) nd (by rfl) (by first | exact Or.inl rfl | exact Or.inr rfl)) (dgs_cons (pg_name (i := 2) nd (by rfl) (by first | exact Or.inl rfl | exact Or.inr rfl)) dgs_nil)))) (fun _ _ _ _ _ => (dts_one (dt_eq hu64 (de_len (by rfl) h_len (de_var (pv 2))) de_int))) (fun _ _ _ _ _ => de_int)))))))
abbrev s__law_state : Stmt := topS 37
abbrev N__law_state : List Str := ["script", "seed", "total", "cell"]
theorem sc__law_state : FnScope N__law_state ["script"] (defScope s__law_state) := ⟨rfl, rfl, rfl, by decide +kernel, rfl, by decide +kernel, by decide +kernel⟩
noncomputable def m__law_state : Ms → ON := (seqN (asgS 1 (cE (.int 0)))
  (seqN (asgS 2 (cE (.int 1)))
  (seqN (forS (itS (frz (slL (varE 0) oNone (oSome (cE (.int 63)))))) (Tk.nm 3).k (seqS (asgS 1 (op2 (op2 (varE 1) (cE (.int 1000003)) mulO) (calE (aCons (varE 3) aNil) absO) addO))
  (asgS 2 (op2 (calE (aCons (op2 (op2 (varE 2) (cE (.int 48271)) mulO) (varE 3) addO) aNil) intO) (cE (.int 2147483647)) modO))))
  (retNL (lstE (aCons (varE 1) (aCons (varE 2) aNil)))))))
theorem ok__law_state {f : Addr} {fd : FuncData} (F : Fun K "_law_state" "_law_state" s__law_state f fd) (h_abs : mg "abs" = none) (h_int : mg "int" = none) : FnOk P w K mg base (L2.CX P w) 1 f fd ["script"] (spN K 1 (runN 4 m__law_state)) :=
  defOkN F sc__law_state fun cdv A outer s H E hr => by
    have nd : N__law_state.Nodup := sc__law_state.nd
    have tk : Takes (cxOf (L2.CX P w) P w K mg base N__law_state "_law_state" (defScope s__law_state) f cdv A outer s H E) (fun cls d _ H' => E cls d H') := takes_of rfl rfl rfl rfl
    have po : PassesOwn (model P w) (cxOf (L2.CX P w) P w K mg base N__law_state "_law_state" (defScope s__law_state) f cdv A outer s H E).A (cxOf (L2.CX P w) P w K mg base N__law_state "_law_state" (defScope s__law_state) f cdv A outer s H E).env (cxOf (L2.CX P w) P w K mg base N__law_state "_law_state" (defScope s__law_state) f cdv A outer s H E).xe := passes_of rfl
    have hu64 := hr.units
    have hu65 := hu65_of hr
    have hu0 := hr.units0
    have hu1 := hu_of hr
    exact (dsN_cons (ds_set (i := 1) nd (by rfl) (by first | exact Or.inl rfl | exact Or.inr rfl) de_int)
      (dsN_cons (ds_set (i := 2) nd (by rfl) (by first | exact Or.inl rfl | exact Or.inr rfl) de_int)
      (dsN_cons (ds_for po (by rfl) (di_seq (de_frz (dn_sliceL (de_var (pv 0)) do_none (do_some de_int)))) (dg_name (pg_name (i := 3) nd (by rfl) (by first | exact Or.inl rfl | exact Or.inr rfl))) (dss_cons (ds_set (i := 1) nd (by rfl) (by first | exact Or.inl rfl | exact Or.inr rfl) (de_add (de_mul (de_var (pv 1)) de_int) (de_abs (by rfl) h_abs (de_var (pv 3)))))
      (dss_one (ds_set (i := 2) nd (by rfl) (by first | exact Or.inl rfl | exact Or.inr rfl) (de_mod (de_intc (by rfl) h_int (de_add (de_mul (de_var (pv 2)) de_int) (de_var (pv 3)))) de_int)))))
      (dsN_retL (dn_lst (da_cons (de_var (pv 1)) (da_cons (de_var (pv 2)) da_nil)))))))
abbrev s__law_take : Stmt := topS 38
abbrev N__law_take : List Str := ["state", "m", "value"]
theorem sc__law_take : FnScope N__law_take ["state", "m"] (defScope s__law_take) := ⟨rfl, rfl, rfl, by decide +kernel, rfl, by decide +kernel, by decide +kernel⟩
noncomputable def m__law_take : Ms → O := (seqS (ifS (tst (op2 (ixV 0 (cE (.int 0))) (cE (.int 0)) gtO)) (seqS (asgS 2 (op2 (calE (aCons (ixV 0 (cE (.int 0))) aNil) intO) (varE 1) modO))
  (seqS (setS 0 (op2 (ixV 0 (cE (.int 0))) (varE 1) divO) (cE (.int 0)))
  (retS (varE 2)))) nilS)
  (seqS (setS 0 (op2 (calE (aCons (op2 (op2 (ixV 0 (cE (.int 1))) (cE (.int 48271)) mulO) (cE (.int 11)) addO) aNil) intO) (cE (.int 2147483647)) modO) (cE (.int 1)))
  (retS (op2 (calE (aCons (op2 (ixV 0 (cE (.int 1))) (cE (.int 7)) divO) aNil) intO) (varE 1) modO))))
theorem ok__law_take {f : Addr} {fd : FuncData} (F : Fun K "_law_take" "_law_take" s__law_take f fd) (h_int : mg "int" = none) : FnOk P w K mg base (L2.CX P w) 1 f fd ["state", "m"] (spM K 1 (runM 3 m__law_take)) :=
  defOkM F sc__law_take fun cdv A outer s H E hr => by
    have nd : N__law_take.Nodup := sc__law_take.nd
    have tk : Takes (cxOf (L2.CX P w) P w K mg base N__law_take "_law_take" (defScope s__law_take) f cdv A outer s H E) (fun cls d _ H' => E cls d H') := takes_of rfl rfl rfl rfl
    have po : PassesOwn (model P w) (cxOf (L2.CX P w) P w K mg base N__law_take "_law_take" (defScope s__law_take) f cdv A outer s H E).A (cxOf (L2.CX P w) P w K mg base N__law_take "_law_take" (defScope s__law_take) f cdv A outer s H E).env (cxOf (L2.CX P w) P w K mg base N__law_take "_law_take" (defScope s__law_take) f cdv A outer s H E).xe := passes_of rfl
    have hu64 := hr.units
    have hu65 := hu65_of hr
    have hu0 := hr.units0
    have hu1 := hu_of hr
    exact (dss_cons (ds_if (dt_gt (de_ixV (pv 0) de_int) de_int) (dss_cons (ds_set (i := 2) nd (by rfl) (by first | exact Or.inl rfl | exact Or.inr rfl) (de_mod (de_intc (by rfl) h_int (de_ixV (pv 0) de_int)) (de_var (pv 1))))
      (dss_cons (ds_setI (pv 0) de_int (de_div (de_ixV (pv 0) de_int) (de_var (pv 1))))
      (dss_one (ds_ret (de_var (pv 2)))))) dss_nil)
      (dss_cons (ds_setI (pv 0) de_int (de_mod (de_intc (by rfl) h_int (de_add (de_mul (de_ixV (pv 0) de_int) de_int) de_int)) de_int))
      (dss_one (ds_ret (de_mod (de_intc (by rfl) h_int (de_div (de_ixV (pv 0) de_int) de_int)) (de_var (pv 1)))))))
abbrev s__law_weight : Stmt := topS 39
abbrev N__law_weight : List Str := ["word", "x"]
theorem sc__law_weight : FnScope N__law_weight ["word"] (defScope s__law_weight) := ⟨rfl, rfl, rfl, by decide +kernel, rfl, by decide +kernel, by decide +kernel⟩
noncomputable def m__law_weight : Ms → O := (retS (calE (aCons (frz (lcE (itS (varE 0)) (Tk.nm 1).k (tst (op2 (varE 1) (cE (.int 0)) neO)) (varE 1) [1])) aNil) lenO))
theorem ok__law_weight {f : Addr} {fd : FuncData} (F : Fun K "_law_weight" "_law_weight" s__law_weight f fd) (h_len : mg "len" = none) : FnOk P w K mg base (L2.CX P w) 1 f fd ["word"] (spD K 1 (runD 2 m__law_weight)) :=
  defOk F sc__law_weight fun cdv A outer s H E hr => by
    have nd : N__law_weight.Nodup := sc__law_weight.nd
    have tk : Takes (cxOf (L2.CX P w) P w K mg base N__law_weight "_law_weight" (defScope s__law_weight) f cdv A outer s H E) (fun cls d _ H' => E cls d H') := takes_of rfl rfl rfl rfl
    have po : PassesOwn (model P w) (cxOf (L2.CX P w) P w K mg base N__law_weight "_law_weight" (defScope s__law_weight) f cdv A outer s H E).A (cxOf (L2.CX P w) P w K mg base N__law_weight "_law_weight" (defScope s__law_weight) f cdv A outer s H E).env (cxOf (L2.CX P w) P w K mg base N__law_weight "_law_weight" (defScope s__law_weight) f cdv A outer s H E).xe := passes_of rfl
    have hu64 := hr.units
    have hu65 := hu65_of hr
    have hu0 := hr.units0
    have hu1 := hu_of hr
    exact (dss_one (ds_ret (de_len (by rfl) h_len (de_frz (dn_lc (by rfl) nd (di_seq (de_var (pv 0))) (blkOk_by (own := [("x", 1)]) (N := N__law_weight) (sc := defScope s__law_weight) (by decide +kernel)) (vs := [1]) (by decide) (fun _ _ _ _ _ => (dg_name (pg_name (i := 1) nd (by rfl) (by first | exact Or.inl rfl | exact Or.inr rfl)))) (fun _ _ _ _ _ => (dts_one (dt_ne hu64 (de_var (pv 1)) de_int))) (fun _ _ _ _ _ => (de_var (pv 1))))))))
abbrev s__law_all : Stmt := topS 40
abbrev N__law_all : List Str := ["n", "p", "out", "k", "longer", "word", "a"]
theorem sc__law_all : FnScope N__law_all ["n", "p"] (defScope s__law_all) := ⟨rfl, rfl, rfl, by decide +kernel, rfl, by decide +kernel, by decide +kernel⟩
noncomputable def m__law_all : Ms → O := (seqS (asgS 2 (frz (lstE (aCons (tupE aNil) aNil))))
  (seqS (forS (itR1 (aCons (varE 0) aNil)) (Tk.nm 3).k (seqS (asgS 4 (frz (lstE aNil)))
  (seqS (forS (itS (frz (calN (aCons (varE 2) aNil) lstO))) (Tk.nm 5).k (asgS 4 (frz (opN (varE 4) (frz (lcE (itR1 (aCons (varE 1) aNil)) (Tk.nm 6).k yesT (op2 (varE 5) (tupE (aCons (varE 6) aNil)) catT) [6])) catL))))
  (moveS 2 4))))
  (retS (varE 2))))
theorem ok__law_all {f : Addr} {fd : FuncData} (F : Fun K "_law_all" "_law_all" s__law_all f fd) (h_list : mg "list" = none) (h_range : mg "range" = none) : FnOk P w K mg base (L2.CX P w) 1 f fd ["n", "p"] (spD K 2 (runD 7 m__law_all)) :=
  defOk F sc__law_all fun cdv A outer s H E hr => by
    have nd : N__law_all.Nodup := sc__law_all.nd
    have tk : Takes (cxOf (L2.CX P w) P w K mg base N__law_all "_law_all" (defScope s__law_all) f cdv A outer s H E) (fun cls d _ H' => E cls d H') := takes_of rfl rfl rfl rfl
    have po : PassesOwn (model P w) (cxOf (L2.CX P w) P w K mg base N__law_all "_law_all" (defScope s__law_all) f cdv A outer s H E).A (cxOf (L2.CX P w) P w K mg base N__law_all "_law_all" (defScope s__law_all) f cdv A outer s H E).env (cxOf (L2.CX P w) P w K mg base N__law_all "_law_all" (defScope s__law_all) f cdv A outer s H E).xe := passes_of rfl
    have hu64 := hr.units
    have hu65 := hu65_of hr
    have hu0 := hr.units0
    have hu1 := hu_of hr
    exact (dss_cons (ds_set (i := 2) nd (by rfl) (by first | exact Or.inl rfl | exact Or.inr rfl) (de_frz (dn_lst (da_cons (de_tup da_nil) da_nil))))
      (dss_cons (ds_for po (by rfl) (di_range1 (by rfl) h_range (da_cons (de_var (pv 0)) da_nil)) (dg_name (pg_name (i := 3) nd (by rfl) (by first | exact Or.inl rfl | exact Or.inr rfl))) (dss_cons (ds_set (i := 4) nd (by rfl) (by first | exact Or.inl rfl | exact Or.inr rfl) (de_frz (dn_lst da_nil)))
      (dss_cons (ds_for po (by rfl) (di_seq (de_frz (dn_list (by rfl) h_list (de_var (pv 2))))) (dg_name (pg_name (i := 5) nd (by rfl) (by first | exact Or.inl rfl | exact Or.inr rfl))) (dss_one (ds_set (i := 4) nd (by rfl) (by first | exact Or.inl rfl | exact Or.inr rfl) (de_frz (dn_catL (de_var (pv 4)) (de_frz (dn_lc (by rfl) nd (di_range1 (by rfl) h_range (da_cons (de_var (pv 1)) da_nil)) (blkOk_by (own := [("a", 6)]) (N := N__law_all) (sc := defScope s__law_all) (by decide +kernel)) (vs := [6]) (by decide) (fun _ _ _ _ _ => (dg_name (pg_name (i := 6) nd (by rfl) (by first | exact Or.inl rfl | exact Or.inr rfl)))) (fun _ _ _ _ _ => dts_nil) (fun _ _ _ _ _ => (de_catT (de_var (pv 5)) (de_tup (da_cons (de_var (pv 6)) da_nil)))))))))))
      (dss_one (ds_mov (i := 2) nd (by rfl) (by first | exact Or.inl rfl | exact Or.inr rfl) (pv 4))))))
      (dss_one (ds_ret (de_var (pv 2))))))
abbrev s__law_word : Stmt := topS 41
abbrev N__law_word : List Str := ["state", "n", "p", "k"]
theorem sc__law_word : FnScope N__law_word ["state", "n", "p"] (defScope s__law_word) := ⟨rfl, rfl, rfl, by decide +kernel, rfl, by decide +kernel, by decide +kernel⟩
noncomputable def m__law_word : Ms → O := (retS (calE (aCons (frz (lcE (itR1 (aCons (varE 1) aNil)) (Tk.nm 3).k yesT (funM 1 0 (aCons (varE 2) aNil) Ftake) [3])) aNil) tupO))
theorem ok__law_word {f : Addr} {fd : FuncData} (F : Fun K "_law_word" "_law_word" s__law_word f fd) (h_range : mg "range" = none) (h_tuple : mg "tuple" = none) (c__law_take : Cal P w K mg base "_law_take" 1 ["state", "m"] (spM K 1 Ftake)) : FnOk P w K mg base (L2.CX P w) 2 f fd ["state", "n", "p"] (spM K 2 (runM 4 m__law_word)) :=
  defOkM F sc__law_word fun cdv A outer s H E hr => by
    have nd : N__law_word.Nodup := sc__law_word.nd
    have tk : Takes (cxOf (L2.CX P w) P w K mg base N__law_word "_law_word" (defScope s__law_word) f cdv A outer s H E) (fun cls d _ H' => E cls d H') := takes_of rfl rfl rfl rfl
    have po : PassesOwn (model P w) (cxOf (L2.CX P w) P w K mg base N__law_word "_law_word" (defScope s__law_word) f cdv A outer s H E).A (cxOf (L2.CX P w) P w K mg base N__law_word "_law_word" (defScope s__law_word) f cdv A outer s H E).env (cxOf (L2.CX P w) P w K mg base N__law_word "_law_word" (defScope s__law_word) f cdv A outer s H E).xe := passes_of rfl
    have hu64 := hr.units
    have hu65 := hu65_of hr
    have hu0 := hr.units0
    have hu1 := hu_of hr
    exact (dss_one (ds_ret (de_tupc (by rfl) h_tuple (de_frz (dn_lc (by rfl) nd (di_range1 (by rfl) h_range (da_cons (de_var (pv 1)) da_nil)) (blkOk_by (own := [("k", 3)]) (N := N__law_word) (sc := defScope s__law_word) (by decide +kernel)) (vs := [3]) (by decide) (fun _ _ _ _ _ => (dg_name (pg_name (i := 3) nd (by rfl) (by first | exact Or.inl rfl | exact Or.inr rfl)))) (fun _ _ _ _ _ => dts_nil) (fun _ _ _ _ _ => (de_calM c__law_take takes0 hr (by decide) (by rfl) (pv 0) (da_cons (de_var (pv 2)) da_nil))))))))
abbrev s__law_prime : Stmt := topS 42
abbrev N__law_prime : List Str := ["state"]
theorem sc__law_prime : FnScope N__law_prime ["state"] (defScope s__law_prime) := ⟨rfl, rfl, rfl, by decide +kernel, rfl, by decide +kernel, by decide +kernel⟩
noncomputable def m__law_prime : Ms → O := (retS (op2 (frz (lstE (aCons (cE (.int 2)) (aCons (cE (.int 2)) (aCons (cE (.int 3)) (aCons (cE (.int 3)) (aCons (cE (.int 5)) (aCons (cE (.int 7)) aNil)))))))) (funM 1 0 (aCons (cE (.int 6)) aNil) Ftake) ixO))
theorem ok__law_prime {f : Addr} {fd : FuncData} (F : Fun K "_law_prime" "_law_prime" s__law_prime f fd) (c__law_take : Cal P w K mg base "_law_take" 1 ["state", "m"] (spM K 1 Ftake)) : FnOk P w K mg base (L2.CX P w) 2 f fd ["state"] (spM K 0 (runM 1 m__law_prime)) :=
  defOkM F sc__law_prime fun cdv A outer s H E hr => by
    have nd : N__law_prime.Nodup := sc__law_prime.nd
    have tk : Takes (cxOf (L2.CX P w) P w K mg base N__law_prime "_law_prime" (defScope s__law_prime) f cdv A outer s H E) (fun cls d _ H' => E cls d H') := takes_of rfl rfl rfl rfl
    have po : PassesOwn (model P w) (cxOf (L2.CX P w) P w K mg base N__law_prime "_law_prime" (defScope s__law_prime) f cdv A outer s H E).A (cxOf (L2.CX P w) P w K mg base N__law_prime "_law_prime" (defScope s__law_prime) f cdv A outer s H E).env (cxOf (L2.CX P w) P w K mg base N__law_prime "_law_prime" (defScope s__law_prime) f cdv A outer s H E).xe := passes_of rfl
    have hu64 := hr.units
    have hu65 := hu65_of hr
    have hu0 := hr.units0
    have hu1 := hu_of hr
    exact (dss_one (ds_ret (de_sub1 (de_frz (dn_lst (da_cons de_int (da_cons de_int (da_cons de_int (da_cons de_int (da_cons de_int (da_cons de_int da_nil)))))))) (de_calM c__law_take tk hr (by decide) (by rfl) (pv 0) (da_cons de_int da_nil)))))
abbrev s__law_rows : Stmt := topS 43
abbrev N__law_rows : List Str := ["state", "n", "p", "most", "rows", "turn"]
theorem sc__law_rows : FnScope N__law_rows ["state", "n", "p", "most"] (defScope s__law_rows) := ⟨rfl, rfl, rfl, by decide +kernel, rfl, by decide +kernel, by decide +kernel⟩
noncomputable def m__law_rows : Ms → O := (seqS (asgN 4 (lstE aNil))
  (seqS (forS (itR1 (aCons (funM 1 0 (aCons (op2 (varE 3) (cE (.int 1)) addO) aNil) Ftake) aNil)) (Tk.nm 5).k (appS 4 (funM 2 0 (aCons (varE 1) (aCons (varE 2) aNil)) Fword)))
  (retS (varE 4))))
theorem ok__law_rows {f : Addr} {fd : FuncData} (F : Fun K "_law_rows" "_law_rows" s__law_rows f fd) (h_range : mg "range" = none) (c__law_take : Cal P w K mg base "_law_take" 1 ["state", "m"] (spM K 1 Ftake)) (c__law_word : Cal P w K mg base "_law_word" 2 ["state", "n", "p"] (spM K 2 Fword)) : FnOk P w K mg base (L2.CX P w) 3 f fd ["state", "n", "p", "most"] (spM K 3 (runM 6 m__law_rows)) :=
  defOkM F sc__law_rows fun cdv A outer s H E hr => by
    have nd : N__law_rows.Nodup := sc__law_rows.nd
    have tk : Takes (cxOf (L2.CX P w) P w K mg base N__law_rows "_law_rows" (defScope s__law_rows) f cdv A outer s H E) (fun cls d _ H' => E cls d H') := takes_of rfl rfl rfl rfl
    have po : PassesOwn (model P w) (cxOf (L2.CX P w) P w K mg base N__law_rows "_law_rows" (defScope s__law_rows) f cdv A outer s H E).A (cxOf (L2.CX P w) P w K mg base N__law_rows "_law_rows" (defScope s__law_rows) f cdv A outer s H E).env (cxOf (L2.CX P w) P w K mg base N__law_rows "_law_rows" (defScope s__law_rows) f cdv A outer s H E).xe := passes_of rfl
    have hu64 := hr.units
    have hu65 := hu65_of hr
    have hu0 := hr.units0
    have hu1 := hu_of hr
    exact (dss_cons (ds_setN (i := 4) nd (by rfl) (by first | exact Or.inl rfl | exact Or.inr rfl) (dn_lst da_nil))
      (dss_cons (ds_for po (by rfl) (di_range1 (by rfl) h_range (da_cons (de_calM c__law_take tk hr (by decide) (by rfl) (pv 0) (da_cons (de_add (de_var (pv 3)) de_int) da_nil)) da_nil)) (dg_name (pg_name (i := 5) nd (by rfl) (by first | exact Or.inl rfl | exact Or.inr rfl))) (dss_one (ds_app (pv 4) (de_calM c__law_word tk hr (by decide) (by rfl) (pv 0) (da_cons (de_var (pv 1)) (da_cons (de_var (pv 2)) da_nil))))))
      (dss_one (ds_ret (de_var (pv 4))))))
abbrev s__law_dot : Stmt := topS 44
abbrev N__law_dot : List Str := ["v", "w", "p", "k"]
theorem sc__law_dot : FnScope N__law_dot ["v", "w", "p"] (defScope s__law_dot) := ⟨rfl, rfl, rfl, by decide +kernel, rfl, by decide +kernel, by decide +kernel⟩
noncomputable def m__law_dot : Ms → O := (retS (op2 (calE (aCons (calE (aCons (frz (lcE (itR1 (aCons (calE (aCons (varE 0) aNil) lenO) aNil)) (Tk.nm 3).k yesT (op2 (op2 (varE 0) (varE 3) ixO) (op2 (varE 1) (varE 3) ixO) mulO) [3])) aNil) sumO) aNil) intO) (varE 2) modO))
theorem ok__law_dot {f : Addr} {fd : FuncData} (F : Fun K "_law_dot" "_law_dot" s__law_dot f fd) (h_int : mg "int" = none) (h_len : mg "len" = none) (h_range : mg "range" = none) (h_sum : mg "sum" = none) : FnOk P w K mg base (L2.CX P w) 1 f fd ["v", "w", "p"] (spD K 3 (runD 4 m__law_dot)) :=
  defOk F sc__law_dot fun cdv A outer s H E hr => by
    have nd : N__law_dot.Nodup := sc__law_dot.nd
    have tk : Takes (cxOf (L2.CX P w) P w K mg base N__law_dot "_law_dot" (defScope s__law_dot) f cdv A outer s H E) (fun cls d _ H' => E cls d H') := takes_of rfl rfl rfl rfl
    have po : PassesOwn (model P w) (cxOf (L2.CX P w) P w K mg base N__law_dot "_law_dot" (defScope s__law_dot) f cdv A outer s H E).A (cxOf (L2.CX P w) P w K mg base N__law_dot "_law_dot" (defScope s__law_dot) f cdv A outer s H E).env (cxOf (L2.CX P w) P w K mg base N__law_dot "_law_dot" (defScope s__law_dot) f cdv A outer s H E).xe := passes_of rfl
    have hu64 := hr.units
    have hu65 := hu65_of hr
    have hu0 := hr.units0
    have hu1 := hu_of hr
    exact (dss_one (ds_ret (de_mod (de_intc (by rfl) h_int (de_sum (by rfl) (by rfl) h_sum (de_frz (dn_lc (by rfl) nd (di_range1 (by rfl) h_range (da_cons (de_len (by rfl) h_len (de_var (pv 0))) da_nil)) (blkOk_by (own := [("k", 3)]) (N := N__law_dot) (sc := defScope s__law_dot) (by decide +kernel)) (vs := [3]) (by decide) (fun _ _ _ _ _ => (dg_name (pg_name (i := 3) nd (by rfl) (by first | exact Or.inl rfl | exact Or.inr rfl)))) (fun _ _ _ _ _ => dts_nil) (fun _ _ _ _ _ => (de_mul (de_sub1 (de_var (pv 0)) (de_var (pv 3))) (de_sub1 (de_var (pv 1)) (de_var (pv 3))))))))) (de_var (pv 2)))))
abbrev s__law_reasons : Stmt := topS 45
abbrev N__law_reasons : List Str := ["code", "told", "e"]
theorem sc__law_reasons : FnScope N__law_reasons ["code"] (defScope s__law_reasons) := ⟨rfl, rfl, rfl, by decide +kernel, rfl, by decide +kernel, by decide +kernel⟩
noncomputable def m__law_reasons (CC CM CR : Addr) : Ms → O := (seqS (asgN 1 (lstE aNil))
  (seqS (tryX [⟨CR, [CR], [], (.ap "reason" 2 1)⟩] (dropS (funE 1 (aCons (varE 0) aNil) (Fcosets CC CM CR))))
  (seqS (tryX [⟨CR, [CR], [], (.ap "reason" 2 1)⟩] (dropS (funE 1 (aCons (varE 0) aNil) (Fcovrad CC CM CR))))
  (seqS (tryX [⟨CR, [CR], [], (.ap "reason" 2 1)⟩] (dropS (funE 1 (aCons (varE 0) aNil) (Fcountd CC CM CR))))
  (retS (varE 1))))))
theorem ok__law_reasons {f : Addr} {fd : FuncData} (F : Fun K "_law_reasons" "_law_reasons" s__law_reasons f fd) {CC CM CR : Addr} (R_Refused : RaS P w K mg base "Refused" CR "reason") (c_count_decided : Cal P w K mg base "count_decided" 5 ["code"] (spD K 1 (Fcountd CC CM CR))) (c_covering_radius : Cal P w K mg base "covering_radius" 5 ["code"] (spD K 1 (Fcovrad CC CM CR))) (c_cosets : Cal P w K mg base "cosets" 4 ["code"] (spD K 1 (Fcosets CC CM CR))) : FnOk P w K mg base (L2.CX P w) 6 f fd ["code"] (spD K 1 (runD 3 (m__law_reasons CC CM CR))) :=
  defOk F sc__law_reasons fun cdv A outer s H E hr => by
    have nd : N__law_reasons.Nodup := sc__law_reasons.nd
    have tk : Takes (cxOf (L2.CX P w) P w K mg base N__law_reasons "_law_reasons" (defScope s__law_reasons) f cdv A outer s H E) (fun cls d _ H' => E cls d H') := takes_of rfl rfl rfl rfl
    have po : PassesOwn (model P w) (cxOf (L2.CX P w) P w K mg base N__law_reasons "_law_reasons" (defScope s__law_reasons) f cdv A outer s H E).A (cxOf (L2.CX P w) P w K mg base N__law_reasons "_law_reasons" (defScope s__law_reasons) f cdv A outer s H E).env (cxOf (L2.CX P w) P w K mg base N__law_reasons "_law_reasons" (defScope s__law_reasons) f cdv A outer s H E).xe := passes_of rfl
    have hu64 := hr.units
    have hu65 := hu65_of hr
    have hu0 := hr.units0
    have hu1 := hu_of hr
    exact (dss_cons (ds_setN (i := 1) nd (by rfl) (by first | exact Or.inl rfl | exact Or.inr rfl) (dn_lst da_nil))
      (dss_cons (ds_tryX (cs := [⟨CR, [CR], [], (.ap "reason" 2 1)⟩]) (hcs_cons (hcOk R_Refused.e1 noE_nil) hcs_nil) (by rfl) (by rfl) tk (fun W pn xe tk po => (dss_one (ds_drop (de_cal c_cosets tk hr (by decide) (by rfl) (da_cons (de_var (pv 0)) da_nil))))) (hd_ap R_Refused.xc R_Refused.nf nd (by rfl) (by rfl) (by rfl) R_Refused.gC (fun _ _ _ => pv 2) (fun _ _ _ => pv 1) HdG.nil))
      (dss_cons (ds_tryX (cs := [⟨CR, [CR], [], (.ap "reason" 2 1)⟩]) (hcs_cons (hcOk R_Refused.e1 noE_nil) hcs_nil) (by rfl) (by rfl) tk (fun W pn xe tk po => (dss_one (ds_drop (de_cal c_covering_radius tk hr (by decide) (by rfl) (da_cons (de_var (pv 0)) da_nil))))) (hd_ap R_Refused.xc R_Refused.nf nd (by rfl) (by rfl) (by rfl) R_Refused.gC (fun _ _ _ => pv 2) (fun _ _ _ => pv 1) HdG.nil))
      (dss_cons (ds_tryX (cs := [⟨CR, [CR], [], (.ap "reason" 2 1)⟩]) (hcs_cons (hcOk R_Refused.e1 noE_nil) hcs_nil) (by rfl) (by rfl) tk (fun W pn xe tk po => (dss_one (ds_drop (de_cal c_count_decided tk hr (by decide) (by rfl) (da_cons (de_var (pv 0)) da_nil))))) (hd_ap R_Refused.xc R_Refused.nf nd (by rfl) (by rfl) (by rfl) R_Refused.gC (fun _ _ _ => pv 2) (fun _ _ _ => pv 1) HdG.nil))
      (dss_one (ds_ret (de_var (pv 1))))))))
abbrev s_law : Stmt := topS 46
abbrev N_law : List Str := ["script", "state", "p", "n", "rows", "code", "checks", "table", "word", "due", "decided", "radius", "key", "told", "q", "words", "least", "leaders", "row"]
theorem sc_law : FnScope N_law ["script"] (defScope s_law) := ⟨rfl, rfl, rfl, by decide +kernel, rfl, by decide +kernel, by decide +kernel⟩
theorem ok_law {f : Addr} {fd : FuncData} (F : Fun K "law" "law" s_law f fd) {CC CM CR : Addr} (h_int : mg "int" = none) (h_len : mg "len" = none) (h_max : mg "max" = none) (h_min : mg "min" = none) (h_tuple : mg "tuple" = none) (cl_Code : Cls K CC) (na_Code_k : NoAttr K CC "k") (cm_Code_checks : CalM P w K mg base CC "checks" 1 ["self"] (spD K 1 (Fchecks CC))) (ci_Code : CalI P w K mg base "Code" CC 5 ["self", "p", "n", "rows"] 3 (Finit CC CM CR)) (c__law_reasons : Cal P w K mg base "_law_reasons" 6 ["code"] (spD K 1 (Flreasons21 CC CM CR))) (c_count_decided : Cal P w K mg base "count_decided" 5 ["code"] (spD K 1 (Fcountd CC CM CR))) (c_covering_radius : Cal P w K mg base "covering_radius" 5 ["code"] (spD K 1 (Fcovrad CC CM CR))) (c_cosets : Cal P w K mg base "cosets" 4 ["code"] (spD K 1 (Fcosets CC CM CR))) (c__law_all : Cal P w K mg base "_law_all" 1 ["n", "p"] (spD K 2 Fall)) (c__law_weight : Cal P w K mg base "_law_weight" 1 ["word"] (spD K 1 Fweight)) (c__law_dot : Cal P w K mg base "_law_dot" 1 ["v", "w", "p"] (spD K 3 Fdot)) (c__law_rows : Cal P w K mg base "_law_rows" 3 ["state", "n", "p", "most"] (spM K 3 Frows)) (c__law_take : Cal P w K mg base "_law_take" 1 ["state", "m"] (spM K 1 Ftake)) (c__law_prime : Cal P w K mg base "_law_prime" 2 ["state"] (spM K 0 Fprime)) (c__law_state : Cal P w K mg base "_law_state" 1 ["script"] (spN K 1 Fstate)) : FnOk P w K mg base (L2.CX P w) 7 f fd ["script"] (Lq.spLaw K) :=
  lawOk F sc_law (fun ns h => run_law21 CC CM CR ns h) fun cdv A outer s H E hr => by
    have nd : N_law.Nodup := sc_law.nd
    have tk : Takes (cxOf (L2.CX P w) P w K mg base N_law "law" (defScope s_law) f cdv A outer s H E) (fun cls d _ H' => E cls d H') := takes_of rfl rfl rfl rfl
    have po : PassesOwn (model P w) (cxOf (L2.CX P w) P w K mg base N_law "law" (defScope s_law) f cdv A outer s H E).A (cxOf (L2.CX P w) P w K mg base N_law "law" (defScope s_law) f cdv A outer s H E).env (cxOf (L2.CX P w) P w K mg base N_law "law" (defScope s_law) f cdv A outer s H E).xe := passes_of rfl
    have hu64 := hr.units
    have hu65 := hu65_of hr
    have hu0 := hr.units0
    have hu1 := hu_of hr
    exact (dss_cons (ds_setN (i := 1) nd (by rfl) (by first | exact Or.inl rfl | exact Or.inr rfl) (dn_cal c__law_state tk hr (by decide) (by rfl) (da_cons (de_var (pv 0)) da_nil)))
      (dss_cons (ds_set (i := 2) nd (by rfl) (by first | exact Or.inl rfl | exact Or.inr rfl) (de_calM c__law_prime tk hr (by decide) (by rfl) (pv 1) da_nil))
      (dss_cons (ds_set (i := 3) nd (by rfl) (by first | exact Or.inl rfl | exact Or.inr rfl) (de_calM c__law_take tk hr (by decide) (by rfl) (pv 1) (da_cons (de_sub de_int (de_mul de_int (de_intc (by rfl) h_int (de_gt (de_var (pv 2)) de_int)))) da_nil)))
      (dss_cons (ds_set (i := 4) nd (by rfl) (by first | exact Or.inl rfl | exact Or.inr rfl) (de_calM c__law_rows tk hr (by decide) (by rfl) (pv 1) (da_cons (de_var (pv 3)) (da_cons (de_var (pv 2)) (da_cons de_int da_nil)))))
      (dss_cons (ds_set (i := 5) nd (by rfl) (by first | exact Or.inl rfl | exact Or.inr rfl) (de_make ci_Code tk hr (by decide) (by rfl) (da_cons (de_var (pv 2)) (da_cons (de_var (pv 3)) (da_cons (de_var (pv 4)) da_nil)))))
      (dss_cons (ds_set (i := 6) nd (by rfl) (by first | exact Or.inl rfl | exact Or.inr rfl) (de_met0 cm_Code_checks tk hr (by decide) (de_var (pv 5))))
      (dss_cons (ds_setM (i := 7) nd (by rfl) (by first | exact Or.inl rfl | exact Or.inr rfl) dm_new)
      (dss_cons (ds_for po (by rfl) (di_seq (de_cal c__law_all tk hr (by decide) (by rfl) (da_cons (de_var (pv 3)) (da_cons (de_var (pv 2)) da_nil)))) (dg_name (pg_name (i := 8) nd (by rfl) (by first | exact Or.inl rfl | exact Or.inr rfl))) (dss_cons (ds_set (i := 12) nd (by rfl) (by first | exact Or.inl rfl | exact Or.inr rfl) (de_tupc (by rfl) h_tuple (de_frz (dn_lc (by rfl) nd (di_seq (de_var (pv 6))) (blkOk_by (own := [("row", 18)]) (N := N_law) (sc := defScope s_law) (by decide +kernel)) (vs := [18]) (by decide) (fun _ _ _ _ _ => (dg_name (pg_name (i := 18) nd (by rfl) (by first | exact Or.inl rfl | exact Or.inr rfl)))) (fun _ _ _ _ _ => dts_nil) (fun _ _ _ _ _ => (de_cal c__law_dot takes0 hr (by decide) (by rfl) (da_cons (de_var (pv 18)) (da_cons (de_var (pv 8)) (da_cons (de_var (pv 2)) da_nil)))))))))
      (dss_one (ds_setD hu1 (pv 7) (de_var (pv 12)) (de_catT (de_getD hu1 (pv 7) (de_var (pv 12)) (de_tup da_nil)) (de_tup (da_cons (de_var (pv 8)) da_nil)))))))
      (dss_cons (ds_setN (i := 9) nd (by rfl) (by first | exact Or.inl rfl | exact Or.inr rfl) (dn_lst da_nil))
      (dss_cons (ds_set (i := 10) nd (by rfl) (by first | exact Or.inl rfl | exact Or.inr rfl) de_int)
      (dss_cons (ds_set (i := 11) nd (by rfl) (by first | exact Or.inl rfl | exact Or.inr rfl) de_int)
      (dss_cons (ds_for po (by rfl) (di_seq (de_cal c__law_all tk hr (by decide) (by rfl) (da_cons (de_sub (de_var (pv 3)) (de_fld cl_Code na_Code_k (de_var (pv 5)))) (da_cons (de_var (pv 2)) da_nil)))) (dg_name (pg_name (i := 12) nd (by rfl) (by first | exact Or.inl rfl | exact Or.inr rfl))) (dss_cons (ds_set (i := 15) nd (by rfl) (by first | exact Or.inl rfl | exact Or.inr rfl) (de_getD hu1 (pv 7) (de_var (pv 12)) (de_tup da_nil)))
      (dss_cons (ds_if (dt_eq hu64 (de_len (by rfl) h_len (de_var (pv 15))) de_int) (dss_one (ds_ret de_bl)) dss_nil)
      (dss_cons (ds_set (i := 16) nd (by rfl) (by first | exact Or.inl rfl | exact Or.inr rfl) (de_minL (by rfl) (by rfl) h_min (de_frz (dn_lc (by rfl) nd (di_seq (de_var (pv 15))) (blkOk_by (own := [("word", 8)]) (N := N_law) (sc := defScope s_law) (by decide +kernel)) (vs := [8]) (by decide) (fun _ _ _ _ _ => (dg_name (pg_name (i := 8) nd (by rfl) (by first | exact Or.inl rfl | exact Or.inr rfl)))) (fun _ _ _ _ _ => dts_nil) (fun _ _ _ _ _ => (de_cal c__law_weight takes0 hr (by decide) (by rfl) (da_cons (de_var (pv 8)) da_nil)))))))
      (dss_cons (ds_set (i := 17) nd (by rfl) (by first | exact Or.inl rfl | exact Or.inr rfl) (de_tupc (by rfl) h_tuple (de_frz (dn_lc (by rfl) nd (di_seq (de_var (pv 15))) (blkOk_by (own := [("word", 8)]) (N := N_law) (sc := defScope s_law) (by decide +kernel)) (vs := [8]) (by decide) (fun _ _ _ _ _ => (dg_name (pg_name (i := 8) nd (by rfl) (by first | exact Or.inl rfl | exact Or.inr rfl)))) (fun _ _ _ _ _ => (dts_one (dt_eq hu64 (de_cal c__law_weight takes0 hr (by decide) (by rfl) (da_cons (de_var (pv 8)) da_nil)) (de_var (pv 16))))) (fun _ _ _ _ _ => (de_var (pv 8)))))))
      (dss_cons (ds_app (pv 9) (de_tup (da_cons (de_var (pv 12)) (da_cons (de_var (pv 17)) da_nil))))
      (dss_cons (ds_set (i := 11) nd (by rfl) (by first | exact Or.inl rfl | exact Or.inr rfl) (de_max (by rfl) (by rfl) h_max (de_var (pv 11)) (de_var (pv 16))))
      (dss_one (ds_set (i := 10) nd (by rfl) (by first | exact Or.inl rfl | exact Or.inr rfl) (de_add (de_var (pv 10)) (de_mul (de_intc (by rfl) h_int (de_eq hu64 (de_len (by rfl) h_len (de_var (pv 17))) de_int)) (de_len (by rfl) h_len (de_var (pv 15))))))))))))))
      (dss_cons (ds_set (i := 13) nd (by rfl) (by first | exact Or.inl rfl | exact Or.inr rfl) (de_cal c_cosets tk hr (by decide) (by rfl) (da_cons (de_var (pv 5)) da_nil)))
      (dss_cons (ds_if (PW.pt (dw_or (dt_ne hu64 (de_var (pv 13)) (de_tupc (by rfl) h_tuple (de_var (pv 9)))) (dw_or (dt_ne hu64 (de_cal c_covering_radius tk hr (by decide) (by rfl) (da_cons (de_var (pv 5)) da_nil)) (de_var (pv 11))) (dw_or1 (dt_ne hu64 (de_cal c_count_decided tk hr (by decide) (by rfl) (da_cons (de_var (pv 5)) da_nil)) (de_var (pv 10))))))) (dss_one (ds_ret de_bl)) dss_nil)
      (dss_cons (ds_mov (i := 14) nd (by rfl) (by first | exact Or.inl rfl | exact Or.inr rfl) (pv 2))
      (dss_cons (ds_if (dt_eq hu64 (de_var (pv 2)) de_int) (dss_one (ds_set (i := 14) nd (by rfl) (by first | exact Or.inl rfl | exact Or.inr rfl) de_int)) dss_nil)
      (dss_one (ds_ret (de_eq hu64 (de_cal c__law_reasons tk hr (by decide) (by rfl) (da_cons (de_make ci_Code tk hr (by decide) (by rfl) (da_cons (de_var (pv 14)) (da_cons de_int (da_cons (de_tup da_nil) da_nil)))) da_nil)) (de_frz (dn_lst (da_cons de_str (da_cons de_str (da_cons de_str da_nil))))))))))))))))))))))))
theorem all_mk {l : PySem.W.OpenLaw} {w : World} {K : PySem.W.Frag} {h : Heap} {mg : Str → Option Value} {fa f1 f2 f3 f4 f5 f6 f7 f8 f9 f10 f11 f12 f13 f14 f15 f16 f17 f18 f19 f20 f21 f22 f23 f24 f25 f26 f27 f28 f29 f30 f31 f32 f33 : Addr} (X : K.In h) (G : h.Ns mainGlobals mg) (hfa : mg "law" = some (.ref fa))
    {CC : Addr}
    {od1 an1 od2 an2 od3 an3 od4 an4 od5 an5 od6 an6 od7 an7 od8 an8 od9 an9 od10 an10 od11 an11 od12 an12 od13 an13 od14 an14 od15 an15 od16 an16 od17 an17 od18 an18 od19 an19 od20 an20 od21 an21 od22 an22 od23 an23 od24 an24 od25 an25 od26 an26 od27 an27 od28 an28 od29 an29 od30 an30 od31 an31 od32 an32 od33 an33 : Option Addr} {sl1 sl2 sl3 sl4 sl5 sl6 sl7 sl8 sl9 sl10 sl11 sl12 sl13 sl14 sl15 sl16 sl17 sl18 sl19 sl20 sl21 sl22 sl23 sl24 sl25 sl26 sl27 sl28 sl29 sl30 sl31 sl32 sl33 : Array (Option Value)} {oc1 kV1 dc1 pm1 cd1 ct1 oc2 kV2 dc2 pm2 cd2 ct2 oc3 kV3 dc3 pm3 cd3 ct3 oc4 kV4 dc4 pm4 cd4 ct4 oc5 kV5 dc5 pm5 cd5 ct5 oc6 kV6 dc6 pm6 cd6 ct6 oc7 kV7 dc7 pm7 cd7 ct7 oc8 kV8 dc8 pm8 cd8 ct8 oc9 kV9 dc9 pm9 cd9 ct9 oc10 kV10 dc10 pm10 cd10 ct10 oc11 kV11 dc11 pm11 cd11 ct11 oc12 kV12 dc12 pm12 cd12 ct12 oc13 kV13 dc13 pm13 cd13 ct13 oc14 kV14 dc14 pm14 cd14 ct14 oc15 kV15 dc15 pm15 cd15 ct15 oc16 kV16 dc16 pm16 cd16 ct16 oc17 kV17 dc17 pm17 cd17 ct17 oc18 kV18 dc18 pm18 cd18 ct18 oc19 kV19 dc19 pm19 cd19 ct19 oc20 kV20 dc20 pm20 cd20 ct20 oc21 kV21 dc21 pm21 cd21 ct21 oc22 kV22 dc22 pm22 cd22 ct22 oc23 kV23 dc23 pm23 cd23 ct23 oc24 kV24 dc24 pm24 cd24 ct24 oc25 kV25 dc25 pm25 cd25 ct25 oc26 kV26 dc26 pm26 cd26 ct26 oc27 kV27 dc27 pm27 cd27 ct27 oc28 kV28 dc28 pm28 cd28 ct28 oc29 kV29 dc29 pm29 cd29 ct29 oc30 kV30 dc30 pm30 cd30 ct30 oc31 kV31 dc31 pm31 cd31 ct31 oc32 kV32 dc32 pm32 cd32 ct32 oc33 kV33 dc33 pm33 cd33 ct33 : Value}
    (a1 : PySem.W.nsIn K mainGlobals "is_integer" = some (some (.ref f1))) (l1 : K.lookup f1 = some ⟨oc1, od1, .func (PySem.W.fnOf "is_integer" "is_integer" (defArgs s_is_integer) (defBody s_is_integer) (defScope s_is_integer) .none kV1 dc1 pm1 an1 cd1 ct1), sl1⟩) (c1 : PySem.W.codeIn K cd1 "is_integer" = true) (k1 : PySem.W.keepIn K (.ref f1) = true)
    (a2 : PySem.W.nsIn K mainGlobals "inverse" = some (some (.ref f2))) (l2 : K.lookup f2 = some ⟨oc2, od2, .func (PySem.W.fnOf "inverse" "inverse" (defArgs s_inverse) (defBody s_inverse) (defScope s_inverse) .none kV2 dc2 pm2 an2 cd2 ct2), sl2⟩) (c2 : PySem.W.codeIn K cd2 "inverse" = true) (k2 : PySem.W.keepIn K (.ref f2) = true)
    (a3 : PySem.W.nsIn K mainGlobals "power" = some (some (.ref f3))) (l3 : K.lookup f3 = some ⟨oc3, od3, .func (PySem.W.fnOf "power" "power" (defArgs s_power) (defBody s_power) (defScope s_power) .none kV3 dc3 pm3 an3 cd3 ct3), sl3⟩) (c3 : PySem.W.codeIn K cd3 "power" = true) (k3 : PySem.W.keepIn K (.ref f3) = true)
    (a4 : PySem.W.nsIn K mainGlobals "is_word" = some (some (.ref f4))) (l4 : K.lookup f4 = some ⟨oc4, od4, .func (PySem.W.fnOf "is_word" "is_word" (defArgs s_is_word) (defBody s_is_word) (defScope s_is_word) .none kV4 dc4 pm4 an4 cd4 ct4), sl4⟩) (c4 : PySem.W.codeIn K cd4 "is_word" = true) (k4 : PySem.W.keepIn K (.ref f4) = true)
    (a5 : PySem.W.nsIn K mainGlobals "add" = some (some (.ref f5))) (l5 : K.lookup f5 = some ⟨oc5, od5, .func (PySem.W.fnOf "add" "add" (defArgs s_add) (defBody s_add) (defScope s_add) .none kV5 dc5 pm5 an5 cd5 ct5), sl5⟩) (c5 : PySem.W.codeIn K cd5 "add" = true) (k5 : PySem.W.keepIn K (.ref f5) = true)
    (a6 : PySem.W.nsIn K mainGlobals "scaled" = some (some (.ref f6))) (l6 : K.lookup f6 = some ⟨oc6, od6, .func (PySem.W.fnOf "scaled" "scaled" (defArgs s_scaled) (defBody s_scaled) (defScope s_scaled) .none kV6 dc6 pm6 an6 cd6 ct6), sl6⟩) (c6 : PySem.W.codeIn K cd6 "scaled" = true) (k6 : PySem.W.keepIn K (.ref f6) = true)
    (a7 : PySem.W.nsIn K mainGlobals "dot" = some (some (.ref f7))) (l7 : K.lookup f7 = some ⟨oc7, od7, .func (PySem.W.fnOf "dot" "dot" (defArgs s_dot) (defBody s_dot) (defScope s_dot) .none kV7 dc7 pm7 an7 cd7 ct7), sl7⟩) (c7 : PySem.W.codeIn K cd7 "dot" = true) (k7 : PySem.W.keepIn K (.ref f7) = true)
    (a8 : PySem.W.nsIn K mainGlobals "reduced" = some (some (.ref f8))) (l8 : K.lookup f8 = some ⟨oc8, od8, .func (PySem.W.fnOf "reduced" "reduced" (defArgs s_reduced) (defBody s_reduced) (defScope s_reduced) .none kV8 dc8 pm8 an8 cd8 ct8), sl8⟩) (c8 : PySem.W.codeIn K cd8 "reduced" = true) (k8 : PySem.W.keepIn K (.ref f8) = true)
    (a9 : PySem.W.nsIn K mainGlobals "_cleared" = some (some (.ref f9))) (l9 : K.lookup f9 = some ⟨oc9, od9, .func (PySem.W.fnOf "_cleared" "_cleared" (defArgs s__cleared) (defBody s__cleared) (defScope s__cleared) .none kV9 dc9 pm9 an9 cd9 ct9), sl9⟩) (c9 : PySem.W.codeIn K cd9 "_cleared" = true) (k9 : PySem.W.keepIn K (.ref f9) = true)
    (a10 : PySem.W.nsIn K mainGlobals "kernel" = some (some (.ref f10))) (l10 : K.lookup f10 = some ⟨oc10, od10, .func (PySem.W.fnOf "kernel" "kernel" (defArgs s_kernel) (defBody s_kernel) (defScope s_kernel) .none kV10 dc10 pm10 an10 cd10 ct10), sl10⟩) (c10 : PySem.W.codeIn K cd10 "kernel" = true) (k10 : PySem.W.keepIn K (.ref f10) = true)
    (a11 : PySem.W.nsIn K mainGlobals "_kernel_word" = some (some (.ref f11))) (l11 : K.lookup f11 = some ⟨oc11, od11, .func (PySem.W.fnOf "_kernel_word" "_kernel_word" (defArgs s__kernel_word) (defBody s__kernel_word) (defScope s__kernel_word) .none kV11 dc11 pm11 an11 cd11 ct11), sl11⟩) (c11 : PySem.W.codeIn K cd11 "_kernel_word" = true) (k11 : PySem.W.keepIn K (.ref f11) = true)
    (a12 : PySem.W.nsIn K mainGlobals "weight" = some (some (.ref f12))) (l12 : K.lookup f12 = some ⟨oc12, od12, .func (PySem.W.fnOf "weight" "weight" (defArgs s_weight) (defBody s_weight) (defScope s_weight) .none kV12 dc12 pm12 an12 cd12 ct12), sl12⟩) (c12 : PySem.W.codeIn K cd12 "weight" = true) (k12 : PySem.W.keepIn K (.ref f12) = true)
    (a13 : PySem.W.nsIn K mainGlobals "is_prime" = some (some (.ref f13))) (l13 : K.lookup f13 = some ⟨oc13, od13, .func (PySem.W.fnOf "is_prime" "is_prime" (defArgs s_is_prime) (defBody s_is_prime) (defScope s_is_prime) .none kV13 dc13 pm13 an13 cd13 ct13), sl13⟩) (c13 : PySem.W.codeIn K cd13 "is_prime" = true) (k13 : PySem.W.keepIn K (.ref f13) = true)
    (a14 : PySem.W.nsIn K mainGlobals "check_rows" = some (some (.ref f14))) (l14 : K.lookup f14 = some ⟨oc14, od14, .func (PySem.W.fnOf "check_rows" "check_rows" (defArgs s_check_rows) (defBody s_check_rows) (defScope s_check_rows) .none kV14 dc14 pm14 an14 cd14 ct14), sl14⟩) (c14 : PySem.W.codeIn K cd14 "check_rows" = true) (k14 : PySem.W.keepIn K (.ref f14) = true)
    (a15 : PySem.W.findIn K (.ref CC) "__init__" = some (some (.ref f15))) (l15 : K.lookup f15 = some ⟨oc15, od15, .func (PySem.W.fnOf "__init__" "Code.__init__" (defArgs s_Code___init__) (defBody s_Code___init__) (defScope s_Code___init__) .none kV15 dc15 pm15 an15 cd15 ct15), sl15⟩) (c15 : PySem.W.codeIn K cd15 "Code.__init__" = true) (k15 : PySem.W.keepIn K (.ref f15) = true) (i15 : PySem.W.isFn K (.ref f15) = true)
    (a16 : PySem.W.findIn K (.ref CC) "size" = some (some (.ref f16))) (l16 : K.lookup f16 = some ⟨oc16, od16, .func (PySem.W.fnOf "size" "Code.size" (defArgs s_Code_size) (defBody s_Code_size) (defScope s_Code_size) .none kV16 dc16 pm16 an16 cd16 ct16), sl16⟩) (c16 : PySem.W.codeIn K cd16 "Code.size" = true) (k16 : PySem.W.keepIn K (.ref f16) = true) (i16 : PySem.W.isFn K (.ref f16) = true)
    (a17 : PySem.W.findIn K (.ref CC) "checks" = some (some (.ref f17))) (l17 : K.lookup f17 = some ⟨oc17, od17, .func (PySem.W.fnOf "checks" "Code.checks" (defArgs s_Code_checks) (defBody s_Code_checks) (defScope s_Code_checks) .none kV17 dc17 pm17 an17 cd17 ct17), sl17⟩) (c17 : PySem.W.codeIn K cd17 "Code.checks" = true) (k17 : PySem.W.keepIn K (.ref f17) = true) (i17 : PySem.W.isFn K (.ref f17) = true)
    (a18 : PySem.W.findIn K (.ref CC) "syndrome" = some (some (.ref f18))) (l18 : K.lookup f18 = some ⟨oc18, od18, .func (PySem.W.fnOf "syndrome" "Code.syndrome" (defArgs s_Code_syndrome) (defBody s_Code_syndrome) (defScope s_Code_syndrome) .none kV18 dc18 pm18 an18 cd18 ct18), sl18⟩) (c18 : PySem.W.codeIn K cd18 "Code.syndrome" = true) (k18 : PySem.W.keepIn K (.ref f18) = true) (i18 : PySem.W.isFn K (.ref f18) = true)
    (a19 : PySem.W.nsIn K mainGlobals "_steps" = some (some (.ref f19))) (l19 : K.lookup f19 = some ⟨oc19, od19, .func (PySem.W.fnOf "_steps" "_steps" (defArgs s__steps) (defBody s__steps) (defScope s__steps) .none kV19 dc19 pm19 an19 cd19 ct19), sl19⟩) (c19 : PySem.W.codeIn K cd19 "_steps" = true) (k19 : PySem.W.keepIn K (.ref f19) = true)
    (a20 : PySem.W.nsIn K mainGlobals "_longer" = some (some (.ref f20))) (l20 : K.lookup f20 = some ⟨oc20, od20, .func (PySem.W.fnOf "_longer" "_longer" (defArgs s__longer) (defBody s__longer) (defScope s__longer) .none kV20 dc20 pm20 an20 cd20 ct20), sl20⟩) (c20 : PySem.W.codeIn K cd20 "_longer" = true) (k20 : PySem.W.keepIn K (.ref f20) = true)
    (a21 : PySem.W.nsIn K mainGlobals "cosets" = some (some (.ref f21))) (l21 : K.lookup f21 = some ⟨oc21, od21, .func (PySem.W.fnOf "cosets" "cosets" (defArgs s_cosets) (defBody s_cosets) (defScope s_cosets) .none kV21 dc21 pm21 an21 cd21 ct21), sl21⟩) (c21 : PySem.W.codeIn K cd21 "cosets" = true) (k21 : PySem.W.keepIn K (.ref f21) = true)
    (a22 : PySem.W.nsIn K mainGlobals "covering_radius" = some (some (.ref f22))) (l22 : K.lookup f22 = some ⟨oc22, od22, .func (PySem.W.fnOf "covering_radius" "covering_radius" (defArgs s_covering_radius) (defBody s_covering_radius) (defScope s_covering_radius) .none kV22 dc22 pm22 an22 cd22 ct22), sl22⟩) (c22 : PySem.W.codeIn K cd22 "covering_radius" = true) (k22 : PySem.W.keepIn K (.ref f22) = true)
    (a23 : PySem.W.nsIn K mainGlobals "count_decided" = some (some (.ref f23))) (l23 : K.lookup f23 = some ⟨oc23, od23, .func (PySem.W.fnOf "count_decided" "count_decided" (defArgs s_count_decided) (defBody s_count_decided) (defScope s_count_decided) .none kV23 dc23 pm23 an23 cd23 ct23), sl23⟩) (c23 : PySem.W.codeIn K cd23 "count_decided" = true) (k23 : PySem.W.keepIn K (.ref f23) = true)
    (a24 : PySem.W.nsIn K mainGlobals "_law_state" = some (some (.ref f24))) (l24 : K.lookup f24 = some ⟨oc24, od24, .func (PySem.W.fnOf "_law_state" "_law_state" (defArgs s__law_state) (defBody s__law_state) (defScope s__law_state) .none kV24 dc24 pm24 an24 cd24 ct24), sl24⟩) (c24 : PySem.W.codeIn K cd24 "_law_state" = true) (k24 : PySem.W.keepIn K (.ref f24) = true)
    (a25 : PySem.W.nsIn K mainGlobals "_law_take" = some (some (.ref f25))) (l25 : K.lookup f25 = some ⟨oc25, od25, .func (PySem.W.fnOf "_law_take" "_law_take" (defArgs s__law_take) (defBody s__law_take) (defScope s__law_take) .none kV25 dc25 pm25 an25 cd25 ct25), sl25⟩) (c25 : PySem.W.codeIn K cd25 "_law_take" = true) (k25 : PySem.W.keepIn K (.ref f25) = true)
    (a26 : PySem.W.nsIn K mainGlobals "_law_weight" = some (some (.ref f26))) (l26 : K.lookup f26 = some ⟨oc26, od26, .func (PySem.W.fnOf "_law_weight" "_law_weight" (defArgs s__law_weight) (defBody s__law_weight) (defScope s__law_weight) .none kV26 dc26 pm26 an26 cd26 ct26), sl26⟩) (c26 : PySem.W.codeIn K cd26 "_law_weight" = true) (k26 : PySem.W.keepIn K (.ref f26) = true)
    (a27 : PySem.W.nsIn K mainGlobals "_law_all" = some (some (.ref f27))) (l27 : K.lookup f27 = some ⟨oc27, od27, .func (PySem.W.fnOf "_law_all" "_law_all" (defArgs s__law_all) (defBody s__law_all) (defScope s__law_all) .none kV27 dc27 pm27 an27 cd27 ct27), sl27⟩) (c27 : PySem.W.codeIn K cd27 "_law_all" = true) (k27 : PySem.W.keepIn K (.ref f27) = true)
    (a28 : PySem.W.nsIn K mainGlobals "_law_word" = some (some (.ref f28))) (l28 : K.lookup f28 = some ⟨oc28, od28, .func (PySem.W.fnOf "_law_word" "_law_word" (defArgs s__law_word) (defBody s__law_word) (defScope s__law_word) .none kV28 dc28 pm28 an28 cd28 ct28), sl28⟩) (c28 : PySem.W.codeIn K cd28 "_law_word" = true) (k28 : PySem.W.keepIn K (.ref f28) = true)
    (a29 : PySem.W.nsIn K mainGlobals "_law_prime" = some (some (.ref f29))) (l29 : K.lookup f29 = some ⟨oc29, od29, .func (PySem.W.fnOf "_law_prime" "_law_prime" (defArgs s__law_prime) (defBody s__law_prime) (defScope s__law_prime) .none kV29 dc29 pm29 an29 cd29 ct29), sl29⟩) (c29 : PySem.W.codeIn K cd29 "_law_prime" = true) (k29 : PySem.W.keepIn K (.ref f29) = true)
    (a30 : PySem.W.nsIn K mainGlobals "_law_rows" = some (some (.ref f30))) (l30 : K.lookup f30 = some ⟨oc30, od30, .func (PySem.W.fnOf "_law_rows" "_law_rows" (defArgs s__law_rows) (defBody s__law_rows) (defScope s__law_rows) .none kV30 dc30 pm30 an30 cd30 ct30), sl30⟩) (c30 : PySem.W.codeIn K cd30 "_law_rows" = true) (k30 : PySem.W.keepIn K (.ref f30) = true)
    (a31 : PySem.W.nsIn K mainGlobals "_law_dot" = some (some (.ref f31))) (l31 : K.lookup f31 = some ⟨oc31, od31, .func (PySem.W.fnOf "_law_dot" "_law_dot" (defArgs s__law_dot) (defBody s__law_dot) (defScope s__law_dot) .none kV31 dc31 pm31 an31 cd31 ct31), sl31⟩) (c31 : PySem.W.codeIn K cd31 "_law_dot" = true) (k31 : PySem.W.keepIn K (.ref f31) = true)
    (a32 : PySem.W.nsIn K mainGlobals "_law_reasons" = some (some (.ref f32))) (l32 : K.lookup f32 = some ⟨oc32, od32, .func (PySem.W.fnOf "_law_reasons" "_law_reasons" (defArgs s__law_reasons) (defBody s__law_reasons) (defScope s__law_reasons) .none kV32 dc32 pm32 an32 cd32 ct32), sl32⟩) (c32 : PySem.W.codeIn K cd32 "_law_reasons" = true) (k32 : PySem.W.keepIn K (.ref f32) = true)
    (a33 : PySem.W.nsIn K mainGlobals "law" = some (some (.ref f33))) (l33 : K.lookup f33 = some ⟨oc33, od33, .func (PySem.W.fnOf "law" "law" (defArgs s_law) (defBody s_law) (defScope s_law) .none kV33 dc33 pm33 an33 cd33 ct33), sl33⟩) (c33 : PySem.W.codeIn K cd33 "law" = true) (k33 : PySem.W.keepIn K (.ref f33) = true)
    (z__LONGEST : PySem.W.nsIn K mainGlobals "_LONGEST" = some (some (.int 12 tkL)))
    (z__MOST_COSETS : PySem.W.nsIn K mainGlobals "_MOST_COSETS" = some (some (.int 4096 tkZ)))
    (z__MOST_WORDS : PySem.W.nsIn K mainGlobals "_MOST_WORDS" = some (some (.int 4096 tkW)))
    (z_abs : PySem.W.nsIn K mainGlobals "abs" = some none)
    (z_all : PySem.W.nsIn K mainGlobals "all" = some none)
    (z_bool : PySem.W.nsIn K mainGlobals "bool" = some none)
    (z_enumerate : PySem.W.nsIn K mainGlobals "enumerate" = some none)
    (z_int : PySem.W.nsIn K mainGlobals "int" = some none)
    (z_isinstance : PySem.W.nsIn K mainGlobals "isinstance" = some none)
    (z_len : PySem.W.nsIn K mainGlobals "len" = some none)
    (z_list : PySem.W.nsIn K mainGlobals "list" = some none)
    (z_max : PySem.W.nsIn K mainGlobals "max" = some none)
    (z_min : PySem.W.nsIn K mainGlobals "min" = some none)
    (z_range : PySem.W.nsIn K mainGlobals "range" = some none)
    (z_sorted : PySem.W.nsIn K mainGlobals "sorted" = some none)
    (z_sum : PySem.W.nsIn K mainGlobals "sum" = some none)
    (z_tuple : PySem.W.nsIn K mainGlobals "tuple" = some none)
    (z_zip : PySem.W.nsIn K mainGlobals "zip" = some none)
    {tkZ tkL tkW : Tok}
    {CF : Addr} {CR fI_Refused cda_Refused cc_Refused N_Refused : Addr} {nm_Refused qn_Refused file_Refused : Str} {bs_Refused : List Value} {sn_Refused : List Str} {sub_Refused : List Value} {ab_Refused : Bool} {col_Refused : Option Bool} {dd_Refused odI_Refused anI_Refused cdd_Refused ecd_Refused : Option Addr} {m0_Refused m1_Refused m2_Refused m3_Refused m5_Refused : Option Value} {ocI_Refused kVI_Refused dcI_Refused pmI_Refused ctI_Refused ccl_Refused ecl_Refused : Value} {slI_Refused ccs_Refused ecs_Refused : Array (Option Value)} {cvs_Refused : Array Value} {tf_Refused : Tok} {CM : Addr}
    (zS : PySem.W.nsIn K mainGlobals "super" = some none)
    (an_ : PySem.W.nsIn K PySem.cStatics "thirdparty.any" = some none)
    (tp : (l.prog.main.scope.names.lookup ("super" : Str)).isSome = false)
    (gC_Refused : PySem.W.nsIn K mainGlobals "Refused" = some (some (.ref CR)))
    (xC_Refused : K.lookup CR = some (excClassObj nm_Refused qn_Refused CR N_Refused bs_Refused [.ref CF, .type "ValueError", .type "Exception", .type "BaseException", .type "object"] true sn_Refused sub_Refused ab_Refused col_Refused dd_Refused m0_Refused m1_Refused m2_Refused m3_Refused m5_Refused "ValueError.__new__"))
    (sa_Refused : PySem.W.findIn K (.ref CR) "__setattr__" = some (some (.builtin "object.__setattr__")))
    (ga_Refused : PySem.W.findIn K (.ref CR) "__getattribute__" = some (some (.builtin "BaseException.__getattribute__")))
    (gg_Refused : PySem.W.findIn K (.ref CR) "__getattr__" = some none)
    (nr_Refused : PySem.W.findIn K (.ref CR) "reason" = some none)
    (eC_Refused : PySem.W.subIn K (.ref CR) (.type "BaseException") = some true)
    (tC_Refused : PySem.W.typeIn K (.ref CR) = some (.type "type"))
    (kC_Refused : PySem.W.keepIn K (.ref CR) = true)
    (hC_Refused : PySem.W.hasDictIn K CR = true)
    (sC_Refused : PySem.W.subIn K (.ref CR) (.ref CR) = some true)
    (aI_Refused : PySem.W.findIn K (.ref CR) "__init__" = some (some (.ref fI_Refused)))
    (tI_Refused : PySem.W.typeIn K (.ref fI_Refused) = some (.type "function"))
    (lI_Refused : K.lookup fI_Refused = some ⟨ocI_Refused, odI_Refused, .func (PySem.W.ksFn "__init__" "Refused.__init__" (defArgs s_init_Refused) (defBody s_init_Refused) (defScope s_init_Refused) .none kVI_Refused dcI_Refused pmI_Refused anI_Refused (.ref cda_Refused) ctI_Refused cc_Refused), slI_Refused⟩)
    (cI_Refused : PySem.W.codeIn K (.ref cda_Refused) "Refused.__init__" = true)
    (lc_Refused : K.lookup cda_Refused = some ⟨ccl_Refused, cdd_Refused, .fields cvs_Refused, ccs_Refused⟩)
    (lf_Refused : cvs_Refused[2]? = some (.str file_Refused tf_Refused))
    (lq_Refused : ((l.prog.main.file : Str) == file_Refused) = true)
    (cl_Refused : K.lookup cc_Refused = some ⟨ecl_Refused, ecd_Refused, .cell (some (.ref CR)), ecs_Refused⟩)
    (mC_Refused : PySem.W.mroIn K CR (.ref CR) = some true)
    (up_Refused : PySem.W.ks_superIn K CR CR "__init__" = some (some (.builtin "ValueError.__init__")))
    (bsv_Refused : PySem.W.subIn K (.ref CR) (.type "ValueError") = some true)
    (gC_Malformed : PySem.W.nsIn K mainGlobals "Malformed" = some (some (.ref CM)))
    (xC_Malformed : PySem.W.excIn K CM [.type "ValueError", .type "Exception", .type "BaseException", .type "object"] "ValueError.__new__" = true)
    (eC_Malformed : PySem.W.subIn K (.ref CM) (.type "BaseException") = some true)
    (tC_Malformed : PySem.W.typeIn K (.ref CM) = some (.type "type"))
    (kC_Malformed : PySem.W.keepIn K (.ref CM) = true)
    (hC_Malformed : PySem.W.hasDictIn K CM = true)
    (sC_Malformed : PySem.W.subIn K (.ref CM) (.ref CM) = some true)
    {q__PRIMES : Addr} {dd__PRIMES : Option Addr} {n__PRIMES : Nat} {sl__PRIMES : Array (Option Value)} {tk_PRIMES0 tk_PRIMES1 tk_PRIMES2 tk_PRIMES3 : Tok}
    (gC_Code : PySem.W.nsIn K mainGlobals "Code" = some (some (.ref CC)))
    (pg_Code : PySem.W.plainGet K CC Str.empty = true)
    (hd_Code : PySem.W.hasDictIn K CC = true)
    (po_Code : PySem.W.plainOver K CC = true)
    (sa_Code : PySem.W.findIn K (.ref CC) "__setattr__" = some (some (.builtin "object.__setattr__")))
    (mk_Code : PySem.W.makesIn K CC = true)
    (kp_Code : PySem.W.keepIn K (.ref CC) = true)
    (zna_Code__checks : PySem.W.findIn K (.ref CC) "_checks" = some none)
    (zna_Code_k : PySem.W.findIn K (.ref CC) "k" = some none)
    (zna_Code_n : PySem.W.findIn K (.ref CC) "n" = some none)
    (zna_Code_p : PySem.W.findIn K (.ref CC) "p" = some none)
    (zna_Code_rows : PySem.W.findIn K (.ref CC) "rows" = some none)
    (zt__PRIMES : PySem.W.nsIn K mainGlobals "_PRIMES" = some (some (.ref q__PRIMES)))
    (lt__PRIMES : K.lookup q__PRIMES = some ⟨.type "tuple", dd__PRIMES, .seq #[.int 2 tk_PRIMES0, .int 3 tk_PRIMES1, .int 5 tk_PRIMES2, .int 7 tk_PRIMES3] n__PRIMES, sl__PRIMES⟩)
    : ∃ fd : FuncData, (∀ (s : Shared) (v : Value), BindsTo s fd ⟨[v], []⟩ [("script", v)]) ∧ ∀ base : Heap, K.In base → base.Ns mainGlobals mg → FnOk l.prog w K mg base (L2.CX l.prog w) 7 fa fd ["script"] (Lq.spLaw K) := by
  have e := hfa.symm.trans (PySem.W.mg_of X G a33)
  cases e
  have h__LONGEST := PySem.W.mg_of X G z__LONGEST
  have h__MOST_COSETS := PySem.W.mg_of X G z__MOST_COSETS
  have h__MOST_WORDS := PySem.W.mg_of X G z__MOST_WORDS
  have h_abs := PySem.W.mg_none_of X G z_abs
  have h_all := PySem.W.mg_none_of X G z_all
  have h_bool := PySem.W.mg_none_of X G z_bool
  have h_enumerate := PySem.W.mg_none_of X G z_enumerate
  have h_int := PySem.W.mg_none_of X G z_int
  have h_isinstance := PySem.W.mg_none_of X G z_isinstance
  have h_len := PySem.W.mg_none_of X G z_len
  have h_list := PySem.W.mg_none_of X G z_list
  have h_max := PySem.W.mg_none_of X G z_max
  have h_min := PySem.W.mg_none_of X G z_min
  have h_range := PySem.W.mg_none_of X G z_range
  have h_sorted := PySem.W.mg_none_of X G z_sorted
  have h_sum := PySem.W.mg_none_of X G z_sum
  have h_tuple := PySem.W.mg_none_of X G z_tuple
  have h_zip := PySem.W.mg_none_of X G z_zip
  have F1 := fun_mk (st := s_is_integer) l1 c1 k1
  have F2 := fun_mk (st := s_inverse) l2 c2 k2
  have F3 := fun_mk (st := s_power) l3 c3 k3
  have F4 := fun_mk (st := s_is_word) l4 c4 k4
  have F5 := fun_mk (st := s_add) l5 c5 k5
  have F6 := fun_mk (st := s_scaled) l6 c6 k6
  have F7 := fun_mk (st := s_dot) l7 c7 k7
  have F8 := fun_mk (st := s_reduced) l8 c8 k8
  have F9 := fun_mk (st := s__cleared) l9 c9 k9
  have F10 := fun_mk (st := s_kernel) l10 c10 k10
  have F11 := fun_mk (st := s__kernel_word) l11 c11 k11
  have F12 := fun_mk (st := s_weight) l12 c12 k12
  have F13 := fun_mk (st := s_is_prime) l13 c13 k13
  have F14 := fun_mk (st := s_check_rows) l14 c14 k14
  have F15 := fun_mk (st := s_Code___init__) l15 c15 k15
  have F16 := fun_mk (st := s_Code_size) l16 c16 k16
  have F17 := fun_mk (st := s_Code_checks) l17 c17 k17
  have F18 := fun_mk (st := s_Code_syndrome) l18 c18 k18
  have F19 := fun_mk (st := s__steps) l19 c19 k19
  have F20 := fun_mk (st := s__longer) l20 c20 k20
  have F21 := fun_mk (st := s_cosets) l21 c21 k21
  have F22 := fun_mk (st := s_covering_radius) l22 c22 k22
  have F23 := fun_mk (st := s_count_decided) l23 c23 k23
  have F24 := fun_mk (st := s__law_state) l24 c24 k24
  have F25 := fun_mk (st := s__law_take) l25 c25 k25
  have F26 := fun_mk (st := s__law_weight) l26 c26 k26
  have F27 := fun_mk (st := s__law_all) l27 c27 k27
  have F28 := fun_mk (st := s__law_word) l28 c28 k28
  have F29 := fun_mk (st := s__law_prime) l29 c29 k29
  have F30 := fun_mk (st := s__law_rows) l30 c30 k30
  have F31 := fun_mk (st := s__law_dot) l31 c31 k31
  have F32 := fun_mk (st := s__law_reasons) l32 c32 k32
  have F33 := fun_mk (st := s_law) l33 c33 k33
  have b1 := F1.binds (ps := ["value"]) fun _ _ _ _ _ _ us hl => match us, hl with | [_], _ => rfl
  have b2 := F2.binds (ps := ["a", "p"]) fun _ _ _ _ _ _ us hl => match us, hl with | [_, _], _ => rfl
  have b3 := F3.binds (ps := ["a", "k"]) fun _ _ _ _ _ _ us hl => match us, hl with | [_, _], _ => rfl
  have b4 := F4.binds (ps := ["value", "p", "n"]) fun _ _ _ _ _ _ us hl => match us, hl with | [_, _, _], _ => rfl
  have b5 := F5.binds (ps := ["v", "w", "p"]) fun _ _ _ _ _ _ us hl => match us, hl with | [_, _, _], _ => rfl
  have b6 := F6.binds (ps := ["v", "a", "p"]) fun _ _ _ _ _ _ us hl => match us, hl with | [_, _, _], _ => rfl
  have b7 := F7.binds (ps := ["v", "w", "p"]) fun _ _ _ _ _ _ us hl => match us, hl with | [_, _, _], _ => rfl
  have b8 := F8.binds (ps := ["rows", "width", "p"]) fun _ _ _ _ _ _ us hl => match us, hl with | [_, _, _], _ => rfl
  have b9 := F9.binds (ps := ["row", "head", "at", "p"]) fun _ _ _ _ _ _ us hl => match us, hl with | [_, _, _, _], _ => rfl
  have b10 := F10.binds (ps := ["rows", "width", "p"]) fun _ _ _ _ _ _ us hl => match us, hl with | [_, _, _], _ => rfl
  have b11 := F11.binds (ps := ["table", "pivots", "free", "width", "p"]) fun _ _ _ _ _ _ us hl => match us, hl with | [_, _, _, _, _], _ => rfl
  have b12 := F12.binds (ps := ["word"]) fun _ _ _ _ _ _ us hl => match us, hl with | [_], _ => rfl
  have b13 := F13.binds (ps := ["p"]) fun _ _ _ _ _ _ us hl => match us, hl with | [_], _ => rfl
  have b14 := F14.binds (ps := ["p", "n", "rows"]) fun _ _ _ _ _ _ us hl => match us, hl with | [_, _, _], _ => rfl
  have b15 := F15.binds (ps := ["self", "p", "n", "rows"]) fun _ _ _ _ _ _ us hl => match us, hl with | [_, _, _, _], _ => rfl
  have b16 := F16.binds (ps := ["self"]) fun _ _ _ _ _ _ us hl => match us, hl with | [_], _ => rfl
  have b17 := F17.binds (ps := ["self"]) fun _ _ _ _ _ _ us hl => match us, hl with | [_], _ => rfl
  have b18 := F18.binds (ps := ["self", "word"]) fun _ _ _ _ _ _ us hl => match us, hl with | [_, _], _ => rfl
  have b19 := F19.binds (ps := ["code"]) fun _ _ _ _ _ _ us hl => match us, hl with | [_], _ => rfl
  have b20 := F20.binds (ps := ["word", "syndrome", "steps", "p"]) fun _ _ _ _ _ _ us hl => match us, hl with | [_, _, _, _], _ => rfl
  have b21 := F21.binds (ps := ["code"]) fun _ _ _ _ _ _ us hl => match us, hl with | [_], _ => rfl
  have b22 := F22.binds (ps := ["code"]) fun _ _ _ _ _ _ us hl => match us, hl with | [_], _ => rfl
  have b23 := F23.binds (ps := ["code"]) fun _ _ _ _ _ _ us hl => match us, hl with | [_], _ => rfl
  have b24 := F24.binds (ps := ["script"]) fun _ _ _ _ _ _ us hl => match us, hl with | [_], _ => rfl
  have b25 := F25.binds (ps := ["state", "m"]) fun _ _ _ _ _ _ us hl => match us, hl with | [_, _], _ => rfl
  have b26 := F26.binds (ps := ["word"]) fun _ _ _ _ _ _ us hl => match us, hl with | [_], _ => rfl
  have b27 := F27.binds (ps := ["n", "p"]) fun _ _ _ _ _ _ us hl => match us, hl with | [_, _], _ => rfl
  have b28 := F28.binds (ps := ["state", "n", "p"]) fun _ _ _ _ _ _ us hl => match us, hl with | [_, _, _], _ => rfl
  have b29 := F29.binds (ps := ["state"]) fun _ _ _ _ _ _ us hl => match us, hl with | [_], _ => rfl
  have b30 := F30.binds (ps := ["state", "n", "p", "most"]) fun _ _ _ _ _ _ us hl => match us, hl with | [_, _, _, _], _ => rfl
  have b31 := F31.binds (ps := ["v", "w", "p"]) fun _ _ _ _ _ _ us hl => match us, hl with | [_, _, _], _ => rfl
  have b32 := F32.binds (ps := ["code"]) fun _ _ _ _ _ _ us hl => match us, hl with | [_], _ => rfl
  refine ⟨PySem.W.fnOf "law" "law" (defArgs s_law) (defBody s_law) (defScope s_law) .none kV33 dc33 pm33 an33 cd33 ct33, fun s v => .of_eq rfl, fun base _ _ => ?_⟩
  have cl_Code : Cls K CC := ⟨pg_Code, hd_Code, po_Code, sa_Code⟩
  have na_Code__checks := zna_Code__checks
  have na_Code_k := zna_Code_k
  have na_Code_n := zna_Code_n
  have na_Code_p := zna_Code_p
  have na_Code_rows := zna_Code_rows
  have k__PRIMES : KTup K mg "_PRIMES" [.int 2, .int 3, .int 5, .int 7] := ⟨q__PRIMES, dd__PRIMES, _, n__PRIMES, sl__PRIMES, [V.int 2, V.int 3, V.int 5, V.int 7], PySem.W.mg_of X G zt__PRIMES, lt__PRIMES, (show 4 ≤ sizeLine by decide), (.cons ⟨_, rfl⟩ (.cons ⟨_, rfl⟩ (.cons ⟨_, rfl⟩ (.cons ⟨_, rfl⟩ .nil)))), fun F => (.cons (.int _) (.cons (.int _) (.cons (.int _) (.cons (.int _) .nil))))⟩
  have T_Refused : OexC K CR := ⟨⟨nm_Refused, qn_Refused, N_Refused, bs_Refused, _, sn_Refused, sub_Refused, ab_Refused, col_Refused, dd_Refused, m0_Refused, m1_Refused, m2_Refused, m3_Refused, m5_Refused, xC_Refused, rfl⟩, sa_Refused, eC_Refused, tC_Refused, kC_Refused⟩
  have hcl_Refused : ∃ cd, PySem.W.clsIn K CR = some cd := by
    obtain ⟨cd, hc, _⟩ := PySem.W.any_some hC_Refused
    exact ⟨cd, hc⟩
  have SF_Refused : SupF l.prog K mg fI_Refused cda_Refused cc_Refused CR CR (defScope s_init_Refused) "self" := ⟨⟨_, _, _, _, _, lI_Refused, rfl, rfl⟩, ⟨_, _, _, _, _, _, lc_Refused, lf_Refused, lq_Refused⟩, ⟨_, _, _, cl_Refused⟩, hcl_Refused, mC_Refused, up_Refused, bsv_Refused, an_, PySem.W.mg_none_of X G zS, rfl, rfl, rfl, tp⟩
  have R_Refused : RaS l.prog w K mg base "Refused" CR "reason" := ⟨T_Refused, ⟨fI_Refused, _, aI_Refused, tI_Refused, ok_init_Refused lI_Refused cI_Refused cl_Refused SF_Refused T_Refused nr_Refused, .all fun us hl => match us, hl with | [_, _], _ => rfl⟩, PySem.W.mg_of X G gC_Refused, ⟨ga_Refused, gg_Refused, eC_Refused, hC_Refused⟩, nr_Refused, PySem.W.exm_ref eC_Refused hC_Refused tC_Refused sC_Refused⟩
  have R_Malformed : RaN l.prog w K mg base "Malformed" CM := ⟨PySem.W.mg_of X G gC_Malformed, kC_Malformed, xC_Malformed, eC_Malformed, tC_Malformed, PySem.W.exm_ref eC_Malformed hC_Malformed tC_Malformed sC_Malformed⟩
  have C_is_integer : Cal l.prog w K mg base "is_integer" 1 ["value"] (spD K 1 Fisint) := ⟨f1, _, Lq.FnOk.toF (ok_is_integer (P := l.prog) (w := w) (mg := mg) (base := base) F1 (h_bool := h_bool) (h_int := h_int) (h_isinstance := h_isinstance)) (fun ds h => Lq.run_is_integer ds h), PySem.W.mg_of X G a1, k1, b1⟩
  have C_inverse : Cal l.prog w K mg base "inverse" 1 ["a", "p"] (spD K 2 Finverse) := ⟨f2, _, Lq.FnOk.toF (ok_inverse (P := l.prog) (w := w) (mg := mg) (base := base) F2 (h_range := h_range)) (fun ds h => Lq.run_inverse ds h), PySem.W.mg_of X G a2, k2, b2⟩
  have C_power : Cal l.prog w K mg base "power" 1 ["a", "k"] (spD K 2 Fpow) := ⟨f3, _, Lq.FnOk.toF (ok_power (P := l.prog) (w := w) (mg := mg) (base := base) F3 ) (fun ds h => Lq.run_power ds h), PySem.W.mg_of X G a3, k3, b3⟩
  have C_add : Cal l.prog w K mg base "add" 1 ["v", "w", "p"] (spD K 3 FaddW) := ⟨f5, _, Lq.FnOk.toF (ok_add (P := l.prog) (w := w) (mg := mg) (base := base) F5 (h_tuple := h_tuple) (h_zip := h_zip)) (fun ds h => Lq.run_add ds h), PySem.W.mg_of X G a5, k5, b5⟩
  have C_scaled : Cal l.prog w K mg base "scaled" 1 ["v", "a", "p"] (spD K 3 FscW) := ⟨f6, _, Lq.FnOk.toF (ok_scaled (P := l.prog) (w := w) (mg := mg) (base := base) F6 (h_tuple := h_tuple)) (fun ds h => Lq.run_scaled ds h), PySem.W.mg_of X G a6, k6, b6⟩
  have C_dot : Cal l.prog w K mg base "dot" 1 ["v", "w", "p"] (spD K 3 Fdot) := ⟨f7, _, Lq.FnOk.toF (ok_dot (P := l.prog) (w := w) (mg := mg) (base := base) F7 (h_sum := h_sum) (h_zip := h_zip)) (fun ds h => Lq.run_dot ds h), PySem.W.mg_of X G a7, k7, b7⟩
  have C__kernel_word : Cal l.prog w K mg base "_kernel_word" 1 ["table", "pivots", "free", "width", "p"] (spD K 5 Fkword) := ⟨f11, _, Lq.FnOk.toF (ok__kernel_word (P := l.prog) (w := w) (mg := mg) (base := base) F11 (h_tuple := h_tuple) (h_zip := h_zip)) (fun ds h => Lq.run__kernel_word ds h), PySem.W.mg_of X G a11, k11, b11⟩
  have C_weight : Cal l.prog w K mg base "weight" 1 ["word"] (spD K 1 Fweight) := ⟨f12, _, Lq.FnOk.toF (ok_weight (P := l.prog) (w := w) (mg := mg) (base := base) F12 (h_len := h_len)) (fun ds h => Lq.run_weight ds h), PySem.W.mg_of X G a12, k12, b12⟩
  have CM_Code_checks : CalM l.prog w K mg base CC "checks" 1 ["self"] (spD K 1 (Fchecks CC)) := ⟨f17, _, Lq.FnOk.toF (ok_Code_checks (P := l.prog) (w := w) (mg := mg) (base := base) F17 (cl_Code := cl_Code) (na_Code__checks := na_Code__checks)) (fun _ _ => rfl), cl_Code, ⟨a17, i17, k17⟩, b17⟩
  have C__law_state : Cal l.prog w K mg base "_law_state" 1 ["script"] (spN K 1 Fstate) := ⟨f24, _, Lq.FnOk.toN (ok__law_state (P := l.prog) (w := w) (mg := mg) (base := base) F24 (h_abs := h_abs) (h_int := h_int)) (fun _ _ => rfl), PySem.W.mg_of X G a24, k24, b24⟩
  have C__law_take : Cal l.prog w K mg base "_law_take" 1 ["state", "m"] (spM K 1 Ftake) := ⟨f25, _, Lq.FnOk.toM (ok__law_take (P := l.prog) (w := w) (mg := mg) (base := base) F25 (h_int := h_int)) (fun xs ds h => Lq.run__law_take xs ds h), PySem.W.mg_of X G a25, k25, b25⟩
  have C__law_weight : Cal l.prog w K mg base "_law_weight" 1 ["word"] (spD K 1 Fweight) := ⟨f26, _, Lq.FnOk.toF (ok__law_weight (P := l.prog) (w := w) (mg := mg) (base := base) F26 (h_len := h_len)) (fun ds h => Lq.run_weight ds h), PySem.W.mg_of X G a26, k26, b26⟩
  have C__law_all : Cal l.prog w K mg base "_law_all" 1 ["n", "p"] (spD K 2 Fall) := ⟨f27, _, Lq.FnOk.toF (ok__law_all (P := l.prog) (w := w) (mg := mg) (base := base) F27 (h_list := h_list) (h_range := h_range)) (fun ds h => Lq.run__law_all ds h), PySem.W.mg_of X G a27, k27, b27⟩
  have C__law_dot : Cal l.prog w K mg base "_law_dot" 1 ["v", "w", "p"] (spD K 3 Fdot) := ⟨f31, _, Lq.FnOk.toF (ok__law_dot (P := l.prog) (w := w) (mg := mg) (base := base) F31 (h_int := h_int) (h_len := h_len) (h_range := h_range) (h_sum := h_sum)) (fun ds h => Lq.run__law_dot ds h), PySem.W.mg_of X G a31, k31, b31⟩
  have C_is_word : Cal l.prog w K mg base "is_word" 2 ["value", "p", "n"] (spD K 3 Fisword) := ⟨f4, _, Lq.FnOk.toF (ok_is_word (P := l.prog) (w := w) (mg := mg) (base := base) F4 (h_all := h_all) (h_isinstance := h_isinstance) (h_len := h_len) (h_tuple := h_tuple) (c_is_integer := C_is_integer)) (fun ds h => Lq.run_is_word ds h), PySem.W.mg_of X G a4, k4, b4⟩
  have C__cleared : Cal l.prog w K mg base "_cleared" 2 ["row", "head", "at", "p"] (spD K 4 Fcleared) := ⟨f9, _, Lq.FnOk.toF (ok__cleared (P := l.prog) (w := w) (mg := mg) (base := base) F9 (c_add := C_add) (c_scaled := C_scaled)) (fun ds h => Lq.run__cleared ds h), PySem.W.mg_of X G a9, k9, b9⟩
  have C_is_prime : Cal l.prog w K mg base "is_prime" 2 ["p"] (spD K 1 Fisprime) := ⟨f13, _, Lq.FnOk.toF (ok_is_prime (P := l.prog) (w := w) (mg := mg) (base := base) F13 (k__PRIMES := k__PRIMES) (c_is_integer := C_is_integer)) (fun _ _ => rfl), PySem.W.mg_of X G a13, k13, b13⟩
  have CM_Code_size : CalM l.prog w K mg base CC "size" 2 ["self"] (spD K 1 (Fsize07 CC)) := ⟨f16, _, Lq.FnOk.toF (ok_Code_size (P := l.prog) (w := w) (mg := mg) (base := base) F16 (cl_Code := cl_Code) (na_Code_k := na_Code_k) (na_Code_p := na_Code_p) (c_power := C_power)) (fun _ _ => rfl), cl_Code, ⟨a16, i16, k16⟩, b16⟩
  have C__steps : Cal l.prog w K mg base "_steps" 2 ["code"] (spD K 1 (Fsteps CC)) := ⟨f19, _, Lq.FnOk.toF (ok__steps (P := l.prog) (w := w) (mg := mg) (base := base) F19 (h_range := h_range) (h_tuple := h_tuple) (cl_Code := cl_Code) (na_Code_n := na_Code_n) (na_Code_p := na_Code_p) (cm_Code_checks := CM_Code_checks) (c_scaled := C_scaled)) (fun _ _ => rfl), PySem.W.mg_of X G a19, k19, b19⟩
  have C__longer : Cal l.prog w K mg base "_longer" 2 ["word", "syndrome", "steps", "p"] (spD K 4 Flonger) := ⟨f20, _, Lq.FnOk.toF (ok__longer (P := l.prog) (w := w) (mg := mg) (base := base) F20 (h_enumerate := h_enumerate) (h_len := h_len) (h_range := h_range) (c_add := C_add)) (fun _ _ => rfl), PySem.W.mg_of X G a20, k20, b20⟩
  have C__law_word : Cal l.prog w K mg base "_law_word" 2 ["state", "n", "p"] (spM K 2 Fword) := ⟨f28, _, Lq.FnOk.toM (ok__law_word (P := l.prog) (w := w) (mg := mg) (base := base) F28 (h_range := h_range) (h_tuple := h_tuple) (c__law_take := C__law_take)) (fun xs ds h => Lq.run__law_word xs ds h), PySem.W.mg_of X G a28, k28, b28⟩
  have C__law_prime : Cal l.prog w K mg base "_law_prime" 2 ["state"] (spM K 0 Fprime) := ⟨f29, _, Lq.FnOk.toM (ok__law_prime (P := l.prog) (w := w) (mg := mg) (base := base) F29 (c__law_take := C__law_take)) (fun xs ds h => Lq.run__law_prime xs ds h), PySem.W.mg_of X G a29, k29, b29⟩
  have C_reduced : Cal l.prog w K mg base "reduced" 3 ["rows", "width", "p"] (spD K 3 Freduced) := ⟨f8, _, Lq.FnOk.toF (ok_reduced (P := l.prog) (w := w) (mg := mg) (base := base) F8 (h_range := h_range) (h_tuple := h_tuple) (c__cleared := C__cleared) (c_scaled := C_scaled) (c_inverse := C_inverse)) (fun ds h => Lq.run_reduced ds h), PySem.W.mg_of X G a8, k8, b8⟩
  have C_check_rows : Cal l.prog w K mg base "check_rows" 3 ["p", "n", "rows"] (spD K 3 (Fchk CM CR)) := ⟨f14, _, Lq.FnOk.toF (ok_check_rows (P := l.prog) (w := w) (mg := mg) (base := base) F14 (h__LONGEST := h__LONGEST) (h_all := h_all) (h_isinstance := h_isinstance) (h_list := h_list) (h_tuple := h_tuple) (R_Malformed := R_Malformed) (R_Refused := R_Refused) (c_is_word := C_is_word) (c_is_integer := C_is_integer) (c_is_prime := C_is_prime)) (fun _ _ => rfl), PySem.W.mg_of X G a14, k14, b14⟩
  have CM_Code_syndrome : CalM l.prog w K mg base CC "syndrome" 3 ["self", "word"] (spD K 2 (Fsynd CC CM)) := ⟨f18, _, Lq.FnOk.toF (ok_Code_syndrome (P := l.prog) (w := w) (mg := mg) (base := base) F18 (h_tuple := h_tuple) (R_Malformed := R_Malformed) (cl_Code := cl_Code) (na_Code__checks := na_Code__checks) (na_Code_n := na_Code_n) (na_Code_p := na_Code_p) (c_dot := C_dot) (c_is_word := C_is_word)) (fun _ _ => rfl), cl_Code, ⟨a18, i18, k18⟩, b18⟩
  have C__law_rows : Cal l.prog w K mg base "_law_rows" 3 ["state", "n", "p", "most"] (spM K 3 Frows) := ⟨f30, _, Lq.FnOk.toM (ok__law_rows (P := l.prog) (w := w) (mg := mg) (base := base) F30 (h_range := h_range) (c__law_take := C__law_take) (c__law_word := C__law_word)) (fun xs ds h => Lq.run__law_rows xs ds h), PySem.W.mg_of X G a30, k30, b30⟩
  have C_kernel : Cal l.prog w K mg base "kernel" 4 ["rows", "width", "p"] (spD K 3 Fkernel) := ⟨f10, _, Lq.FnOk.toF (ok_kernel (P := l.prog) (w := w) (mg := mg) (base := base) F10 (h_range := h_range) (h_tuple := h_tuple) (c__kernel_word := C__kernel_word) (c_reduced := C_reduced)) (fun ds h => Lq.run_kernel ds h), PySem.W.mg_of X G a10, k10, b10⟩
  have C_cosets : Cal l.prog w K mg base "cosets" 4 ["code"] (spD K 1 (Fcosets CC CM CR)) := ⟨f21, _, Lq.FnOk.toF (ok_cosets (P := l.prog) (w := w) (mg := mg) (base := base) F21 (h__MOST_COSETS := h__MOST_COSETS) (h_sorted := h_sorted) (h_tuple := h_tuple) (R_Refused := R_Refused) (cl_Code := cl_Code) (na_Code_k := na_Code_k) (na_Code_n := na_Code_n) (na_Code_p := na_Code_p) (cm_Code_syndrome := CM_Code_syndrome) (c__longer := C__longer) (c__steps := C__steps) (c_power := C_power)) (fun _ _ => rfl), PySem.W.mg_of X G a21, k21, b21⟩
  have CI_Code : CalI l.prog w K mg base "Code" CC 5 ["self", "p", "n", "rows"] 3 (Finit CC CM CR) := ⟨f15, _, ok_Code___init__ (P := l.prog) (w := w) (mg := mg) (base := base) F15 (h__MOST_WORDS := h__MOST_WORDS) (h_len := h_len) (R_Refused := R_Refused) (cl_Code := cl_Code) (na_Code__checks := na_Code__checks) (na_Code_k := na_Code_k) (na_Code_n := na_Code_n) (na_Code_p := na_Code_p) (na_Code_rows := na_Code_rows) (c_kernel := C_kernel) (c_power := C_power) (c_reduced := C_reduced) (c_check_rows := C_check_rows), ⟨mk_Code, a15, i15, kp_Code⟩, PySem.W.mg_of X G gC_Code, b15⟩
  have C_covering_radius : Cal l.prog w K mg base "covering_radius" 5 ["code"] (spD K 1 (Fcovrad CC CM CR)) := ⟨f22, _, Lq.FnOk.toF (ok_covering_radius (P := l.prog) (w := w) (mg := mg) (base := base) F22 (h_max := h_max) (c_cosets := C_cosets) (c_weight := C_weight)) (fun _ _ => rfl), PySem.W.mg_of X G a22, k22, b22⟩
  have C_count_decided : Cal l.prog w K mg base "count_decided" 5 ["code"] (spD K 1 (Fcountd CC CM CR)) := ⟨f23, _, Lq.FnOk.toF (ok_count_decided (P := l.prog) (w := w) (mg := mg) (base := base) F23 (h_len := h_len) (cm_Code_size := CM_Code_size) (c_cosets := C_cosets)) (fun _ _ => rfl), PySem.W.mg_of X G a23, k23, b23⟩
  have C__law_reasons : Cal l.prog w K mg base "_law_reasons" 6 ["code"] (spD K 1 (Flreasons21 CC CM CR)) := ⟨f32, _, Lq.FnOk.toF (ok__law_reasons (P := l.prog) (w := w) (mg := mg) (base := base) F32 (R_Refused := R_Refused) (c_count_decided := C_count_decided) (c_covering_radius := C_covering_radius) (c_cosets := C_cosets)) (fun _ _ => rfl), PySem.W.mg_of X G a32, k32, b32⟩
  exact ok_law (P := l.prog) (w := w) (mg := mg) (base := base) F33 (h_int := h_int) (h_len := h_len) (h_max := h_max) (h_min := h_min) (h_tuple := h_tuple) (cl_Code := cl_Code) (na_Code_k := na_Code_k) (cm_Code_checks := CM_Code_checks) (ci_Code := CI_Code) (c__law_reasons := C__law_reasons) (c_count_decided := C_count_decided) (c_covering_radius := C_covering_radius) (c_cosets := C_cosets) (c__law_all := C__law_all) (c__law_weight := C__law_weight) (c__law_dot := C__law_dot) (c__law_rows := C__law_rows) (c__law_take := C__law_take) (c__law_prime := C__law_prime) (c__law_state := C__law_state)
end
end K21
open PySem PySem.W PyProof.Rows L2 in
set_option maxRecDepth 100000 in
set_option maxHeartbeats 0 in
theorem PySem.Challenge.cw_weightkeepers_k21_whole_cosets_holds : PySem.Challenge.rw_weightkeepers_k21_whole_cosets.Holds := by
  w_on; o_law; k_head; (case hw => w_witness2)
  k_fill
  refine L2.walk_of (l := PySem.Challenge.rw_weightkeepers_k21_whole_cosets) (n := 63) (k := 7) (x := "script") (CX := fun w => L2.CX (PySem.Challenge.rw_weightkeepers_k21_whole_cosets).prog w) (sp := fun w => Lq.spLaw _) rfl (by decide) rfl ⟨rfl, by decide, by decide⟩ (fun w h Y => PySem.W.kIn_of Y) ?F (fun _ _ a ns hl _ hS => ⟨a, ns, rfl, hS, hl, fun _ => rfl⟩) (fun _ _ _ _ _ ⟨_, _, _, _, _, _, _, _, _, _, _, _, z⟩ => z)
  case F =>
    intro w mg fa h KX G hmg
    refine' K21.all_mk KX G hmg ?a1 ?l1 ?c1 ?k1 ?a2 ?l2 ?c2 ?k2 ?a3 ?l3 ?c3 ?k3 ?a4 ?l4 ?c4 ?k4 ?a5 ?l5 ?c5 ?k5 ?a6 ?l6 ?c6 ?k6 ?a7 ?l7 ?c7 ?k7 ?a8 ?l8 ?c8 ?k8 ?a9 ?l9 ?c9 ?k9 ?a10 ?l10 ?c10 ?k10 ?a11 ?l11 ?c11 ?k11 ?a12 ?l12 ?c12 ?k12 ?a13 ?l13 ?c13 ?k13 ?a14 ?l14 ?c14 ?k14 ?a15 ?l15 ?c15 ?k15 ?i15 ?a16 ?l16 ?c16 ?k16 ?i16 ?a17 ?l17 ?c17 ?k17 ?i17 ?a18 ?l18 ?c18 ?k18 ?i18 ?a19 ?l19 ?c19 ?k19 ?a20 ?l20 ?c20 ?k20 ?a21 ?l21 ?c21 ?k21 ?a22 ?l22 ?c22 ?k22 ?a23 ?l23 ?c23 ?k23 ?a24 ?l24 ?c24 ?k24 ?a25 ?l25 ?c25 ?k25 ?a26 ?l26 ?c26 ?k26 ?a27 ?l27 ?c27 ?k27 ?a28 ?l28 ?c28 ?k28 ?a29 ?l29 ?c29 ?k29 ?a30 ?l30 ?c30 ?k30 ?a31 ?l31 ?c31 ?k31 ?a32 ?l32 ?c32 ?k32 ?a33 ?l33 ?c33 ?k33 ?z__LONGEST ?z__MOST_COSETS ?z__MOST_WORDS ?z_abs ?z_all ?z_bool ?z_enumerate ?z_int ?z_isinstance ?z_len ?z_list ?z_max ?z_min ?z_range ?z_sorted ?z_sum ?z_tuple ?z_zip ?zS ?an_ ?tp ?gC_Refused ?xC_Refused ?sa_Refused ?ga_Refused ?gg_Refused ?nr_Refused ?eC_Refused ?tC_Refused ?kC_Refused ?hC_Refused ?sC_Refused ?aI_Refused ?tI_Refused ?lI_Refused ?cI_Refused ?lc_Refused ?lf_Refused ?lq_Refused ?cl_Refused ?mC_Refused ?up_Refused ?bsv_Refused ?gC_Malformed ?xC_Malformed ?eC_Malformed ?tC_Malformed ?kC_Malformed ?hC_Malformed ?sC_Malformed ?gC_Code ?pg_Code ?hd_Code ?po_Code ?sa_Code ?mk_Code ?kp_Code ?zna_Code__checks ?zna_Code_k ?zna_Code_n ?zna_Code_p ?zna_Code_rows ?zt__PRIMES ?lt__PRIMES
    (case gC_Refused => k_is)
    (case gC_Malformed => k_is)
    (case gC_Code => k_is)
    (case a1 => k_is)
    (case l1 => k_is)
    (case c1 => k_is)
    (case k1 => k_is)
    (case a2 => k_is)
    (case l2 => k_is)
    (case c2 => k_is)
    (case k2 => k_is)
    (case a3 => k_is)
    (case l3 => k_is)
    (case c3 => k_is)
    (case k3 => k_is)
    (case a4 => k_is)
    (case l4 => k_is)
    (case c4 => k_is)
    (case k4 => k_is)
    (case a5 => k_is)
    (case l5 => k_is)
    (case c5 => k_is)
    (case k5 => k_is)
    (case a6 => k_is)
    (case l6 => k_is)
    (case c6 => k_is)
    (case k6 => k_is)
    (case a7 => k_is)
    (case l7 => k_is)
    (case c7 => k_is)
    (case k7 => k_is)
    (case a8 => k_is)
    (case l8 => k_is)
    (case c8 => k_is)
    (case k8 => k_is)
    (case a9 => k_is)
    (case l9 => k_is)
    (case c9 => k_is)
    (case k9 => k_is)
    (case a10 => k_is)
    (case l10 => k_is)
    (case c10 => k_is)
    (case k10 => k_is)
    (case a11 => k_is)
    (case l11 => k_is)
    (case c11 => k_is)
    (case k11 => k_is)
    (case a12 => k_is)
    (case l12 => k_is)
    (case c12 => k_is)
    (case k12 => k_is)
    (case a13 => k_is)
    (case l13 => k_is)
    (case c13 => k_is)
    (case k13 => k_is)
    (case a14 => k_is)
    (case l14 => k_is)
    (case c14 => k_is)
    (case k14 => k_is)
    (case a15 => k_is)
    (case l15 => k_is)
    (case c15 => k_is)
    (case k15 => k_is)
    (case i15 => k_is)
    (case a16 => k_is)
    (case l16 => k_is)
    (case c16 => k_is)
    (case k16 => k_is)
    (case i16 => k_is)
    (case a17 => k_is)
    (case l17 => k_is)
    (case c17 => k_is)
    (case k17 => k_is)
    (case i17 => k_is)
    (case a18 => k_is)
    (case l18 => k_is)
    (case c18 => k_is)
    (case k18 => k_is)
    (case i18 => k_is)
    (case a19 => k_is)
    (case l19 => k_is)
    (case c19 => k_is)
    (case k19 => k_is)
    (case a20 => k_is)
    (case l20 => k_is)
    (case c20 => k_is)
    (case k20 => k_is)
    (case a21 => k_is)
    (case l21 => k_is)
    (case c21 => k_is)
    (case k21 => k_is)
    (case a22 => k_is)
    (case l22 => k_is)
    (case c22 => k_is)
    (case k22 => k_is)
    (case a23 => k_is)
    (case l23 => k_is)
    (case c23 => k_is)
    (case k23 => k_is)
    (case a24 => k_is)
    (case l24 => k_is)
    (case c24 => k_is)
    (case k24 => k_is)
    (case a25 => k_is)
    (case l25 => k_is)
    (case c25 => k_is)
    (case k25 => k_is)
    (case a26 => k_is)
    (case l26 => k_is)
    (case c26 => k_is)
    (case k26 => k_is)
    (case a27 => k_is)
    (case l27 => k_is)
    (case c27 => k_is)
    (case k27 => k_is)
    (case a28 => k_is)
    (case l28 => k_is)
    (case c28 => k_is)
    (case k28 => k_is)
    (case a29 => k_is)
    (case l29 => k_is)
    (case c29 => k_is)
    (case k29 => k_is)
    (case a30 => k_is)
    (case l30 => k_is)
    (case c30 => k_is)
    (case k30 => k_is)
    (case a31 => k_is)
    (case l31 => k_is)
    (case c31 => k_is)
    (case k31 => k_is)
    (case a32 => k_is)
    (case l32 => k_is)
    (case c32 => k_is)
    (case k32 => k_is)
    (case a33 => k_is)
    (case l33 => k_is)
    (case c33 => k_is)
    (case k33 => k_is)
    (case z__LONGEST => k_is)
    (case z__MOST_COSETS => k_is)
    (case z__MOST_WORDS => k_is)
    (case z_abs => k_is)
    (case z_all => k_is)
    (case z_bool => k_is)
    (case z_enumerate => k_is)
    (case z_int => k_is)
    (case z_isinstance => k_is)
    (case z_len => k_is)
    (case z_list => k_is)
    (case z_max => k_is)
    (case z_min => k_is)
    (case z_range => k_is)
    (case z_sorted => k_is)
    (case z_sum => k_is)
    (case z_tuple => k_is)
    (case z_zip => k_is)
    (case zS => k_is)
    (case an_ => k_is)
    (case tp => first | rfl | decide +kernel)
    (case xC_Refused => k_is)
    (case sa_Refused => k_is)
    (case ga_Refused => k_is)
    (case gg_Refused => k_is)
    (case nr_Refused => k_is)
    (case eC_Refused => k_is)
    (case tC_Refused => k_is)
    (case kC_Refused => k_is)
    (case hC_Refused => k_is)
    (case sC_Refused => first | k_is | rfl)
    (case aI_Refused => k_is)
    (case tI_Refused => k_is)
    (case lI_Refused => k_is)
    (case cI_Refused => k_is)
    (case lc_Refused => k_is)
    (case lf_Refused => rfl)
    (case lq_Refused => first | rfl | decide +kernel)
    (case cl_Refused => k_is)
    (case mC_Refused => first | k_is | rfl)
    (case up_Refused => first | k_is | rfl | decide +kernel)
    (case bsv_Refused => k_is)
    (case xC_Malformed => k_exc)
    (case eC_Malformed => k_is)
    (case tC_Malformed => k_is)
    (case kC_Malformed => k_is)
    (case hC_Malformed => k_is)
    (case sC_Malformed => first | k_is | rfl)
    (case pg_Code => k_is)
    (case hd_Code => k_is)
    (case po_Code => k_is)
    (case sa_Code => k_is)
    (case mk_Code => k_is)
    (case kp_Code => k_is)
    (case zna_Code__checks => k_is)
    (case zna_Code_k => k_is)
    (case zna_Code_n => k_is)
    (case zna_Code_p => k_is)
    (case zna_Code_rows => k_is)
    (case zt__PRIMES => k_is)
    (case lt__PRIMES => k_is)
    all_goals exact (0 : Tok)



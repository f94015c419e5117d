import PyProof.Rows.All
import Wide.All
import OpenK.AllK
import Wide.FinOn
import HandS.ForMost
import HandS.Evl
import HandS.Zip
import HandS.Exc
import HandS.ExcOwn
import HandS.TryOnly
import HandS.WordsExc
import HandS.TupAny
import HandS.IsInst
import HandS.Style
import HandS.Deep
import HandS.Wide
import HandS.Steps
import HandS.Walk
import HandS.TupSets
import HandS.Conv
import HandS.SortRule
import KE.KDictDisplayH
import KE.SortData
import HandS.TupMul
import KE.KMathGC
import HandS.Gcd
import KE.KSuper
import KE.KExcSuper
import HandS.ExcInit
import HandS.ExcIs
import HandS.ExcField
import KE.KSortTup
import HandS.FStr
import HandS.TryMany
import HandS.Iter
import HandS.GenList
import PyProof.Rows.CallKwBuiltin
import KE.DataMinMax
import KE.DataAny
import HandS.OwnEq
import HandS.RevRange
import HandS.SortInts
import KE.OsSort
import KE.DataCmp
import KE.KDictZip
import KE.GoesZip
import KE.GoesMore
import HandS.ListItems
import KE.GoesEnum
import HandS.Text
import KE.KCallOwn
import KE.KFmtOwn
import PyProof.InstEq
import PyProof.FactsAll.object_2
import PyProof.StrLawsChain
import PyProof.Rows.StrLawsPart
import PySem.Challenge.RW_weightkeepers_k07_codes
set_option Elab.async false
set_option linter.all false
set_option maxRecDepth 100000
set_option maxHeartbeats 4000000
namespace Lq
open PySem PySem.Spec PyProof.Rows L2
open Evl (Ex)

inductive Dt where
  | non | bl (b : Bool) | int (i : Int) | str (x : Str) | lst (xs : List Dt) | tup (xs : List Dt) | obj (C : Addr) (ks : List Str) (xs : List Dt)
  /-- a list (false) or a tuple (true) that is only read: the script, a constant of a module -/
  | scr (t : Bool) (xs : List Dt)

def TupAt (K : PySem.W.Frag) (F : Hp) (a : Addr) (xs : List V) : Prop := F a = some (.tup xs)
theorem TupAt.up {K : PySem.W.Frag} {F F' : Hp} {a : Addr} {xs : List V} (h : TupAt K F a xs) (e : Ex F F') : TupAt K F' a xs := e _ _ h
theorem TupAt.sq {K : PySem.W.Frag} {F : Hp} {a : Addr} {xs : List V} (h : TupAt K F a xs) : SqT K F a xs := .inl (.inl h)

def SqB (K : PySem.W.Frag) (F : Hp) (t : Bool) (a : Addr) (xs : List V) : Prop := if t = true then SqT K F a xs else SqL K F a xs
theorem SqB.up {K : PySem.W.Frag} {F F' : Hp} {t : Bool} {a : Addr} {xs : List V} (h : SqB K F t a xs) (e : Ex F F') : SqB K F' t a xs := by
  unfold SqB at *
  cases t with
  | true => exact Evl.ex_t e h
  | false => exact Evl.ex_l e h
mutual
inductive Rp (K : PySem.W.Frag) (F : Hp) : V → Dt → Prop
  | non : Rp K F .non .non
  | bl (b : Bool) : Rp K F (.bl b) (.bl b)
  | int (i : Int) : Rp K F (.int i) (.int i)
  | str (x : Str) : Rp K F (.str x) (.str x)
  | lst {a : Addr} {xs : List V} {ds : List Dt} : F a = some (.lst xs) → RpA K F xs ds → Rp K F (.ref a) (.lst ds)
  | tup {a : Addr} {xs : List V} {ds : List Dt} : TupAt K F a xs → RpA K F xs ds → Rp K F (.ref a) (.tup ds)
  | obj {a C dx : Addr} {fs : List (Str × V)} {ks : List Str} {ds : List Dt} : F a = some (.ins C dx fs) → fs.map (·.1) = ks → RpA K F (fs.map (·.2)) ds → Rp K F (.ref a) (.obj C ks ds)
  | scr {a : Addr} {xs : List V} {ds : List Dt} (t : Bool) : SqB K F t a xs → RpA K F xs ds → Rp K F (.ref a) (.scr t ds)
inductive RpA (K : PySem.W.Frag) (F : Hp) : List V → List Dt → Prop
  | nil : RpA K F [] []
  | cons {v : V} {vs : List V} {d : Dt} {ds : List Dt} : Rp K F v d → RpA K F vs ds → RpA K F (v :: vs) (d :: ds)
end
mutual
theorem Rp.mono {K : PySem.W.Frag} {F F' : Hp} (e : Ex F F') : ∀ (d : Dt) (v : V), Rp K F v d → Rp K F' v d
  | .non, _, h => by cases h; exact .non
  | .bl b, _, h => by cases h; exact .bl _
  | .int i, _, h => by cases h; exact .int _
  | .str x, _, h => by cases h; exact .str _
  | .lst ds, _, h => by
    cases h with
    | lst hs ha => exact .lst (e _ _ hs) (RpA.mono e ds _ ha)
  | .tup ds, _, h => by
    cases h with
    | tup hs ha => exact .tup (hs.up e) (RpA.mono e ds _ ha)
  | .obj C ks ds, _, h => by
    cases h with
    | obj hs hk ha => exact .obj (e _ _ hs) hk (RpA.mono e ds _ ha)
  | .scr t ds, _, h => by
    cases h with
    | scr _ hs ha => exact .scr t (hs.up e) (RpA.mono e ds _ ha)
theorem RpA.mono {K : PySem.W.Frag} {F F' : Hp} (e : Ex F F') : ∀ (ds : List Dt) (vs : List V), RpA K F vs ds → RpA K F' vs ds
  | [], _, h => by cases h; exact .nil
  | d :: ds, _, h => by
    cases h with
    | cons h1 h2 => exact .cons (Rp.mono e d _ h1) (RpA.mono e ds _ h2)
end
section
variable {K : PySem.W.Frag} {F : Hp} {vs ws : List V} {ds es : List Dt}
theorem Rp.up {F' : Hp} {d : Dt} {v : V} (h : Rp K F v d) (e : Ex F F') : Rp K F' v d := Rp.mono e d v h
theorem RpA.up {F' : Hp} (h : RpA K F vs ds) (e : Ex F F') : RpA K F' vs ds := RpA.mono e ds vs h
theorem RpA.length : ∀ {vs : List V} {ds : List Dt}, RpA K F vs ds → vs.length = ds.length
  | _, _, .nil => rfl
  | _, _, .cons _ t => by simp [RpA.length t]
theorem RpA.get : ∀ {vs : List V} {ds : List Dt} {i : Nat} {d : Dt}, RpA K F vs ds → ds[i]? = some d → ∃ v, vs[i]? = some v ∧ Rp K F v d
  | _, _, i, _, .nil, h => by simp at h
  | _, _, 0, _, .cons h1 _, h => by simp at h; subst h; exact ⟨_, rfl, h1⟩
  | _, _, i + 1, _, .cons _ t, h => by
    obtain ⟨v, q, r⟩ := RpA.get (i := i) t (by simpa using h)
    exact ⟨v, by simpa using q, r⟩
theorem RpA.getv : ∀ {vs : List V} {ds : List Dt} {i : Nat} {v : V}, RpA K F vs ds → vs[i]? = some v → ∃ d, ds[i]? = some d ∧ Rp K F v d
  | _, _, i, _, .nil, h => by simp at h
  | _, _, 0, _, .cons h1 _, h => by simp at h; subst h; exact ⟨_, rfl, h1⟩
  | _, _, i + 1, _, .cons _ t, h => by
    obtain ⟨v, q, r⟩ := RpA.getv (i := i) t (by simpa using h)
    exact ⟨v, by simpa using q, r⟩
theorem RpA.app : ∀ {vs ws : List V} {ds es : List Dt}, RpA K F vs ds → RpA K F ws es → RpA K F (vs ++ ws) (ds ++ es)
  | _, _, _, _, .nil, h => h
  | _, _, _, _, .cons h1 h2, h => .cons h1 (RpA.app h2 h)
theorem RpA.snoc {v : V} {d : Dt} (h : RpA K F vs ds) (h1 : Rp K F v d) : RpA K F (vs ++ [v]) (ds ++ [d]) := h.app (.cons h1 .nil)
theorem RpA.set : ∀ {vs : List V} {ds : List Dt} {v : V} {d : Dt} (i : Nat), RpA K F vs ds → Rp K F v d → RpA K F (vs.set i v) (ds.set i d)
  | _, _, _, _, _, .nil, _ => .nil
  | _, _, _, _, 0, .cons _ t, h => .cons h t
  | _, _, _, _, i + 1, .cons q t, h => .cons q (RpA.set i t h)
theorem RpA.take : ∀ {vs : List V} {ds : List Dt} (n : Nat), RpA K F vs ds → RpA K F (vs.take n) (ds.take n)
  | _, _, 0, _ => .nil
  | _, _, _ + 1, .nil => .nil
  | _, _, n + 1, .cons r t => .cons r (RpA.take n t)
theorem RpA.drop : ∀ {vs : List V} {ds : List Dt} (n : Nat), RpA K F vs ds → RpA K F (vs.drop n) (ds.drop n)
  | _, _, 0, r => r
  | _, _, _ + 1, .nil => .nil
  | _, _, n + 1, .cons _ t => RpA.drop n t
theorem RpA.ints : ∀ ns : List Int, RpA K F (ns.map V.int) (ns.map Dt.int)
  | [] => .nil
  | n :: ns => .cons (.int n) (RpA.ints ns)
theorem Rp.intv {v : V} {i : Int} (h : Rp K F v (.int i)) : v = .int i := by cases h; rfl
theorem Rp.blv {v : V} {i : Bool} (h : Rp K F v (.bl i)) : v = .bl i := by cases h; rfl
theorem RpA.intsv : ∀ {vs : List V} {ns : List Int}, RpA K F vs (ns.map Dt.int) → vs = ns.map V.int
  | _, [], .nil => rfl
  | _, n :: ns, .cons h t => by rw [h.intv, RpA.intsv t]; rfl
end

inductive Sv where | no | im (d : Dt) | mu (k : Nat)
inductive Ob where | ls (xs : List Dt) | dc (kvs : List (List Int × Dt)) | io (C : Addr) (ks : List Str) (ds : List Dt)
inductive Mo where | ob (c : Ob) | fz (d : Dt)
structure Ms where
  sl : List Sv
  mo : List Mo := []
structure Er where
  C : Addr
  ks : List Str
  ds : List Dt
theorem nrfl0 {α : Type} {a b : α} (h : a = b) : a = b := h
inductive R (α : Type) where | ok (a : α) (s : Ms) | er (e : Er) (s : Ms) | no
def R.bind {α β : Type} : R α → (α → Ms → R β) → R β
  | .ok a s, f => f a s
  | .er e s, _ => .er e s
  | .no, _ => .no
@[simp] theorem R.bind_ok {α β : Type} (a : α) (s : Ms) (f : α → Ms → R β) : (R.ok a s).bind f = f a s := nrfl0 rfl
@[simp] theorem R.bind_er {α β : Type} (e : Er) (s : Ms) (f : α → Ms → R β) : (R.er e s : R α).bind f = .er e s := nrfl0 rfl
@[simp] theorem R.bind_no {α β : Type} (f : α → Ms → R β) : (R.no : R α).bind f = .no := nrfl0 rfl
def R.of {α : Type} (o : Option α) (s : Ms) : R α := match o with | some a => .ok a s | none => .no
@[simp] theorem R.of_some {α : Type} (a : α) (s : Ms) : R.of (some a) s = .ok a s := nrfl0 rfl
@[simp] theorem R.of_none {α : Type} (s : Ms) : R.of (none : Option α) s = .no := nrfl0 rfl

def SvR (K : PySem.W.Frag) (F : Hp) (as : List Addr) : Option V → Sv → Prop
  | _, .no => True
  | some v, .im d => Rp K F v d
  | some v, .mu k => ∃ a, as[k]? = some a ∧ v = .ref a
  | none, .im _ => False
  | none, .mu _ => False
inductive ObR (K : PySem.W.Frag) (F : Hp) : HO → Ob → Prop
  | ls {vs : List V} {ds : List Dt} : RpA K F vs ds → ObR K F (.lst vs) (.ls ds)
  | dc {ws : List (List Key × V)} {kvs : List (List Int × Dt)} : Paired (fun p q => p.1 = q.1.map Sum.inl ∧ Rp K F p.2 q.2) ws kvs → ObR K F (.dT ws) (.dc kvs)
  | io {C dx : Addr} {fs : List (Str × V)} {ks : List Str} {ds : List Dt} : fs.map (·.1) = ks → RpA K F (fs.map (·.2)) ds → ObR K F (.ins C dx fs) (.io C ks ds)
theorem ObR.up {K : PySem.W.Frag} {F F' : Hp} {o : HO} {c : Ob} (h : ObR K F o c) (e : Ex F F') : ObR K F' o c := by
  cases h with
  | ls h => exact .ls (h.up e)
  | dc h => exact .dc (h.mono fun _ _ q => ⟨q.1, q.2.up e⟩)
  | io h1 h2 => exact .io h1 (h2.up e)
def NT : HO → Prop | .tup _ => False | _ => True
theorem ObR.nt {K : PySem.W.Frag} {F : Hp} {o : HO} {c : Ob} (h : ObR K F o c) : NT o := by cases h <;> trivial
def MoR (K : PySem.W.Frag) (B F H : Hp) (a : Addr) : Mo → Prop
  | .ob c => B a = none ∧ F a = none ∧ ∃ o, H a = some o ∧ ObR K F o c
  | .fz d => (∃ o, F a = some o) ∧ Rp K F (.ref a) d
structure Rep (K : PySem.W.Frag) (B F H : Hp) (as : List Addr) (σ : L2.St) (S : Ms) : Prop where
  fh : Ex F H
  bh : ∀ a o, B a = some o → H a = some o ∧ F a = none ∧ NT o
  sl : Paired (SvR K F as) σ S.sl
  mo : Paired (MoR K B F H) as S.mo
  nd : as.Nodup
def Ext (F F' : Hp) (as as' : List Addr) : Prop := Ex F F' ∧ ∃ t, as' = as ++ t
theorem Ext.refl {F : Hp} {as : List Addr} : Ext F F as as := ⟨Ex.refl F, [], by simp⟩
theorem Ext.trans {F F1 F2 : Hp} {as as1 as2 : List Addr} (a : Ext F F1 as as1) (b : Ext F1 F2 as1 as2) : Ext F F2 as as2 := by
  obtain ⟨a1, t, rfl⟩ := a
  obtain ⟨b1, u, rfl⟩ := b
  exact ⟨a1.trans b1, t ++ u, by simp⟩

theorem pairedGet {α β : Type} {G : α → β → Prop} : ∀ {xs : List α} {ys : List β} {i : Nat} {y : β}, Paired G xs ys → ys[i]? = some y → ∃ x, xs[i]? = some x ∧ G x y
  | _, _, i, _, .nil, h => by simp at h
  | _, _, 0, _, .cons r _, h => by simp at h; subst h; exact ⟨_, rfl, r⟩
  | _, _, i + 1, _, .cons _ t, h => by
    obtain ⟨x, q, r⟩ := pairedGet (i := i) t (by simpa using h)
    exact ⟨x, by simpa using q, r⟩
theorem pairedGetL {α β : Type} {G : α → β → Prop} : ∀ {xs : List α} {ys : List β} {i : Nat} {x : α}, Paired G xs ys → xs[i]? = some x → ∃ y, ys[i]? = some y ∧ G x y
  | _, _, i, _, .nil, h => by simp at h
  | _, _, 0, _, .cons r _, h => by simp at h; subst h; exact ⟨_, rfl, r⟩
  | _, _, i + 1, _, .cons _ t, h => by
    obtain ⟨x, q, r⟩ := pairedGetL (i := i) t (by simpa using h)
    exact ⟨x, by simpa using q, r⟩
theorem pairedSet {α β : Type} {G : α → β → Prop} {x : α} {y : β} : ∀ {xs : List α} {ys : List β} (i : Nat), Paired G xs ys → G x y → Paired G (xs.set i x) (ys.set i y)
  | _, _, _, .nil, _ => .nil
  | _, _, 0, .cons _ t, h => .cons h t
  | _, _, i + 1, .cons q t, h => .cons q (pairedSet i t h)
theorem pairedAt {α β : Type} {G G' : α → β → Prop} {y : β} : ∀ {xs : List α} {ys : List β} (i : Nat), Paired G xs ys → (∀ (j : Nat) (x : α) (z : β), j ≠ i → xs[j]? = some x → ys[j]? = some z → G x z → G' x z) → (∀ x, xs[i]? = some x → G' x y) → Paired G' xs (ys.set i y)
  | _, _, _, .nil, _, _ => .nil
  | x :: xs, z :: ys, 0, .cons r t, h, h1 => by
    refine .cons (h1 x rfl) ?_
    have : ∀ {xs : List α} {ys : List β}, Paired G xs ys → (∀ (j : Nat) (x : α) (z : β), xs[j]? = some x → ys[j]? = some z → G x z → G' x z) → Paired G' xs ys := by
      intro xs ys p
      induction p with
      | nil => intro _; exact .nil
      | cons q _ ih => exact fun k => .cons (k 0 _ _ rfl rfl q) (ih fun j x z a b => k (j + 1) x z (by simpa using a) (by simpa using b))
    exact this t fun j x z a b => h (j + 1) x z (by omega) (by simpa using a) (by simpa using b)
  | x :: xs, z :: ys, i + 1, .cons r t, h, h1 => by
    refine .cons (h 0 x z (by omega) rfl rfl r) ?_
    exact pairedAt i t (fun j x z hj a b => h (j + 1) x z (by omega) (by simpa using a) (by simpa using b)) fun x a => h1 x (by simpa using a)

section
variable {K : PySem.W.Frag} {B F H F' H' : Hp} {as as' : List Addr} {σ : L2.St} {S S' : Ms}
theorem SvR.up {o : Option V} {s : Sv} (h : SvR K F as o s) (e : Ext F F' as as') : SvR K F' as' o s := by
  obtain ⟨e1, t, rfl⟩ := e
  cases s with
  | no => trivial
  | im d =>
    cases o with
    | none => exact h
    | some v => exact Rp.up h e1
  | mu k =>
    cases o with
    | none => exact h
    | some v =>
      obtain ⟨a, q, rfl⟩ := h
      exact ⟨a, by rw [List.getElem?_append_left]; exact q; exact (List.getElem?_eq_some_iff.mp q).1, rfl⟩
theorem Rep.live (r : Rep K B F H as σ S) {a : Addr} (h : a ∈ as) : ∃ o, H a = some o := by
  obtain ⟨i, q⟩ := List.mem_iff_getElem?.mp h
  obtain ⟨y, _, z⟩ := pairedGetL r.mo q
  cases y with
  | ob ds =>
    obtain ⟨_, _, vs, z, _⟩ := z
    exact ⟨_, z⟩
  | fz d =>
    obtain ⟨⟨o, z⟩, _⟩ := z
    exact ⟨o, r.fh _ _ z⟩
theorem Rep.fresh (r : Rep K B F H as σ S) {p : Addr} (h : H p = none) : F p = none ∧ B p = none ∧ p ∉ as := by
  refine ⟨?_, ?_, fun z => ?_⟩
  · cases q : F p with
    | none => rfl
    | some o => rw [r.fh _ _ q] at h; cases h
  · cases q : B p with
    | none => rfl
    | some o => rw [(r.bh _ _ q).1] at h; cases h
  · obtain ⟨o, q⟩ := r.live z
    rw [q] at h; cases h
theorem Rep.new (r : Rep K B F H as σ S) {p : Addr} (h : H p = none) (o : HO) : Ext F (upd F p o) as as ∧ Rep K B (upd F p o) (upd H p o) as σ S := by
  obtain ⟨f1, f2, f3⟩ := r.fresh h
  have e : Ex F (upd F p o) := Ex.new f1
  have ee : Ext F (upd F p o) as as := ⟨e, [], by simp⟩
  refine ⟨ee, fun a u hu => ?_, fun a u hu => ?_, r.sl.mono fun _ _ q => SvR.up q ee, ?_, r.nd⟩
  · by_cases q : a = p
    · subst q
      rw [upd_same] at hu ⊢
      exact hu
    · rw [upd_ne q] at hu ⊢
      exact r.fh _ _ hu
  · obtain ⟨q1, q2, q3⟩ := r.bh a u hu
    have n : a ≠ p := by
      rintro rfl
      rw [h] at q1; cases q1
    rw [upd_ne n, upd_ne n]
    exact ⟨q1, q2, q3⟩
  · refine r.mo.mono fun a m q => ?_
    cases m with
    | ob ds =>
      obtain ⟨q1, q2, vs, q3, q4⟩ := q
      have n : a ≠ p := by
        rintro rfl
        rw [h] at q3; cases q3
      exact ⟨q1, by rw [upd_ne n]; exact q2, vs, by rw [upd_ne n]; exact q3, q4.up e⟩
    | fz d =>
      obtain ⟨⟨u, q1⟩, q2⟩ := q
      exact ⟨⟨u, e _ _ q1⟩, q2.up e⟩
theorem Rep.freeze (r : Rep K B F H as σ S) {k : Nat} {ds : List Dt} (h : S.mo[k]? = some (.ob (.ls ds))) : ∃ a F1, as[k]? = some a ∧ Ext F F1 as as ∧ Rep K B F1 H as σ { S with mo := S.mo.set k (.fz (.lst ds)) } ∧ Rp K F1 (.ref a) (.lst ds) := by
  obtain ⟨a, ha, q1, q2, ob, q3, q4⟩ := pairedGet r.mo h
  cases q4
  rename_i vs q4
  have e : Ex F (upd F a (.lst vs)) := Ex.new q2
  have ee : Ext F (upd F a (.lst vs)) as as := ⟨e, [], by simp⟩
  have rr : Rp K (upd F a (.lst vs)) (.ref a) (.lst ds) := .lst upd_same (q4.up e)
  refine ⟨a, _, ha, ee, ⟨fun b u hu => ?_, fun b u hu => ?_, r.sl.mono fun _ _ q => SvR.up q ee, ?_, r.nd⟩, rr⟩
  · by_cases q : b = a
    · subst q
      rw [upd_same] at hu
      rw [q3]; exact hu
    · rw [upd_ne q] at hu
      exact r.fh _ _ hu
  · obtain ⟨z1, z2, z3⟩ := r.bh b u hu
    have n : b ≠ a := by
      rintro rfl
      rw [q1] at hu; cases hu
    rw [upd_ne n]
    exact ⟨z1, z2, z3⟩
  · refine pairedAt k r.mo (fun j b m hj hb hm q => ?_) fun b hb => ?_
    · cases m with
      | ob ds =>
        obtain ⟨z1, z2, ws, z3, z4⟩ := q
        have n : b ≠ a := fun z => by
          subst z
          exact hj (nd_ix r.nd hb ha)
        exact ⟨z1, by rw [upd_ne n]; exact z2, ws, z3, z4.up e⟩
      | fz d =>
        obtain ⟨⟨u, z1⟩, z2⟩ := q
        exact ⟨⟨u, e _ _ z1⟩, z2.up e⟩
    · rw [ha] at hb
      cases hb
      exact ⟨⟨_, upd_same⟩, rr⟩
theorem Rep.newL (r : Rep K B F H as σ S) {p : Addr} {o : HO} {c : Ob} (f1 : F p = none) (f2 : B p = none) (f3 : p ∉ as) (hp : H p = some o) (hv : ObR K F o c) : Ext F F as (as ++ [p]) ∧ Rep K B F H (as ++ [p]) σ { S with mo := S.mo ++ [.ob c] } := by
  have ee : Ext F F as (as ++ [p]) := ⟨Ex.refl F, [p], rfl⟩
  refine ⟨ee, r.fh, r.bh, r.sl.mono fun _ _ q => SvR.up q ee, r.mo.snoc ⟨f2, f1, o, hp, hv⟩, ?_⟩
  rw [List.nodup_append]
  exact ⟨r.nd, by simp, fun a ha b hb => by simp at hb; subst hb; rintro rfl; exact f3 ha⟩
theorem Rep.put (r : Rep K B F H as σ S) {k : Nat} {a : Addr} {o : HO} {c0 c : Ob} (h : S.mo[k]? = some (.ob c0)) (ha : as[k]? = some a) (hv : ObR K F o c) : Rep K B F (upd H a o) as σ { S with mo := S.mo.set k (.ob c) } := by
  obtain ⟨a', ha', q1, q2, ws, q3, q4⟩ := pairedGet r.mo h
  rw [ha] at ha'
  cases ha'
  refine ⟨fun b u hu => ?_, fun b u hu => ?_, r.sl, ?_, r.nd⟩
  · have n : b ≠ a := by
      rintro rfl
      rw [q2] at hu; cases hu
    rw [upd_ne n]
    exact r.fh _ _ hu
  · obtain ⟨z1, z2, z3⟩ := r.bh b u hu
    have n : b ≠ a := by
      rintro rfl
      rw [q1] at hu; cases hu
    rw [upd_ne n]
    exact ⟨z1, z2, z3⟩
  · refine pairedAt k r.mo (fun j b m hj hb hm q => ?_) fun b hb => ?_
    · cases m with
      | ob ds =>
        obtain ⟨z1, z2, ws, z3, z4⟩ := q
        have n : b ≠ a := fun z => by
          subst z
          exact hj (nd_ix r.nd hb ha)
        exact ⟨z1, z2, ws, by rw [upd_ne n]; exact z3, z4⟩
      | fz d => exact q
    · rw [ha] at hb
      cases hb
      exact ⟨q1, q2, o, upd_same, hv⟩
theorem Rep.know (r : Rep K B F H as σ S) {p : Addr} {xs : List V} (h : H p = some (.tup xs)) (hf : F p = none) : Ext F (upd F p (.tup xs)) as as ∧ Rep K B (upd F p (.tup xs)) H as σ S := by
  have e : Ex F (upd F p (.tup xs)) := Ex.new hf
  have ee : Ext F (upd F p (.tup xs)) as as := ⟨e, [], by simp⟩
  refine ⟨ee, fun a u hu => ?_, fun a u hu => ?_, r.sl.mono fun _ _ q => SvR.up q ee, r.mo.mono fun a m q => ?_, r.nd⟩
  · by_cases q : a = p
    · subst q
      rw [upd_same] at hu
      rw [h]; exact hu
    · rw [upd_ne q] at hu
      exact r.fh _ _ hu
  · obtain ⟨q1, q2, q3⟩ := r.bh a u hu
    have n : a ≠ p := by
      rintro rfl
      rw [h] at q1; cases q1; exact q3
    rw [upd_ne n]
    exact ⟨q1, q2, q3⟩
  · cases m with
    | ob ds =>
      obtain ⟨q1, q2, o, q3, q4⟩ := q
      have n : a ≠ p := by
        rintro rfl
        rw [h] at q3; cases q3
        exact q4.nt
      exact ⟨q1, by rw [upd_ne n]; exact q2, o, q3, q4.up e⟩
    | fz d =>
      obtain ⟨⟨u, q1⟩, q2⟩ := q
      exact ⟨⟨u, e _ _ q1⟩, q2.up e⟩
theorem Rep.slot (r : Rep K B F H as σ S) (i : Nat) {v : V} {s : Sv} (h : SvR K F as (some v) s) : Rep K B F H as (σ.set i (some v)) { S with sl := S.sl.set i s } :=
  ⟨r.fh, r.bh, pairedSet i r.sl h, r.mo, r.nd⟩
end

def DictR (H : Hp) (dx : Option Addr) (fs : List (Str × V)) : Prop := match dx with | some d => H d = some (.xd fs) | none => fs = []
theorem DictR.some {H : Hp} {dx : Option Addr} {fs : List (Str × V)} (h : DictR H dx fs) (hf : fs ≠ []) : ∃ d, dx = some d ∧ H d = some (.xd fs) := by
  cases dx with
  | none => exact absurd h hf
  | some d => exact ⟨d, rfl, h⟩
section
variable (K : PySem.W.Frag) (W : WX) (B F : Hp) (as : List Addr) (σ : L2.St)
def OutE (e : Er) (S' : Ms) : Prop := ∀ F' H' as' dx fs, Ext F F' as as' → Rep K B F' H' as' σ S' → DictR H' dx fs → fs.map (·.1) = e.ks → RpA K F' (fs.map (·.2)) e.ds → W (.ref e.C) dx σ H'
def Out {α : Type} (r : R α) (Q : α → Hp → Hp → List Addr → Ms → Prop) : Prop := match r with
  | .ok a S' => ∀ F' H' as', Ext F F' as as' → Rep K B F' H' as' σ S' → Q a F' H' as' S'
  | .er e S' => OutE K W B F as σ e S'
  | .no => False
end
theorem Out.bind {K : PySem.W.Frag} {W : WX} {B F : Hp} {as : List Addr} {σ : L2.St} {α β : Type} {r : R α} {g : α → Ms → R β} {Q : β → Hp → Hp → List Addr → Ms → Prop} (h : Out K W B F as σ (r.bind g) Q) :
    Out K W B F as σ r fun a F1 H1 as1 S1 => Rep K B F1 H1 as1 σ S1 ∧ Ext F F1 as as1 ∧ Out K W B F1 as1 σ (g a S1) Q := by
  cases r with
  | ok a S1 =>
    intro F1 H1 as1 e1 r1
    refine ⟨r1, e1, ?_⟩
    have h : Out K W B F as σ (g a S1) Q := h
    revert h
    cases g a S1 with
    | ok b S2 => exact fun h F2 H2 as2 e2 r2 => h F2 H2 as2 (e1.trans e2) r2
    | er e S2 => exact fun h F2 H2 as2 dx fs e2 r2 => h F2 H2 as2 dx fs (e1.trans e2) r2
    | no => exact fun h => h
  | er e S1 => exact h
  | no => exact h
theorem Out.mono {K : PySem.W.Frag} {W : WX} {B F : Hp} {as : List Addr} {σ : L2.St} {α : Type} {r : R α} {Q Q' : α → Hp → Hp → List Addr → Ms → Prop} (h : Out K W B F as σ r Q) (hq : ∀ a F' H' as' S', Q a F' H' as' S' → Q' a F' H' as' S') : Out K W B F as σ r Q' := by
  cases r with
  | ok a S1 => exact fun F1 H1 as1 e1 r1 => hq _ _ _ _ _ (h F1 H1 as1 e1 r1)
  | er e S1 => exact h
  | no => exact h
theorem Out.now {K : PySem.W.Frag} {W : WX} {B F H : Hp} {as : List Addr} {σ : L2.St} {α : Type} {a : α} {S : Ms} {Q : α → Hp → Hp → List Addr → Ms → Prop} (h : Out K W B F as σ (.ok a S) Q) (r : Rep K B F H as σ S) : Q a F H as S := h F H as Ext.refl r

def tD (K : PySem.W.Frag) (W : WX) (f : Ms → R Dt) : TE := fun σ H Q => ∃ B F as S, Rep K B F H as σ S ∧ Out K W B F as σ (f S) fun d F' H' _ _ => ∀ v, Rp K F' v d → Q v H'
def tN (K : PySem.W.Frag) (W : WX) (f : Ms → R (List Dt)) : TE := fun σ H Q => ∃ B F as S, Rep K B F H as σ S ∧ Out K W B F as σ (f S) fun ds F' H' as' _ => ∀ p vs, F' p = none → B p = none → p ∉ as' → H' p = some (.lst vs) → RpA K F' vs ds → Q (.ref p) H'
def tT (K : PySem.W.Frag) (W : WX) (f : Ms → R Bool) : TT := fun σ H Q => ∃ B F as S, Rep K B F H as σ S ∧ Out K W B F as σ (f S) fun b _ H' _ _ => Q b H'
def tA (K : PySem.W.Frag) (W : WX) (f : Ms → R (List Dt)) : TA := fun σ H Q => ∃ B F as S, Rep K B F H as σ S ∧ Out K W B F as σ (f S) fun ds F' H' _ _ => ∀ vs, RpA K F' vs ds → Q vs H'

inductive O where | nx (s : Ms) | rt (d : Dt) (s : Ms) | bk (s : Ms) | ct (s : Ms) | er (e : Er) (s : Ms) | no
def OutS (K : PySem.W.Frag) (W : WX) (B F : Hp) (as : List Addr) (o : O) (D : Ends) : Prop := match o with
  | .nx S' => ∀ σ' F' H' as', Ext F F' as as' → Rep K B F' H' as' σ' S' → D.nx σ' H'
  | .rt d S' => ∀ σ' F' H' as' v, Ext F F' as as' → Rep K B F' H' as' σ' S' → Rp K F' v d → D.rt v H'
  | .bk S' => ∀ σ' F' H' as', Ext F F' as as' → Rep K B F' H' as' σ' S' → D.bk σ' H'
  | .ct S' => ∀ σ' F' H' as', Ext F F' as as' → Rep K B F' H' as' σ' S' → D.ct σ' H'
  | .er e S' => ∀ σ', OutE K W B F as σ' e S'
  | .no => False
def sD (K : PySem.W.Frag) (W : WX) (m : Ms → O) : TS := fun D σ H => ∃ B F as S, Rep K B F H as σ S ∧ OutS K W B F as (m S) D
theorem OutS.ext {K : PySem.W.Frag} {W : WX} {B F F1 : Hp} {as as1 : List Addr} {o : O} {D : Ends} (h : OutS K W B F as o D) (e : Ext F F1 as as1) : OutS K W B F1 as1 o D := by
  cases o with
  | nx S' => exact fun σ' F' H' as' e' r => h σ' F' H' as' (e.trans e') r
  | rt d S' => exact fun σ' F' H' as' v e' r => h σ' F' H' as' v (e.trans e') r
  | bk S' => exact fun σ' F' H' as' e' r => h σ' F' H' as' (e.trans e') r
  | ct S' => exact fun σ' F' H' as' e' r => h σ' F' H' as' (e.trans e') r
  | er x S' => exact fun σ' F' H' as' dx fs e' r => h σ' F' H' as' dx fs (e.trans e') r
  | no => exact h
def R.stmt {α : Type} : R α → (α → Ms → O) → O
  | .ok a s, f => f a s
  | .er e s, _ => .er e s
  | .no, _ => .no
@[simp] theorem R.stmt_ok {α : Type} (a : α) (s : Ms) (f : α → Ms → O) : (R.ok a s).stmt f = f a s := nrfl0 rfl
@[simp] theorem R.stmt_er {α : Type} (e : Er) (s : Ms) (f : α → Ms → O) : (R.er e s : R α).stmt f = .er e s := nrfl0 rfl
@[simp] theorem R.stmt_no {α : Type} (f : α → Ms → O) : (R.no : R α).stmt f = .no := nrfl0 rfl
def O.seq : O → (Ms → O) → O
  | .nx s, f => f s
  | .rt d s, _ => .rt d s
  | .bk s, _ => .bk s
  | .ct s, _ => .ct s
  | .er e s, _ => .er e s
  | .no, _ => .no
theorem OutS.stmt {K : PySem.W.Frag} {W : WX} {B F : Hp} {as : List Addr} {σ : L2.St} {α : Type} {r : R α} {g : α → Ms → O} {D : Ends} (h : OutS K W B F as (r.stmt g) D) :
    Out K W B F as σ r fun a F1 H1 as1 S1 => Rep K B F1 H1 as1 σ S1 ∧ Ext F F1 as as1 ∧ OutS K W B F1 as1 (g a S1) D := by
  cases r with
  | ok a S1 => exact fun F1 H1 as1 e1 r1 => ⟨r1, e1, OutS.ext h e1⟩
  | er e S1 => exact h σ
  | no => exact h
theorem OutS.seq {K : PySem.W.Frag} {W : WX} {B F : Hp} {as : List Addr} {o : O} {m : Ms → O} {D : Ends} (h : OutS K W B F as (o.seq m) D) : OutS K W B F as o { D with nx := sD K W m D } := by
  cases o with
  | nx S' => exact fun σ' F' H' as' e' r => ⟨B, F', as', S', r, OutS.ext h e'⟩
  | rt d S' => exact h
  | bk S' => exact h
  | ct S' => exact h
  | er e S' => exact h
  | no => exact h
theorem monoE {X : Cx} {e : Expr} {t t' : TE} (h : PE X e t) (m : ∀ σ H Q, t' σ H Q → t σ H Q) : PE X e t' := ⟨fun pins s σ H Q I q => h.run pins s σ H Q I (m σ H Q q)⟩
theorem monoT {X : Cx} {e : Expr} {t t' : TT} (h : PT X e t) (m : ∀ σ H Q, t' σ H Q → t σ H Q) : PT X e t' := ⟨fun pins s σ H Q I q => h.run pins s σ H Q I (m σ H Q q)⟩
theorem monoA {X : Cx} {e : List Expr} {t t' : TA} (h : PA X e t) (m : ∀ σ H Q, t' σ H Q → t σ H Q) : PA X e t' := ⟨fun pos pins s σ H Q I q => h.run pos pins s σ H Q I (m σ H Q q)⟩
theorem monoS {X : Cx} {st : Stmt} {t t' : TS} (h : PS X st t) (m : ∀ D σ H, t' D σ H → t D σ H) : PS X st t' := ⟨fun pins s σ H D I q => h.run pins s σ H D I (m D σ H q)⟩
theorem monoSs {X : Cx} {st : List Stmt} {t t' : TS} (h : PSs X st t) (m : ∀ D σ H, t' D σ H → t D σ H) : PSs X st t' := ⟨fun pins s σ H D I q => h.run pins s σ H D I (m D σ H q)⟩
theorem monoPT {X : Cx} {e : List Expr} {t t' : TT} (h : PTs X e t) (m : ∀ σ H Q, t' σ H Q → t σ H Q) : PTs X e t' := ⟨fun pins s σ H Q I q => h.run pins s σ H Q I (m σ H Q q)⟩
end Lq

namespace Lq
open PySem PySem.Spec PyProof.Rows L2
open Evl (Ex)

def Gv (K : PySem.W.Frag) (F H : Hp) (z : Dt) (Q : VK) : Prop :=
  (∀ u, Rp K F u z → Q u H) ∧ ∀ p o, H p = none → Rp K (upd F p o) (.ref p) z → Q (.ref p) (upd H p o)
def GvL (K : PySem.W.Frag) (F H : Hp) (z : List Dt) (Q : VK) : Prop := ∀ p vs, H p = none → RpA K F vs z → Q (.ref p) (upd H p (.lst vs))
theorem gv_of {K : PySem.W.Frag} {W : WX} {B F H : Hp} {as : List Addr} {σ : L2.St} {S : Ms} {z : Dt} {Q : VK} (h : Out K W B F as σ (.ok z S) fun d F' H' _ _ => ∀ v, Rp K F' v d → Q v H') (r : Rep K B F H as σ S) : Gv K F H z Q :=
  ⟨fun u hu => h F H as Ext.refl r u hu, fun p o hp hu => by
    obtain ⟨e1, r1⟩ := r.new hp o
    exact h _ _ as e1 r1 _ hu⟩
theorem gvl_of {K : PySem.W.Frag} {W : WX} {B F H : Hp} {as : List Addr} {σ : L2.St} {S : Ms} {z : List Dt} {Q : VK}
    (h : Out K W B F as σ (.ok z S) fun ds F' H' as' _ => ∀ p vs, F' p = none → B p = none → p ∉ as' → H' p = some (.lst vs) → RpA K F' vs ds → Q (.ref p) H') (r : Rep K B F H as σ S) : GvL K F H z Q := fun p vs hp hv => by
  obtain ⟨f1, f2, f3⟩ := r.fresh hp
  have r1 : Rep K B F (upd H p (.lst vs)) as σ S := by
    refine ⟨fun a o e => ?_, fun a o e => ?_, r.sl, r.mo.mono fun a m q => ?_, r.nd⟩
    · rw [upd_ne (ne_of_none (r.fh _ _ e) hp)]
      exact r.fh _ _ e
    · obtain ⟨z1, z2, z3⟩ := r.bh a o e
      exact ⟨by rw [upd_ne (ne_of_none z1 hp)]; exact z1, z2, z3⟩
    · cases m with
      | ob ds =>
        obtain ⟨z1, z2, ws, z3, z4⟩ := q
        exact ⟨z1, z2, ws, by rw [upd_ne (ne_of_none z3 hp)]; exact z3, z4⟩
      | fz d => exact q
  exact h F _ as Ext.refl r1 p vs f1 f2 f3 upd_same hv
def frz (f : Ms → R (List Dt)) : Ms → R Dt := fun S => (f S).bind fun ds S1 => .ok (.lst ds) S1
theorem frz_run {K : PySem.W.Frag} {W : WX} {f : Ms → R (List Dt)} {σ : L2.St} {H : Hp} {Q : VK} (q : tD K W (frz f) σ H Q) : tN K W f σ H Q := by
  obtain ⟨B, F, as, S, r, o⟩ := q
  refine ⟨B, F, as, S, r, Out.mono (Out.bind o) fun ds F' H' as' S' ⟨r1, e1, o1⟩ => ?_⟩
  intro p vs f1 f2 f3 hp hv
  have e : Ex F' (upd F' p (.lst vs)) := Ex.new f1
  have ee : Ext F' (upd F' p (.lst vs)) as' as' := ⟨e, [], by simp⟩
  refine o1 (upd F' p (.lst vs)) H' as' ee ⟨fun a u hu => ?_, fun a u hu => ?_, r1.sl.mono fun _ _ q => SvR.up q ee, ?_, r1.nd⟩ _ (.lst upd_same (hv.up e))
  · by_cases q : a = p
    · subst q
      rw [upd_same] at hu
      rw [hp]; exact hu
    · rw [upd_ne q] at hu
      exact r1.fh _ _ hu
  · have n : a ≠ p := by
      rintro rfl
      rw [f2] at hu; cases hu
    rw [upd_ne n]
    exact r1.bh a u hu
  · have : ∀ {xs : List Addr} {ys : List Mo}, (∀ a ∈ xs, a ≠ p) → Paired (MoR K B F' H') xs ys → Paired (MoR K B (upd F' p (.lst vs)) H') xs ys := by
      intro xs ys hn z
      induction z with
      | nil => exact .nil
      | @cons a b l1 l2 z zs ih =>
        refine .cons ?_ (ih fun a ha => hn a (List.mem_cons_of_mem _ ha))
        cases b with
        | ob ds =>
          obtain ⟨z1, z2, ws, z3, z4⟩ := z
          exact ⟨z1, by rw [upd_ne (hn _ List.mem_cons_self)]; exact z2, ws, z3, z4.up e⟩
        | fz d =>
          obtain ⟨⟨u, z1⟩, z2⟩ := z
          exact ⟨⟨u, e _ _ z1⟩, z2.up e⟩
    exact this (fun a ha z => f3 (z ▸ ha)) r1.mo
theorem de_frz {X : Cx} {W : WX} {e : Expr} {f : Ms → R (List Dt)} (h : PE X e (tN X.K W f)) : PE X e (tD X.K W (frz f)) := monoE h fun σ H Q q => frz_run q

def cE (d : Dt) : Ms → R Dt := fun S => .ok d S
def varE (i : Nat) : Ms → R Dt := fun S => match S.sl[i]? with
  | some (.im d) => .ok d S
  | some (.mu k) => match S.mo[k]? with
    | some (.ob (.ls xs)) => .ok (.lst xs) { S with mo := S.mo.set k (.fz (.lst xs)) }
    | some (.fz d) => .ok d S
    | _ => .no
  | _ => .no
section
variable {X : Cx} {W : WX} {a b c e : Expr} {pos : Pos}
theorem de_var {i : Nat} (h : PE X e (tVar i)) : PE X e (tD X.K W (varE i)) := monoE h fun σ H Q q => by
  obtain ⟨B, F, as, S, r, o⟩ := q
  unfold varE at o
  cases hs : S.sl[i]? with
  | none => rw [hs] at o; exact o.elim
  | some s =>
    rw [hs] at o
    cases s with
    | no => exact o.elim
    | im d =>
      obtain ⟨ov, hv, z⟩ := pairedGet r.sl hs
      cases ov with
      | none => exact z.elim
      | some v => exact ⟨v, hv, Out.now o r v z⟩
    | mu k =>
      obtain ⟨ov, hv, z⟩ := pairedGet r.sl hs
      cases ov with
      | none => exact z.elim
      | some v =>
        obtain ⟨x, hx, rfl⟩ := z
        refine ⟨_, hv, ?_⟩
        dsimp only at o
        cases hm : S.mo[k]? with
        | none => rw [hm] at o; exact o.elim
        | some m =>
          rw [hm] at o
          cases m with
          | ob c =>
           cases c with
           | dc kvs => exact o.elim
           | io _ _ _ => exact o.elim
           | ls xs =>
            obtain ⟨y, F1, hy, e1, r1, q1⟩ := r.freeze hm
            rw [hx] at hy
            cases hy
            exact o F1 H as e1 r1 _ q1
          | fz d =>
            obtain ⟨y, hy, _, q1⟩ := pairedGet r.mo hm
            rw [hx] at hy
            cases hy
            exact Out.now o r _ q1
theorem de_c {v : V} {d : Dt} (h : PE X e (tC v)) (hd : ∀ F, Rp X.K F v d) : PE X e (tD X.K W (cE d)) := monoE h fun σ H Q q => by
  obtain ⟨B, F, as, S, r, o⟩ := q
  exact Out.now o r v (hd F)
theorem de_int {i j} : PE X (.Constant (.int i) j pos) (tD X.K W (cE (.int i))) := de_c pe_int fun _ => .int i
theorem de_bl {i j} : PE X (.Constant (.bool i) j pos) (tD X.K W (cE (.bl i))) := de_c pe_bl fun _ => .bl i
theorem de_non {j} : PE X (.Constant .none j pos) (tD X.K W (cE .non)) := de_c pe_non fun _ => .non
theorem de_str {x j} : PE X (.Constant (.str x) j pos) (tD X.K W (cE (.str x))) := de_c pe_str fun _ => .str x

def op2 (f g : Ms → R Dt) (h : Dt → Dt → Option Dt) : Ms → R Dt := fun S => (f S).bind fun d S1 => (g S1).bind fun e S2 => R.of (h d e) S2
def RulD (K : PySem.W.Frag) (r : R2) (h : Dt → Dt → Option Dt) : Prop := ∀ F H v w d e z Q, Ex F H → Rp K F v d → Rp K F w e → h d e = some z → Gv K F H z Q → r v w H Q
theorem dt_op {r : R2} {f g : Ms → R Dt} {h : Dt → Dt → Option Dt} {K : PySem.W.Frag} (hr : RulD K r h) (σ : L2.St) (H : Hp) (Q : VK) (q : tD K W (op2 f g h) σ H Q) : tOp r (tD K W f) (tD K W g) σ H Q := by
  obtain ⟨B, F, as, S, r0, o⟩ := q
  refine ⟨B, F, as, S, r0, Out.mono (Out.bind o) fun d F1 H1 as1 S1 ⟨r1, e1, o1⟩ v hv => ?_⟩
  refine ⟨B, F1, as1, S1, r1, ?_⟩
  have o2 := Out.bind o1
  revert o2
  cases g S1 with
  | ok e S2 =>
    intro o2 F2 H2 as2 e2 r2 w hw
    obtain ⟨_, _, o3⟩ := o2 F2 H2 as2 e2 r2
    cases hz : h d e with
    | none => rw [hz] at o3; exact o3.elim
    | some z =>
      rw [hz] at o3
      exact hr F2 H2 v w d e z Q r2.fh (hv.up e2.1) hw hz (gv_of o3 r2)
  | er x S2 => exact fun o2 => o2
  | no => exact fun o2 => o2
theorem de_op {op : Operator} {r : R2} {f g : Ms → R Dt} {h : Dt → Dt → Option Dt} (ho : OpR X (binaryOp op) r) (hr : RulD X.K r h) (ha : PE X a (tD X.K W f)) (hb : PE X b (tD X.K W g)) : PE X (.BinOp a op b pos) (tD X.K W (op2 f g h)) :=
  monoE (pe_op ho ha hb) (dt_op hr)
theorem de_cmp {op : CmpOp} {r : R2} {f g : Ms → R Dt} {h : Dt → Dt → Option Dt} (ho : OpR X (compareOp op) r) (hr : RulD X.K r h) (ha : PE X a (tD X.K W f)) (hb : PE X b (tD X.K W g)) (hm : behindInMarks op b = false) : PE X (.Compare a [op] [b] pos) (tD X.K W (op2 f g h)) :=
  monoE (pe_cmpR ho ha hb hm) (dt_op hr)
theorem de_ix {r : R2} {f g : Ms → R Dt} {h : Dt → Dt → Option Dt} (ho : IxR X r) (hr : RulD X.K r h) (ha : PE X a (tD X.K W f)) (hb : PE X b (tD X.K W g)) (hs : PlainIx b) : PE X (.Subscript a b pos) (tD X.K W (op2 f g h)) :=
  monoE (pe_ix ho ha hb hs) (dt_op hr)
def op1 (f : Ms → R Dt) (h : Dt → Option Dt) : Ms → R Dt := fun S => (f S).bind fun d S1 => R.of (h d) S1
theorem de_un {op : UnaryOp} {r : V → Hp → VK → Prop} {f : Ms → R Dt} {h : Dt → Option Dt} (ho : UnR X (unaryOp op) r) (hr : ∀ F H v d z Q, Ex F H → Rp X.K F v d → h d = some z → Gv X.K F H z Q → r v H Q) (ha : PE X a (tD X.K W f)) :
    PE X (.UnaryOp op a pos) (tD X.K W (op1 f h)) := monoE (pe_un ho ha) fun σ H Q q => by
  obtain ⟨B, F, as, S, r0, o⟩ := q
  refine ⟨B, F, as, S, r0, Out.mono (Out.bind o) fun d F1 H1 as1 S1 ⟨r1, e1, o1⟩ v hv => ?_⟩
  cases hz : h d with
  | none => rw [hz] at o1; exact o1.elim
  | some z =>
    rw [hz] at o1
    exact hr F1 H1 v d z Q r1.fh hv hz (gv_of o1 r1)
def opN (f g : Ms → R Dt) (h : Dt → Dt → Option (List Dt)) : Ms → R (List Dt) := fun S => (f S).bind fun d S1 => (g S1).bind fun e S2 => R.of (h d e) S2
def RulN (K : PySem.W.Frag) (r : R2) (h : Dt → Dt → Option (List Dt)) : Prop := ∀ F H v w d e z Q, Ex F H → Rp K F v d → Rp K F w e → h d e = some z → GvL K F H z Q → r v w H Q
theorem dn_op {op : Operator} {r : R2} {f g : Ms → R Dt} {h : Dt → Dt → Option (List Dt)} (ho : OpR X (binaryOp op) r) (hr : RulN X.K r h) (ha : PE X a (tD X.K W f)) (hb : PE X b (tD X.K W g)) : PE X (.BinOp a op b pos) (tN X.K W (opN f g h)) :=
  monoE (pe_op ho ha hb) fun σ H Q q => by
    obtain ⟨B, F, as, S, r0, o⟩ := q
    refine ⟨B, F, as, S, r0, Out.mono (Out.bind o) fun d F1 H1 as1 S1 ⟨r1, e1, o1⟩ v hv => ?_⟩
    refine ⟨B, F1, as1, S1, r1, ?_⟩
    have o2 := Out.bind o1
    revert o2
    cases g S1 with
    | ok e S2 =>
      intro o2 F2 H2 as2 e2 r2 w hw
      obtain ⟨_, _, o3⟩ := o2 F2 H2 as2 e2 r2
      cases hz : h d e with
      | none => rw [hz] at o3; exact o3.elim
      | some z =>
        rw [hz] at o3
        exact hr F2 H2 v w d e z Q r2.fh (hv.up e2.1) hw hz (gvl_of o3 r2)
    | er x S2 => exact fun o2 => o2
    | no => exact fun o2 => o2

def iOp (g : Int → Int → Int) : Dt → Dt → Option Dt | .int i, .int j => some (.int (g i j)) | _, _ => none
theorem rd_I0 {K : PySem.W.Frag} {g : Int → Int → Int} : RulD K (rI0 fun i j => .int (g i j)) (iOp g) := fun F H v w d e z Q _ hv hw hz q => by
  cases d <;> cases e <;> simp only [iOp] at hz <;> cases hz
  cases hv; cases hw
  exact ⟨_, _, rfl, rfl, q.1 _ (.int _)⟩
def iOpC (C : Int → Int → Prop) [∀ i j, Decidable (C i j)] (g : Int → Int → Int) : Dt → Dt → Option Dt | .int i, .int j => if C i j then some (.int (g i j)) else none | _, _ => none
theorem rd_I {K : PySem.W.Frag} {C : Int → Int → Prop} [∀ i j, Decidable (C i j)] {g : Int → Int → Int} : RulD K (rI C fun i j => .int (g i j)) (iOpC C g) := fun F H v w d e z Q _ hv hw hz q => by
  cases d <;> cases e <;> simp only [iOpC] at hz <;> try cases hz
  split at hz
  · cases hz
    cases hv; cases hw
    exact ⟨_, _, rfl, rfl, by assumption, q.1 _ (.int _)⟩
  · cases hz
def iCmp (g : Int → Int → Bool) : Dt → Dt → Option Dt | .int i, .int j => some (.bl (g i j)) | _, _ => none
theorem rd_C {K : PySem.W.Frag} {g : Int → Int → Bool} : RulD K (rI0 fun i j => .bl (g i j)) (iCmp g) := fun F H v w d e z Q _ hv hw hz q => by
  cases d <;> cases e <;> simp only [iCmp] at hz <;> cases hz
  cases hv; cases hw
  exact ⟨_, _, rfl, rfl, q.1 _ (.bl _)⟩
instance : ∀ i j, Decidable (CMul i j) := fun i j => by unfold CMul; infer_instance
instance : ∀ i j, Decidable (CDiv i j) := fun i j => by unfold CDiv; infer_instance
abbrev addO := iOp fun i j => i + j
abbrev subO := iOp fun i j => i - j
abbrev mulO := iOpC CMul fun i j => i * j
abbrev modO := iOpC (fun _ j => 0 < j) fun i j => i % j
abbrev divO := iOpC CDiv fun i j => i / j
abbrev ltO := iCmp fun i j => decide (i < j)
abbrev leO := iCmp fun i j => decide (i ≤ j)
abbrev gtO := iCmp fun i j => decide (j < i)
section
variable {f g : Ms → R Dt}
theorem de_add (ha : PE X a (tD X.K W f)) (hb : PE X b (tD X.K W g)) : PE X (.BinOp a .Add b pos) (tD X.K W (op2 f g addO)) := de_op op_add rd_I0 ha hb
theorem de_sub (ha : PE X a (tD X.K W f)) (hb : PE X b (tD X.K W g)) : PE X (.BinOp a .Sub b pos) (tD X.K W (op2 f g subO)) := de_op op_sub rd_I0 ha hb
theorem de_mul (ha : PE X a (tD X.K W f)) (hb : PE X b (tD X.K W g)) : PE X (.BinOp a .Mult b pos) (tD X.K W (op2 f g mulO)) := de_op op_mul rd_I ha hb
theorem de_mod (ha : PE X a (tD X.K W f)) (hb : PE X b (tD X.K W g)) : PE X (.BinOp a .Mod b pos) (tD X.K W (op2 f g modO)) := de_op op_mod rd_I ha hb
theorem de_div (ha : PE X a (tD X.K W f)) (hb : PE X b (tD X.K W g)) : PE X (.BinOp a .FloorDiv b pos) (tD X.K W (op2 f g divO)) := de_op op_fdiv rd_I ha hb
theorem de_gt (ha : PE X a (tD X.K W f)) (hb : PE X b (tD X.K W g)) : PE X (.Compare a [.Gt] [b] pos) (tD X.K W (op2 f g gtO)) := de_cmp op_gt rd_C ha hb (nomark _)
def negO : Dt → Option Dt | .int i => some (.int (-i)) | _ => none
theorem de_neg (ha : PE X a (tD X.K W f)) : PE X (.UnaryOp .USub a pos) (tD X.K W (op1 f negO)) := de_un un_neg (fun F H v d z Q _ hv hz q => by
  cases d <;> simp only [negO] at hz <;> cases hz
  cases hv
  exact ⟨_, rfl, q.1 _ (.int _)⟩) ha

mutual
def toPy : Dt → PyData
  | .non => .none | .bl b => .bool b | .int i => .int i | .str x => .str x | .lst xs => .list (toPys xs) | .tup xs => .tuple (toPys xs) | .obj _ _ _ => .none | .scr _ _ => .none
def toPys : List Dt → List PyData
  | [] => [] | d :: ds => toPy d :: toPys ds
end
mutual
def plain : Dt → Bool
  | .lst xs => plains xs | .tup xs => plains xs | .obj _ _ _ => false | .scr _ _ => false | _ => true
def plains : List Dt → Bool
  | [] => true | d :: ds => plain d && plains ds
end
mutual
theorem Rp.dp {K : PySem.W.Frag} {F : Hp} : ∀ (d : Dt) (v : V), plain d = true → Rp K F v d → Dp K F v (toPy d)
  | .non, _, _, h => by cases h; exact .non
  | .bl b, _, _, h => by cases h; exact .bl _
  | .int i, _, _, h => by cases h; exact .int _
  | .str x, _, _, h => by cases h; exact .str _
  | .lst ds, _, p, h => by
    cases h with
    | lst hs ha => rw [toPy]; exact .lst (Evl.sq_of hs) (RpA.dp ds _ (by simpa [plain] using p) ha)
  | .tup ds, _, p, h => by
    cases h with
    | tup hs ha => rw [toPy]; exact .tup hs.sq (RpA.dp ds _ (by simpa [plain] using p) ha)
  | .obj C ks ds, _, p, h => by simp [plain] at p
  | .scr t ds, _, p, h => by simp [plain] at p
theorem RpA.dp {K : PySem.W.Frag} {F : Hp} : ∀ (ds : List Dt) (vs : List V), plains ds = true → RpA K F vs ds → DpAll K F vs (toPys ds)
  | [], _, _, h => by cases h; rw [toPys]; exact .nil
  | d :: ds, _, p, h => by
    cases h with
    | cons h1 h2 =>
      rw [plains, Bool.and_eq_true] at p
      rw [toPys]
      exact .cons (Rp.dp d _ p.1 h1) (RpA.dp ds _ p.2 h2)
end
def shp (d : Dt) : Bool := plain d && SeqAt.shaped (toPy d)
def eqO (d e : Dt) : Option Dt := if shp d && shp e then some (.bl (PyData.eqv (toPy d) (toPy e))) else none
def neO (d e : Dt) : Option Dt := if shp d && shp e then some (.bl (!PyData.eqv (toPy d) (toPy e))) else none
theorem Dp.up {K : PySem.W.Frag} {F H : Hp} (e : Ex F H) {v : V} {d : Dt} (p : plain d = true) (h : Rp K F v d) : Dp K H v (toPy d) := Rp.dp d v p (h.up e)
theorem de_eq (hu : X.A.units + 64 < cLine) (ha : PE X a (tD X.K W f)) (hb : PE X b (tD X.K W g)) : PE X (.Compare a [.Eq] [b] pos) (tD X.K W (op2 f g eqO)) := de_cmp (op_eqD hu) (fun F H v w d e z Q ex hv hw hz q => by
  unfold eqO at hz
  split at hz
  · rename_i h
    simp only [Bool.and_eq_true, shp] at h
    cases hz
    exact ⟨_, _, Dp.up ex h.1.1 hv, Dp.up ex h.2.1 hw, h.1.2, h.2.2, q.1 _ (.bl _)⟩
  · cases hz) ha hb (nomark _)
def bCmp (g : Bool → Bool → Bool) : Dt → Dt → Option Dt | .bl i, .bl j => some (.bl (g i j)) | _, _ => none
theorem de_isB (ha : PE X a (tD X.K W f)) (hb : PE X b (tD X.K W g)) : PE X (.Compare a [.Is] [b] pos) (tD X.K W (op2 f g (bCmp fun i j => decide (i = j)))) := de_cmp op_isBl (fun F H v w d e z Q ex hv hw hz q => by
  cases d <;> cases e <;> simp only [bCmp] at hz <;> cases hz
  cases hv; cases hw
  exact ⟨_, _, rfl, rfl, q.1 _ (.bl _)⟩) ha hb (nomark _)
def ixO : Dt → Dt → Option Dt | .lst xs, .int i => atI xs i | .tup xs, .int i => atI xs i | .scr _ xs, .int i => atI xs i | _, _ => none
theorem atI_get' {α : Type} {xs : List α} {i : Int} {z : α} (h : atI xs i = some z) : ∃ j, ixN xs.length i = some j ∧ xs[j]? = some z := by
  unfold atI at h
  cases e : ixN xs.length i with
  | none => rw [e] at h; cases h
  | some j => rw [e] at h; exact ⟨j, rfl, h⟩
theorem atI_rp {K : PySem.W.Frag} {F : Hp} {vs : List V} {ds : List Dt} {i : Int} {z : Dt} (hv : RpA K F vs ds) (h : atI ds i = some z) : ∃ v, atI vs i = some v ∧ Rp K F v z := by
  obtain ⟨j, h1, h2⟩ := atI_get' h
  obtain ⟨v, h3, h4⟩ := hv.get h2
  refine ⟨v, ?_, h4⟩
  unfold atI
  rw [hv.length, h1]
  exact h3
theorem rd_ix {K : PySem.W.Frag} : RulD K (rIx K) ixO := fun F H v w d e z Q ex hv hw hz q => by
  cases d <;> cases e <;> simp only [ixO] at hz <;> try cases hz
  · cases hw
    cases hv with
    | lst hs ha =>
      obtain ⟨u, h1, h2⟩ := atI_rp ha hz
      exact .inl ⟨_, _, _, u, rfl, rfl, Evl.ex_l ex (Evl.sq_of hs), h1, q.1 _ h2⟩
  · cases hw
    cases hv with
    | tup hs ha =>
      obtain ⟨u, h1, h2⟩ := atI_rp ha hz
      exact .inr (.inl ⟨_, _, _, u, rfl, rfl, Evl.ex_t ex hs.sq, h1, q.1 _ h2⟩)
  · cases hw
    rename_i t xs i
    cases hv with
    | scr _ hs ha =>
      obtain ⟨u, h1, h2⟩ := atI_rp ha hz
      have hs' := hs.up ex
      unfold SqB at hs'
      cases t with
      | true => exact .inr (.inl ⟨_, _, _, u, rfl, rfl, hs', h1, q.1 _ h2⟩)
      | false => exact .inl ⟨_, _, _, u, rfl, rfl, hs', h1, q.1 _ h2⟩
theorem de_sub1 (ha : PE X a (tD X.K W f)) (hb : PE X b (tD X.K W g)) (hs : PlainIx b := by exact fun _ _ => rfl) : PE X (.Subscript a b pos) (tD X.K W (op2 f g ixO)) := de_ix ix_seq rd_ix ha hb hs
end
end
end Lq

namespace Lq
open PySem PySem.Spec PyProof.Rows L2
open Evl (Ex)
theorem monoW {X : Cx} {e : Expr} {t t' : TT} (h : PW X e t) (m : ∀ σ H Q, t' σ H Q → t σ H Q) : PW X e t' := ⟨fun wh pins s σ H Q I q => h.run wh pins s σ H Q I (m σ H Q q)⟩
section
variable {X : Cx} {W : WX} {a b c e : Expr} {pos : Pos} {f g : Ms → R Dt} {p q : Ms → R Bool}

def tst (f : Ms → R Dt) : Ms → R Bool := fun S => (f S).bind fun d S1 => match d with | .bl b => .ok b S1 | _ => .no
theorem tst_run {K : PySem.W.Frag} {σ : L2.St} {H : Hp} {Q : Bool → Hp → Prop} (h : tT K W (tst f) σ H Q) : tD K W f σ H fun x H' => ∃ k, x = .bl k ∧ Q k H' := by
  obtain ⟨B, F, as, S, r, o⟩ := h
  refine ⟨B, F, as, S, r, Out.mono (Out.bind o) fun d F1 H1 as1 S1 ⟨r1, e1, o1⟩ v hv => ?_⟩
  cases d with
  | bl b => cases hv; exact ⟨b, rfl, Out.now o1 r1⟩
  | _ => exact o1.elim
theorem dt_cmp {op : CmpOp} {r : R2} {h : Dt → Dt → Option Dt} (ho : OpR X (compareOp op) r) (hr : RulD X.K r h) (ha : PE X a (tD X.K W f)) (hb : PE X b (tD X.K W g)) (hm : behindInMarks op b = false) : PT X (.Compare a [op] [b] pos) (tT X.K W (tst (op2 f g h))) :=
  monoT (pt_cmpR ho ha hb hm) fun σ H Q q => dt_op hr σ H _ (tst_run q)
theorem dt_lt (ha : PE X a (tD X.K W f)) (hb : PE X b (tD X.K W g)) : PT X (.Compare a [.Lt] [b] pos) (tT X.K W (tst (op2 f g ltO))) := dt_cmp op_lt rd_C ha hb (nomark _)
theorem dt_gt (ha : PE X a (tD X.K W f)) (hb : PE X b (tD X.K W g)) : PT X (.Compare a [.Gt] [b] pos) (tT X.K W (tst (op2 f g gtO))) := dt_cmp op_gt rd_C ha hb (nomark _)
theorem rd_eq {K : PySem.W.Frag} : RulD K (rEqD K) eqO := fun F H v w d e z Q ex hv hw hz q => by
  unfold eqO at hz
  split at hz
  · rename_i h
    simp only [Bool.and_eq_true, shp] at h
    cases hz
    exact ⟨_, _, Dp.up ex h.1.1 hv, Dp.up ex h.2.1 hw, h.1.2, h.2.2, q.1 _ (.bl _)⟩
  · cases hz
theorem rd_ne {K : PySem.W.Frag} : RulD K (rNeD K) neO := fun F H v w d e z Q ex hv hw hz q => by
  unfold neO at hz
  split at hz
  · rename_i h
    simp only [Bool.and_eq_true, shp] at h
    cases hz
    exact ⟨_, _, Dp.up ex h.1.1 hv, Dp.up ex h.2.1 hw, h.1.2, h.2.2, q.1 _ (.bl _)⟩
  · cases hz
theorem dt_eq (hu : X.A.units + 64 < cLine) (ha : PE X a (tD X.K W f)) (hb : PE X b (tD X.K W g)) : PT X (.Compare a [.Eq] [b] pos) (tT X.K W (tst (op2 f g eqO))) := dt_cmp (op_eqD hu) rd_eq ha hb (nomark _)
theorem dt_ne (hu : X.A.units + 64 < cLine) (ha : PE X a (tD X.K W f)) (hb : PE X b (tD X.K W g)) : PT X (.Compare a [.NotEq] [b] pos) (tT X.K W (tst (op2 f g neO))) := dt_cmp (op_neD hu) rd_ne ha hb (nomark _)
theorem rd_notB {K : PySem.W.Frag} : RulD K rNotB (bCmp fun i j => !decide (i = j)) := fun F H v w d e z Q ex hv hw hz q => by
  cases d <;> cases e <;> simp only [bCmp] at hz <;> cases hz
  cases hv; cases hw
  exact ⟨_, _, rfl, rfl, q.1 _ (.bl _)⟩
theorem dt_notB (ha : PE X a (tD X.K W f)) (hb : PE X b (tD X.K W g)) : PT X (.Compare a [.IsNot] [b] pos) (tT X.K W (tst (op2 f g (bCmp fun i j => !decide (i = j))))) := dt_cmp op_notBl rd_notB ha hb (nomark _)
def intsOf : List Dt → Option (List Int)
  | [] => some [] | .int i :: ds => (intsOf ds).map (i :: ·) | _ => none
theorem intsOf_map (ns : List Int) : intsOf (ns.map Dt.int) = some ns := by
  induction ns with
  | nil => rfl
  | cons n ns ih => simp [intsOf, ih]
theorem intsOf_eq : ∀ {ds : List Dt} {ns : List Int}, intsOf ds = some ns → ds = ns.map Dt.int
  | [], ns, h => by simp [intsOf] at h; subst h; rfl
  | d :: ds, ns, h => by
    cases d <;> simp only [intsOf] at h <;> try cases h
    cases hh : intsOf ds with
    | none => rw [hh] at h; cases h
    | some ms =>
      rw [hh] at h
      cases h
      rw [intsOf_eq hh]; rfl
def seqOf : Dt → Option (List Dt) | .lst xs => some xs | .tup xs => some xs | .scr _ xs => some xs | _ => none
def inI (neg : Bool) : Dt → Dt → Option Dt
  | .int i, d => (seqOf d).bind fun xs => (intsOf xs).map fun ns => .bl (if neg then !ns.contains i else ns.contains i)
  | _, _ => none
theorem inV_ints (i : Int) : ∀ ns : List Int, inV (.int i) (ns.map V.int) = ns.contains i
  | [] => rfl
  | n :: ns => by
    have ih := inV_ints i ns
    unfold inV at ih ⊢
    rw [List.map_cons, List.any_cons, ih, List.contains_cons]
    congr 1
    show (n == i) = (i == n)
    rw [Bool.beq_comm]
theorem flat_ints : ∀ ns : List Int, (ns.map V.int).all flatV = true
  | [] => rfl
  | n :: ns => by rw [List.map_cons, List.all_cons, flat_ints ns]; rfl
theorem rd_in {K : PySem.W.Frag} {neg : Bool} : RulD K (rIn K neg) (inI neg) := fun F H v w d e z Q ex hv hw hz q => by
  cases d <;> simp only [inI] at hz <;> try cases hz
  rename_i i
  cases hs : seqOf e with
  | none => rw [hs] at hz; cases hz
  | some xs =>
    rw [hs] at hz
    dsimp only [Option.bind] at hz
    cases hn : intsOf xs with
    | none => rw [hn] at hz; cases hz
    | some ns =>
      rw [hn] at hz
      cases hz
      cases hv
      have ex1 := intsOf_eq hn
      subst ex1
      cases e <;> simp only [seqOf] at hs <;> cases hs
      · cases hw with
        | lst hs ha =>
          rw [ha.intsv] at hs
          refine ⟨_, _, rfl, .inl (Evl.ex_l ex (Evl.sq_of hs)), rfl, flat_ints _, ?_⟩
          rw [inV_ints]
          exact q.1 _ (.bl _)
      · cases hw with
        | tup hs ha =>
          rw [ha.intsv] at hs
          refine ⟨_, _, rfl, .inr (Evl.ex_t ex hs.sq), rfl, flat_ints _, ?_⟩
          rw [inV_ints]
          exact q.1 _ (.bl _)
      · rename_i t
        cases hw with
        | scr _ hs ha =>
          rw [ha.intsv] at hs
          have hs' := hs.up ex
          unfold SqB at hs'
          cases t with
          | true =>
            refine ⟨_, _, rfl, .inr hs', rfl, flat_ints _, ?_⟩
            rw [inV_ints]
            exact q.1 _ (.bl _)
          | false =>
            refine ⟨_, _, rfl, .inl hs', rfl, flat_ints _, ?_⟩
            rw [inV_ints]
            exact q.1 _ (.bl _)
theorem dt_nin (ha : PE X a (tD X.K W f)) (hb : PE X b (tD X.K W g)) (hm : behindInMarks .NotIn b = false := by rfl) : PT X (.Compare a [.NotIn] [b] pos) (tT X.K W (tst (op2 f g (inI true)))) := dt_cmp op_notIn_seq rd_in ha hb hm
theorem de_in (ha : PE X a (tD X.K W f)) (hb : PE X b (tD X.K W g)) (hm : behindInMarks .In b = false := by rfl) : PE X (.Compare a [.In] [b] pos) (tD X.K W (op2 f g (inI false))) := de_cmp op_in_seq rd_in ha hb hm
def inD (neg : Bool) : Dt → Dt → Option Dt
  | d, .lst xs => if shp d && shp (.lst xs) then some (.bl (let k := (toPys xs).any fun z => PyData.eqv z (toPy d); if neg then !k else k)) else none
  | _, _ => none
theorem dt_ninD (hu : X.A.units + 65 < cLine) (ha : PE X a (tD X.K W f)) (hb : PE X b (tD X.K W g)) (hm : behindInMarks .NotIn b = false := by rfl) : PT X (.Compare a [.NotIn] [b] pos) (tT X.K W (tst (op2 f g (inD true)))) :=
  dt_cmp (op_notInD hu) (fun F H v w d e z Q ex hv hw hz q => by
    cases e <;> simp only [inD] at hz <;> try cases hz
    split at hz
    · rename_i h
      simp only [Bool.and_eq_true, shp] at h
      cases hz
      have h2 := Dp.up ex h.2.1 hw
      rw [toPy] at h2
      have h3 := h.2.2
      rw [toPy] at h3
      exact ⟨_, _, Dp.up ex h.1.1 hv, h2, h.1.2, h3, q.1 _ (.bl _)⟩
    · cases hz) ha hb hm
def notT (p : Ms → R Bool) : Ms → R Bool := fun S => (p S).bind fun b S1 => .ok (!b) S1
def andT (p q : Ms → R Bool) : Ms → R Bool := fun S => (p S).bind fun b S1 => if b then q S1 else .ok false S1
def orT (p q : Ms → R Bool) : Ms → R Bool := fun S => (p S).bind fun b S1 => if b then .ok true S1 else q S1
theorem dt_not (ha : PT X a (tT X.K W p)) : PT X (.UnaryOp .Not a pos) (tT X.K W (notT p)) := monoT (pt_not ha) fun σ H Q q => by
  obtain ⟨B, F, as, S, r, o⟩ := q
  exact ⟨B, F, as, S, r, Out.mono (Out.bind o) fun d F1 H1 as1 S1 ⟨r1, e1, o1⟩ => Out.now o1 r1⟩
theorem and_run {K : PySem.W.Frag} {σ : L2.St} {H : Hp} {Q : Bool → Hp → Prop} (h : tT K W (andT p q) σ H Q) : tAnd (tT K W p) (tT K W q) σ H Q := by
  obtain ⟨B, F, as, S, r, o⟩ := h
  refine ⟨B, F, as, S, r, Out.mono (Out.bind o) fun b F1 H1 as1 S1 ⟨r1, e1, o1⟩ => ?_⟩
  cases b with
  | true => exact ⟨B, F1, as1, S1, r1, o1⟩
  | false => exact Out.now o1 r1
theorem or_run {K : PySem.W.Frag} {σ : L2.St} {H : Hp} {Q : Bool → Hp → Prop} (h : tT K W (orT p q) σ H Q) : tOr (tT K W p) (tT K W q) σ H Q := by
  obtain ⟨B, F, as, S, r, o⟩ := h
  refine ⟨B, F, as, S, r, Out.mono (Out.bind o) fun b F1 H1 as1 S1 ⟨r1, e1, o1⟩ => ?_⟩
  cases b with
  | true => exact Out.now o1 r1
  | false => exact ⟨B, F1, as1, S1, r1, o1⟩
theorem dw_and1 (ha : PT X a (tT X.K W p)) : PW X (.BoolOp .And [a] pos) (tT X.K W p) := pw_and1 ha
theorem dw_or1 (ha : PT X a (tT X.K W p)) : PW X (.BoolOp .Or [a] pos) (tT X.K W p) := pw_or1 ha
theorem dw_and {rest : List Expr} (ha : PT X a (tT X.K W p)) (hb : PW X (.BoolOp .And (b :: rest) pos) (tT X.K W q)) : PW X (.BoolOp .And (a :: b :: rest) pos) (tT X.K W (andT p q)) := monoW (pw_and ha hb) fun σ H Q h => and_run h
theorem dw_or {rest : List Expr} (ha : PT X a (tT X.K W p)) (hb : PW X (.BoolOp .Or (b :: rest) pos) (tT X.K W q)) : PW X (.BoolOp .Or (a :: b :: rest) pos) (tT X.K W (orT p q)) := monoW (pw_or ha hb) fun σ H Q h => or_run h
def andV (f g : Ms → R Dt) : Ms → R Dt := fun S => (f S).bind fun d S1 => match d with | .bl true => g S1 | .bl false => .ok (.bl false) S1 | _ => .no
def orV (f g : Ms → R Dt) : Ms → R Dt := fun S => (f S).bind fun d S1 => match d with | .bl false => g S1 | .bl true => .ok (.bl true) S1 | _ => .no
theorem de_one {op} (h : PE X a (tD X.K W f)) : PE X (.BoolOp op [a] pos) (tD X.K W f) := pe_one h
theorem de_and {rest : List Expr} (ha : PE X a (tD X.K W f)) (hb : PE X (.BoolOp .And (b :: rest) pos) (tD X.K W g)) : PE X (.BoolOp .And (a :: b :: rest) pos) (tD X.K W (andV f g)) := monoE (pe_and ha hb) fun σ H Q q => by
  obtain ⟨B, F, as, S, r, o⟩ := q
  refine ⟨B, F, as, S, r, Out.mono (Out.bind o) fun d F1 H1 as1 S1 ⟨r1, e1, o1⟩ v hv => ?_⟩
  cases d with
  | bl b =>
    cases hv
    cases b with
    | true => exact ⟨true, rfl, B, F1, as1, S1, r1, o1⟩
    | false => exact ⟨false, rfl, Out.now o1 r1 _ (.bl false)⟩
  | _ => exact o1.elim
def notO : Dt → Option Dt | .bl b => some (.bl (!b)) | _ => none
theorem de_not (ha : PE X a (tD X.K W f)) : PE X (.UnaryOp .Not a pos) (tD X.K W (op1 f notO)) := monoE (pe_not ha) fun σ H Q q => by
  obtain ⟨B, F, as, S, r, o⟩ := q
  refine ⟨B, F, as, S, r, Out.mono (Out.bind o) fun d F1 H1 as1 S1 ⟨r1, e1, o1⟩ v hv => ?_⟩
  cases d with
  | bl b => cases hv; exact ⟨b, rfl, Out.now o1 r1 _ (.bl _)⟩
  | _ => exact o1.elim
def ifE (p : Ms → R Bool) (f g : Ms → R Dt) : Ms → R Dt := fun S => (p S).bind fun b S1 => if b then f S1 else g S1
theorem de_ifx (hp : PT X c (tT X.K W p)) (ha : PE X a (tD X.K W f)) (hb : PE X b (tD X.K W g)) : PE X (.IfExp c a b pos) (tD X.K W (ifE p f g)) := monoE (pe_ifExp hp ha hb) fun σ H Q q => by
  obtain ⟨B, F, as, S, r, o⟩ := q
  refine ⟨B, F, as, S, r, Out.mono (Out.bind o) fun b F1 H1 as1 S1 ⟨r1, e1, o1⟩ => ?_⟩
  cases b with
  | true => exact ⟨B, F1, as1, S1, r1, o1⟩
  | false => exact ⟨B, F1, as1, S1, r1, o1⟩
def truO : Dt → Option Bool | .non => some false | .bl b => some b | .int i => some (i != 0) | .lst xs => some (!xs.isEmpty) | .tup xs => some (!xs.isEmpty) | .str x => if x.length ≤ 100000 then some ((x.length : Int) != 0) else none | .obj _ _ _ => none | .scr _ _ => none
def truT (f : Ms → R Dt) : Ms → R Bool := fun S => (f S).bind fun d S1 => R.of (truO d) S1
theorem emp_rp {K : PySem.W.Frag} {F : Hp} {vs : List V} {ds : List Dt} (h : RpA K F vs ds) : vs.isEmpty = ds.isEmpty := by cases h <;> rfl
theorem dt_tru (ha : PE X a (tD X.K W f)) (he : ∀ whole, isTrue a X.env whole = (do let v ← whole; standAt a.pos; holding [v] (truthy v)) := by exact fun _ => rfl) : PT X a (tT X.K W (truT f)) := monoT (pt_truth ha he) fun σ H Q q => by
  obtain ⟨B, F, as, S, r, o⟩ := q
  refine ⟨B, F, as, S, r, Out.mono (Out.bind o) fun d F1 H1 as1 S1 ⟨r1, e1, o1⟩ v hv => ?_⟩
  cases ht : truO d with
  | none => rw [ht] at o1; exact o1.elim
  | some k =>
    rw [ht] at o1
    refine ⟨k, ?_, Out.now o1 r1⟩
    cases d <;> simp only [truO] at ht <;> try (cases ht; cases hv; rfl)
    · split at ht
      · rename_i hl
        cases ht; cases hv
        exact ⟨Nat.le_trans hl (by decide), rfl⟩
      · cases ht
    · cases ht
      cases hv with
      | lst hs ha => exact .inl ⟨_, Evl.ex_l r1.fh (Evl.sq_of hs), by rw [emp_rp ha]⟩
    · cases ht
      cases hv with
      | tup hs ha => exact .inr (.inl ⟨_, Evl.ex_t r1.fh hs.sq, by rw [emp_rp ha]⟩)
    · cases ht
    · cases ht
def chT (f g h : Ms → R Dt) (o o' : Dt → Dt → Option Dt) : Ms → R Dt := fun S => (f S).bind fun d S1 => (g S1).bind fun e S2 => (R.of (o d e) S2).bind fun k S3 => match k with
  | .bl true => (h S3).bind fun z S4 => R.of (o' e z) S4
  | .bl false => .ok (.bl false) S3
  | _ => .no
theorem ch_run {K : PySem.W.Frag} {r r' : R2} {o o' : Dt → Dt → Option Dt} {h : Ms → R Dt} (h1 : RulD K r o) (h2 : RulD K r' o') {σ : L2.St} {H : Hp} {Q : VK} (q : tD K W (chT f g h o o') σ H Q) : tChain r r' (tD K W f) (tD K W g) (tD K W h) σ H Q := by
  obtain ⟨B, F, as, S, r0, out⟩ := q
  refine ⟨B, F, as, S, r0, Out.mono (Out.bind out) fun d F1 H1 as1 S1 ⟨r1, e1, o1⟩ v hv => ?_⟩
  refine ⟨B, F1, as1, S1, r1, ?_⟩
  have q2 := Out.bind o1
  revert q2
  cases g S1 with
  | ok e S2 =>
    intro q2 F2 H2 as2 e2 r2 w hw
    obtain ⟨_, _, o3⟩ := q2 F2 H2 as2 e2 r2
    cases hz : o d e with
    | none => rw [hz] at o3; exact o3.elim
    | some k =>
      rw [hz] at o3
      have o3 : Out K W B F2 as2 σ (match k with | .bl true => (h S2).bind fun z S4 => R.of (o' e z) S4 | .bl false => .ok (.bl false) S2 | _ => .no) _ := o3
      refine h1 F2 H2 v w d e k _ r2.fh (hv.up e2.1) hw hz ⟨fun u hu => ?_, fun p ob hp hu => ?_⟩
      · cases k with
        | bl b =>
          cases hu
          refine ⟨b, rfl, ?_⟩
          cases b with
          | true =>
            show tD K W h σ H2 _
            refine ⟨B, F2, as2, S2, r2, ?_⟩
            have q3 := Out.bind o3
            revert q3
            cases h S2 with
            | ok z S3 =>
              intro q3 F3 H3 as3 e3 r3 x hx
              obtain ⟨_, _, o4⟩ := q3 F3 H3 as3 e3 r3
              cases hz2 : o' e z with
              | none => rw [hz2] at o4; exact o4.elim
              | some k2 =>
                rw [hz2] at o4
                exact h2 F3 H3 w x e z k2 Q r3.fh (hw.up e3.1) hx hz2 (gv_of o4 r3)
            | er y S3 => exact fun q3 => q3
            | no => exact fun q3 => q3
          | false => exact Out.now o3 r2 _ (.bl false)
        | _ => exact o3.elim
      · cases k with
        | bl b => cases hu
        | _ => exact o3.elim
  | er x S2 => exact fun q2 => q2
  | no => exact fun q2 => q2
theorem de_chain {op op' : CmpOp} {r r' : R2} {o o' : Dt → Dt → Option Dt} {h : Ms → R Dt} (ho : OpR X (compareOp op) r) (h1 : RulD X.K r o) (ho' : OpR X (compareOp op') r') (h2 : RulD X.K r' o') (ha : PE X a (tD X.K W f)) (hb : PE X b (tD X.K W g)) (hc : PE X c (tD X.K W h))
    (hm : lastMarks [op, op'] [b, c] = false := by with_unfolding_all rfl) : PE X (.Compare a [op, op'] [b, c] pos) (tD X.K W (chT f g h o o')) := monoE (pe_chain ho ho' ha hb hc hm) fun σ H Q q => ch_run h1 h2 q
end
end Lq

namespace Lq
open PySem PySem.Spec PyProof.Rows L2
open Evl (Ex)
section
variable {X : Cx} {W : WX} {a b c e : Expr} {es : List Expr} {pos : Pos} {f g : Ms → R Dt} {fs : Ms → R (List Dt)}

def aNil : Ms → R (List Dt) := fun S => .ok [] S
def aCons (f : Ms → R Dt) (fs : Ms → R (List Dt)) : Ms → R (List Dt) := fun S => (f S).bind fun d S1 => (fs S1).bind fun ds S2 => .ok (d :: ds) S2
theorem da_nil : PA X [] (tA X.K W aNil) := monoA pa_nil fun σ H Q q => by
  obtain ⟨B, F, as, S, r, o⟩ := q
  exact Out.now o r _ .nil
theorem da_cons (ha : PE X e (tD X.K W f)) (hr : PA X es (tA X.K W fs)) (hs : starEach (e :: es) X.env = (false, eval e X.env) :: starEach es X.env := by rfl) : PA X (e :: es) (tA X.K W (aCons f fs)) := monoA (pa_cons ha hr hs) fun σ H Q q => by
  obtain ⟨B, F, as, S, r, o⟩ := q
  refine ⟨B, F, as, S, r, Out.mono (Out.bind o) fun d F1 H1 as1 S1 ⟨r1, e1, o1⟩ v hv => ?_⟩
  refine ⟨B, F1, as1, S1, r1, ?_⟩
  have o2 := Out.bind o1
  revert o2
  cases fs S1 with
  | ok ds S2 =>
    intro o2 F2 H2 as2 e2 r2 vs hvs
    obtain ⟨_, _, o3⟩ := o2 F2 H2 as2 e2 r2
    exact Out.now o3 r2 _ (.cons (hv.up e2.1) hvs)
  | er x S2 => exact fun o2 => o2
  | no => exact fun o2 => o2
def tupE (fs : Ms → R (List Dt)) : Ms → R Dt := fun S => (fs S).bind fun ds S1 => if ds.length ≤ 100000 then .ok (.tup ds) S1 else .no
def lstE (fs : Ms → R (List Dt)) : Ms → R (List Dt) := fun S => (fs S).bind fun ds S1 => if ds.length ≤ 100000 then .ok ds S1 else .no
theorem de_tup {x1} (h : PA X es (tA X.K W fs)) : PE X (.Tuple es x1 pos) (tD X.K W (tupE fs)) := monoE (pe_tup h) fun σ H Q q => by
  obtain ⟨B, F, as, S, r, o⟩ := q
  refine ⟨B, F, as, S, r, Out.mono (Out.bind o) fun ds F1 H1 as1 S1 ⟨r1, e1, o1⟩ vs hv => ?_⟩
  split at o1
  · rename_i hl
    refine ⟨Evl.sz_of (by rw [hv.length]; exact hl), fun p hp => ?_⟩
    exact (gv_of o1 r1).2 p _ hp (.tup upd_same (hv.up (Ex.new (r1.fresh hp).1)))
  · exact o1.elim
theorem dn_lst (h : PA X es (tA X.K W fs)) : PE X (.List es pos) (tN X.K W (lstE fs)) := monoE (pe_lst h) fun σ H Q q => by
  obtain ⟨B, F, as, S, r, o⟩ := q
  refine ⟨B, F, as, S, r, Out.mono (Out.bind o) fun ds F1 H1 as1 S1 ⟨r1, e1, o1⟩ vs hv => ?_⟩
  split at o1
  · rename_i hl
    refine ⟨Evl.sz_of (by rw [hv.length]; exact hl), fun p hp => ?_⟩
    exact gvl_of o1 r1 p _ hp hv
  · exact o1.elim

def calE (fs : Ms → R (List Dt)) (h : List Dt → Option Dt) : Ms → R Dt := fun S => (fs S).bind fun ds S1 => R.of (h ds) S1
def calN (fs : Ms → R (List Dt)) (h : List Dt → Option (List Dt)) : Ms → R (List Dt) := fun S => (fs S).bind fun ds S1 => R.of (h ds) S1
def RulC (K : PySem.W.Frag) (r : List V → Hp → VK → Prop) (h : List Dt → Option Dt) : Prop := ∀ F H vs ds z Q, Ex F H → RpA K F vs ds → h ds = some z → Gv K F H z Q → r vs H Q
def RulCN (K : PySem.W.Frag) (r : List V → Hp → VK → Prop) (h : List Dt → Option (List Dt)) : Prop := ∀ F H vs ds z Q, Ex F H → RpA K F vs ds → h ds = some z → GvL K F H z Q → r vs H Q
theorem dt_cal {K : PySem.W.Frag} {r : List V → Hp → VK → Prop} {h : List Dt → Option Dt} (hr : RulC K r h) (σ : L2.St) (H : Hp) (Q : VK) (q : tD K W (calE fs h) σ H Q) : tCB r (tA K W fs) σ H Q := by
  obtain ⟨B, F, as, S, r0, o⟩ := q
  refine ⟨B, F, as, S, r0, Out.mono (Out.bind o) fun ds F1 H1 as1 S1 ⟨r1, e1, o1⟩ vs hv => ?_⟩
  cases hz : h ds with
  | none => rw [hz] at o1; exact o1.elim
  | some z =>
    rw [hz] at o1
    exact hr F1 H1 vs ds z Q r1.fh hv hz (gv_of o1 r1)
theorem dt_calN {K : PySem.W.Frag} {r : List V → Hp → VK → Prop} {h : List Dt → Option (List Dt)} (hr : RulCN K r h) (σ : L2.St) (H : Hp) (Q : VK) (q : tN K W (calN fs h) σ H Q) : tCB r (tA K W fs) σ H Q := by
  obtain ⟨B, F, as, S, r0, o⟩ := q
  refine ⟨B, F, as, S, r0, Out.mono (Out.bind o) fun ds F1 H1 as1 S1 ⟨r1, e1, o1⟩ vs hv => ?_⟩
  cases hz : h ds with
  | none => rw [hz] at o1; exact o1.elim
  | some z =>
    rw [hz] at o1
    exact hr F1 H1 vs ds z Q r1.fh hv hz (gvl_of o1 r1)
section
variable {x : Str} {p : Pos} {id T : String} {r : List V → Hp → VK → Prop} {h : List Dt → Option Dt} {hN : List Dt → Option (List Dt)}
theorem de_calB (hr : RulC X.K r h) (hc : CallR X (.builtin id) r) (hg : Gl X x) (hm : X.mg x = none) (hv : bootBuiltins x = some (.builtin id)) (ha : PA X (e :: es) (tA X.K W fs)) (hn : x ≠ "__name__" := by decide) (hdb : (x == ("__debug__" : Str)) = false := by decide)
    (he : starEach (e :: es) X.env = (false, eval e X.env) :: starEach es X.env := by rfl) (hpl : (backTo pos (starEach es X.env)).any (·.1) = false := by rfl) : PE X (.Call (.Name x p) (e :: es) [] pos) (tD X.K W (calE fs h)) :=
  monoE (pe_callB hc hg hm hv ha hn hdb he hpl) (dt_cal hr)
theorem de_calT (hr : RulC X.K r h) (hc : CallR X (.type T) r) (hg : Gl X x) (hm : X.mg x = none) (hv : bootBuiltins x = some (.type T)) (ha : PA X (e :: es) (tA X.K W fs)) (hn : x ≠ "__name__" := by decide) (hdb : (x == ("__debug__" : Str)) = false := by decide)
    (he : starEach (e :: es) X.env = (false, eval e X.env) :: starEach es X.env := by rfl) (hpl : (backTo pos (starEach es X.env)).any (·.1) = false := by rfl) : PE X (.Call (.Name x p) (e :: es) [] pos) (tD X.K W (calE fs h)) :=
  monoE (pe_callTy hc hg hm hv ha hn hdb he hpl) (dt_cal hr)
theorem dn_calT (hr : RulCN X.K r hN) (hc : CallR X (.type T) r) (hg : Gl X x) (hm : X.mg x = none) (hv : bootBuiltins x = some (.type T)) (ha : PA X (e :: es) (tA X.K W fs)) (hn : x ≠ "__name__" := by decide) (hdb : (x == ("__debug__" : Str)) = false := by decide)
    (he : starEach (e :: es) X.env = (false, eval e X.env) :: starEach es X.env := by rfl) (hpl : (backTo pos (starEach es X.env)).any (·.1) = false := by rfl) : PE X (.Call (.Name x p) (e :: es) [] pos) (tN X.K W (calN fs hN)) :=
  monoE (pe_callTy hc hg hm hv ha hn hdb he hpl) (dt_calN hr)
end
theorem rpa1 {K : PySem.W.Frag} {F : Hp} {vs : List V} {d : Dt} (h : RpA K F vs [d]) : ∃ v, vs = [v] ∧ Rp K F v d := by
  cases h with
  | cons h1 h2 => cases h2; exact ⟨_, rfl, h1⟩
theorem rpa2 {K : PySem.W.Frag} {F : Hp} {vs : List V} {d e : Dt} (h : RpA K F vs [d, e]) : ∃ v w, vs = [v, w] ∧ Rp K F v d ∧ Rp K F w e := by
  cases h with
  | cons h1 h2 =>
    obtain ⟨w, rfl, hw⟩ := rpa1 h2
    exact ⟨_, w, rfl, h1, hw⟩
def lenO : List Dt → Option Dt | [.lst xs] => some (.int xs.length) | [.tup xs] => some (.int xs.length) | [.scr _ xs] => some (.int xs.length) | _ => none
section
variable {p p2 pos2 : Pos}
theorem de_len (hg : Gl X "len") (hm : X.mg "len" = none) (ha : PE X a (tD X.K W f)) (hs : starEach [a] X.env = (false, eval a X.env) :: starEach [] X.env := by rfl) : PE X (.Call (.Name "len" p) [a] [] pos) (tD X.K W (calE (aCons f aNil) lenO)) :=
  de_calB (fun F H vs ds z Q ex hv hz q => by
    unfold lenO at hz
    split at hz <;> cases hz
    · obtain ⟨v, rfl, h1⟩ := rpa1 hv
      cases h1 with
      | lst hs ha =>
        refine ⟨_, _, rfl, .inl (Evl.ex_l ex (Evl.sq_of hs)), ?_⟩
        rw [ha.length]; exact q.1 _ (.int _)
    · obtain ⟨v, rfl, h1⟩ := rpa1 hv
      cases h1 with
      | tup hs ha =>
        refine ⟨_, _, rfl, .inr (Evl.ex_t ex hs.sq), ?_⟩
        rw [ha.length]; exact q.1 _ (.int _)
    · obtain ⟨v, rfl, h1⟩ := rpa1 hv
      rename_i t xs
      cases h1 with
      | scr _ hs ha =>
        have hs' := hs.up ex
        unfold SqB at hs'
        rw [← ha.length] at q
        cases t with
        | true => exact ⟨_, _, rfl, .inr hs', q.1 _ (.int _)⟩
        | false => exact ⟨_, _, rfl, .inl hs', q.1 _ (.int _)⟩) call_len_seq hg hm PySem.boot_len (da_cons ha da_nil hs) (by decide) (by decide) hs (by rfl)
def intO : List Dt → Option Dt | [.int i] => some (.int i) | [.bl b] => some (.int (if b then 1 else 0)) | _ => none
theorem de_intc (hg : Gl X "int") (hm : X.mg "int" = none) (ha : PE X a (tD X.K W f)) (hs : starEach [a] X.env = (false, eval a X.env) :: starEach [] X.env := by rfl) : PE X (.Call (.Name "int" p) [a] [] pos) (tD X.K W (calE (aCons f aNil) intO)) :=
  de_calT (fun F H vs ds z Q ex hv hz q => by
    unfold intO at hz
    split at hz <;> cases hz
    · obtain ⟨v, rfl, h1⟩ := rpa1 hv
      cases h1
      exact .inl ⟨_, rfl, q.1 _ (.int _)⟩
    · obtain ⟨v, rfl, h1⟩ := rpa1 hv
      cases h1
      exact .inr ⟨_, rfl, q.1 _ (.int _)⟩) call_int1 hg hm PyProof.Rows.boot_int (da_cons ha da_nil hs) (by decide) (by decide) hs (by rfl)
def absO : List Dt → Option Dt | [.int i] => some (.int (if i < 0 then -i else i)) | _ => none
theorem de_abs (hg : Gl X "abs") (hm : X.mg "abs" = none) (ha : PE X a (tD X.K W f)) (hs : starEach [a] X.env = (false, eval a X.env) :: starEach [] X.env := by rfl) : PE X (.Call (.Name "abs" p) [a] [] pos) (tD X.K W (calE (aCons f aNil) absO)) :=
  de_calB (fun F H vs ds z Q ex hv hz q => by
    unfold absO at hz
    split at hz <;> cases hz
    obtain ⟨v, rfl, h1⟩ := rpa1 hv
    cases h1
    exact ⟨_, rfl, q.1 _ (.int _)⟩) call_abs hg hm (by decide +kernel) (da_cons ha da_nil hs) (by decide) (by decide) hs (by rfl)
def tupO : List Dt → Option Dt | [.lst xs] => some (.tup xs) | [.tup xs] => some (.tup xs) | _ => none
theorem de_tupc (hg : Gl X "tuple") (hm : X.mg "tuple" = none) (ha : PE X a (tD X.K W f)) (hs : starEach [a] X.env = (false, eval a X.env) :: starEach [] X.env := by rfl) : PE X (.Call (.Name "tuple" p) [a] [] pos) (tD X.K W (calE (aCons f aNil) tupO)) :=
  de_calT (fun F H vs ds z Q ex hv hz q => by
    unfold tupO at hz
    split at hz <;> cases hz
    · obtain ⟨v, rfl, h1⟩ := rpa1 hv
      cases h1 with
      | lst hs ha =>
        refine ⟨_, _, rfl, .inl ⟨Evl.ex_l ex (Evl.sq_of hs), fun p hp => q.2 p _ hp ?_⟩⟩
        have hf : F p = none := by
          cases w : F p with
          | none => rfl
          | some o => rw [ex _ _ w] at hp; cases hp
        exact .tup upd_same (ha.up (Ex.new hf))
    · obtain ⟨v, rfl, h1⟩ := rpa1 hv
      cases h1 with
      | tup hs ha => exact ⟨_, _, rfl, .inr ⟨Evl.ex_t ex hs.sq, q.1 _ (.tup hs ha)⟩⟩) call_tuple_of hg hm (by decide +kernel) (da_cons ha da_nil hs) (by decide) (by decide) hs (by rfl)
def lstO : List Dt → Option (List Dt) | [.lst xs] => some xs | [.tup xs] => some xs | _ => none
theorem dn_list (hg : Gl X "list") (hm : X.mg "list" = none) (ha : PE X a (tD X.K W f)) (hs : starEach [a] X.env = (false, eval a X.env) :: starEach [] X.env := by rfl) : PE X (.Call (.Name "list" p) [a] [] pos) (tN X.K W (calN (aCons f aNil) lstO)) :=
  dn_calT (fun F H vs ds z Q ex hv hz q => by
    unfold lstO at hz
    split at hz <;> cases hz
    · obtain ⟨v, rfl, h1⟩ := rpa1 hv
      cases h1 with
      | lst hs ha => exact ⟨_, _, rfl, .inl (Evl.ex_l ex (Evl.sq_of hs)), fun p hp => q p _ hp ha⟩
    · obtain ⟨v, rfl, h1⟩ := rpa1 hv
      cases h1 with
      | tup hs ha => exact ⟨_, _, rfl, .inr (Evl.ex_t ex hs.sq), fun p hp => q p _ hp ha⟩) call_list_of hg hm (by decide +kernel) (da_cons ha da_nil hs) (by decide) (by decide) hs (by rfl)
def sumO : List Dt → Option Dt | [.lst xs] => (intsOf xs).map fun ns => .int ns.sum | _ => none
theorem de_sum (hcalm : X.calm = true) (hg : Gl X "sum") (hm : X.mg "sum" = none) (ha : PE X a (tD X.K W f)) (hs : starEach [a] X.env = (false, eval a X.env) :: starEach [] X.env := by rfl) : PE X (.Call (.Name "sum" p) [a] [] pos) (tD X.K W (calE (aCons f aNil) sumO)) :=
  de_calB (fun F H vs ds z Q ex hv hz q => by
    unfold sumO at hz
    split at hz <;> try cases hz
    rename_i xs
    cases hn : intsOf xs with
    | none => rw [hn] at hz; cases hz
    | some ns =>
      rw [hn] at hz
      cases hz
      have e1 := intsOf_eq hn
      subst e1
      obtain ⟨v, rfl, h1⟩ := rpa1 hv
      cases h1 with
      | lst hs ha =>
        rw [ha.intsv] at hs
        exact ⟨_, _, rfl, Evl.ex_l ex (Evl.sq_of hs), q.1 _ (.int _)⟩) (cr_sum hcalm) hg hm (by decide +kernel) (da_cons ha da_nil hs) (by decide) (by decide) hs (by rfl)

def tyN : Dt → Option String | .non => some "NoneType" | .bl _ => some "bool" | .int _ => some "int" | .str _ => some "str" | .lst _ => some "list" | .tup _ => some "tuple" | .obj _ _ _ => none | .scr _ _ => none
def isiO (T : String) (d : Dt) : Option Dt := (tyN d).bind fun n => (kitB n T).map .bl
theorem tyx_of {K : PySem.W.Frag} {F H : Hp} {v : V} {d : Dt} {n : String} (ex : Ex F H) (h : Rp K F v d) (hn : tyN d = some n) : TyX K H v (.type n) := by
  cases h with
  | non => cases hn; exact .base .non
  | bl b => cases hn; exact .base (.bl b)
  | int i => cases hn; exact .base (.int i)
  | str x => cases hn; exact .base (.str x)
  | lst hs ha => cases hn; exact .base (.lst (ex _ _ hs))
  | tup hs ha =>
    cases hn
    exact .base (.tup (ex _ _ hs))
  | obj _ _ _ => cases hn
  | scr _ _ _ => cases hn
theorem de_isi {T : String} {y : Str} (hT : bootBuiltins y = some (.type T)) (hg : Gl X "isinstance") (hm : X.mg "isinstance" = none) (hgT : Gl X y) (hmT : X.mg y = none) (hcl : ClsV (.ty T) (.type T)) (ha : PE X a (tD X.K W f)) (hyn : y ≠ "__name__" := by decide) (hyd : (y == ("__debug__" : Str)) = false := by decide)
    (hs : starEach [a, .Name y p2] X.env = (false, eval a X.env) :: starEach [.Name y p2] X.env := by rfl) (hs2 : starEach [.Name y p2] X.env = (false, eval (.Name y p2) X.env) :: starEach [] X.env := by rfl) (hpl : (backTo pos (starEach [.Name y p2] X.env)).any (·.1) = false := by rfl) :
    PE X (.Call (.Name "isinstance" p) [a, .Name y p2] [] pos) (tD X.K W (op1 f (isiO T))) := by
  have hy : PE X (.Name y p2) (tC (.ty T)) := pe_bltn hgT hmT hT rfl hyn hyd
  refine monoE (pe_callB call_isi hg hm (by decide +kernel) (pa_cons ha (pa_cons hy pa_nil hs2) hs) (by decide) (by decide) hs hpl) fun σ H Q q => ?_
  obtain ⟨B, F, as, S, r, o⟩ := q
  refine ⟨B, F, as, S, r, Out.mono (Out.bind o) fun d F1 H1 as1 S1 ⟨r1, e1, o1⟩ v hv => ?_⟩
  show rIsi X.K [v, .ty T] H1 Q
  unfold isiO at o1
  cases hn : tyN d with
  | none => rw [hn] at o1; exact o1.elim
  | some n =>
    rw [hn] at o1
    dsimp only [Option.bind] at o1
    cases hk : kitB n T with
    | none => rw [hk] at o1; exact o1.elim
    | some k =>
      rw [hk] at o1
      exact ⟨v, .ty T, .type n, .type T, k, rfl, hcl, tyx_of r1.fh hv hn, kit_ty hk, Out.now o1 r1 _ (.bl k)⟩
end

def tO (K : PySem.W.Frag) (W : WX) (f : Ms → R (Option Int)) : TO := fun σ H Q => ∃ B F as S, Rep K B F H as σ S ∧ Out K W B F as σ (f S) fun o _ H' _ _ => Q o H'
theorem monoO {X : Cx} {e : Option Expr} {t t' : TO} (h : PO X e t) (m : ∀ σ H Q, t' σ H Q → t σ H Q) : PO X e t' := ⟨fun pins s σ H Q I q => h.run pins s σ H Q I (m σ H Q q)⟩
def oNone : Ms → R (Option Int) := fun S => .ok none S
def oSome (f : Ms → R Dt) : Ms → R (Option Int) := fun S => (f S).bind fun d S1 => match d with | .int i => .ok (some i) S1 | _ => .no
theorem do_none : PO X none (tO X.K W oNone) := monoO po_none fun σ H Q q => by
  obtain ⟨B, F, as, S, r, o⟩ := q
  exact Out.now o r
theorem do_some (h : PE X e (tD X.K W f)) : PO X (some e) (tO X.K W (oSome f)) := monoO (po_some h) fun σ H Q q => by
  obtain ⟨B, F, as, S, r, o⟩ := q
  refine ⟨B, F, as, S, r, Out.mono (Out.bind o) fun d F1 H1 as1 S1 ⟨r1, e1, o1⟩ v hv => ?_⟩
  cases d with
  | int i => cases hv; exact ⟨i, rfl, Out.now o1 r1⟩
  | _ => exact o1.elim
def cut {α : Type} (xs : List α) (lo hi : Option Int) : List α := (xs.drop (HT.sIx xs.length 0 lo)).take (HT.sIx xs.length xs.length hi - HT.sIx xs.length 0 lo)
theorem cut_rp {K : PySem.W.Frag} {F : Hp} {vs : List V} {ds : List Dt} (h : RpA K F vs ds) (lo hi : Option Int) : RpA K F (cutV vs lo hi) (cut ds lo hi) := by
  unfold cutV cut
  rw [h.length]
  exact (h.drop _).take _
def slT (f : Ms → R Dt) (lo hi : Ms → R (Option Int)) : Ms → R Dt := fun S => (f S).bind fun d S1 => (lo S1).bind fun l S2 => (hi S2).bind fun u S3 => match d with | .tup xs => .ok (.tup (cut xs l u)) S3 | _ => .no
def slL (f : Ms → R Dt) (lo hi : Ms → R (Option Int)) : Ms → R (List Dt) := fun S => (f S).bind fun d S1 => (lo S1).bind fun l S2 => (hi S2).bind fun u S3 => match d with | .lst xs => .ok (cut xs l u) S3 | .scr false xs => .ok (cut xs l u) S3 | _ => .no
section
variable {lo hi : Option Expr} {fl fh : Ms → R (Option Int)} {p2 : Pos}
theorem de_sliceT (he : PE X e (tD X.K W f)) (hl : PO X lo (tO X.K W fl)) (hu : PO X hi (tO X.K W fh)) : PE X (.Subscript e (.Slice lo hi none p2) pos) (tD X.K W (slT f fl fh)) := monoE (pe_slice sl_tupA he hl hu) fun σ H Q q => by
  obtain ⟨B, F, as, S, r, o⟩ := q
  refine ⟨B, F, as, S, r, Out.mono (Out.bind o) fun d F1 H1 as1 S1 ⟨r1, e1, o1⟩ v hv => ?_⟩
  refine ⟨B, F1, as1, S1, r1, Out.mono (Out.bind o1) fun l F2 H2 as2 S2 ⟨r2, e2, o2⟩ => ?_⟩
  refine ⟨B, F2, as2, S2, r2, Out.mono (Out.bind o2) fun u F3 H3 as3 S3 ⟨r3, e3, o3⟩ => ?_⟩
  cases d with
  | tup xs =>
    cases (hv.up e2.1).up e3.1 with
    | tup hs ha =>
      have gg := gv_of o3 r3
      refine ⟨_, _, rfl, Evl.ex_t r3.fh hs.sq, fun hw => gg.1 _ ?_, fun hw p hp => gg.2 p _ hp (.tup upd_same ((cut_rp ha l u).up (Ex.new (r3.fresh hp).1)))⟩
      have hc : cut xs l u = xs := by
        unfold cut
        rw [← ha.length, hw.1, hw.2, ha.length]
        simp
      rw [hc]
      exact .tup hs ha
  | _ => exact o3.elim
theorem dn_sliceL (he : PE X e (tD X.K W f)) (hl : PO X lo (tO X.K W fl)) (hu : PO X hi (tO X.K W fh)) : PE X (.Subscript e (.Slice lo hi none p2) pos) (tN X.K W (slL f fl fh)) := monoE (pe_slice sl_list he hl hu) fun σ H Q q => by
  obtain ⟨B, F, as, S, r, o⟩ := q
  refine ⟨B, F, as, S, r, Out.mono (Out.bind o) fun d F1 H1 as1 S1 ⟨r1, e1, o1⟩ v hv => ?_⟩
  refine ⟨B, F1, as1, S1, r1, Out.mono (Out.bind o1) fun l F2 H2 as2 S2 ⟨r2, e2, o2⟩ => ?_⟩
  refine ⟨B, F2, as2, S2, r2, Out.mono (Out.bind o2) fun u F3 H3 as3 S3 ⟨r3, e3, o3⟩ => ?_⟩
  cases d with
  | lst xs =>
    cases (hv.up e2.1).up e3.1 with
    | lst hs ha => exact ⟨_, _, rfl, Evl.ex_l r3.fh (Evl.sq_of hs), fun p hp => gvl_of o3 r3 p _ hp (cut_rp ha l u)⟩
  | scr t xs =>
    cases t with
    | true => exact o3.elim
    | false =>
      cases (hv.up e2.1).up e3.1 with
      | scr _ hs ha => exact ⟨_, _, rfl, hs.up r3.fh, fun p hp => gvl_of o3 r3 p _ hp (cut_rp ha l u)⟩
  | _ => exact o3.elim
end

def catT : Dt → Dt → Option Dt | .tup xs, .tup ys => if xs.length + ys.length ≤ 100000 then some (.tup (xs ++ ys)) else none | _, _ => none
theorem de_catT (ha : PE X a (tD X.K W f)) (hb : PE X b (tD X.K W g)) : PE X (.BinOp a .Add b pos) (tD X.K W (op2 f g catT)) := de_op op_catA (fun F H v w d e z Q ex hv hw hz q => by
  cases d <;> cases e <;> simp only [catT] at hz <;> try cases hz
  split at hz <;> cases hz
  rename_i hl
  cases hv with
  | tup hs ha =>
    cases hw with
    | tup hs2 ha2 =>
      rename_i xs ys _ vs _ ws
      refine ⟨_, _, _, _, rfl, rfl, Evl.ex_t ex hs.sq, Evl.ex_t ex hs2.sq, Nat.le_trans (by rw [ha.length, ha2.length]; exact hl) (by decide), fun hx => q.1 _ ?_, fun hx hy => q.1 _ ?_, fun hx hy p hp => q.2 p _ hp ?_⟩
      · subst hx
        cases ha
        exact .tup hs2 ha2
      · subst hy
        cases ha2
        rw [List.append_nil]
        exact .tup hs ha
      · have hf : F p = none := by
          cases w : F p with
          | none => rfl
          | some o => rw [ex _ _ w] at hp; cases hp
        exact .tup upd_same ((ha.app ha2).up (Ex.new hf))) ha hb
def catL : Dt → Dt → Option (List Dt) | .lst xs, .lst ys => if xs.length + ys.length ≤ 100000 then some (xs ++ ys) else none | _, _ => none
theorem dn_catL (ha : PE X a (tD X.K W f)) (hb : PE X b (tD X.K W g)) : PE X (.BinOp a .Add b pos) (tN X.K W (opN f g catL)) := dn_op op_cat (fun F H v w d e z Q ex hv hw hz q => by
  cases d <;> cases e <;> simp only [catL] at hz <;> try cases hz
  split at hz <;> cases hz
  rename_i hl
  cases hv with
  | lst hs ha =>
    cases hw with
    | lst hs2 ha2 => exact ⟨_, _, _, _, rfl, rfl, ex _ _ hs, ex _ _ hs2, Nat.le_trans (by rw [ha.length, ha2.length]; exact hl) (by decide), fun p hp => q p _ hp (ha.app ha2)⟩) ha hb
def repL : Dt → Dt → Option (List Dt) | .lst xs, .int k => if xs.length ≤ 100 ∧ 0 ≤ k ∧ k ≤ 1000 then some (List.replicate k.toNat xs).flatten else none | _, _ => none
theorem rp_flat {K : PySem.W.Frag} {F : Hp} {vs : List V} {ds : List Dt} (h : RpA K F vs ds) : ∀ n : Nat, RpA K F (List.replicate n vs).flatten (List.replicate n ds).flatten
  | 0 => .nil
  | n + 1 => by
    rw [List.replicate_succ, List.replicate_succ, List.flatten_cons, List.flatten_cons]
    exact h.app (rp_flat h n)
theorem dn_repL (ha : PE X a (tD X.K W f)) (hb : PE X b (tD X.K W g)) : PE X (.BinOp a .Mult b pos) (tN X.K W (opN f g repL)) := dn_op op_rep (fun F H v w d e z Q ex hv hw hz q => by
  cases d <;> cases e <;> simp only [repL] at hz <;> try cases hz
  split at hz <;> cases hz
  rename_i xs ii hl
  cases hw
  cases hv with
  | lst hs ha =>
    refine ⟨_, _, _, rfl, rfl, ex _ _ hs, by omega, by omega, ?_, fun p hp => q p _ hp (rp_flat ha _)⟩
    rw [ha.length]
    have : sizeLine = 16777216 := sizeLine_eq
    rw [this]
    have h2 : ii.toNat ≤ 1000 := by omega
    have h3 := Nat.mul_le_mul hl.1 h2
    omega) ha hb
end
end Lq

namespace Lq
open PySem PySem.Spec PyProof.Rows L2
open Evl (Ex)
open RZ

section
variable {K : PySem.W.Frag} {B F H F' H' : Hp} {as as' : List Addr} {σ : L2.St} {S : Ms}
theorem Rep.hold (r : Rep K B F H as σ S) {D : Addr} {o : HO} (h1 : H D = some o) (h2 : F D = none) (h3 : D ∉ as) (h4 : NT o) : Rep K (upd B D o) F H as σ S := by
  refine ⟨r.fh, fun a u hu => ?_, r.sl, ?_, r.nd⟩
  · by_cases q : a = D
    · subst q
      rw [upd_same] at hu
      cases hu
      exact ⟨h1, h2, h4⟩
    · rw [upd_ne q] at hu
      exact r.bh a u hu
  · have : ∀ {xs : List Addr} {ys : List Mo}, (∀ a ∈ xs, a ≠ D) → Paired (MoR K B F H) xs ys → Paired (MoR K (upd B D o) F H) xs ys := by
      intro xs ys hn z
      induction z with
      | nil => exact .nil
      | @cons a b l1 l2 z zs ih =>
        refine .cons ?_ (ih fun a ha => hn a (List.mem_cons_of_mem _ ha))
        cases b with
        | ob ds =>
          obtain ⟨z1, z2, ws, z3, z4⟩ := z
          exact ⟨by rw [upd_ne (hn _ List.mem_cons_self)]; exact z1, z2, ws, z3, z4⟩
        | fz d => exact z
    exact this (fun a ha z => h3 (z ▸ ha)) r.mo
theorem Rep.unhold {D : Addr} {o : HO} (r : Rep K (upd B D o) F H as σ S) (hB : B D = none) : Rep K B F H as σ S ∧ H D = some o ∧ F D = none ∧ D ∉ as := by
  obtain ⟨q1, q2, _⟩ := r.bh D o upd_same
  refine ⟨⟨r.fh, fun a u hu => ?_, r.sl, r.mo.mono fun a m z => ?_, r.nd⟩, q1, q2, fun z => ?_⟩
  · have n : a ≠ D := by
      rintro rfl
      rw [hB] at hu; cases hu
    exact r.bh a u (by rw [upd_ne n]; exact hu)
  · cases m with
    | ob ds =>
      obtain ⟨z1, z2, ws, z3, z4⟩ := z
      have n : a ≠ D := by
        rintro rfl
        rw [upd_same] at z1; cases z1
      rw [upd_ne n] at z1
      exact ⟨z1, z2, ws, z3, z4⟩
    | fz d => exact z
  · obtain ⟨i, hi⟩ := List.mem_iff_getElem?.mp z
    obtain ⟨m, hm, z⟩ := pairedGetL r.mo hi
    cases m with
    | ob ds =>
      obtain ⟨z1, _⟩ := z
      rw [upd_same] at z1; cases z1
    | fz d =>
      obtain ⟨⟨u, z1⟩, _⟩ := z
      rw [q2] at z1; cases z1
theorem Rep.back {σ0 : L2.St} {S0 : Ms} {F0 : Hp} {as0 : List Addr} (r : Rep K B F H as σ S) (h : Paired (SvR K F0 as0) σ0 S0.sl) (e : Ext F0 F as0 as) : Rep K B F H as σ0 { S0 with mo := S.mo } :=
  ⟨r.fh, r.bh, h.mono fun _ _ q => SvR.up q e, r.mo, r.nd⟩
end
def wipeL (l : List Sv) : List Nat → List Sv
  | [] => l
  | v :: vs => (wipeL l vs).set v .no
theorem wipe_rp {K : PySem.W.Frag} {F : Hp} {as : List Addr} {σ : L2.St} {l : List Sv} (h : Paired (SvR K F as) σ l) : ∀ vs, Paired (SvR K F as) (wipe σ vs) (wipeL l vs)
  | [] => h
  | v :: vs => by
    unfold wipe wipeL
    have ih := wipe_rp h vs
    exact pairedSet v ih (by trivial)
theorem wipeL_rp {K : PySem.W.Frag} {F : Hp} {as : List Addr} {σ : L2.St} {l : List Sv} (h : Paired (SvR K F as) σ l) : ∀ vs, Paired (SvR K F as) σ (wipeL l vs)
  | [] => h
  | v :: vs => by
    unfold wipeL
    have ih := wipeL_rp h vs
    exact pairedAt v ih (fun _ _ _ _ _ _ q => q) fun x _ => by cases x <;> trivial
theorem wipe_get {σ : L2.St} : ∀ (vs : List Nat) (j : Nat), (wipe σ vs)[j]? = if j ∈ vs then (σ[j]?).map fun _ => none else σ[j]?
  | [], j => by simp [wipe]
  | v :: vs, j => by
    have ih := wipe_get (σ := σ) vs j
    unfold wipe
    rw [List.getElem?_set]
    by_cases q : v = j
    · subst q
      simp only [List.mem_cons, true_or, if_true]
      rw [wipe_length]
      by_cases hl : v < σ.length
      · rw [if_pos hl, List.getElem?_eq_getElem hl]; rfl
      · rw [if_neg hl, List.getElem?_eq_none (by omega)]; rfl
    · rw [if_neg q, ih]
      have q2 : ¬ j = v := fun z => q z.symm
      simp only [List.mem_cons, q2, false_or]
theorem wipe_set {σ : L2.St} {i : Nat} {x : Option V} {vs : List Nat} (h : i ∈ vs) : wipe (σ.set i x) vs = wipe σ vs := by
  apply List.ext_getElem?
  intro j
  rw [wipe_get, wipe_get]
  by_cases q : j ∈ vs
  · rw [if_pos q, if_pos q, List.getElem?_set]
    by_cases z : i = j
    · subst z
      rw [if_pos rfl]
      by_cases hl : i < σ.length
      · rw [if_pos hl, List.getElem?_eq_getElem hl]; rfl
      · rw [if_neg hl, List.getElem?_eq_none (by omega)]
    · rw [if_neg z]
  · rw [if_neg q, if_neg q, List.getElem?_set]
    have z : ¬ i = j := fun z => q (z ▸ h)
    rw [if_neg z]
theorem wipe_wipe {σ : L2.St} {vs : List Nat} : wipe (wipe σ vs) vs = wipe σ vs := by
  apply List.ext_getElem?
  intro j
  rw [wipe_get, wipe_get]
  by_cases q : j ∈ vs
  · rw [if_pos q, if_pos q]
    cases σ[j]? <;> rfl
  · rw [if_neg q]

inductive Tk where | nm (i : Nat) | tp (is : List Nat)
def gNames : List Nat → TGs
  | [] => gNil
  | i :: is => gCons (gName i) (gNames is)
def Tk.g (K : PySem.W.Frag) : Tk → TG
  | .nm i => gName i
  | .tp is => gTup K is.length (gNames is)
def kNames : List Nat → List Dt → Ms → Option Ms
  | [], [], S => some S
  | i :: is, d :: ds, S => kNames is ds { S with sl := S.sl.set i (.im d) }
  | _, _, _ => none
def Tk.k : Tk → Dt → Ms → Option Ms
  | .nm i, d, S => some { S with sl := S.sl.set i (.im d) }
  | .tp is, .tup ds, S => kNames is ds S
  | _, _, _ => none
def Tk.is : Tk → List Nat
  | .nm i => [i]
  | .tp is => is
structure DG (X : Cx) (tg : Expr) (T : Tk) : Prop where
  pg : PG X tg (T.g X.K)
theorem kNames_len : ∀ {is : List Nat} {ds : List Dt} {S S' : Ms}, kNames is ds S = some S' → ds.length = is.length
  | [], [], _, _, _ => rfl
  | [], _ :: _, _, _, h => by cases h
  | _ :: _, [], _, _, h => by cases h
  | i :: is, d :: ds, S, S', h => by
    have := kNames_len (is := is) (ds := ds) h
    simp [this]
theorem gNames_run {K : PySem.W.Frag} {B F H : Hp} {as : List Addr} : ∀ (is : List Nat) (σ : L2.St) (S : Ms) (vs : List V) (ds : List Dt) (S' : Ms) (Q : L2.St → Hp → Prop), Rep K B F H as σ S → RpA K F vs ds → kNames is ds S = some S' → (∀ σ', Rep K B F H as σ' S' → (∀ ws, (∀ i ∈ is, i ∈ ws) → wipe σ' ws = wipe σ ws) → Q σ' H) → gNames is vs σ H Q
  | [], σ, S, vs, [], S', Q, r, hv, hk, q => by
    cases hv; cases hk
    exact ⟨rfl, q σ r fun _ _ => rfl⟩
  | [], σ, S, vs, _ :: _, S', Q, r, hv, hk, q => by cases hk
  | _ :: _, σ, S, vs, [], S', Q, r, hv, hk, q => by cases hk
  | i :: is, σ, S, vs, d :: ds, S', Q, r, hv, hk, q => by
    cases hv with
    | cons hv hvs =>
      refine ⟨_, _, rfl, ?_⟩
      refine gNames_run is _ _ _ ds S' Q (r.slot (s := .im d) i hv) hvs hk fun σ' r' w => q σ' r' fun ws hi => ?_
      rw [w ws fun j hj => hi j (List.mem_cons_of_mem _ hj)]
      exact wipe_set (hi i List.mem_cons_self)
theorem Tk.run {K : PySem.W.Frag} (T : Tk) {B F H : Hp} {as : List Addr} {σ : L2.St} {S : Ms} {v : V} {d : Dt} {S' : Ms} {Q : L2.St → Hp → Prop} (r : Rep K B F H as σ S) (hv : Rp K F v d) (hk : T.k d S = some S') (q : ∀ σ', Rep K B F H as σ' S' → (∀ vs, (∀ i ∈ T.is, i ∈ vs) → wipe σ' vs = wipe σ vs) → Q σ' H) : T.g K v σ H Q := by
  cases T with
  | nm i =>
    cases hk
    exact q _ (r.slot (s := .im d) i hv) fun vs hi => wipe_set (hi i List.mem_cons_self)
  | tp is =>
    cases d with
    | tup ds =>
      cases hv with
      | tup hs ha => exact ⟨_, _, rfl, Evl.ex_t r.fh hs.sq, by rw [ha.length]; exact kNames_len hk, gNames_run is σ S _ ds S' Q r ha hk q⟩
    | _ => cases hk
theorem dg_name {X : Cx} {i : Nat} {x : Str} {pos : Pos} (h : PG X (.Name x pos) (gName i)) : DG X (.Name x pos) (.nm i) := ⟨h⟩
theorem dgs_nil {X : Cx} : PGs X [] (gNames []) := pgs_nil
theorem dgs_cons {X : Cx} {e : Expr} {ts : List Expr} {i : Nat} {is : List Nat} (h1 : PG X e (gName i)) (h2 : PGs X ts (gNames is)) (hs : (assignEach (e :: ts) X.env).map (·.2) = assign e X.env :: (assignEach ts X.env).map (·.2) := by rfl) : PGs X (e :: ts) (gNames (i :: is)) := pgs_cons h1 h2 hs
theorem dg_tup {X : Cx} {es : List Expr} {k : Nat} {pos : Pos} {is : List Nat} (hc : X.calm = true) (h : PGs X es (gNames is)) (hn : (assignEach es X.env).length = is.length := by rfl) (hst : (assignEach es X.env).findIdx? (·.1) = none := by rfl) : DG X (.Tuple es k pos) (.tp is) := ⟨pg_tup hc h hn hst⟩

structure Walks (K : PySem.W.Frag) (F : Hp) (J : It) (ds : List Dt) : Prop where
  go : ∀ i H, i < ds.length → Ex F H → J.go i H
  stop : ∀ H, Ex F H → J.stop ds.length H
  yld : ∀ i H x H' F1, i < ds.length → Ex F F1 → Ex F1 H → J.yld i H x H' → ∃ d, ds[i]? = some d ∧ ((H' = H ∧ Rp K F1 x d) ∨ ∃ T o, H T = none ∧ H' = upd H T o ∧ Rp K (upd F1 T o) x d)
def tI (K : PySem.W.Frag) (W : WX) (it : Ms → R (List Dt)) : TI := fun σ H R => ∃ B F as S, Rep K B F H as σ S ∧ Out K W B F as σ (it S) fun ds F' H' _ _ => ∀ J, Walks K F' J ds → R J H'
theorem monoI {X : Cx} {tg l : Expr} {wi wi1 wi2 : TI} (h1 : PI X tg l wi1) (h2 : PI X tg l wi2) (h : ∀ σ H R, wi σ H R → wi1 σ H R ∨ wi2 σ H R) : PI X tg l wi :=
  ⟨fun pins s σ H R I q => (h σ H R q).elim (h1.run pins s σ H R I) (h2.run pins s σ H R I)⟩
theorem monoI1 {X : Cx} {tg l : Expr} {wi wi1 : TI} (h1 : PI X tg l wi1) (h : ∀ σ H R, wi σ H R → wi1 σ H R) : PI X tg l wi := ⟨fun pins s σ H R I q => h1.run pins s σ H R I (h σ H R q)⟩
def itS (f : Ms → R Dt) : Ms → R (List Dt) := fun S => (f S).bind fun d S1 => R.of (seqOf d) S1
theorem walksL0 {K : PySem.W.Frag} {F : Hp} {a : Addr} {xs : List V} {ds : List Dt} (hs : SqL K F a xs) (ha : RpA K F xs ds) : Walks K F (Itl K a) ds := by
  refine ⟨fun i H hi e => ?_, fun H e => ⟨xs, Evl.ex_l e hs, by rw [ha.length]; exact Nat.le_refl _⟩, fun i H x H' F1 hi e e2 y => ?_⟩
  · have hi' : i < xs.length := by rw [ha.length]; exact hi
    exact ⟨xs, xs[i], Evl.ex_l e hs, by simp [hi']⟩
  · obtain ⟨y1, y2⟩ := y
    have q := y2 xs (Evl.ex_l (e.trans e2) hs)
    obtain ⟨d, h1, h2⟩ := ha.getv q
    exact ⟨d, h1, .inl ⟨y1, h2.up e⟩⟩
theorem walksT0 {K : PySem.W.Frag} {F : Hp} {a : Addr} {xs : List V} {ds : List Dt} (hs : SqT K F a xs) (ha : RpA K F xs ds) : Walks K F (Itt K a) ds := by
  refine ⟨fun i H hi e => ?_, fun H e => ⟨xs, Evl.ex_t e hs, by rw [ha.length]; exact Nat.le_refl _⟩, fun i H x H' F1 hi e e2 y => ?_⟩
  · have hi' : i < xs.length := by rw [ha.length]; exact hi
    exact ⟨xs, xs[i], Evl.ex_t e hs, by simp [hi']⟩
  · obtain ⟨y1, y2⟩ := y
    have q := y2 xs (Evl.ex_t (e.trans e2) hs)
    obtain ⟨d, h1, h2⟩ := ha.getv q
    exact ⟨d, h1, .inl ⟨y1, h2.up e⟩⟩
theorem walksL {K : PySem.W.Frag} {F : Hp} {a : Addr} {xs : List V} {ds : List Dt} (hs : F a = some (.lst xs)) (ha : RpA K F xs ds) : Walks K F (Itl K a) ds := walksL0 (Evl.sq_of hs) ha
theorem walksT {K : PySem.W.Frag} {F : Hp} {a : Addr} {xs : List V} {ds : List Dt} (hs : TupAt K F a xs) (ha : RpA K F xs ds) : Walks K F (Itt K a) ds := walksT0 hs.sq ha
section
variable {X : Cx} {W : WX} {tg l e e2 : Expr} {f : Ms → R Dt} {fs : Ms → R (List Dt)} {p pos tpos : Pos}
theorem di_seq (h : PE X l (tD X.K W f)) : PI X tg l (tI X.K W (itS f)) := monoI (pi_list h) (pi_tup h) fun σ H R q => by
  obtain ⟨B, F, as, S, r, o⟩ := q
  unfold itS at o
  cases hf : f S with
  | ok d S1 =>
    rw [hf] at o
    cases d with
    | lst ds =>
      refine .inl ⟨B, F, as, S, r, ?_⟩
      rw [hf]
      intro F1 H1 as1 e1 r1 v hv
      cases hv with
      | lst hs ha => exact ⟨_, rfl, ⟨_, Evl.ex_l r1.fh (Evl.sq_of hs)⟩, o F1 H1 as1 e1 r1 _ (walksL hs ha)⟩
    | tup ds =>
      refine .inr ⟨B, F, as, S, r, ?_⟩
      rw [hf]
      intro F1 H1 as1 e1 r1 v hv
      cases hv with
      | tup hs ha => exact ⟨_, rfl, ⟨_, Evl.ex_t r1.fh hs.sq⟩, o F1 H1 as1 e1 r1 _ (walksT hs ha)⟩
    | scr t ds =>
      cases t with
      | true =>
        refine .inr ⟨B, F, as, S, r, ?_⟩
        rw [hf]
        intro F1 H1 as1 e1 r1 v hv
        cases hv with
        | scr _ hs ha => exact ⟨_, rfl, ⟨_, hs.up r1.fh⟩, o F1 H1 as1 e1 r1 _ (walksT0 hs ha)⟩
      | false =>
        refine .inl ⟨B, F, as, S, r, ?_⟩
        rw [hf]
        intro F1 H1 as1 e1 r1 v hv
        cases hv with
        | scr _ hs ha => exact ⟨_, rfl, ⟨_, hs.up r1.fh⟩, o F1 H1 as1 e1 r1 _ (walksL0 hs ha)⟩
    | _ => exact o.elim
  | er x S1 =>
    rw [hf] at o
    exact .inl ⟨B, F, as, S, r, by rw [hf]; exact o⟩
  | no => rw [hf] at o; exact o.elim
def itR1 (fs : Ms → R (List Dt)) : Ms → R (List Dt) := fun S => (fs S).bind fun ds S1 => match ds with
  | [.int j] => if -(2 ^ 62) ≤ j ∧ j < 2 ^ 62 then .ok ((List.range j.toNat).map fun (i : Nat) => Dt.int (i : Int)) S1 else .no
  | _ => .no
def itR2 (fs : Ms → R (List Dt)) : Ms → R (List Dt) := fun S => (fs S).bind fun ds S1 => match ds with
  | [.int i, .int j] => if -(2 ^ 62) ≤ i ∧ i < 2 ^ 62 ∧ -(2 ^ 62) ≤ j ∧ j < 2 ^ 62 then .ok ((List.range (j - i).toNat).map fun (k : Nat) => Dt.int (i + (k : Int))) S1 else .no
  | _ => .no
theorem walksR {K : PySem.W.Frag} {F : Hp} {lo : Int} {n : Nat} {ds : List Dt} (h : ds = (List.range n).map fun (k : Nat) => Dt.int (lo + (k : Int))) : Walks K F (Itr lo n) ds := by
  subst h
  have hl : ((List.range n).map fun (k : Nat) => Dt.int (lo + (k : Int))).length = n := by simp
  refine ⟨fun i H hi e => by rw [hl] at hi; exact hi, fun H e => by rw [hl]; exact Nat.le_refl _, fun i H x H' F1 hi e e2 y => ?_⟩
  rw [hl] at hi
  obtain ⟨rfl, rfl⟩ := y
  refine ⟨.int (lo + i), ?_, .inl ⟨rfl, .int _⟩⟩
  rw [List.getElem?_map, List.getElem?_range hi]
  rfl
theorem di_range1 {a : Expr} (hg : Gl X "range") (hm : X.mg "range" = none) (ha : PA X [a] (tA X.K W fs)) (hs : starEach [a] X.env = [(false, eval a X.env)] := by rfl) : PI X tg (.Call (.Name "range" p) [a] [] pos) (tI X.K W (itR1 fs)) := monoI1 (pi_range1 hg hm ha hs) fun σ H R q => by
  obtain ⟨B, F, as, S, r, o⟩ := q
  refine ⟨B, F, as, S, r, Out.mono (Out.bind o) fun ds F1 H1 as1 S1 ⟨r1, e1, o1⟩ vs hv => ?_⟩
  split at o1
  · rename_i j _
    split at o1
    · rename_i hj
      obtain ⟨v, rfl, h1⟩ := rpa1 hv
      cases h1
      refine ⟨_, rfl, hj.1, hj.2, Out.now o1 r1 _ (walksR ?_)⟩
      apply List.map_congr_left
      intro k _
      rw [Int.zero_add]
    · exact o1.elim
  · exact o1.elim
theorem di_range2 {a b : Expr} (hg : Gl X "range") (hm : X.mg "range" = none) (ha : PA X [a, b] (tA X.K W fs)) (hs : starEach [a, b] X.env = [(false, eval a X.env), (false, eval b X.env)] := by rfl) (hs2 : starEach [b] X.env = [(false, eval b X.env)] := by rfl) : PI X tg (.Call (.Name "range" p) [a, b] [] pos) (tI X.K W (itR2 fs)) := monoI1 (pi_range2 hg hm ha hs hs2) fun σ H R q => by
  obtain ⟨B, F, as, S, r, o⟩ := q
  refine ⟨B, F, as, S, r, Out.mono (Out.bind o) fun ds F1 H1 as1 S1 ⟨r1, e1, o1⟩ vs hv => ?_⟩
  split at o1
  · split at o1
    · rename_i hj
      obtain ⟨v, w, rfl, h1, h2⟩ := rpa2 hv
      cases h1; cases h2
      exact ⟨_, _, rfl, hj, Out.now o1 r1 _ (walksR rfl)⟩
    · exact o1.elim
  · exact o1.elim
def zipD (xs ys : List Dt) : List Dt := List.zipWith (fun d e => Dt.tup [d, e]) xs ys
def itZ (fs : Ms → R (List Dt)) : Ms → R (List Dt) := fun S => (fs S).bind fun ds S1 => match ds with
  | [.lst xs, .lst ys] => .ok (zipD xs ys) S1
  | [.tup xs, .tup ys] => .ok (zipD xs ys) S1
  | _ => .no
theorem zipD_len (xs ys : List Dt) : (zipD xs ys).length = min xs.length ys.length := by simp [zipD]
theorem zipD_get {xs ys : List Dt} {i : Nat} {d e : Dt} (h1 : xs[i]? = some d) (h2 : ys[i]? = some e) : (zipD xs ys)[i]? = some (.tup [d, e]) := by
  unfold zipD
  rw [List.getElem?_zipWith, h1, h2]
theorem walksZ {K : PySem.W.Frag} {F : Hp} {a b : Addr} {xs ys : List V} {ds es : List Dt} (hs : F a = some (.lst xs)) (ha : RpA K F xs ds) (hs2 : F b = some (.lst ys)) (ha2 : RpA K F ys es) : Walks K F (Itz K a b) (zipD ds es) := by
  have w := walk_zip (K := K) (a := a) (b := b) (xs := xs) (ys := ys) rfl
  have hl : (zipD ds es).length = min xs.length ys.length := by rw [zipD_len, ha.length, ha2.length]
  have hh : ∀ {H}, Ex F H → SqL K H a xs ∧ SqL K H b ys := fun e => ⟨Evl.ex_l e (Evl.sq_of hs), Evl.ex_l e (Evl.sq_of hs2)⟩
  refine ⟨fun i H hi e => w.goes i H (by rw [← hl]; exact hi) (hh e), fun H e => by rw [hl]; exact w.stops H (hh e), fun i H x H' F1 hi e e2 y => ?_⟩
  obtain ⟨T, u, v, rfl, h1, rfl, h2, h3⟩ := w.yields i H x H' (by rw [← hl]; exact hi) (hh (e.trans e2)) y
  obtain ⟨d, d1, d2⟩ := ha.getv h2
  obtain ⟨c, c1, c2⟩ := ha2.getv h3
  refine ⟨.tup [d, c], zipD_get d1 c1, .inr ⟨T, .tup [u, v], h1, rfl, ?_⟩⟩
  have ht : F1 T = none := by
    cases w : F1 T with
    | none => rfl
    | some o => rw [e2 _ _ w] at h1; cases h1
  exact .tup upd_same (.cons ((d2.up e).up (Ex.new ht)) (.cons ((c2.up e).up (Ex.new ht)) .nil))
theorem walksZT {K : PySem.W.Frag} {F : Hp} {a b : Addr} {xs ys : List V} {ds es : List Dt} (hs : TupAt K F a xs) (ha : RpA K F xs ds) (hs2 : TupAt K F b ys) (ha2 : RpA K F ys es) : Walks K F (ItzT K a b) (zipD ds es) := by
  have hl : (zipD ds es).length = min xs.length ys.length := by rw [zipD_len, ha.length, ha2.length]
  have hh : ∀ {H}, Ex F H → SqT K H a xs ∧ SqT K H b ys := fun e => ⟨Evl.ex_t e hs.sq, Evl.ex_t e hs2.sq⟩
  refine ⟨fun i H hi e => ?_, fun H e => ?_, fun i H x H' F1 hi e e2 y => ?_⟩
  · rw [hl] at hi
    have h1 : i < xs.length := by omega
    have h2 : i < ys.length := by omega
    obtain ⟨q1, q2⟩ := hh e
    exact ⟨xs, ys, xs[i], ys[i], q1, q2, by simp [h1], by simp [h2]⟩
  · obtain ⟨q1, q2⟩ := hh e
    exact ⟨xs, ys, q1, q2, by rw [hl]; omega⟩
  obtain ⟨q1, q2⟩ := hh (e.trans e2)
  obtain ⟨T, u, v, rfl, h1, rfl, h2, h3⟩ := y
  obtain ⟨d, d1, d2⟩ := ha.getv (h2 _ q1)
  obtain ⟨c, c1, c2⟩ := ha2.getv (h3 _ q2)
  refine ⟨.tup [d, c], zipD_get d1 c1, .inr ⟨T, .tup [u, v], h1, rfl, ?_⟩⟩
  have ht : F1 T = none := by
    cases w : F1 T with
    | none => rfl
    | some o => rw [e2 _ _ w] at h1; cases h1
  exact .tup upd_same (.cons ((d2.up e).up (Ex.new ht)) (.cons ((c2.up e).up (Ex.new ht)) .nil))
theorem di_zip {elts : List Expr} {kk : Nat} (hg : Gl X "zip") (hm : X.mg "zip" = none) (ha : PA X [e, e2] (tA X.K W fs)) (hs : starEach [e, e2] X.env = (false, eval e X.env) :: starEach [e2] X.env := by rfl) (hpl : (backTo pos (starEach [e2] X.env)).any (·.1) = false := by rfl) :
    PI X (.Tuple elts kk tpos) (.Call (.Name "zip" p) [e, e2] [] pos) (tI X.K W (itZ fs)) := monoI1 (pi_zipA hg hm ha hs hpl) fun σ H R q => by
  obtain ⟨B, F, as, S, r, o⟩ := q
  refine ⟨B, F, as, S, r, Out.mono (Out.bind o) fun ds F1 H1 as1 S1 ⟨r1, e1, o1⟩ vs hv => ?_⟩
  split at o1
  · obtain ⟨v, w, rfl, h1, h2⟩ := rpa2 hv
    cases h1 with
    | lst hs ha =>
      cases h2 with
      | lst hs2 ha2 => exact ⟨_, _, _, _, rfl, .inl ⟨Evl.ex_l r1.fh (Evl.sq_of hs), Evl.ex_l r1.fh (Evl.sq_of hs2), Out.now o1 r1 _ (walksZ hs ha hs2 ha2)⟩⟩
  · obtain ⟨v, w, rfl, h1, h2⟩ := rpa2 hv
    cases h1 with
    | tup hs ha =>
      cases h2 with
      | tup hs2 ha2 => exact ⟨_, _, _, _, rfl, .inr ⟨Evl.ex_t r1.fh hs.sq, Evl.ex_t r1.fh hs2.sq, Out.now o1 r1 _ (walksZT hs ha hs2 ha2)⟩⟩
  · exact o1.elim
end

def W0 : WX := fun _ _ _ _ => False
def lcF (sl : List Sv) (k : Dt → Ms → Option Ms) (t : Ms → R Bool) (e : Ms → R Dt) : List Dt → List Mo → List Dt → R (List Dt)
  | [], mo, acc => .ok acc { sl := sl, mo := mo }
  | d :: ds, mo, acc => match k d { sl := sl, mo := mo } with
    | none => .no
    | some S1 => match t S1 with
      | .ok false S2 => lcF sl k t e ds S2.mo acc
      | .ok true S2 => (match e S2 with
        | .ok y S3 => if acc.length < 100000 then lcF sl k t e ds S3.mo (acc ++ [y]) else .no
        | _ => .no)
      | _ => .no
def lcE (it : Ms → R (List Dt)) (k : Dt → Ms → Option Ms) (t : Ms → R Bool) (e : Ms → R Dt) (own : List Nat) : Ms → R (List Dt) := fun S => (it S).bind fun ds S1 => (lcF (wipeL S1.sl own) k t e ds S1.mo []).bind fun ys S2 => .ok ys { sl := S1.sl, mo := S2.mo }
def yesT : Ms → R Bool := fun S => .ok true S
theorem lc_core0 {X : Cx} {W : WX} {T : Tk} {t : Ms → R Bool} {e : Ms → R Dt} {own : List Nat} (hi : ∀ i ∈ T.is, i ∈ own) {σ : L2.St} {H1 : Hp} {Q : VK} {B F1 : Hp} {as1 : List Addr} {S1 : Ms} {ds : List Dt} {J : It} {D : Addr} (r1 : Rep X.K B F1 H1 as1 σ S1)
    (o1 : Out X.K W B F1 as1 σ ((lcF (wipeL S1.sl own) T.k t e ds S1.mo []).bind fun ys S2 => .ok ys { sl := S1.sl, mo := S2.mo }) fun ds F' H' as' _ => ∀ p vs, F' p = none → B p = none → p ∉ as' → H' p = some (.lst vs) → RpA X.K F' vs ds → Q (.ref p) H') (w : Walks X.K F1 J ds) (hD : H1 D = none) :
    ∃ W : Nat → Nat → Hp → Prop, (∃ m, W 0 m (upd H1 D (.lst []))) ∧ ∀ i m H, W i m H →
      (J.stop i H ∧ Q (.ref D) H) ∨ (J.go i H ∧ ∃ Nx : Hp → Prop, (∀ H', Nx H' → ∃ m', m' < m ∧ W (i + 1) m' H') ∧ ∀ x H', J.yld i H x H' → T.g X.K x (wipe σ own) H' fun σ2 H2 => wipe σ2 own = wipe σ own ∧ tT X.K W0 t σ2 H2 fun b H3 =>
        if b = true then tD X.K W0 e σ2 H3 fun y H4 => ∃ acc, H4 D = some (.lst acc) ∧ acc.length < sizeLine ∧ Nx (upd H4 D (.lst (acc ++ [y]))) else Nx H3) := by
  obtain ⟨f1, f2, f3⟩ := r1.fresh hD
  have o2 := Out.bind o1
  refine ⟨fun i m H => m = ds.length - i ∧ i ≤ ds.length ∧ ∃ F2 as2 mo acc accV, Ext F1 F2 as1 as2 ∧ Rep X.K B F2 H as2 σ { S1 with mo := mo } ∧ F2 D = none ∧ D ∉ as2 ∧ H D = some (.lst accV) ∧ RpA X.K F2 accV acc ∧
    Out X.K W B F2 as2 σ (lcF (wipeL S1.sl own) T.k t e (ds.drop i) mo acc) fun ys F' H' as' S' => ∀ vs, (Rep X.K B F' H' as' σ { S1 with mo := S'.mo }) → F' D = none → D ∉ as' → H' D = some (.lst vs) → RpA X.K F' vs ys → Q (.ref D) H', ⟨ds.length, by simp, Nat.zero_le _, F1, as1, S1.mo, [], [], Ext.refl, ?_, f1, f3, upd_same, .nil, ?_⟩, ?_⟩
  · refine ⟨fun a u hu => ?_, fun a u hu => ?_, r1.sl, r1.mo.mono fun a m z => ?_, r1.nd⟩
    · rw [upd_ne (ne_of_none (r1.fh _ _ hu) hD)]
      exact r1.fh _ _ hu
    · obtain ⟨z1, z2, z3⟩ := r1.bh a u hu
      exact ⟨by rw [upd_ne (ne_of_none z1 hD)]; exact z1, z2, z3⟩
    · cases m with
      | ob ds =>
        obtain ⟨z1, z2, ws, z3, z4⟩ := z
        exact ⟨z1, z2, ws, by rw [upd_ne (ne_of_none z3 hD)]; exact z3, z4⟩
      | fz d => exact z
  · refine Out.mono o2 fun ys F' H' as' S' ⟨r', e', o3⟩ vs r'' hF hA hH hv => ?_
    exact o3 F' H' as' Ext.refl r'' D vs hF f2 hA hH hv
  · rintro i m H ⟨rfl, hle, F2, as2, mo, acc, accV, e2, r2, hF, hA, hH, hacc, o3⟩
    by_cases hlt : i < ds.length
    · refine .inr ⟨w.go i H hlt (e2.1.trans r2.fh), ?_⟩
      obtain ⟨d, hd⟩ : ∃ d, ds[i]? = some d := ⟨ds[i], by simp [hlt]⟩
      have hdrop : ds.drop i = d :: ds.drop (i + 1) := by
        rw [List.drop_eq_getElem_cons hlt]
        congr 1
        rw [List.getElem?_eq_getElem hlt] at hd
        exact Option.some.inj hd
      rw [hdrop] at o3
      refine ⟨fun H' => ∃ F2 as2 mo acc accV, Ext F1 F2 as1 as2 ∧ Rep X.K B F2 H' as2 σ { S1 with mo := mo } ∧ F2 D = none ∧ D ∉ as2 ∧ H' D = some (.lst accV) ∧ RpA X.K F2 accV acc ∧
        Out X.K W B F2 as2 σ (lcF (wipeL S1.sl own) T.k t e (ds.drop (i + 1)) mo acc) fun ys F' H' as' S' => ∀ vs, (Rep X.K B F' H' as' σ { S1 with mo := S'.mo }) → F' D = none → D ∉ as' → H' D = some (.lst vs) → RpA X.K F' vs ys → Q (.ref D) H', fun H' h => ⟨ds.length - (i + 1), by omega, rfl, hlt, h⟩, fun x H' hy => ?_⟩
      obtain ⟨d', hd', hx⟩ := w.yld i H x H' F2 hlt e2.1 r2.fh hy
      rw [hd] at hd'
      cases hd'
      have rh : Rep X.K (upd B D (.lst accV)) F2 H as2 σ { S1 with mo := mo } := r2.hold hH hF hA trivial
      -- the state at the turn
      obtain ⟨F3, e3, r3, hv3⟩ : ∃ F3, Ext F2 F3 as2 as2 ∧ Rep X.K (upd B D (.lst accV)) F3 H' as2 σ { S1 with mo := mo } ∧ Rp X.K F3 x d := by
        rcases hx with ⟨rfl, hx⟩ | ⟨T, ob, hT, rfl, hx⟩
        · exact ⟨F2, Ext.refl, rh, hx⟩
        · obtain ⟨ee, rr⟩ := rh.new hT ob
          exact ⟨_, ee, rr, hx⟩
      have r4 : Rep X.K (upd B D (.lst accV)) F3 H' as2 (wipe σ own) { sl := wipeL S1.sl own, mo := mo } := ⟨r3.fh, r3.bh, wipe_rp r3.sl own, r3.mo, r3.nd⟩
      unfold lcF at o3
      cases hk : T.k d { sl := wipeL S1.sl own, mo := mo } with
      | none => rw [hk] at o3; exact o3.elim
      | some S4 =>
        rw [hk] at o3
        dsimp only at o3
        refine T.run r4 hv3 hk fun σ4 r5 hw => ⟨by rw [hw own hi, wipe_wipe], ?_⟩
        refine ⟨_, F3, as2, S4, r5, ?_⟩
        cases ht : t S4 with
        | no => rw [ht] at o3; exact o3.elim
        | er x S5 => rw [ht] at o3; exact o3.elim
        | ok b S5 =>
          rw [ht] at o3
          intro F5 H5 as5 e5 r6
          cases b with
          | false =>
            show ∃ F2 as2 mo acc accV, _
            dsimp only at o3
            obtain ⟨r7, h7, h8, h9⟩ := (Rep.back r6 r3.sl e5).unhold f2
            have e25 := e3.trans e5
            exact ⟨F5, as5, S5.mo, acc, accV, e2.trans e25, r7, h8, h9, h7, hacc.up e25.1, by
              revert o3
              cases lcF (wipeL S1.sl own) T.k t e (ds.drop (i + 1)) S5.mo acc with
              | ok ys S' => exact fun o3 F' H' as' ee rr => o3 F' H' as' (e25.trans ee) rr
              | er y S' => exact fun o3 F' H' as' dx fs ee rr => o3 F' H' as' dx fs (e25.trans ee) rr
              | no => exact fun o3 => o3⟩
          | true =>
            show tD X.K W0 e σ4 H5 _
            dsimp only at o3
            refine ⟨_, F5, as5, S5, r6, ?_⟩
            cases he : e S5 with
            | no => rw [he] at o3; exact o3.elim
            | er x S6 => rw [he] at o3; exact o3.elim
            | ok y S6 =>
              rw [he] at o3
              dsimp only at o3
              split at o3
              · rename_i hlen
                intro F6 H6 as6 e6 r7 v hv
                obtain ⟨r8, h7, h8, h9⟩ := (Rep.back r7 r3.sl (e5.trans e6)).unhold f2
                have e26 := (e3.trans e5).trans e6
                refine ⟨accV, h7, Evl.sz_lt (by rw [hacc.length]; exact hlen), F6, as6, S6.mo, acc ++ [y], accV ++ [v], e2.trans e26, ?_, h8, h9, upd_same, (hacc.up e26.1).snoc hv, ?_⟩
                · refine ⟨fun a u hu => ?_, fun a u hu => ?_, r8.sl, ?_, r8.nd⟩
                  · have n : a ≠ D := by
                      rintro rfl
                      rw [h8] at hu; cases hu
                    rw [upd_ne n]
                    exact r8.fh _ _ hu
                  · have n : a ≠ D := by
                      rintro rfl
                      rw [f2] at hu; cases hu
                    rw [upd_ne n]
                    exact r8.bh a u hu
                  · have : ∀ {xs : List Addr} {ys : List Mo}, (∀ a ∈ xs, a ≠ D) → Paired (MoR X.K B F6 H6) xs ys → Paired (MoR X.K B F6 (upd H6 D (.lst (accV ++ [v])))) xs ys := by
                      intro xs ys hn z
                      induction z with
                      | nil => exact .nil
                      | @cons a b l1 l2 z zs ih =>
                        refine .cons ?_ (ih fun a ha => hn a (List.mem_cons_of_mem _ ha))
                        cases b with
                        | ob ds =>
                          obtain ⟨z1, z2, ws, z3, z4⟩ := z
                          exact ⟨z1, z2, ws, by rw [upd_ne (hn _ List.mem_cons_self)]; exact z3, z4⟩
                        | fz d => exact z
                    exact this (fun a ha z => h9 (z ▸ ha)) r8.mo
                · revert o3
                  cases lcF (wipeL S1.sl own) T.k t e (ds.drop (i + 1)) S6.mo (acc ++ [y]) with
                  | ok ys S' => exact fun o3 F' H' as' ee rr => o3 F' H' as' (e26.trans ee) rr
                  | er y S' => exact fun o3 F' H' as' dx fs ee rr => o3 F' H' as' dx fs (e26.trans ee) rr
                  | no => exact fun o3 => o3
              · exact o3.elim
    · have e : i = ds.length := by omega
      subst e
      rw [List.drop_length] at o3
      unfold lcF at o3
      refine .inl ⟨w.stop H (e2.1.trans r2.fh), ?_⟩
      exact o3 F2 H as2 Ext.refl ⟨r2.fh, r2.bh, wipeL_rp r2.sl own, r2.mo, r2.nd⟩ accV r2 hF hA hH hacc
theorem lc_run {X : Cx} {W : WX} {it : Ms → R (List Dt)} {T : Tk} {t : Ms → R Bool} {e : Ms → R Dt} {own : List Nat} (hi : ∀ i ∈ T.is, i ∈ own) {σ : L2.St} {H : Hp} {Q : VK}
    (q : tN X.K W (lcE it T.k t e own) σ H Q) : tLc (tI X.K W it) (T.g X.K) (tT X.K W0 t) (tD X.K W0 e) own σ H Q := by
  obtain ⟨B, F, as, S, r, o⟩ := q
  exact ⟨B, F, as, S, r, Out.mono (Out.bind o) fun ds F1 H1 as1 S1 ⟨r1, e1, o1⟩ J w D hD => lc_core0 hi r1 o1 w hD⟩
end Lq

namespace Lq
open PySem PySem.Spec PyProof.Rows L2
open Evl (Ex)
def asgS (i : Nat) (f : Ms → R Dt) : Ms → O := fun S => (f S).stmt fun d S1 => .nx { S1 with sl := S1.sl.set i (.im d) }
def asgN (i : Nat) (f : Ms → R (List Dt)) : Ms → O := fun S => (f S).stmt fun ds S1 => .nx { sl := S1.sl.set i (.mu S1.mo.length), mo := S1.mo ++ [.ob (.ls ds)] }
def moveS (i j : Nat) : Ms → O := fun S => match S.sl[j]? with | some (.im d) => .nx { S with sl := S.sl.set i (.im d) } | some (.mu k) => .nx { S with sl := S.sl.set i (.mu k) } | _ => .no
def asgT (T : Tk) (f : Ms → R Dt) : Ms → O := fun S => (f S).stmt fun d S1 => match T.k d S1 with | some S2 => .nx S2 | none => .no
section
variable {K : PySem.W.Frag} {W : WX} {f : Ms → R Dt} {fn : Ms → R (List Dt)} {i j : Nat} {D : Ends} {σ : L2.St} {H : Hp}
theorem asgS_run (q : sD K W (asgS i f) D σ H) : tD K W f σ H fun x H1 => D.nx (σ.set i (some x)) H1 := by
  obtain ⟨B, F, as, S, r, o⟩ := q
  exact ⟨B, F, as, S, r, Out.mono (OutS.stmt o) fun d F1 H1 as1 S1 ⟨r1, e1, o1⟩ v hv => o1 _ F1 H1 as1 Ext.refl (r1.slot (s := .im d) i hv)⟩
theorem asgN_run (q : sD K W (asgN i fn) D σ H) : tN K W fn σ H fun x H1 => D.nx (σ.set i (some x)) H1 := by
  obtain ⟨B, F, as, S, r, o⟩ := q
  refine ⟨B, F, as, S, r, Out.mono (OutS.stmt o) fun ds F1 H1 as1 S1 ⟨r1, e1, o1⟩ p vs f1 f2 f3 hp hv => ?_⟩
  obtain ⟨ee, rr⟩ := r1.newL f1 f2 f3 hp (.ls hv)
  refine o1 _ F1 H1 _ ee (rr.slot (s := .mu S1.mo.length) i ⟨p, ?_, rfl⟩)
  have hl : as1.length = S1.mo.length := r1.mo.length
  rw [← hl, List.getElem?_append_right (Nat.le_refl _), Nat.sub_self]
  rfl
theorem moveS_run (q : sD K W (moveS i j) D σ H) : tVar j σ H fun x H1 => D.nx (σ.set i (some x)) H1 := by
  obtain ⟨B, F, as, S, r, o⟩ := q
  unfold moveS at o
  cases hs : S.sl[j]? with
  | none => rw [hs] at o; exact o.elim
  | some s =>
    rw [hs] at o
    obtain ⟨ov, hv, z⟩ := pairedGet r.sl hs
    cases s with
    | no => exact o.elim
    | im d =>
      cases ov with
      | none => exact z.elim
      | some v => exact ⟨v, hv, o _ F H as Ext.refl (r.slot (s := .im d) i z)⟩
    | mu k =>
      cases ov with
      | none => exact z.elim
      | some v => exact ⟨v, hv, o _ F H as Ext.refl (r.slot (s := .mu k) i z)⟩
end
section
variable {X : Cx} {W : WX} {a b c e : Expr} {es : List Expr} {pos pos' : Pos} {f g : Ms → R Dt} {fn : Ms → R (List Dt)} {fs : Ms → R (List Dt)} {i j : Nat} {x y : Str} {m n : Ms → O} {st : Stmt} {rest : List Stmt}
theorem ds_set (hN : X.N.Nodup) (hi : X.N[i]? = some x) (hx : Loc X.env.scope x) (he : PE X e (tD X.K W f)) (hs : swapsWith e (some (.Name x pos')) pos.line X.env = pure false := by rfl) (hf : X.fn x = true ∨ X.env.scope.names.lookup x = some .local := by first | exact .inl rfl | exact .inr rfl | assumption) :
    PS X (.Assign [.Name x pos'] e pos) (sD X.K W (asgS i f)) := monoS (ps_set hN hi hx he hs hf) fun D σ H q => asgS_run q
theorem ds_setN (hN : X.N.Nodup) (hi : X.N[i]? = some x) (hx : Loc X.env.scope x) (he : PE X e (tN X.K W fn)) (hs : swapsWith e (some (.Name x pos')) pos.line X.env = pure false := by rfl) (hf : X.fn x = true ∨ X.env.scope.names.lookup x = some .local := by first | exact .inl rfl | exact .inr rfl | assumption) :
    PS X (.Assign [.Name x pos'] e pos) (sD X.K W (asgN i fn)) := monoS (ps_set hN hi hx he hs hf) fun D σ H q => asgN_run q
theorem ds_mov (hN : X.N.Nodup) (hi : X.N[i]? = some x) (hx : Loc X.env.scope x) (he : PE X e (tVar j)) (hs : swapsWith e (some (.Name x pos')) pos.line X.env = pure false := by rfl) (hf : X.fn x = true ∨ X.env.scope.names.lookup x = some .local := by first | exact .inl rfl | exact .inr rfl | assumption) :
    PS X (.Assign [.Name x pos'] e pos) (sD X.K W (moveS i j)) := monoS (ps_set hN hi hx he hs hf) fun D σ H q => moveS_run q
theorem ds_tgt {tg : Expr} {T : Tk} (he : PE X e (tD X.K W f)) (hg : DG X tg T) (hs : swapsWithSole [tg] e pos.line X.env = pure false := by rfl) (hw : swappedStores [tg] e X.env = pure none := by rfl)
    (h1 : (assignEach [tg] X.env).map (·.2) = [assign tg X.env] := by rfl) : PS X (.Assign [tg] e pos) (sD X.K W (asgT T f)) := monoS (ps_asg he hg.pg hs hw h1) fun D σ H q => by
  obtain ⟨B, F, as, S, r, o⟩ := q
  refine ⟨B, F, as, S, r, Out.mono (OutS.stmt o) fun d F1 H1 as1 S1 ⟨r1, e1, o1⟩ v hv => ?_⟩
  cases hk : T.k d S1 with
  | none => rw [hk] at o1; exact o1.elim
  | some S2 =>
    rw [hk] at o1
    exact T.run r1 hv hk fun σ' r' _ => o1 σ' F1 H1 as1 Ext.refl r'

section
variable {tg iter elt : Expr} {ifs : List Expr} {scope : Scope} {own : List (Str × Nat)} {it : Ms → R (List Dt)} {T : Tk} {t : Ms → R Bool} {fe : Ms → R Dt}
theorem dn_lc (hc : X.calm = true) (hN : X.N.Nodup) (hi : PI X tg iter (tI X.K W it)) (ok : BlkOk X.N X.env.scope scope own) {vs : List Nat} (hsub : ∀ i ∈ T.is, i ∈ vs)
    (hg : ∀ (s : Shared) (H : Hp) (C : Addr) (cl : List (Str × Addr)) (fp : List Addr), DG (X.blk s H scope (compEnvC scope cl C X.env) fp) tg T) (ht : ∀ (s : Shared) (H : Hp) (C : Addr) (cl : List (Str × Addr)) (fp : List Addr), PTs (X.blk s H scope (compEnvC scope cl C X.env) fp) ifs (tT X.K W0 t))
    (he : ∀ (s : Shared) (H : Hp) (C : Addr) (cl : List (Str × Addr)) (fp : List Addr), PE (X.blk s H scope (compEnvC scope cl C X.env) fp) elt (tD X.K W0 fe)) (hs : ∀ x, foldedSetIterable iter X.env x = pure x := by intro _; rfl) (hvs : own.map (·.2) = vs := by rfl) :
    PE X (.ListComp elt [⟨tg, iter, ifs, 0⟩] scope pos) (tN X.K W (lcE it T.k t fe vs)) :=
  by
  subst hvs
  exact ⟨fun pins s σ H Q I q => (pe_lc hc hN hi ok (fun s H C cl fp => (hg s H C cl fp).pg) ht he hs).run pins s σ H Q I (lc_run hsub q)⟩
theorem ds_lc {py spos : Pos} (hc : X.calm = true) (hN : X.N.Nodup) (hy : X.N[i]? = some y) (hyl : X.env.scope.names.lookup y = some .local)
    (hsw : swapsWith (.ListComp elt [⟨tg, iter, ifs, 0⟩] scope pos) (some (.Name y py)) spos.line X.env = pure true) (hi : PI X tg iter (tI X.K W it)) (ok : BlkOk X.N X.env.scope scope own) {vs : List Nat} (hsub : ∀ i ∈ T.is, i ∈ vs)
    (hg : ∀ (s : Shared) (H : Hp) (C : Addr) (cl : List (Str × Addr)) (fp : List Addr), DG (X.blk s H scope (compEnvC scope cl C X.env) fp) tg T) (ht : ∀ (s : Shared) (H : Hp) (C : Addr) (cl : List (Str × Addr)) (fp : List Addr), PTs (X.blk s H scope (compEnvC scope cl C X.env) fp) ifs (tT X.K W0 t))
    (he : ∀ (s : Shared) (H : Hp) (C : Addr) (cl : List (Str × Addr)) (fp : List Addr), PE (X.blk s H scope (compEnvC scope cl C X.env) fp) elt (tD X.K W0 fe)) (hs : ∀ x, foldedSetIterable iter X.env x = pure x := by intro _; rfl) (hvs : own.map (·.2) = vs := by rfl) :
    PS X (.Assign [.Name y py] (.ListComp elt [⟨tg, iter, ifs, 0⟩] scope pos) spos) (sD X.K W (asgS i (frz (lcE it T.k t fe vs)))) :=
  by
  subst hvs
  exact ⟨fun pins s σ H D I q => (ps_setLc hc hN hy hyl hsw hi ok (fun s H C cl fp => (hg s H C cl fp).pg) ht he hs).run pins s σ H D I (lc_run (Q := fun x H1 => D.nx (σ.set i (some x)) H1) hsub (frz_run (asgS_run q)))⟩
theorem dts_nil : PTs X [] (tT X.K W yesT) := monoPT pts_nil fun σ H Q q => by
  obtain ⟨B, F, as, S, r, o⟩ := q
  exact Out.now o r
theorem dts_one {p : Ms → R Bool} (h : PT X c (tT X.K W p)) : PTs X [c] (tT X.K W p) := pts_one h
end

def muAt (S : Ms) (i : Nat) : Option (Nat × List Dt) := match S.sl[i]? with | some (.mu k) => (match S.mo[k]? with | some (.ob (.ls xs)) => some (k, xs) | _ => none) | _ => none
theorem muAt_rp {K : PySem.W.Frag} {B F H : Hp} {as : List Addr} {σ : L2.St} {S : Ms} (r : Rep K B F H as σ S) {k : Nat} {xs : List Dt} (h : muAt S i = some (k, xs)) :
    ∃ p vs, σ[i]? = some (some (.ref p)) ∧ S.mo[k]? = some (.ob (.ls xs)) ∧ as[k]? = some p ∧ B p = none ∧ F p = none ∧ H p = some (.lst vs) ∧ RpA K F vs xs := by
  unfold muAt at h
  cases hs : S.sl[i]? with
  | none => rw [hs] at h; cases h
  | some s =>
    rw [hs] at h
    cases s with
    | mu k' =>
      dsimp only at h
      cases hm : S.mo[k']? with
      | none => rw [hm] at h; cases h
      | some mm =>
        rw [hm] at h
        cases mm with
        | ob c =>
         cases c with
         | dc kvs => cases h
         | io _ _ _ => cases h
         | ls ys =>
          cases h
          obtain ⟨ov, hv, z⟩ := pairedGet r.sl hs
          cases ov with
          | none => exact z.elim
          | some v =>
            obtain ⟨p, hp, rfl⟩ := z
            obtain ⟨p', hp', q1, q2, ob, q3, q4⟩ := pairedGet r.mo hm
            rw [hp] at hp'
            cases hp'
            cases q4
            rename_i vs q4
            exact ⟨p, vs, hv, hm, hp, q1, q2, q3, q4⟩
        | fz d => cases h
    | _ => cases h
def appS (i : Nat) (f : Ms → R Dt) : Ms → O := fun S => match muAt S i with
  | none => .no
  | some _ => (f S).stmt fun d S1 => match muAt S1 i with | some (k, xs) => if xs.length < 100000 then .nx { S1 with mo := S1.mo.set k (.ob (.ls (xs ++ [d]))) } else .no | none => .no
theorem ds_app {o : Expr} {apos cpos : Pos} (ho : PE X o (tVar i)) (he : PE X e (tD X.K W f)) (hs0 : starEach [e] X.env = (false, eval e X.env) :: starEach [] X.env := by rfl)
    (hbase : attributeBase o "append" X.env (eval o X.env) = eval o X.env := by rfl)
    (hfew : ((backTo cpos (starEach [e] X.env)).all (fun x => !x.1) && (backToKw cpos (keywordEach [] X.env)).all (fun x => x.1.isSome)
      && decide ([e].length + ([] : List Keyword).length + (if ([] : List Keyword).isEmpty then 0 else 1) < 30)) = true := by rfl)
    (hline : (apos.endLine == cpos.line) = true := by rfl) (hpl : (backTo cpos (starEach [] X.env)).any (·.1) = false := by rfl) (hs : swapsWith (.Call (.Attribute o "append" apos) [e] [] cpos) none pos.line X.env = pure false := by rfl) :
    PS X (.Expr (.Call (.Attribute o "append" apos) [e] [] cpos) pos) (sD X.K W (appS i f)) :=
  monoS (ps_expr (pe_bm PySem.F.plainAttrs_list PySem.F.slot_list_append PySem.F.type_list_append mt_append ho (pa_cons he pa_nil hs0) hbase hfew hline hs0 hpl) hs) fun D σ H q => by
    obtain ⟨B, F, as, S, r, o⟩ := q
    unfold appS at o
    cases hm0 : muAt S i with
    | none => rw [hm0] at o; exact o.elim
    | some km =>
      rw [hm0] at o
      obtain ⟨k0, xs0⟩ := km
      obtain ⟨p, vs0, hp, hmo0, hp0, _, _, hH0, hv0⟩ := muAt_rp r hm0
      refine ⟨_, hp, .inl ⟨rfl, vs0, Evl.sq_of hH0⟩, ?_⟩
      refine ⟨B, F, as, S, r, Out.mono (OutS.stmt o) fun d F1 H1 as1 S1 ⟨r1, e1, o1⟩ v hv => ?_⟩
      cases hm : muAt S1 i with
      | none => rw [hm] at o1; exact o1.elim
      | some km =>
        rw [hm] at o1
        obtain ⟨k, xs⟩ := km
        obtain ⟨p', vs, hp', hmo, ha, _, _, hH, hvs⟩ := muAt_rp r1 hm
        rw [hp] at hp'
        cases hp'
        dsimp only at o1
        split at o1
        · rename_i hl
          exact ⟨p, vs, v, rfl, rfl, hH, Evl.sz_lt (by rw [hvs.length]; exact hl), o1 σ F1 _ as1 Ext.refl (r1.put hmo ha (.ls (hvs.snoc hv)))⟩
        · exact o1.elim
def setS (i : Nat) (f g : Ms → R Dt) : Ms → O := fun S => (f S).stmt fun d S1 => match muAt S1 i with
  | none => .no
  | some _ => (g S1).stmt fun e S2 => match e with
    | .int z => (match muAt S2 i with | some (k, xs) => (match ixN xs.length z with | some j => .nx { S2 with mo := S2.mo.set k (.ob (.ls (xs.set j d))) } | none => .no) | none => .no)
    | _ => .no
theorem ds_setI {o ix : Expr} {ps : Pos} (ho : PE X o (tVar i)) (hx : PE X ix (tD X.K W g)) (he : PE X e (tD X.K W f))
    (ha : ∀ v, assign (.Subscript o ix ps) X.env v = (do
      let ov ← holding [v] (eval o X.env)
      let iv ← holding [v, ov] (eval ix X.env)
      standAt ps
      holding [v, ov, iv] (setItem ov iv v)
      release [v, ov, iv] []) := by intro _; rfl)
    (hs : swapsWithSole [.Subscript o ix ps] e pos.line X.env = pure false := by rfl) (hw : swappedStores [.Subscript o ix ps] e X.env = pure none := by rfl)
    (h1 : (assignEach [.Subscript o ix ps] X.env).map (·.2) = [assign (.Subscript o ix ps) X.env] := by rfl) : PS X (.Assign [.Subscript o ix ps] e pos) (sD X.K W (setS i f g)) :=
  monoS (ps_asg he (pg_sub ho hx set_list ha) hs hw h1) fun D σ H q => by
    obtain ⟨B, F, as, S, r, o⟩ := q
    refine ⟨B, F, as, S, r, Out.mono (OutS.stmt o) fun d F1 H1 as1 S1 ⟨r1, e1, o1⟩ v hv => ?_⟩
    cases hm0 : muAt S1 i with
    | none => rw [hm0] at o1; exact o1.elim
    | some km =>
      rw [hm0] at o1
      obtain ⟨k0, xs0⟩ := km
      obtain ⟨p, vs0, hp, hmo0, hp0, _, _, hH0, hv0⟩ := muAt_rp r1 hm0
      refine ⟨_, hp, ?_⟩
      refine ⟨B, F1, as1, S1, r1, Out.mono (OutS.stmt o1) fun z F2 H2 as2 S2 ⟨r2, e2, o2⟩ w hw => ?_⟩
      cases z with
      | int z =>
        cases hw
        dsimp only at o2
        cases hm : muAt S2 i with
        | none => rw [hm] at o2; exact o2.elim
        | some km =>
          rw [hm] at o2
          obtain ⟨k, xs⟩ := km
          obtain ⟨p', vs, hp', hmo, ha, _, _, hH, hvs⟩ := muAt_rp r2 hm
          rw [hp] at hp'
          cases hp'
          dsimp only at o2
          cases hj : ixN xs.length z with
          | none => rw [hj] at o2; exact o2.elim
          | some j =>
            rw [hj] at o2
            exact ⟨p, vs, z, j, rfl, rfl, hH, by rw [hvs.length]; exact hj, o2 σ F2 _ as2 Ext.refl (r2.put hmo ha (.ls (hvs.set j (hv.up e2.1))))⟩
      | _ => exact o2.elim
def ixV (i : Nat) (g : Ms → R Dt) : Ms → R Dt := fun S => match muAt S i with
  | none => .no
  | some _ => (g S).bind fun e S1 => match e with
    | .int z => (match muAt S1 i with | some (_, xs) => R.of (atI xs z) S1 | none => .no)
    | _ => .no
theorem de_ixV {o ix : Expr} (ho : PE X o (tVar i)) (hx : PE X ix (tD X.K W g)) (hs : PlainIx ix := by exact fun _ _ => rfl) : PE X (.Subscript o ix pos) (tD X.K W (ixV i g)) := monoE (pe_ix ix_list ho hx hs) fun σ H Q q => by
  obtain ⟨B, F, as, S, r, o⟩ := q
  unfold ixV at o
  cases hm0 : muAt S i with
  | none => rw [hm0] at o; exact o.elim
  | some km =>
    rw [hm0] at o
    obtain ⟨k0, xs0⟩ := km
    obtain ⟨p, vs0, hp, hmo0, hp0, _, _, hH0, hv0⟩ := muAt_rp r hm0
    refine ⟨_, hp, ?_⟩
    refine ⟨B, F, as, S, r, Out.mono (Out.bind o) fun z F2 H2 as2 S2 ⟨r2, e2, o2⟩ w hw => ?_⟩
    cases z with
    | int z =>
      cases hw
      dsimp only at o2
      cases hm : muAt S2 i with
      | none => rw [hm] at o2; exact o2.elim
      | some km =>
        rw [hm] at o2
        obtain ⟨k, xs⟩ := km
        obtain ⟨p', vs, hp', hmo, ha, _, _, hH, hvs⟩ := muAt_rp r2 hm
        rw [hp] at hp'
        cases hp'
        dsimp only at o2
        cases hj : atI xs z with
        | none => rw [hj] at o2; exact o2.elim
        | some y =>
          rw [hj] at o2
          obtain ⟨u, h1, h2⟩ := atI_rp hvs hj
          exact ⟨p, vs, z, u, rfl, rfl, Evl.sq_of hH, h1, Out.now o2 r2 _ h2⟩
    | _ => exact o2.elim

def seqS (m n : Ms → O) : Ms → O := fun S => (m S).seq n
def nilS : Ms → O := fun S => .nx S
theorem dss_nil : PSs X [] (sD X.K W nilS) := monoSs pss_nil fun D σ H q => by
  obtain ⟨B, F, as, S, r, o⟩ := q
  exact o σ F H as Ext.refl r
theorem dss_cons (h1 : PS X st (sD X.K W m)) (h2 : PSs X rest (sD X.K W n)) : PSs X (st :: rest) (sD X.K W (seqS m n)) := monoSs (pss_cons h1 h2) fun D σ H q => by
  obtain ⟨B, F, as, S, r, o⟩ := q
  exact ⟨B, F, as, S, r, OutS.seq o⟩
theorem dss_one (h1 : PS X st (sD X.K W m)) : PSs X [st] (sD X.K W m) := pss_one h1
def ifS (p : Ms → R Bool) (m n : Ms → O) : Ms → O := fun S => (p S).stmt fun b S1 => if b then m S1 else n S1
theorem ds_if {p : Ms → R Bool} {sa sb : List Stmt} (hc : PT X c (tT X.K W p)) (ha : PSs X sa (sD X.K W m)) (hb : PSs X sb (sD X.K W n)) : PS X (.If c sa sb pos) (sD X.K W (ifS p m n)) := monoS (ps_if hc ha hb) fun D σ H q => by
  obtain ⟨B, F, as, S, r, o⟩ := q
  refine ⟨B, F, as, S, r, Out.mono (OutS.stmt o) fun b F1 H1 as1 S1 ⟨r1, e1, o1⟩ => ?_⟩
  cases b with
  | true => exact ⟨B, F1, as1, S1, r1, o1⟩
  | false => exact ⟨B, F1, as1, S1, r1, o1⟩
def retS (f : Ms → R Dt) : Ms → O := fun S => (f S).stmt fun d S1 => .rt d S1
theorem ds_ret (h : PE X e (tD X.K W f)) : PS X (.Return (some e) pos) (sD X.K W (retS f)) := monoS (ps_ret h) fun D σ H q => by
  obtain ⟨B, F, as, S, r, o⟩ := q
  exact ⟨B, F, as, S, r, Out.mono (OutS.stmt o) fun d F1 H1 as1 S1 ⟨r1, e1, o1⟩ v hv => o1 σ F1 H1 as1 v Ext.refl r1 hv⟩
def dropS (f : Ms → R Dt) : Ms → O := fun S => (f S).stmt fun _ S1 => .nx S1
theorem ds_drop (h : PE X e (tD X.K W f)) (hs : swapsWith e none pos.line X.env = pure false := by rfl) : PS X (.Expr e pos) (sD X.K W (dropS f)) := monoS (ps_expr h hs) fun D σ H q => by
  obtain ⟨B, F, as, S, r, o⟩ := q
  exact ⟨B, F, as, S, r, Out.mono (OutS.stmt o) fun d F1 H1 as1 S1 ⟨r1, e1, o1⟩ v hv => o1 σ F1 H1 as1 Ext.refl r1⟩
def noS : Ms → O := fun _ => .no
theorem ds_never : PS X st (sD X.K W noS) := monoS ps_never fun D σ H q => by
  obtain ⟨B, F, as, S, r, o⟩ := q
  exact o.elim
def forL (k : Dt → Ms → Option Ms) (body : Ms → O) : List Dt → Ms → O
  | [], S => .nx S
  | d :: ds, S => match k d S with
    | none => .no
    | some S1 => match body S1 with
      | .nx S2 => forL k body ds S2
      | .ct S2 => forL k body ds S2
      | .bk S2 => .nx S2
      | .rt d S2 => .rt d S2
      | .er e S2 => .er e S2
      | .no => .no
def forS (it : Ms → R (List Dt)) (k : Dt → Ms → Option Ms) (body : Ms → O) : Ms → O := fun S => (it S).stmt fun ds S1 => forL k body ds S1
theorem ds_for {tg iter : Expr} {it : Ms → R (List Dt)} {T : Tk} {body : List Stmt} (hp : PassesOwn (model X.prog X.w) X.A X.env X.xe) (hc : X.calm = true) (hi : PI X tg iter (tI X.K W it)) (hg : DG X tg T) (hb : PSs X body (sD X.K W m))
    (hs : ∀ x, foldedSetIterable iter X.env x = pure x := by intro _; rfl) : PS X (.For tg iter body [] pos) (sD X.K W (forS it T.k m)) := monoS (ps_for hp hc hi hg.pg hb hs) fun D σ H q => by
  obtain ⟨B, F, as, S, r, o⟩ := q
  refine ⟨B, F, as, S, r, Out.mono (OutS.stmt o) fun ds F1 H1 as1 S1 ⟨r1, e1, o1⟩ J w => ?_⟩
  refine ⟨fun i m' σ' H' => m' = ds.length - i ∧ i ≤ ds.length ∧ ∃ F2 as2 S2, Ext F1 F2 as1 as2 ∧ Rep X.K B F2 H' as2 σ' S2 ∧ OutS X.K W B F2 as2 (forL T.k m (ds.drop i) S2) D, ⟨_, rfl, Nat.zero_le _, F1, as1, S1, Ext.refl, r1, o1⟩, ?_⟩
  rintro i m' σ' H' ⟨rfl, hle, F2, as2, S2, e2, r2, o2⟩
  by_cases hlt : i < ds.length
  · refine .inr ⟨w.go i H' hlt (e2.1.trans r2.fh), ?_⟩
    obtain ⟨d, hd⟩ : ∃ d, ds[i]? = some d := ⟨ds[i], by simp [hlt]⟩
    have hdrop : ds.drop i = d :: ds.drop (i + 1) := by
      rw [List.drop_eq_getElem_cons hlt]
      congr 1
      rw [List.getElem?_eq_getElem hlt] at hd
      exact Option.some.inj hd
    rw [hdrop] at o2
    refine ⟨fun σ3 H3 => ∃ F2 as2 S2, Ext F1 F2 as1 as2 ∧ Rep X.K B F2 H3 as2 σ3 S2 ∧ OutS X.K W B F2 as2 (forL T.k m (ds.drop (i + 1)) S2) D, fun σ3 H3 h => ⟨_, by omega, rfl, hlt, h⟩, fun x H3 hy => ?_⟩
    obtain ⟨d', hd', hx⟩ := w.yld i H' x H3 F2 hlt e2.1 r2.fh hy
    rw [hd] at hd'
    cases hd'
    obtain ⟨F3, e3, r3, hv3⟩ : ∃ F3, Ext F2 F3 as2 as2 ∧ Rep X.K B F3 H3 as2 σ' S2 ∧ Rp X.K F3 x d := by
      rcases hx with ⟨rfl, hx⟩ | ⟨T, ob, hT, rfl, hx⟩
      · exact ⟨F2, Ext.refl, r2, hx⟩
      · obtain ⟨ee, rr⟩ := r2.new hT ob
        exact ⟨_, ee, rr, hx⟩
    unfold forL at o2
    cases hk : T.k d S2 with
    | none => rw [hk] at o2; exact o2.elim
    | some S3 =>
      rw [hk] at o2
      dsimp only at o2
      refine T.run r3 hv3 hk fun σ4 r4 _ => ⟨B, F3, as2, S3, r4, ?_⟩
      revert o2
      cases m S3 with
      | nx S4 => exact fun o2 σ5 F5 H5 as5 e5 r5 => ⟨F5, as5, S4, e2.trans (e3.trans e5), r5, OutS.ext o2 (e3.trans e5)⟩
      | ct S4 => exact fun o2 σ5 F5 H5 as5 e5 r5 => ⟨F5, as5, S4, e2.trans (e3.trans e5), r5, OutS.ext o2 (e3.trans e5)⟩
      | bk S4 => exact fun o2 σ5 F5 H5 as5 e5 r5 => o2 σ5 F5 H5 as5 (e3.trans e5) r5
      | rt d S4 => exact fun o2 σ5 F5 H5 as5 v e5 r5 => o2 σ5 F5 H5 as5 v (e3.trans e5) r5
      | er e S4 => exact fun o2 σ5 F5 H5 as5 dx fs e5 r5 => o2 σ5 F5 H5 as5 dx fs (e3.trans e5) r5
      | no => exact fun o2 => o2
  · have e : i = ds.length := by omega
    subst e
    rw [List.drop_length] at o2
    exact .inl ⟨w.stop H' (e2.1.trans r2.fh), o2 σ' F2 H' as2 Ext.refl r2⟩
def whl (p : Ms → R Bool) (body : Ms → O) : Nat → Ms → O
  | 0, _ => .no
  | n + 1, S => (p S).stmt fun b S1 => if b then (match body S1 with
      | .nx S2 => whl p body n S2
      | .ct S2 => whl p body n S2
      | .bk S2 => .nx S2
      | .rt d S2 => .rt d S2
      | .er e S2 => .er e S2
      | .no => .no) else .nx S1
def whileS (fuel : Ms → Nat) (p : Ms → R Bool) (body : Ms → O) : Ms → O := fun S => whl p body (fuel S) S
theorem ds_while {fuel : Ms → Nat} {p : Ms → R Bool} {body : List Stmt} (hp : PassesOwn (model X.prog X.w) X.A X.env X.xe) (hc : PT X c (tT X.K W p)) (hb : PSs X body (sD X.K W m)) : PS X (.While c body [] pos) (sD X.K W (whileS fuel p m)) := monoS (ps_while hp hc hb) fun D σ H q => by
  obtain ⟨B, F, as, S, r, o⟩ := q
  refine ⟨fun n σ' H' => ∃ F2 as2 S2, Rep X.K B F2 H' as2 σ' S2 ∧ OutS X.K W B F2 as2 (whl p m n S2) D, ⟨fuel S, F, as, S, r, o⟩, ?_⟩
  rintro n σ' H' ⟨F2, as2, S2, r2, o2⟩
  cases n with
  | zero => exact o2.elim
  | succ n =>
    unfold whl at o2
    refine ⟨B, F2, as2, S2, r2, Out.mono (OutS.stmt o2) fun b F3 H3 as3 S3 ⟨r3, e3, o3⟩ => ?_⟩
    cases b with
    | true =>
      show ∃ N : L2.St → Hp → Prop, _
      refine ⟨fun σ4 H4 => ∃ F2 as2 S2, Rep X.K B F2 H4 as2 σ4 S2 ∧ OutS X.K W B F2 as2 (whl p m n S2) D, fun σ4 H4 h => ⟨n, Nat.lt_succ_self n, h⟩, ?_⟩
      refine ⟨B, F3, as3, S3, r3, ?_⟩
      simp only [if_true] at o3
      revert o3
      cases m S3 with
      | nx S4 => exact fun o3 σ5 F5 H5 as5 e5 r5 => ⟨F5, as5, S4, r5, OutS.ext o3 e5⟩
      | ct S4 => exact fun o3 σ5 F5 H5 as5 e5 r5 => ⟨F5, as5, S4, r5, OutS.ext o3 e5⟩
      | bk S4 => exact fun o3 σ5 F5 H5 as5 e5 r5 => o3 σ5 F5 H5 as5 e5 r5
      | rt d S4 => exact fun o3 => o3
      | er e S4 => exact fun o3 => o3
      | no => exact fun o3 => o3
    | false => exact o3 _ _ _ _ Ext.refl r3
end
end Lq

namespace Lq
open PySem PySem.Spec PyProof.Rows L2
open Evl (Ex)
inductive Fo where | ok (d : Dt) | er (e : Er) | no
inductive FoM where | ok (d : Dt) (xs : List Dt) | er (e : Er) (xs : List Dt) | no
def Kept (B F' H' : Hp) : Prop := ∀ a o, B a = some o → H' a = some o ∧ F' a = none ∧ NT o
def spD (K : PySem.W.Frag) (n : Nat) (f : List Dt → Fo) : Sp := fun vs H Q E => ∃ B F ds, ds.length = n ∧ Ex F H ∧ Kept B F H ∧ RpA K F vs ds ∧ match f ds with
  | .ok d => ∀ v F' H', Ex F F' → Ex F' H' → Kept B F' H' → Rp K F' v d → Q v H'
  | .er e => ∀ F' H' dx fs, Ex F F' → Ex F' H' → Kept B F' H' → DictR H' dx fs → fs.map (·.1) = e.ks → RpA K F' (fs.map (·.2)) e.ds → E (.ref e.C) dx H'
  | .no => False
def spM (K : PySem.W.Frag) (n : Nat) (f : List Dt → List Dt → FoM) : Sp := fun vs H Q E => ∃ B F a ws xs vs' ds, vs = .ref a :: vs' ∧ ds.length = n ∧ Ex F H ∧ Kept B F H ∧ B a = none ∧ F a = none ∧ H a = some (.lst ws) ∧ RpA K F ws xs ∧ RpA K F vs' ds ∧ match f xs ds with
  | .ok d ys => ∀ v F' H' us, Ex F F' → Ex F' H' → Kept B F' H' → F' a = none → H' a = some (.lst us) → RpA K F' us ys → Rp K F' v d → Q v H'
  | .er e ys => ∀ F' H' us dx fs, Ex F F' → Ex F' H' → Kept B F' H' → F' a = none → H' a = some (.lst us) → RpA K F' us ys → DictR H' dx fs → fs.map (·.1) = e.ks → RpA K F' (fs.map (·.2)) e.ds → E (.ref e.C) dx H'
  | .no => False

def O.fo : O → Fo | .nx _ => .ok .non | .rt d _ => .ok d | .er e _ => .er e | _ => .no
def st0 (n : Nat) (ds : List Dt) : Ms := { sl := ds.map Sv.im ++ List.replicate (n - ds.length) .no, mo := [] }
def runD (n : Nat) (m : Ms → O) (ds : List Dt) : Fo := (m (st0 n ds)).fo
def mo0 (S : Ms) : Option (List Dt) := match S.mo[0]? with | some (Mo.ob (.ls xs)) => some xs | _ => none
def O.foM : O → FoM
  | .nx S => (match mo0 S with | some xs => .ok .non xs | none => .no)
  | .rt d S => (match mo0 S with | some xs => .ok d xs | none => .no)
  | .er e S => (match mo0 S with | some xs => .er e xs | none => .no)
  | _ => .no
def stM (n : Nat) (xs ds : List Dt) : Ms := { sl := .mu 0 :: (ds.map Sv.im ++ List.replicate (n - 1 - ds.length) .no), mo := [.ob (.ls xs)] }
def runM (n : Nat) (m : Ms → O) (xs ds : List Dt) : FoM := (m (stM n xs ds)).foM

theorem paired_im {K : PySem.W.Frag} {F : Hp} {as : List Addr} : ∀ {vs : List V} {ds : List Dt}, RpA K F vs ds → ∀ {l : List (Option V)} {r : List Sv}, Paired (SvR K F as) l r → Paired (SvR K F as) (vs.map some ++ l) (ds.map Sv.im ++ r)
  | _, _, .nil, _, _, h => h
  | _, _, .cons h1 h2, _, _, h => .cons h1 (paired_im h2 h)
theorem paired_no {K : PySem.W.Frag} {F : Hp} {as : List Addr} : ∀ n : Nat, Paired (SvR K F as) (List.replicate n none) (List.replicate n Sv.no)
  | 0 => .nil
  | n + 1 => .cons trivial (paired_no n)
section
variable {P : Program} {w : World} {K : PySem.W.Frag} {mg : Str → Option Value} {base : Heap}
theorem defOk {x qual : Str} {st : Stmt} {f : Addr} {fd : FuncData} {N ps : List Str} {k : Nat} {m : Ms → O} (F : Fun K x qual st f fd) (S : FnScope N ps (defScope st))
    (hbody : ∀ (cdv : Value) (A : Around) (outer : List Env) (s : Shared) (H : Hp) (E : XK), Room k (A.deeper (envOfC qual (defScope st) s.heap.objs.size f cdv)) →
      PSs (cxOf (L2.CX P w) P w K mg base N qual (defScope st) f cdv A outer s H E) (defBody st) (sD K (fun cls d _ H' => E cls d H') m)) :
    FnOk P w K mg base (L2.CX P w) (k + 1) f fd ps (spD K ps.length (runD N.length m)) := by
  refine F.okX S (fun vs H Q E h => ?_) (fun cdv A outer s H vs Q E hr h => ⟨_, hbody cdv A outer s H E hr, ?_⟩)
  · obtain ⟨B, F, ds, hn, _, _, hv, _⟩ := h
    rw [hv.length, hn]
  · obtain ⟨B, F, ds, hn, e, kp, hv, q⟩ := h
    refine ⟨B, F, [], st0 N.length ds, ⟨e, kp, ?_, .nil, List.nodup_nil⟩, ?_⟩
    · unfold L2.start st0
      rw [hv.length]
      exact paired_im hv (paired_no _)
    · unfold runD at q
      revert q
      cases m (st0 N.length ds) with
      | nx S' => exact fun q σ' F' H' as' e' r => q .non F' H' e'.1 r.fh r.bh .non
      | rt d S' => exact fun q σ' F' H' as' v e' r hv => q v F' H' e'.1 r.fh r.bh hv
      | er e S' => exact fun q σ' F' H' as' dx fs e' r => q F' H' dx fs e'.1 r.fh r.bh
      | bk S' => exact fun q => q.elim
      | ct S' => exact fun q => q.elim
      | no => exact fun q => q
theorem defOkM {x qual : Str} {st : Stmt} {f : Addr} {fd : FuncData} {N ps : List Str} {p0 : Str} {k : Nat} {m : Ms → O} (F : Fun K x qual st f fd) (S : FnScope N (p0 :: ps) (defScope st))
    (hbody : ∀ (cdv : Value) (A : Around) (outer : List Env) (s : Shared) (H : Hp) (E : XK), Room k (A.deeper (envOfC qual (defScope st) s.heap.objs.size f cdv)) →
      PSs (cxOf (L2.CX P w) P w K mg base N qual (defScope st) f cdv A outer s H E) (defBody st) (sD K (fun cls d _ H' => E cls d H') m)) :
    FnOk P w K mg base (L2.CX P w) (k + 1) f fd (p0 :: ps) (spM K ps.length (runM N.length m)) := by
  refine F.okX S (fun vs H Q E h => ?_) (fun cdv A outer s H vs Q E hr h => ⟨_, hbody cdv A outer s H E hr, ?_⟩)
  · obtain ⟨B, F, a, ws, xs, vs', ds, rfl, hn, _, _, _, _, _, _, hv, _⟩ := h
    rw [List.length_cons, List.length_cons, hv.length, hn]
  · obtain ⟨B, F, a, ws, xs, vs', ds, rfl, hn, e, kp, b0, f0, ha, hw, hv, q⟩ := h
    have hend : ∀ {F' H' : Hp} {as' : List Addr} {σ' : L2.St} {S' : Ms} {ys : List Dt}, Ext F F' [a] as' → Rep K B F' H' as' σ' S' → mo0 S' = some ys → F' a = none ∧ ∃ us, H' a = some (.lst us) ∧ RpA K F' us ys := by
      intro F' H' as' σ' S' ys e' r hm
      obtain ⟨_, t, rfl⟩ := e'
      unfold mo0 at hm
      cases h0 : S'.mo[0]? with
      | none => rw [h0] at hm; cases hm
      | some mm =>
        rw [h0] at hm
        cases mm with
        | ob c =>
         cases c with
         | dc kvs => cases hm
         | io _ _ _ => cases hm
         | ls zs =>
          cases hm
          obtain ⟨p, hp, q1, q2, ob, q3, q4⟩ := pairedGet r.mo h0
          cases hp
          cases q4
          exact ⟨q2, _, q3, by assumption⟩
        | fz d => cases hm
    refine ⟨B, F, [a], stM N.length xs ds, ⟨e, kp, ?_, .cons ⟨b0, f0, _, ha, .ls hw⟩ .nil, by simp⟩, ?_⟩
    · have hl : ps.length + 1 ≤ N.length := by
        have := congrArg List.length S.pre
        rw [List.length_take, List.length_cons] at this
        omega
      unfold L2.start stM
      rw [List.map_cons, List.length_cons, hv.length]
      have e2 : N.length - (ds.length + 1) = N.length - 1 - ds.length := by omega
      rw [e2]
      exact .cons ⟨a, rfl, rfl⟩ (paired_im hv (paired_no _))
    · unfold runM at q
      revert q
      cases m (stM N.length xs ds) with
      | nx S' =>
        intro q
        unfold O.foM at q
        dsimp only at q
        cases hm : mo0 S' with
        | none => rw [hm] at q; exact q.elim
        | some ys =>
          rw [hm] at q
          intro σ' F' H' as' e' r
          obtain ⟨z1, us, z2, z3⟩ := hend e' r hm
          exact q .non F' H' us e'.1 r.fh r.bh z1 z2 z3 .non
      | rt d S' =>
        intro q
        unfold O.foM at q
        dsimp only at q
        cases hm : mo0 S' with
        | none => rw [hm] at q; exact q.elim
        | some ys =>
          rw [hm] at q
          intro σ' F' H' as' v e' r hv
          obtain ⟨z1, us, z2, z3⟩ := hend e' r hm
          exact q v F' H' us e'.1 r.fh r.bh z1 z2 z3 hv
      | er e S' =>
        intro q
        unfold O.foM at q
        dsimp only at q
        cases hm : mo0 S' with
        | none => rw [hm] at q; exact q.elim
        | some ys =>
          rw [hm] at q
          intro σ' F' H' as' dx fs e' r
          obtain ⟨z1, us, z2, z3⟩ := hend e' r hm
          exact q F' H' us dx fs e'.1 r.fh r.bh z1 z2 z3
      | bk S' => exact fun q => q.elim
      | ct S' => exact fun q => q.elim
      | no => exact fun q => q.elim
end
theorem FnOk.toF {P : Program} {w : World} {K : PySem.W.Frag} {mg : Str → Option Value} {base : Heap} {CX : CXT} {k : Nat} {f : Addr} {fd : FuncData} {ps : List Str} {n : Nat} {g h : List Dt → Fo} (F : FnOk P w K mg base CX k f fd ps (spD K n g)) (e : ∀ ds, h ds ≠ .no → g ds = h ds) :
    FnOk P w K mg base CX k f fd ps (spD K n h) := F.imp fun vs H Q E ⟨B, F, ds, hn, h1, h2, h3, h4⟩ => ⟨B, F, ds, hn, h1, h2, h3, by
      have : h ds ≠ .no := by intro z; rw [z] at h4; exact h4
      rw [e ds this]
      exact h4⟩
theorem FnOk.toM {P : Program} {w : World} {K : PySem.W.Frag} {mg : Str → Option Value} {base : Heap} {CX : CXT} {k : Nat} {f : Addr} {fd : FuncData} {ps : List Str} {n : Nat} {g h : List Dt → List Dt → FoM} (F : FnOk P w K mg base CX k f fd ps (spM K n g)) (e : ∀ xs ds, h xs ds ≠ .no → g xs ds = h xs ds) :
    FnOk P w K mg base CX k f fd ps (spM K n h) := F.imp fun vs H Q E ⟨B, F, a, ws, xs, vs', ds, h1, h2, h3, h4, h5, h6, h7, h8, h9, h10⟩ => ⟨B, F, a, ws, xs, vs', ds, h1, h2, h3, h4, h5, h6, h7, h8, h9, by
      have : h xs ds ≠ .no := by intro z; rw [z] at h10; exact h10
      rw [e xs ds this]
      exact h10⟩

def holdB (B F H : Hp) (as : List Addr) : Hp := fun a => if a ∈ as then (if F a = none then H a else none) else B a
theorem hold_kept {K : PySem.W.Frag} {B F H : Hp} {as : List Addr} {σ : L2.St} {S : Ms} (r : Rep K B F H as σ S) : Kept (holdB B F H as) F H := fun a o h => by
  unfold holdB at h
  split at h
  · split at h
    · rename_i hm q
      obtain ⟨i, hi⟩ := List.mem_iff_getElem?.mp hm
      obtain ⟨m, hmm, z⟩ := pairedGetL r.mo hi
      cases m with
      | ob c =>
        obtain ⟨z1, z2, u, z3, z4⟩ := z
        rw [z3] at h
        cases h
        exact ⟨z3, q, z4.nt⟩
      | fz d =>
        obtain ⟨⟨u, z1⟩, _⟩ := z
        rw [q] at z1; cases z1
    · cases h
  · exact r.bh a o h
theorem hold_back {K : PySem.W.Frag} {B F H F' H' : Hp} {as : List Addr} {σ : L2.St} {S : Ms} (r : Rep K B F H as σ S) (e : Ex F F') (e2 : Ex F' H') (k : Kept (holdB B F H as) F' H') : Rep K B F' H' as σ S := by
  have ee : Ext F F' as as := ⟨e, [], by simp⟩
  refine ⟨e2, fun a o h => ?_, r.sl.mono fun _ _ q => SvR.up q ee, ?_, r.nd⟩
  · refine k a o ?_
    unfold holdB
    split
    · rename_i hm
      obtain ⟨i, hi⟩ := List.mem_iff_getElem?.mp hm
      obtain ⟨m, hmm, z⟩ := pairedGetL r.mo hi
      obtain ⟨b1, b2, _⟩ := r.bh a o h
      cases m with
      | ob ds =>
        obtain ⟨z1, _⟩ := z
        rw [z1] at h; cases h
      | fz d =>
        obtain ⟨⟨u, z1⟩, _⟩ := z
        rw [b2] at z1; cases z1
    · exact h
  · have : ∀ {xs : List Addr} {ys : List Mo}, (∀ a ∈ xs, a ∈ as) → Paired (MoR K B F H) xs ys → Paired (MoR K B F' H') xs ys := by
      intro xs ys hn z
      induction z with
      | nil => exact .nil
      | @cons a b l1 l2 z zs ih =>
        refine .cons ?_ (ih fun a ha => hn a (List.mem_cons_of_mem _ ha))
        cases b with
        | ob ds =>
          obtain ⟨z1, z2, ws, z3, z4⟩ := z
          obtain ⟨q1, q2, _⟩ := k a ws (by unfold holdB; rw [if_pos (hn _ List.mem_cons_self), if_pos z2]; exact z3)
          exact ⟨z1, q2, ws, q1, z4.up e⟩
        | fz d =>
          obtain ⟨⟨u, z1⟩, z2⟩ := z
          exact ⟨⟨u, e _ _ z1⟩, z2.up e⟩
    exact this (fun _ h => h) r.mo
def funE (n : Nat) (fs : Ms → R (List Dt)) (f : List Dt → Fo) : Ms → R Dt := fun S => (fs S).bind fun ds S1 => if ds.length = n then (match f ds with | .ok d => .ok d S1 | .er e => .er e S1 | .no => .no) else .no
section
variable {X : Cx} {W : WX} {e o : Expr} {es : List Expr} {fs : Ms → R (List Dt)} {x : Str} {p pos : Pos} {k n i : Nat} {f : Addr} {fd : FuncData} {ps : List Str} {g : List Dt → Fo} {gm : List Dt → List Dt → FoM}
theorem call_run {K : PySem.W.Frag} {σ : L2.St} {H : Hp} {Q : VK} (q : tD K W (funE n fs g) σ H Q) : tCallS (spD K n g) (WE W) (tA K W fs) σ H Q := by
  obtain ⟨B, F, as, S, r, o⟩ := q
  refine ⟨B, F, as, S, r, Out.mono (Out.bind o) fun ds F1 H1 as1 S1 ⟨r1, e1, o1⟩ vs hv => ?_⟩
  split at o1
  · rename_i hn
    refine ⟨holdB B F1 H1 as1, F1, ds, hn, r1.fh, hold_kept r1, hv, ?_⟩
    cases hg : g ds with
    | ok d =>
      rw [hg] at o1
      exact fun v F' H' ee eh kp hv' => o1 F' H' as1 ⟨ee, [], by simp⟩ (hold_back r1 ee eh kp) v hv'
    | er x =>
      rw [hg] at o1
      exact fun F' H' dx fs ee eh kp h1 h2 h3 => o1 F' H' as1 dx fs ⟨ee, [], by simp⟩ (hold_back r1 ee eh kp) h1 h2 h3
    | no => rw [hg] at o1; exact o1.elim
  · exact o1.elim
theorem de_call (G : FnOk X.prog X.w X.K X.mg X.base (L2.CX X.prog X.w) k f fd ps (spD X.K n g)) (tk : Takes X W) (hr : Room k X.A) (hg : Gl X x) (hm : X.mg x = some (.ref f)) (hk : PySem.W.keepIn X.K (.ref f) = true) (hb : Binds X.K fd ps [])
    (ha : PA X (e :: es) (tA X.K W fs)) (hdb : (x == ("__debug__" : Str)) = false := by decide) (he : starEach (e :: es) X.env = (false, eval e X.env) :: starEach es X.env := by rfl) (hpl : (backTo pos (starEach es X.env)).any (·.1) = false := by rfl) :
    PE X (.Call (.Name x p) (e :: es) [] pos) (tD X.K W (funE n fs g)) := monoE (pe_callS G hr hg hm hk hb (fun σ => passAt tk σ) ha hdb he hpl) fun σ H Q q => call_run q
def funM (n : Nat) (i : Nat) (fs : Ms → R (List Dt)) (f : List Dt → List Dt → FoM) : Ms → R Dt := fun S => match muAt S i with
  | none => .no
  | some _ => (fs S).bind fun ds S1 => match muAt S1 i with
    | some (k, xs) => if ds.length = n then (match f xs ds with | .ok d ys => .ok d { S1 with mo := S1.mo.set k (.ob (.ls ys)) } | _ => .no) else .no
    | none => .no
theorem callM_run {K : PySem.W.Frag} {σ : L2.St} {H : Hp} {Q : VK} (q : tD K W (funM n i fs gm) σ H Q) : tCallS (spM K n gm) (WE W) (tCons (tVar i) (tA K W fs)) σ H Q := by
  obtain ⟨B, F, as, S, r, o⟩ := q
  unfold funM at o
  cases hm0 : muAt S i with
  | none => rw [hm0] at o; exact o.elim
  | some km =>
    rw [hm0] at o
    obtain ⟨k0, xs0⟩ := km
    obtain ⟨p, vs0, hp, hmo0, hp0, _, _, hH0, hv0⟩ := muAt_rp r hm0
    refine ⟨_, hp, ?_⟩
    refine ⟨B, F, as, S, r, Out.mono (Out.bind o) fun ds F1 H1 as1 S1 ⟨r1, e1, o1⟩ vs hv => ?_⟩
    cases hm : muAt S1 i with
    | none => rw [hm] at o1; exact o1.elim
    | some km =>
      rw [hm] at o1
      obtain ⟨k, xs⟩ := km
      obtain ⟨p', ws, hp', hmo, ha, hB, hF, hH, hws⟩ := muAt_rp r1 hm
      rw [hp] at hp'
      cases hp'
      dsimp only at o1
      split at o1
      · rename_i hn
        have hin : p ∈ as1 := List.mem_of_getElem? ha
        -- what is held besides
        refine ⟨fun a => if a = p then none else holdB B F1 H1 as1 a, F1, p, ws, xs, vs, ds, rfl, hn, r1.fh, fun a u hu => ?_, if_pos rfl, hF, hH, hws, hv, ?_⟩
        · dsimp only at hu
          by_cases q : a = p
          · rw [if_pos q] at hu; cases hu
          · rw [if_neg q] at hu
            exact hold_kept r1 a u hu
        · cases hg : gm xs ds with
          | ok d ys =>
            rw [hg] at o1
            intro v F' H' us ee eh kp fa ha' hus hv'
            dsimp only at o1
            have ex : Ext F1 F' as1 as1 := ⟨ee, [], by simp⟩
            refine o1 F' H' as1 ex ⟨eh, fun a u hu => ?_, r1.sl.mono fun _ _ q => SvR.up q ex, ?_, r1.nd⟩ v hv'
            · have hne : a ≠ p := by
                rintro rfl
                rw [hB] at hu; cases hu
              refine kp a u ?_
              show (if a = p then none else holdB B F1 H1 as1 a) = _
              rw [if_neg hne]
              unfold holdB
              split
              · rename_i hm2
                obtain ⟨j, hj⟩ := List.mem_iff_getElem?.mp hm2
                obtain ⟨mm, hmm, z⟩ := pairedGetL r1.mo hj
                obtain ⟨b1, b2, _⟩ := r1.bh a u hu
                cases mm with
                | ob ds =>
                  obtain ⟨z1, _⟩ := z
                  rw [z1] at hu; cases hu
                | fz d =>
                  obtain ⟨⟨u', z1⟩, _⟩ := z
                  rw [b2] at z1; cases z1
              · exact hu
            · refine pairedAt k r1.mo (fun j b mm hj hb hmm q => ?_) fun b hb => ?_
              · cases mm with
                | ob ds =>
                  obtain ⟨z1, z2, us', z3, z4⟩ := q
                  have hne : b ≠ p := fun z => by
                    subst z
                    exact hj (nd_ix r1.nd hb ha)
                  obtain ⟨q1, q2, _⟩ := kp b us' (by
                    show (if b = p then none else holdB B F1 H1 as1 b) = _
                    rw [if_neg hne]
                    unfold holdB
                    rw [if_pos (List.mem_of_getElem? hb), if_pos z2]
                    exact z3)
                  exact ⟨z1, q2, us', q1, z4.up ee⟩
                | fz d =>
                  obtain ⟨⟨u', z1⟩, z2⟩ := q
                  exact ⟨⟨u', ee _ _ z1⟩, z2.up ee⟩
              · rw [ha] at hb
                cases hb
                exact ⟨hB, fa, _, ha', .ls hus⟩
          | er x ys => rw [hg] at o1; exact o1.elim
          | no => rw [hg] at o1; exact o1.elim
      · exact o1.elim
theorem de_callM (G : FnOk X.prog X.w X.K X.mg X.base (L2.CX X.prog X.w) k f fd ps (spM X.K n gm)) (tk : Takes X W) (hr : Room k X.A) (hg : Gl X x) (hm : X.mg x = some (.ref f)) (hk : PySem.W.keepIn X.K (.ref f) = true) (hb : Binds X.K fd ps [])
    (ho : PE X o (tVar i)) (ha : PA X es (tA X.K W fs)) (hs : starEach (o :: es) X.env = (false, eval o X.env) :: starEach es X.env := by rfl) (hdb : (x == ("__debug__" : Str)) = false := by decide) (hpl : (backTo pos (starEach es X.env)).any (·.1) = false := by rfl) :
    PE X (.Call (.Name x p) (o :: es) [] pos) (tD X.K W (funM n i fs gm)) := monoE (pe_callS G hr hg hm hk hb (fun σ => passAt tk σ) (pa_cons ho ha hs) hdb hs hpl) fun σ H Q q => callM_run q
end
end Lq

namespace Lq
open PySem PySem.Spec PyProof.Rows L2
open Evl (Ex)
def Cal (P : Program) (w : World) (K : PySem.W.Frag) (mg : Str → Option Value) (base : Heap) (x : Str) (k : Nat) (ps : List Str) (sp : Sp) : Prop :=
  ∃ f fd, FnOk P w K mg base (L2.CX P w) k f fd ps sp ∧ mg x = some (.ref f) ∧ PySem.W.keepIn K (.ref f) = true ∧ Binds K fd ps []
theorem hu65_of {A : Around} {k : Nat} (hr : Room k A) : A.units + 65 < cLine := by have := hr.un; omega
section
variable {X : Cx} {W : WX} {e o : Expr} {es : List Expr} {fs : Ms → R (List Dt)} {x : Str} {p pos : Pos} {j k n i : Nat} {ps : List Str} {g : List Dt → Fo} {gm : List Dt → List Dt → FoM}
theorem de_cal (c : Cal X.prog X.w X.K X.mg X.base x k ps (spD X.K n g)) (tk : Takes X W) (hr : Room j X.A) (hk : k ≤ j) (hg : Gl X x)
    (ha : PA X (e :: es) (tA X.K W fs)) (hdb : (x == ("__debug__" : Str)) = false := by decide) (he : starEach (e :: es) X.env = (false, eval e X.env) :: starEach es X.env := by rfl) (hpl : (backTo pos (starEach es X.env)).any (·.1) = false := by rfl) :
    PE X (.Call (.Name x p) (e :: es) [] pos) (tD X.K W (funE n fs g)) := by
  obtain ⟨f, fd, G, hm, kp, hb⟩ := c
  exact de_call G tk (hr.mono hk) hg hm kp hb ha hdb he hpl
theorem de_calM (c : Cal X.prog X.w X.K X.mg X.base x k ps (spM X.K n gm)) (tk : Takes X W) (hr : Room j X.A) (hk : k ≤ j) (hg : Gl X x)
    (ho : PE X o (tVar i)) (ha : PA X es (tA X.K W fs)) (hs : starEach (o :: es) X.env = (false, eval o X.env) :: starEach es X.env := by rfl) (hdb : (x == ("__debug__" : Str)) = false := by decide) (hpl : (backTo pos (starEach es X.env)).any (·.1) = false := by rfl) :
    PE X (.Call (.Name x p) (o :: es) [] pos) (tD X.K W (funM n i fs gm)) := by
  obtain ⟨f, fd, G, hm, kp, hb⟩ := c
  exact de_callM G tk (hr.mono hk) hg hm kp hb ho ha hs hdb hpl
end
end Lq

namespace Lq
open PySem PySem.Spec PyProof.Rows L2
open Evl (Ex)
def Wd (ns : List Int) : Dt := .tup (ns.map .int)
def wordOf : Dt → Option (List Int) | .tup ds => intsOf ds | _ => none
theorem wordOf_eq {d : Dt} {ns : List Int} (h : wordOf d = some ns) : d = Wd ns := by
  cases d <;> simp only [wordOf] at h <;> try cases h
  rw [intsOf_eq h]; rfl
@[simp] theorem wordOf_Wd (ns : List Int) : wordOf (Wd ns) = some ns := intsOf_map ns
theorem Rp.wd {K : PySem.W.Frag} {F : Hp} {v : V} {ns : List Int} (h : Rp K F v (Wd ns)) : ∃ b, v = .ref b ∧ F b = some (.tup (ns.map V.int)) := by
  unfold Wd at h
  cases h with
  | tup hs ha =>
    rw [ha.intsv] at hs
    exact ⟨_, rfl, hs⟩
theorem wd_rp {K : PySem.W.Frag} {F : Hp} {b : Addr} {ns : List Int} (h : F b = some (.tup (ns.map V.int))) : Rp K F (.ref b) (Wd ns) := .tup h (RpA.ints ns)
theorem kv_ints (ns : List Int) : (ns.map (Sum.inl : Int → Key)).map kV = ns.map V.int := by
  rw [List.map_map]; rfl

def tM (K : PySem.W.Frag) (W : WX) (f : Ms → R Ob) : TE := fun σ H Q => ∃ B F as S, Rep K B F H as σ S ∧ Out K W B F as σ (f S) fun c F' H' as' _ => ∀ p o, F' p = none → B p = none → p ∉ as' → H' p = some o → ObR K F' o c → Q (.ref p) H'
def asgM (i : Nat) (f : Ms → R Ob) : Ms → O := fun S => (f S).stmt fun c S1 => .nx { sl := S1.sl.set i (.mu S1.mo.length), mo := S1.mo ++ [.ob c] }
theorem asgM_run {K : PySem.W.Frag} {W : WX} {fm : Ms → R Ob} {i : Nat} {D : Ends} {σ : L2.St} {H : Hp} (q : sD K W (asgM i fm) D σ H) : tM K W fm σ H fun x H1 => D.nx (σ.set i (some x)) H1 := by
  obtain ⟨B, F, as, S, r, o⟩ := q
  refine ⟨B, F, as, S, r, Out.mono (OutS.stmt o) fun c F1 H1 as1 S1 ⟨r1, e1, o1⟩ p o f1 f2 f3 hp hv => ?_⟩
  obtain ⟨ee, rr⟩ := r1.newL f1 f2 f3 hp hv
  refine o1 _ F1 H1 _ ee (rr.slot (s := .mu S1.mo.length) i ⟨p, ?_, rfl⟩)
  have hl : as1.length = S1.mo.length := r1.mo.length
  rw [← hl, List.getElem?_append_right (Nat.le_refl _), Nat.sub_self]
  rfl
theorem Rep.grow {K : PySem.W.Frag} {B F H : Hp} {as : List Addr} {σ : L2.St} {S : Ms} (r : Rep K B F H as σ S) {p : Addr} (hp : H p = none) (o : HO) : Rep K B F (upd H p o) as σ S := by
  refine ⟨fun a u e => ?_, fun a u e => ?_, r.sl, r.mo.mono fun a m q => ?_, r.nd⟩
  · rw [upd_ne (ne_of_none (r.fh _ _ e) hp)]
    exact r.fh _ _ e
  · obtain ⟨z1, z2, z3⟩ := r.bh a u e
    exact ⟨by rw [upd_ne (ne_of_none z1 hp)]; exact z1, z2, z3⟩
  · cases m with
    | ob ds =>
      obtain ⟨z1, z2, ws, z3, z4⟩ := q
      exact ⟨z1, z2, ws, by rw [upd_ne (ne_of_none z3 hp)]; exact z3, z4⟩
    | fz d => exact q
section
variable {X : Cx} {W : WX} {e : Expr} {pos pos' : Pos} {x : Str} {i : Nat} {fm : Ms → R Ob} {f g : Ms → R Dt}
theorem ds_setM (hN : X.N.Nodup) (hi : X.N[i]? = some x) (hx : Loc X.env.scope x) (he : PE X e (tM X.K W fm)) (hs : swapsWith e (some (.Name x pos')) pos.line X.env = pure false := by rfl) (hf : X.fn x = true ∨ X.env.scope.names.lookup x = some .local := by first | exact .inl rfl | exact .inr rfl | assumption) :
    PS X (.Assign [.Name x pos'] e pos) (sD X.K W (asgM i fm)) := monoS (ps_set hN hi hx he hs hf) fun D σ H q => asgM_run q
def dct0 : Ms → R Ob := fun S => .ok (.dc []) S
theorem dm_new : PE X (.Dict [] [] pos) (tM X.K W dct0) := monoE pe_dnewT fun σ H Q q => by
  obtain ⟨B, F, as, S, r, o⟩ := q
  intro p hp
  obtain ⟨f1, f2, f3⟩ := r.fresh hp
  exact o F _ as Ext.refl (r.grow hp _) p _ f1 f2 f3 upd_same (.dc .nil)
def dct1 (f g : Ms → R Dt) : Ms → R Ob := fun S => (f S).bind fun d S1 => (g S1).bind fun e S2 => match wordOf d with | some ns => .ok (.dc [(ns, e)]) S2 | none => .no
def tDispT (tk tv : TE) : TE := fun σ H Q => ∀ p, H p = none → tk σ (upd H p (.dT [])) fun x H1 => tv σ H1 fun y H2 => H2 p = some (.dT []) ∧ ∃ b k, x = .ref b ∧ H2 b = some (.tup (k.map kV)) ∧ Q (.ref p) (upd H2 p (.dT [(k, y)]))
theorem pe_dispT {k v : Expr} {tk tv : TE} (hu : X.A.units < cLine) (hk : PE X k tk) (hv : PE X v tv) : PE X (.Dict [some k] [v] pos) (tDispT tk tv) := by
  refine ⟨fun pins s σ H Q I q => ?_⟩
  have hn := I.hok.fresh (Nat.le_refl s.heap.objs.size)
  have I1 := I.laid (a := s.heap.objs.size) (o := .dT []) (h' := s.heap.push { cls := .type "dict", data := .dict #[] }) (t' := s.toks) (fun _ _ q => Heap.get?_push_of_some _ q) (Nat.le_refl _) (dt_empty s.heap I.big)
  have hP : PPs X pos [some k] [v] [(tk, tv)] := pps_cons hk hv pps_nil
  have hn1 := pairTrees_length [some k] [v] X.env pos rfl rfl
  rw [arm_eval_Dict, zip_pairTrees [some k] [v] X.env pos rfl rfl, dictDisplay_pairs _ (by intro he; rw [he] at hn1; cases hn1) (by rw [hn1]; show 1 < 17; decide)]
  refine wpAny_bind (wpAny_standAt (wpAny_bind (wpAny_subDictH (knd := tupleKind (mixKind X.prog X.w)) (Q := fun d s' => wpAny (model X.prog X.w) X.A (pure (Value.ref d)) (EP X pins σ Q) X.xe s') hu (by rw [hn1]; show 1 ≤ 15; decide) ?_)))
  refine thn (hP.run pins _ σ _ (fun ps H2 => match ps with
    | [(x, y)] => H2 s.heap.objs.size = some (.dT []) ∧ ∃ b k, x = .ref b ∧ H2 b = some (.tup (k.map kV)) ∧ Q (.ref s.heap.objs.size) (upd H2 s.heap.objs.size (.dT [(k, y)]))
    | _ => False) I1 (q _ hn)) fun ws s2 ⟨ps, H2, I2, rel, hq⟩ => ?_
  split at hq
  · rename_i x y
    obtain ⟨e2, b, kk, e3, e4, q2⟩ := hq
    subst e3
    cases rel with
    | @cons _ wv _ _ h t =>
      cases t
      obtain ⟨w1, w2⟩ := wv
      obtain ⟨h1, h2⟩ := h
      have h1 : w1 = Value.ref b := h1
      subst h1
      obtain ⟨z, hd, xs, rel0, dd⟩ := dt_of I2.hok e2
      cases rel0
      refine ⟨[(kk, b, w2)], ⟨rfl, rfl, key_of I2.hok e4, trivial⟩, dd, fun h' tkk dd' hs => wpAny_pure ?_⟩
      obtain ⟨qo, es, ep, hq, h2', h3, h4, _, h5⟩ := dd'
      refine ⟨.ref s.heap.objs.size, _, d_write (ob := .dT [(kk, y)]) (t' := tkk) I2 (by rw [e2]; exact True.intro) hs ⟨qo, hq⟩ ⟨by show 1 ≤ sizeLine; rw [sizeLine_eq]; decide, hd, [(kk, b, w2)], .cons ⟨rfl, ?_, h2⟩ .nil, qo, es, ep, hq, h2', h3, h4, h5⟩, rfl, q2⟩
      rw [upd_ne (ne_of e4 e2 (fun z => nomatch z))]
      exact e4
  · exact hq.elim
theorem dm_one {k v : Expr} (hu : X.A.units < cLine) (hk : PE X k (tD X.K W f)) (hv : PE X v (tD X.K W g)) : PE X (.Dict [some k] [v] pos) (tM X.K W (dct1 f g)) := monoE (pe_dispT hu hk hv) fun σ H Q q => by
  obtain ⟨B, F, as, S, r, o⟩ := q
  intro p hp
  obtain ⟨f1, f2, f3⟩ := r.fresh hp
  -- the new dict stands by, held
  have r0 : Rep X.K (upd B p (.dT [])) F (upd H p (.dT [])) as σ S := (r.grow hp _).hold upd_same f1 f3 trivial
  refine ⟨_, F, as, S, r0, ?_⟩
  have o1 := Out.bind o
  unfold dct1 at o
  cases hf : f S with
  | no => rw [hf] at o; exact o.elim
  | er x S1 =>
    rw [hf] at o
    exact fun F' H' as' dx fs ee rr => o F' H' as' dx fs ee (rr.unhold f2).1
  | ok d S1 =>
    rw [hf] at o
    intro F1 H1 as1 e1 r1 x hx
    refine ⟨_, F1, as1, S1, r1, ?_⟩
    simp only [R.bind_ok] at o
    cases hg : g S1 with
    | no => rw [hg] at o; exact o.elim
    | er x S2 =>
      rw [hg] at o
      exact fun F' H' as' dx fs ee rr => o F' H' as' dx fs (e1.trans ee) (rr.unhold f2).1
    | ok e S2 =>
      rw [hg] at o
      intro F2 H2 as2 e2 r2 y hy
      obtain ⟨r3, hD, hF, hA⟩ := r2.unhold f2
      simp only [R.bind_ok] at o
      cases hw : wordOf d with
      | none => rw [hw] at o; exact o.elim
      | some ns =>
        rw [hw] at o
        have := wordOf_eq hw
        subst this
        obtain ⟨b, rfl, hb⟩ := (hx.up e2.1).wd
        refine ⟨hD, b, ns.map Sum.inl, rfl, by rw [kv_ints]; exact r3.fh _ _ hb, ?_⟩
        have r4 : Rep X.K B F2 (upd H2 p (.dT [(ns.map Sum.inl, y)])) as2 σ S2 := by
          refine ⟨fun a u hu => ?_, fun a u hu => ?_, r3.sl, ?_, r3.nd⟩
          · have n : a ≠ p := by
              rintro rfl
              rw [hF] at hu; cases hu
            rw [upd_ne n]
            exact r3.fh _ _ hu
          · have n : a ≠ p := by
              rintro rfl
              rw [f2] at hu; cases hu
            rw [upd_ne n]
            exact r3.bh a u hu
          · have : ∀ {xs : List Addr} {ys : List Mo}, (∀ a ∈ xs, a ≠ p) → Paired (MoR X.K B F2 H2) xs ys → Paired (MoR X.K B F2 (upd H2 p (.dT [(ns.map Sum.inl, y)]))) xs ys := by
              intro xs ys hn z
              induction z with
              | nil => exact .nil
              | @cons a b l1 l2 z zs ih =>
                refine .cons ?_ (ih fun a ha => hn a (List.mem_cons_of_mem _ ha))
                cases b with
                | ob ds =>
                  obtain ⟨z1, z2, ws, z3, z4⟩ := z
                  exact ⟨z1, z2, ws, by rw [upd_ne (hn _ List.mem_cons_self)]; exact z3, z4⟩
                | fz d => exact z
            exact this (fun a ha z => hA (z ▸ ha)) r3.mo
        exact o F2 _ as2 (e1.trans e2) r4 p _ hF f2 hA upd_same (.dc (.cons ⟨rfl, hy⟩ .nil))
def dcAt (S : Ms) (i : Nat) : Option (Nat × List (List Int × Dt)) := match S.sl[i]? with | some (.mu k) => (match S.mo[k]? with | some (.ob (.dc kvs)) => some (k, kvs) | _ => none) | _ => none
theorem dcAt_rp {K : PySem.W.Frag} {B F H : Hp} {as : List Addr} {σ : L2.St} {S : Ms} (r : Rep K B F H as σ S) {k : Nat} {kvs : List (List Int × Dt)} (h : dcAt S i = some (k, kvs)) :
    ∃ p ws, σ[i]? = some (some (.ref p)) ∧ S.mo[k]? = some (.ob (.dc kvs)) ∧ as[k]? = some p ∧ B p = none ∧ F p = none ∧ H p = some (.dT ws) ∧ Paired (fun p q => p.1 = q.1.map Sum.inl ∧ Rp K F p.2 q.2) ws kvs := by
  unfold dcAt at h
  cases hs : S.sl[i]? with
  | none => rw [hs] at h; cases h
  | some s =>
    rw [hs] at h
    cases s with
    | mu k' =>
      dsimp only at h
      cases hm : S.mo[k']? with
      | none => rw [hm] at h; cases h
      | some mm =>
        rw [hm] at h
        cases mm with
        | ob c =>
          cases c with
          | ls xs => cases h
          | io _ _ _ => cases h
          | dc kvs =>
            cases h
            obtain ⟨ov, hv, z⟩ := pairedGet r.sl hs
            cases ov with
            | none => exact z.elim
            | some v =>
              obtain ⟨p, hp, rfl⟩ := z
              obtain ⟨p', hp', q1, q2, ob, q3, q4⟩ := pairedGet r.mo hm
              rw [hp] at hp'
              cases hp'
              cases q4
              exact ⟨p, _, hv, hm, hp, q1, q2, q3, by assumption⟩
        | fz d => cases h
    | _ => cases h
def putD (kvs : List (List Int × Dt)) (k : List Int) (d : Dt) : List (List Int × Dt) :=
  if (kvs.any fun kv => decide (kv.1 = k)) = true then kvs.map (fun kv => if kv.1 = k then (kv.1, d) else kv) else kvs ++ [(k, d)]
theorem inl_inj {a b : List Int} (h : a.map (Sum.inl : Int → Key) = b.map Sum.inl) : a = b :=
  List.map_inj_right (fun _ _ e => Sum.inl.inj e) |>.mp h
theorem put_rp {K : PySem.W.Frag} {F : Hp} {k : List Int} {v : V} {d : Dt} (hv : Rp K F v d) {ws : List (List Key × V)} {kvs : List (List Int × Dt)} (h : Paired (fun p q => p.1 = q.1.map Sum.inl ∧ Rp K F p.2 q.2) ws kvs) :
    Paired (fun p q => p.1 = q.1.map Sum.inl ∧ Rp K F p.2 q.2) (putK ws (k.map Sum.inl) v) (putD kvs k d) := by
  have ha : (ws.any fun kv => decide (kv.1 = k.map Sum.inl)) = kvs.any fun kv => decide (kv.1 = k) := by
    induction h with
    | nil => rfl
    | @cons p q ps qs hp _ ih =>
      rw [List.any_cons, List.any_cons, ih, hp.1]
      congr 1
      by_cases e : q.1 = k
      · simp [e]
      · have e2 : ¬ q.1.map (Sum.inl : Int → Key) = k.map Sum.inl := fun z => e (inl_inj z)
        simp [e, e2]
  unfold putK putD
  rw [ha]
  by_cases q : (kvs.any fun kv => decide (kv.1 = k)) = true
  · rw [if_pos q, if_pos q]
    clear q ha
    induction h with
    | nil => exact .nil
    | @cons p q ps qs hp _ ih =>
      rw [List.map_cons, List.map_cons]
      refine .cons ?_ ih
      by_cases e : q.1 = k
      · have e2 : p.1 = k.map Sum.inl := by rw [hp.1, e]
        rw [if_pos e2, if_pos e]
        exact ⟨hp.1, hv⟩
      · have e2 : ¬ p.1 = k.map Sum.inl := fun z => e (inl_inj (hp.1.symm.trans z))
        rw [if_neg e2, if_neg e]
        exact hp
  · rw [if_neg q, if_neg q]
    exact h.snoc ⟨rfl, hv⟩
def setD (i : Nat) (f g : Ms → R Dt) : Ms → O := fun S => (f S).stmt fun e S1 => match dcAt S1 i with
  | none => .no
  | some _ => (g S1).stmt fun d S2 => match dcAt S2 i, wordOf d with
    | some (k, kvs), some ns => if kvs.length < 100000 then .nx { S2 with mo := S2.mo.set k (.ob (.dc (putD kvs ns e))) } else .no
    | _, _ => .no
theorem ds_setD {o ix : Expr} {ps : Pos} (hu : X.A.units + 1 < cLine) (ho : PE X o (tVar i)) (hx : PE X ix (tD X.K W g)) (he : PE X e (tD X.K W f)) (hs : swapsWith e (some (.Subscript o ix ps)) pos.line X.env = pure false := by rfl) :
    PS X (.Assign [.Subscript o ix ps] e pos) (sD X.K W (setD i f g)) := monoS (ps_dput hu ho hx he hs) fun D σ H q => by
  obtain ⟨B, F, as, S, r, o⟩ := q
  refine ⟨B, F, as, S, r, Out.mono (OutS.stmt o) fun e F1 H1 as1 S1 ⟨r1, e1, o1⟩ v hv => ?_⟩
  cases hm0 : dcAt S1 i with
  | none => rw [hm0] at o1; exact o1.elim
  | some km =>
    rw [hm0] at o1
    obtain ⟨k0, xs0⟩ := km
    obtain ⟨p, vs0, hp, hmo0, hp0, _, _, hH0, hv0⟩ := dcAt_rp r1 hm0
    refine ⟨_, hp, ?_⟩
    refine ⟨B, F1, as1, S1, r1, Out.mono (OutS.stmt o1) fun d F2 H2 as2 S2 ⟨r2, e2, o2⟩ w hw => ?_⟩
    cases hm : dcAt S2 i with
    | none => rw [hm] at o2; exact o2.elim
    | some km =>
      rw [hm] at o2
      obtain ⟨k, kvs⟩ := km
      obtain ⟨p', ws, hp', hmo, ha, _, _, hH, hvs⟩ := dcAt_rp r2 hm
      rw [hp] at hp'
      cases hp'
      cases hwo : wordOf d with
      | none => rw [hwo] at o2; exact o2.elim
      | some ns =>
        rw [hwo] at o2
        dsimp only at o2
        split at o2
        · rename_i hl
          have := wordOf_eq hwo
          subst this
          obtain ⟨b, rfl, hb⟩ := hw.wd
          refine ⟨p, _, rfl, DPut.t (k := ns.map Sum.inl) hH (by rw [kv_ints]; exact r2.fh _ _ hb) (Evl.sz_lt (by rw [Paired.length hvs]; exact hl)), ?_⟩
          exact o2 σ F2 _ as2 Ext.refl (r2.put hmo ha (.dc (put_rp (hv.up e2.1) hvs)))
        · exact o2.elim
theorem knowAll {K : PySem.W.Frag} {B F H : Hp} {as : List Addr} {σ : L2.St} {S : Ms} (r : Rep K B F H as σ S) : ∀ {kvs : List (List Int × Dt)} {bs : List Addr}, Paired (fun b (q : List Int × Dt) => H b = some (.tup (q.1.map V.int))) bs kvs →
    ∃ F', Ext F F' as as ∧ Rep K B F' H as σ S ∧ RpA K F' (bs.map V.ref) (kvs.map fun q => Wd q.1)
  | _, _, .nil => ⟨F, Ext.refl, r, .nil⟩
  | _, _, .cons (a := b) (b := q) h t => by
    obtain ⟨F1, e1, r1, h1⟩ := knowAll r t
    cases hf : F1 b with
    | some o =>
      have := r1.fh _ _ hf
      rw [h] at this
      cases this
      exact ⟨F1, e1, r1, .cons (wd_rp hf) h1⟩
    | none =>
      obtain ⟨e2, r2⟩ := r1.know h hf
      exact ⟨_, e1.trans e2, r2, .cons (wd_rp upd_same) (h1.up e2.1)⟩
theorem keys_rp {K : PySem.W.Frag} {F H : Hp} : ∀ {ws : List (List Key × V)} {kvs : List (List Int × Dt)} {bs : List Addr}, Paired (fun p q => p.1 = q.1.map Sum.inl ∧ Rp K F p.2 q.2) ws kvs → IsKeys H ws bs → Paired (fun b (q : List Int × Dt) => H b = some (.tup (q.1.map V.int))) bs kvs
  | _, _, _, .nil, hk => by cases hk; exact .nil
  | _, _, _, .cons h t, hk => by
    cases hk with
    | cons h1 h2 =>
      refine .cons ?_ (keys_rp t h2)
      rw [h.1, kv_ints] at h1
      exact h1
def keysL (i : Nat) : Ms → R (List Dt) := fun S => match dcAt S i with | some (_, kvs) => .ok (kvs.map fun q => Wd q.1) S | none => .no
theorem dn_keys {p : Pos} {o : Expr} (hc : X.calm = true) (hg : Gl X "list") (hm : X.mg "list" = none) (ho : PE X o (tVar i)) (hs : starEach [o] X.env = (false, eval o X.env) :: starEach [] X.env := by rfl) : PE X (.Call (.Name "list" p) [o] [] pos) (tN X.K W (keysL i)) :=
  monoE (pe_callTy (call_list_dT hc) hg hm (by decide +kernel) (pa_cons ho pa_nil hs) (by decide) (by decide) hs (by rfl)) fun σ H Q q => by
    obtain ⟨B, F, as, S, r, o⟩ := q
    unfold keysL at o
    cases hd : dcAt S i with
    | none => rw [hd] at o; exact o.elim
    | some km =>
      rw [hd] at o
      obtain ⟨k, kvs⟩ := km
      obtain ⟨d, ws, hp, hmo, ha, _, _, hH, hvs⟩ := dcAt_rp r hd
      refine ⟨_, hp, d, ws, rfl, .inl hH, fun l bs hl hk => ?_⟩
      have hb := keys_rp hvs hk
      obtain ⟨F1, e1, r1, hr⟩ := knowAll r hb
      obtain ⟨f1, f2, f3⟩ := r1.fresh hl
      exact o F1 _ as e1 (r1.grow hl _) l _ f1 f2 f3 upd_same hr
end
end Lq

namespace HT
open PySem PySem.Spec PyProof.Rows L2
section
variable {prog : Program} {w : World} {A : Around} {E : Value → Shared → Prop} {s : Shared}
end
end HT
namespace Lq
open PySem PySem.Spec PyProof.Rows L2
open Evl (Ex)
section
variable {X : Cx} {W : WX} {e : Expr} {pos pos' : Pos} {x : Str} {i : Nat} {f g : Ms → R Dt}
def revO : Dt → Option Dt | .tup xs => some (.tup xs.reverse) | _ => none
theorem dn_lcKeys {y : Str} {j : Nat} {scope : Scope} {p1 p2 : Pos} {o : Expr} (hc : X.calm = true) (hN : X.N.Nodup) (ho : PE X o (tVar i)) (ok : BlkOk X.N X.env.scope scope [(y, j)])
    (hg : ∀ (s : Shared) (H : Hp) (C : Addr) (cl : List (Str × Addr)) (fp : List Addr), PG (X.blk s H scope (compEnvC scope cl C X.env) fp) (.Name y p2) (gName j))
    (he : ∀ (s : Shared) (H : Hp) (C : Addr) (cl : List (Str × Addr)) (fp : List Addr), PE (X.blk s H scope (compEnvC scope cl C X.env) fp) (.Name y p1) (tVar j)) (hs : ∀ x, foldedSetIterable o X.env x = pure x := by intro _; rfl) (hj : j < X.N.length := by decide) :
    PE X (.ListComp (.Name y p1) [⟨.Name y p2, o, [], 0⟩] scope pos) (tN X.K W (keysL i)) :=
  ⟨fun pins s σ H Q I q => (pe_lock (pe_lc (own := [(y, j)]) hc hN (pi_keys ho) ok hg (fun _ _ _ _ _ => pts_nil) he hs)).run pins s σ H Q I (by
    have hl : σ.length = X.N.length := I.len
    obtain ⟨B, F, as, S, r, o⟩ := q
    unfold keysL at o
    cases hd : dcAt S i with
    | none => rw [hd] at o; exact o.elim
    | some km =>
      rw [hd] at o
      obtain ⟨k, kvs⟩ := km
      obtain ⟨d, ws, hp, hmo, ha, _, _, hH, hvs⟩ := dcAt_rp r hd
      refine ⟨d, .dT ws, hH, trivial, fun od => ?_⟩
      refine ⟨_, hp, d, od, rfl, .inr ⟨ws, upd_same, fun D hD => ?_⟩⟩
      have hDd : D ≠ d := by
        rintro rfl
        rw [upd_same] at hD; cases hD
      have hD0 : H D = none := by rw [upd_ne hDd] at hD; exact hD
      refine lc_it walk_keysT (Pv := fun m H' => ∃ bs, H' = upd (upd H d (.frz od (.dT ws))) D (.lst (bs.map V.ref)) ∧ IsKeys H (ws.take m) bs) ⟨[], rfl, .nil⟩ (fun m H' hm hv => ?_) (fun m x H1 H2 hm hv hy => ?_) (fun H' hv => ?_)
      · obtain ⟨bs, rfl, _⟩ := hv
        rw [upd_ne hDd.symm, upd_same]
      · obtain ⟨bs, rfl, hk⟩ := hv
        obtain ⟨rfl, kk, vv, b, h1, rfl, h2⟩ := hy
        show wipe ((wipe σ [j]).set j (some (V.ref b))) [j] = wipe σ [j] ∧ _
        refine ⟨by rw [wipe_set (List.mem_cons_self), wipe_wipe], ?_⟩
        unfold tYes
        dsimp only
        rw [if_pos rfl]
        refine ⟨.ref b, ?_, bs.map V.ref, upd_same, ?_, bs ++ [b], ?_, ?_⟩
        · have : j < (wipe σ [j]).length := by rw [wipe_length, hl]; exact hj
          exact List.getElem?_set_self this
        · have h3 : bs.length = (ws.take m).length := (Paired.length hk).symm
          rw [List.length_map, h3, List.length_take]
          have hz : ws.length ≤ sizeLine := (I.hok d _ hH).1
          omega
        · rw [upd_upd, List.map_append]; rfl
        · have hb : H b = some (.tup (kk.map kV)) := by
            have hbD : b ≠ D := by
              rintro rfl
              rw [upd_same] at h2; cases h2
            rw [upd_ne hbD] at h2
            have hbd : b ≠ d := by
              rintro rfl
              rw [upd_same] at h2; cases h2
            rw [upd_ne hbd] at h2
            exact h2
          unfold IsKeys at hk ⊢
          rw [List.take_add_one, h1]
          exact Paired.snoc hk hb
      · obtain ⟨bs, rfl, hk⟩ := hv
        rw [List.take_length] at hk
        refine ⟨by rw [upd_ne hDd.symm, upd_same], ?_⟩
        have e1 : upd (upd (upd H d (.frz od (.dT ws))) D (.lst (bs.map V.ref))) d (.dT ws) = upd H D (.lst (bs.map V.ref)) := by
          funext a
          by_cases h1 : a = d
          · subst h1
            rw [upd_same, upd_ne hDd.symm, hH]
          · rw [upd_ne h1]
            by_cases h2 : a = D
            · subst h2
              rw [upd_same, upd_same]
            · rw [upd_ne h2, upd_ne h2, upd_ne h1]
        rw [e1]
        obtain ⟨F1, e1, r1, hr⟩ := knowAll r (keys_rp hvs hk)
        obtain ⟨f1, f2, f3⟩ := r1.fresh hD0
        exact o F1 _ as e1 (r1.grow hD0 _) D _ f1 f2 f3 upd_same hr)⟩
end

theorem dataLe_wd : PySem.W.dataLe false (fun b : List Int => PyData.tuple (b.map .int)) = fun p q => decide (p ≤ q) := by
  funext p q
  show (!PySem.W.dataLt (.tuple (q.map .int)) (.tuple (p.map .int))) = _
  rw [PySem.W.dataLt_tuple]
  show (!PySem.W.rowLt (q.map .int) (p.map .int)) = _
  rw [PySem.W.dataLt_ints]
  by_cases h : q < p
  · have h' : ¬ p ≤ q := fun r => List.not_lt.mpr r h
    simp [h, h']
  · have h' : p ≤ q := List.not_lt.mp h
    simp [h, h']
def sortW (ws : List (List Int)) : List (List Int) := ws.mergeSort fun a b => decide (a ≤ b)
def rSortW (K : PySem.W.Frag) : List V → Hp → VK → Prop := fun vs H Q => ∃ (a : Addr) (bs : List Addr) (ws : List (List Int)), vs = [V.ref a] ∧ SqL K H a (bs.map V.ref) ∧ Paired (fun b (w : List Int) => H b = some (.tup (w.map V.int))) bs ws ∧ (ws.length ≤ 1 ∨ ∃ n, 1 ≤ n ∧ ∀ w ∈ ws, w.length = n) ∧
  ∀ (cs : List Addr) (p : Addr), Paired (fun b (w : List Int) => H b = some (.tup (w.map V.int))) cs (sortW ws) → H p = none → Q (.ref p) (upd H p (.lst (cs.map V.ref)))
section
variable {X : Cx} {W : WX}
theorem isT_reads {h : Heap} {b : Addr} {us : List Value} {w : List Int} (hi : IntsAre us w) : ∃ as, ReadsAll h us (w.map PyData.int) as := by
  induction hi with
  | nil => exact ⟨_, .nil⟩
  | @cons i t us ns _ ih =>
    obtain ⟨as, q⟩ := ih
    exact ⟨_, .cons (.int i t) q⟩
theorem alike_ints : ∀ a b : List Int, a.length = b.length → PySem.W.alikeAll (a.map .int) (b.map .int) = true
  | [], [], _ => by simp [PySem.W.alikeAll]
  | [], _ :: _, h => by simp at h
  | _ :: _, [], h => by simp at h
  | x :: a, y :: b, h => by
    have := alike_ints a b (by simpa using h)
    simp [PySem.W.alikeAll, PySem.W.alike, this]
theorem refs_vals : ∀ {bs : List Addr} {us : List Value}, Vals (bs.map V.ref) us → us = bs.map Value.ref
  | [], _, .nil => rfl
  | b :: bs, _, .cons h t => by
    rw [refs_vals t, List.map_cons]
    congr 1
theorem depth_ints : ∀ w : List Int, PyData.depthAll (w.map .int) ≤ 1
  | [] => by simp [PyData.depthAll]
  | x :: w => by
    have := depth_ints w
    simp [PyData.depthAll, PyData.depth]
    omega
theorem each_of {R : Value → List Int → Prop} : ∀ {bs : List Addr} {ws : List (List Int)}, Paired (fun b w => R (.ref b) w) bs ws → PySem.W.EachIs R (bs.map Value.ref) ws
  | _, _, .nil => .nil
  | _, _, .cons h t => .cons h (each_of t)
theorem of_each {H : Hp} : ∀ {us : List Value} {ws : List (List Int)}, PySem.W.EachIs (fun (u : Value) (w : List Int) => ∃ b, u = .ref b ∧ H b = some (.tup (w.map V.int))) us ws →
    ∃ cs : List Addr, us = cs.map Value.ref ∧ Paired (fun b (w : List Int) => H b = some (.tup (w.map V.int))) cs ws
  | _, _, .nil => ⟨[], rfl, .nil⟩
  | _, _, .cons h t => by
    obtain ⟨cs, e1, e2⟩ := of_each t
    obtain ⟨b, rfl, hb⟩ := h
    exact ⟨b :: cs, by rw [e1]; rfl, .cons hb e2⟩
theorem cr_sortW (hu : X.A.units + 64 < cLine) : CallR X (.builtin "sorted") (rSortW X.K) := by
  intro pins s σ H vs us Q I r h
  obtain ⟨a, bs, ws, rfl, hs, hp, hlen, q⟩ := h
  obtain ⟨its, rv, hl, hz⟩ := I.list hs
  obtain ⟨u, rfl, ru⟩ := vals1 r
  obtain rfl : u = Value.ref a := ru
  have hits := refs_vals rv
  subst hits
  have hbl : (bs.map Value.ref).length = ws.length := by rw [List.length_map]; exact Paired.length hp
  have hbz : bs.length ≤ sizeLine := by
    rw [List.length_map] at hz
    exact hz
  have fin : ∀ (h' : Heap) (d : Addr) (cs : List Addr), (∀ b o, s.heap.get? b = some o → h'.get? b = some o) → s.heap.objs.size ≤ d → (∃ n, h'.get? d = some (PyProof.Rows.seqObj "list" (cs.map Value.ref).toArray n)) → cs.length = bs.length → Paired (fun b (w : List Int) => H b = some (.tup (w.map V.int))) cs (sortW ws) →
      EP X pins σ Q (.ref d) { s with heap := h' } := fun h' d cs kp hd hn hcl hcs => by
    obtain ⟨n, hn⟩ := hn
    refine ⟨.ref d, upd H d (.lst (cs.map V.ref)), I.laid (t' := s.toks) kp hd ⟨by rw [List.length_map, hcl]; exact hbz, cs.map Value.ref, n, vals_refs cs, hn⟩, rfl, q cs d hcs (I.hok.fresh hd)⟩
  rcases hlen with hlen | ⟨n, hn1, hn⟩
  · refine SrtO.sorted_ord (ltv := fun _ _ => false) ⟨fun _ _ _ => rfl, fun _ _ _ _ _ => rfl⟩ hl.isList (by rw [List.length_map]; exact hbz) (fun h2 => by omega) fun out h1 h2 => ?_
    have e : out = bs.map Value.ref := by
      have hperm := h2.perm
      match hb : bs.map Value.ref, hperm with
      | [], hperm => exact List.Perm.eq_nil hperm
      | [x], hperm => exact List.perm_singleton.mp hperm
      | x :: y :: r, _ => rw [hb] at hbl; simp at hbl; omega
    subst e
    have e2 : sortW ws = ws := by
      match ws, hlen with
      | [], _ => simp [sortW]
      | [w], _ => simp [sortW]
    refine fin _ _ bs (fun b o e => PyProof.Rows.sortedAll_old e) (Nat.le_succ _) (PyProof.Rows.sortedAll_at s.heap _ _) rfl ?_
    rw [e2]; exact hp
  · have hR : PySem.W.EachIs (fun (u : Value) (w : List Int) => ∃ b, u = .ref b ∧ H b = some (.tup (w.map V.int))) (bs.map Value.ref) ws := each_of (hp.mono fun b w h => ⟨b, rfl, h⟩)
    have hReads : PySem.W.EachIs (fun (v : Value) (w : List Int) => ∃ as, Reads s.heap v (.tuple (w.map PyData.int)) as) (bs.map Value.ref) ws := each_of (hp.mono fun b w h => by
      obtain ⟨_, its2, r2, o, ho, hc, m, hd⟩ := I.hok _ _ h
      obtain ⟨as, ra⟩ := isT_reads (h := s.heap) (b := b) (intsAre_of r2)
      exact ⟨_, Reads.tuple ho hc hd ra⟩)
    refine PySem.W.sorted_data (enc := fun w : List Int => PyData.tuple (w.map .int)) hl.isList hR hReads (fun d hd d' hd' => ?_) (.inl fun d hd => ?_) (by rw [← hbl]; rw [List.length_map]; exact hbz) (fun w hw => ?_) fun out ho he => ?_
    · obtain ⟨w, hw, rfl⟩ := List.mem_map.mp hd
      obtain ⟨w', hw', rfl⟩ := List.mem_map.mp hd'
      show PySem.W.alikeAll _ _ = true
      exact alike_ints _ _ (by rw [hn w hw, hn w' hw'])
    · obtain ⟨w, hw, rfl⟩ := List.mem_map.mp hd
      have := hn w hw
      cases w with
      | nil => simp at this; omega
      | cons x r => exact ⟨_, _, rfl⟩
    · have h1 := depth_ints w
      simp only [PyData.depth]
      omega
    · rw [dataLe_wd] at he
      obtain ⟨cs, rfl, hcs⟩ := of_each he
      refine fin _ _ cs (fun b o e => PyProof.Rows.sortedAll_old e) (Nat.le_succ _) (PyProof.Rows.sortedAll_at s.heap _ _) ?_ hcs
      rw [List.length_map] at ho
      rw [ho, ← hbl, List.length_map]
def wordsOf : List Dt → Option (List (List Int))
  | [] => some []
  | d :: ds => match wordOf d, wordsOf ds with | some w, some ws => some (w :: ws) | _, _ => none
theorem wordsOf_eq : ∀ {ds : List Dt} {ws : List (List Int)}, wordsOf ds = some ws → ds = ws.map Wd
  | [], ws, h => by simp [wordsOf] at h; subst h; rfl
  | d :: ds, ws, h => by
    unfold wordsOf at h
    cases h1 : wordOf d with
    | none => rw [h1] at h; cases h
    | some w =>
      rw [h1] at h
      cases h2 : wordsOf ds with
      | none => rw [h2] at h; cases h
      | some r =>
        rw [h2] at h
        cases h
        rw [wordOf_eq h1, wordsOf_eq h2]; rfl
@[simp] theorem wordsOf_map : ∀ ws : List (List Int), wordsOf (ws.map Wd) = some ws
  | [] => rfl
  | w :: ws => by
    have := wordsOf_map ws
    simp [wordsOf, this]
def sortO : List Dt → Option (List Dt)
  | [.lst ds] => (wordsOf ds).bind fun ws => if ws.length ≤ 1 ∨ (∀ w ∈ ws, w.length = (ws.headD []).length ∧ 1 ≤ w.length) then some ((sortW ws).map Wd) else none
  | _ => none
theorem refs_of {K : PySem.W.Frag} {F : Hp} : ∀ {vs : List V} {ws : List (List Int)}, RpA K F vs (ws.map Wd) → ∃ bs : List Addr, vs = bs.map V.ref ∧ Paired (fun b (w : List Int) => F b = some (.tup (w.map V.int))) bs ws
  | _, [], .nil => ⟨[], rfl, .nil⟩
  | _, w :: ws, .cons h t => by
    obtain ⟨bs, e1, e2⟩ := refs_of t
    obtain ⟨b, rfl, hb⟩ := h.wd
    exact ⟨b :: bs, by rw [e1]; rfl, .cons hb e2⟩
theorem dn_sorted {e : Expr} {p pos : Pos} {f : Ms → R Dt} (hu : X.A.units + 64 < cLine) (hg : Gl X "sorted") (hm : X.mg "sorted" = none) (ha : PE X e (tD X.K W f)) (hs : starEach [e] X.env = (false, eval e X.env) :: starEach [] X.env := by rfl) : PE X (.Call (.Name "sorted" p) [e] [] pos) (tN X.K W (calN (aCons f aNil) sortO)) :=
  monoE (pe_callB (cr_sortW hu) hg hm (by decide +kernel) (da_cons ha da_nil hs) (by decide) (by decide) hs (by rfl)) fun σ H Q q => by
    obtain ⟨B, F, as, S, r0, o⟩ := q
    refine ⟨B, F, as, S, r0, Out.mono (Out.bind o) fun ds F1 H1 as1 S1 ⟨r1, e1, o1⟩ vs hv => ?_⟩
    cases hz : sortO ds with
    | none => rw [hz] at o1; exact o1.elim
    | some z =>
      rw [hz] at o1
      unfold sortO at hz
      split at hz
      · rename_i xs _
        cases hw : wordsOf xs with
        | none => rw [hw] at hz; cases hz
        | some ws =>
          rw [hw] at hz
          dsimp only [Option.bind] at hz
          split at hz
          · rename_i hc
            cases hz
            have e2 := wordsOf_eq hw
            subst e2
            obtain ⟨v, rfl, h1⟩ := rpa1 hv
            cases h1 with
            | lst hs ha =>
              obtain ⟨bs, rfl, hb⟩ := refs_of ha
              refine ⟨_, bs, ws, rfl, Evl.ex_l r1.fh (Evl.sq_of hs), hb.mono fun b w h => r1.fh _ _ h, ?_, fun cs p hcs hp => ?_⟩
              · rcases hc with hc | hc
                · exact .inl hc
                · by_cases h0 : ws = []
                  · subst h0; exact .inl (Nat.zero_le _)
                  · obtain ⟨w, r, rfl⟩ : ∃ w r, ws = w :: r := by
                      cases ws with
                      | nil => exact absurd rfl h0
                      | cons w r => exact ⟨w, r, rfl⟩
                    exact .inr ⟨w.length, (hc w List.mem_cons_self).2, fun x hx => (hc x hx).1⟩
              · have : ∀ {cs : List Addr} {us : List (List Int)}, Paired (fun b (w : List Int) => H1 b = some (.tup (w.map V.int))) cs us → ∃ F2, Ext F1 F2 as1 as1 ∧ Rep X.K B F2 H1 as1 σ S1 ∧ RpA X.K F2 (cs.map V.ref) (us.map Wd) := by
                  intro cs us h
                  have h' : Paired (fun b (q : List Int × Dt) => H1 b = some (.tup (q.1.map V.int))) cs (us.map fun w => (w, Dt.non)) := by
                    clear hcs
                    induction h with
                    | nil => exact .nil
                    | cons h t ih => exact .cons h ih
                  obtain ⟨F2, e2, r2, h2⟩ := knowAll r1 h'
                  rw [List.map_map] at h2
                  exact ⟨F2, e2, r2, h2⟩
                obtain ⟨F2, e2, r2, h2⟩ := this hcs
                obtain ⟨f1, f2, f3⟩ := r2.fresh hp
                exact o1 F2 _ as1 e2 (r2.grow hp _) p _ f1 f2 f3 upd_same h2
          · cases hz
      · cases hz
end
end Lq

namespace Lq
open PySem PySem.Spec PyProof.Rows L2
class En (α : Type) [DecidableEq α] where
  en : α → Dt
  eqv : ∀ a b, PyData.eqv (toPy (en a)) (toPy (en b)) = decide (a = b)
  pl : ∀ a, plain (en a) = true
  lay : ∀ a, (toPy (en a)).canLay0 = true
  dep : Nat
  depth : ∀ a, (toPy (en a)).depth ≤ dep
open En (en)
section
variable {α β : Type} [DecidableEq α] [En α] [DecidableEq β] [En β]
theorem bdec {α : Type} [BEq α] [LawfulBEq α] [DecidableEq α] (a b : α) : (a == b) = decide (a = b) := by
  rw [Bool.eq_iff_iff, beq_iff_eq, decide_eq_true_eq]
instance : En Int where
  en := .int
  eqv a b := by simp only [toPy, PyData.eqv]; exact bdec a b
  pl _ := by simp [plain]
  lay _ := by simp [toPy, PyData.canLay0]
  dep := 0
  depth _ := by simp [toPy, PyData.depth]
instance : En Bool where
  en := .bl
  eqv a b := by simp only [toPy, PyData.eqv]; exact bdec a b
  pl _ := by simp [plain]
  lay _ := by simp [toPy, PyData.canLay0]
  dep := 0
  depth _ := by simp [toPy, PyData.depth]
theorem plains_all : ∀ xs : List α, plains (xs.map en) = true
  | [] => by simp [plains]
  | x :: xs => by rw [List.map_cons, plains, En.pl x, plains_all xs]; rfl
theorem lays_all : ∀ xs : List α, PyData.canLayAll0 (toPys (xs.map en)) = true
  | [] => by simp [toPys, PyData.canLayAll0]
  | x :: xs => by rw [List.map_cons, toPys, PyData.canLayAll0, En.lay x, lays_all xs]; rfl
theorem deps_all : ∀ xs : List α, PyData.depthAll (toPys (xs.map en)) ≤ En.dep α
  | [] => by simp [toPys, PyData.depthAll]
  | x :: xs => by
    rw [List.map_cons, toPys, PyData.depthAll]
    exact Nat.max_le.mpr ⟨En.depth x, deps_all xs⟩
theorem eqvs_all : ∀ xs ys : List α, PyData.eqvAll (toPys (xs.map en)) (toPys (ys.map en)) = decide (xs = ys)
  | [], [] => by simp [toPys, PyData.eqvAll]
  | [], _ :: _ => by simp [toPys, PyData.eqvAll]
  | _ :: _, [] => by simp [toPys, PyData.eqvAll]
  | x :: xs, y :: ys => by
    rw [List.map_cons, List.map_cons, toPys, toPys, PyData.eqvAll, En.eqv x y, eqvs_all xs ys, ← Bool.decide_and]
    exact decide_eq_decide.mpr (by rw [List.cons.injEq])
instance : En (List α) where
  en xs := .tup (xs.map en)
  eqv a b := by rw [toPy, toPy, PyData.eqv]; exact eqvs_all a b
  pl a := by rw [plain]; exact plains_all a
  lay a := by rw [toPy, PyData.canLay0]; exact lays_all a
  dep := En.dep α + 1
  depth a := by
    rw [toPy, PyData.depth]
    have := deps_all a
    omega
structure Ls (α : Type) where
  l : List α
  deriving DecidableEq
instance : En (Ls α) where
  en xs := .lst (xs.l.map en)
  eqv a b := by
    rw [toPy, toPy, PyData.eqv, eqvs_all]
    exact decide_eq_decide.mpr ⟨fun h => by cases a; cases b; simpa using h, fun h => by rw [h]⟩
  pl a := by rw [plain]; exact plains_all a.l
  lay a := by rw [toPy, PyData.canLay0]; exact lays_all a.l
  dep := En.dep α + 1
  depth a := by
    rw [toPy, PyData.depth]
    have := deps_all a.l
    omega
instance : En (α × β) where
  en p := .tup [en p.1, en p.2]
  eqv a b := by
    rw [toPy, toPy, PyData.eqv]
    simp only [toPys, PyData.eqvAll, En.eqv, Bool.and_true]
    rw [← Bool.decide_and]
    exact decide_eq_decide.mpr (by rw [Prod.ext_iff])
  pl p := by simp [plain, plains, En.pl]
  lay p := by simp [toPy, toPys, PyData.canLay0, PyData.canLayAll0, En.lay]
  dep := max (En.dep α) (En.dep β) + 1
  depth p := by
    have h1 := En.depth p.1
    have h2 := En.depth p.2
    simp only [toPy, toPys, PyData.depth, PyData.depthAll]
    omega
theorem shp_en (h : En.dep α ≤ 64 := by decide) (a : α) : shp (en a) = true := by
  have h1 := En.depth a
  unfold shp SeqAt.shaped
  rw [En.pl, En.lay]
  simp only [Bool.true_and, decide_eq_true_eq]
  omega
theorem eqO_en (a b : α) (h : En.dep α ≤ 64 := by decide) : eqO (en a) (en b) = some (.bl (decide (a = b))) := by
  unfold eqO
  rw [shp_en h a, shp_en h b, En.eqv]
  rfl
theorem neO_en (a b : α) (h : En.dep α ≤ 64 := by decide) : neO (en a) (en b) = some (.bl (!decide (a = b))) := by
  unfold neO
  rw [shp_en h a, shp_en h b, En.eqv]
  rfl
end
@[simp] theorem eqO_int (a b : Int) : eqO (.int a) (.int b) = some (.bl (decide (a = b))) := eqO_en a b
@[simp] theorem neO_int (a b : Int) : neO (.int a) (.int b) = some (.bl (!decide (a = b))) := neO_en a b
theorem nrfl {α : Type} {a b : α} (h : a = b) : a = b := h
@[simp] theorem cE_run (d : Dt) (S : Ms) : cE d S = .ok d S := nrfl rfl
@[simp] theorem varE_im {i : Nat} {S : Ms} {d : Dt} (h : S.sl[i]? = some (.im d)) : varE i S = .ok d S := by unfold varE; rw [h]
@[simp] theorem varE_mu {i k : Nat} {S : Ms} {xs : List Dt} (h : S.sl[i]? = some (.mu k)) (h2 : S.mo[k]? = some (.ob (.ls xs))) : varE i S = .ok (.lst xs) { S with mo := S.mo.set k (.fz (.lst xs)) } := by unfold varE; rw [h]; dsimp only; rw [h2]
@[simp] theorem frz_run' (f : Ms → R (List Dt)) (S : Ms) : frz f S = (f S).bind fun ds S1 => .ok (.lst ds) S1 := nrfl rfl
@[simp] theorem op2_run (f g : Ms → R Dt) (h : Dt → Dt → Option Dt) (S : Ms) : op2 f g h S = (f S).bind fun d S1 => (g S1).bind fun e S2 => R.of (h d e) S2 := nrfl rfl
@[simp] theorem opN_run (f g : Ms → R Dt) (h : Dt → Dt → Option (List Dt)) (S : Ms) : opN f g h S = (f S).bind fun d S1 => (g S1).bind fun e S2 => R.of (h d e) S2 := nrfl rfl
@[simp] theorem op1_run (f : Ms → R Dt) (h : Dt → Option Dt) (S : Ms) : op1 f h S = (f S).bind fun d S1 => R.of (h d) S1 := nrfl rfl
@[simp] theorem iOp_ii (g : Int → Int → Int) (i j : Int) : iOp g (.int i) (.int j) = some (.int (g i j)) := nrfl rfl
@[simp] theorem iOpC_ii (C : Int → Int → Prop) [∀ i j, Decidable (C i j)] (g : Int → Int → Int) (i j : Int) : iOpC C g (.int i) (.int j) = if C i j then some (.int (g i j)) else none := nrfl rfl
@[simp] theorem iCmp_ii (g : Int → Int → Bool) (i j : Int) : iCmp g (.int i) (.int j) = some (.bl (g i j)) := nrfl rfl
@[simp] theorem negO_i (i : Int) : negO (.int i) = some (.int (-i)) := nrfl rfl
@[simp] theorem ixO_lst (xs : List Dt) (i : Int) : ixO (.lst xs) (.int i) = atI xs i := nrfl rfl
@[simp] theorem ixO_tup (xs : List Dt) (i : Int) : ixO (.tup xs) (.int i) = atI xs i := nrfl rfl
@[simp] theorem aNil_run (S : Ms) : aNil S = .ok [] S := nrfl rfl
@[simp] theorem aCons_run (f : Ms → R Dt) (fs : Ms → R (List Dt)) (S : Ms) : aCons f fs S = (f S).bind fun d S1 => (fs S1).bind fun ds S2 => .ok (d :: ds) S2 := nrfl rfl
@[simp] theorem tupE_run (fs : Ms → R (List Dt)) (S : Ms) : tupE fs S = (fs S).bind fun ds S1 => if ds.length ≤ 100000 then .ok (.tup ds) S1 else .no := nrfl rfl
@[simp] theorem lstE_run (fs : Ms → R (List Dt)) (S : Ms) : lstE fs S = (fs S).bind fun ds S1 => if ds.length ≤ 100000 then .ok ds S1 else .no := nrfl rfl
@[simp] theorem calE_run (fs : Ms → R (List Dt)) (h : List Dt → Option Dt) (S : Ms) : calE fs h S = (fs S).bind fun ds S1 => R.of (h ds) S1 := nrfl rfl
@[simp] theorem calN_run (fs : Ms → R (List Dt)) (h : List Dt → Option (List Dt)) (S : Ms) : calN fs h S = (fs S).bind fun ds S1 => R.of (h ds) S1 := nrfl rfl
@[simp] theorem tst_run' (f : Ms → R Dt) (S : Ms) : tst f S = (f S).bind fun d S1 => match d with | .bl b => .ok b S1 | _ => .no := nrfl rfl
@[simp] theorem notT_run (p : Ms → R Bool) (S : Ms) : notT p S = (p S).bind fun b S1 => .ok (!b) S1 := nrfl rfl
@[simp] theorem andT_run (p q : Ms → R Bool) (S : Ms) : andT p q S = (p S).bind fun b S1 => if b then q S1 else .ok false S1 := nrfl rfl
@[simp] theorem orT_run (p q : Ms → R Bool) (S : Ms) : orT p q S = (p S).bind fun b S1 => if b then .ok true S1 else q S1 := nrfl rfl
@[simp] theorem truT_run (f : Ms → R Dt) (S : Ms) : truT f S = (f S).bind fun d S1 => R.of (truO d) S1 := nrfl rfl
@[simp] theorem andV_run (f g : Ms → R Dt) (S : Ms) : andV f g S = (f S).bind fun d S1 => match d with | .bl true => g S1 | .bl false => .ok (.bl false) S1 | _ => .no := nrfl rfl
@[simp] theorem orV_run (f g : Ms → R Dt) (S : Ms) : orV f g S = (f S).bind fun d S1 => match d with | .bl false => g S1 | .bl true => .ok (.bl true) S1 | _ => .no := nrfl rfl
@[simp] theorem yesT_run (S : Ms) : yesT S = .ok true S := nrfl rfl
@[simp] theorem itS_run (f : Ms → R Dt) (S : Ms) : itS f S = (f S).bind fun d S1 => R.of (seqOf d) S1 := nrfl rfl
@[simp] theorem seqOf_lst (xs : List Dt) : seqOf (.lst xs) = some xs := nrfl rfl
@[simp] theorem seqOf_tup (xs : List Dt) : seqOf (.tup xs) = some xs := nrfl rfl
theorem itR1_run {fs : Ms → R (List Dt)} {S S1 : Ms} {n : Nat} (h : fs S = .ok [.int (n : Int)] S1) (hn : n < 2 ^ 62) : itR1 fs S = .ok ((List.range n).map fun (i : Nat) => Dt.int (i : Int)) S1 := by
  unfold itR1
  rw [h, R.bind_ok]
  dsimp only
  rw [if_pos ⟨by omega, by omega⟩, Int.toNat_natCast]
@[simp] theorem itZ_run (fs : Ms → R (List Dt)) (S : Ms) : itZ fs S = (fs S).bind fun ds S1 => match ds with
  | [.lst xs, .lst ys] => .ok (zipD xs ys) S1
  | [.tup xs, .tup ys] => .ok (zipD xs ys) S1
  | _ => .no := nrfl rfl
@[simp] theorem lenO_lst (xs : List Dt) : lenO [.lst xs] = some (.int xs.length) := nrfl rfl
@[simp] theorem lenO_tup (xs : List Dt) : lenO [.tup xs] = some (.int xs.length) := nrfl rfl
@[simp] theorem intO_i (i : Int) : intO [.int i] = some (.int i) := nrfl rfl
@[simp] theorem intO_b (b : Bool) : intO [.bl b] = some (.int (if b then 1 else 0)) := nrfl rfl
@[simp] theorem absO_i (i : Int) : absO [.int i] = some (.int (if i < 0 then -i else i)) := nrfl rfl
@[simp] theorem tupO_lst (xs : List Dt) : tupO [.lst xs] = some (.tup xs) := nrfl rfl
@[simp] theorem tupO_tup (xs : List Dt) : tupO [.tup xs] = some (.tup xs) := nrfl rfl
@[simp] theorem lstO_lst (xs : List Dt) : lstO [.lst xs] = some xs := nrfl rfl
@[simp] theorem lstO_tup (xs : List Dt) : lstO [.tup xs] = some xs := nrfl rfl
@[simp] theorem revO_tup (xs : List Dt) : revO (.tup xs) = some (.tup xs.reverse) := nrfl rfl
@[simp] theorem seqS_run (m n : Ms → O) (S : Ms) : seqS m n S = (m S).seq n := nrfl rfl
@[simp] theorem nilS_run (S : Ms) : nilS S = .nx S := nrfl rfl
@[simp] theorem seq_nx (s : Ms) (f : Ms → O) : (O.nx s).seq f = f s := nrfl rfl
@[simp] theorem seq_rt (d : Dt) (s : Ms) (f : Ms → O) : (O.rt d s).seq f = .rt d s := nrfl rfl
@[simp] theorem seq_ct (s : Ms) (f : Ms → O) : (O.ct s).seq f = .ct s := nrfl rfl
@[simp] theorem seq_bk (s : Ms) (f : Ms → O) : (O.bk s).seq f = .bk s := nrfl rfl
@[simp] theorem asgS_run' (i : Nat) (f : Ms → R Dt) (S : Ms) : asgS i f S = (f S).stmt fun d S1 => .nx { S1 with sl := S1.sl.set i (.im d) } := nrfl rfl
@[simp] theorem asgN_run' (i : Nat) (f : Ms → R (List Dt)) (S : Ms) : asgN i f S = (f S).stmt fun ds S1 => .nx { sl := S1.sl.set i (.mu S1.mo.length), mo := S1.mo ++ [.ob (.ls ds)] } := nrfl rfl
@[simp] theorem asgM_run' (i : Nat) (f : Ms → R Ob) (S : Ms) : asgM i f S = (f S).stmt fun c S1 => .nx { sl := S1.sl.set i (.mu S1.mo.length), mo := S1.mo ++ [.ob c] } := nrfl rfl
@[simp] theorem asgT_run' (T : Tk) (f : Ms → R Dt) (S : Ms) : asgT T f S = (f S).stmt fun d S1 => match T.k d S1 with | some S2 => .nx S2 | none => .no := nrfl rfl
theorem moveS_im {i j : Nat} {S : Ms} {d : Dt} (h : S.sl[j]? = some (.im d)) : moveS i j S = .nx { S with sl := S.sl.set i (.im d) } := by unfold moveS; rw [h]
theorem moveS_mu {i j k : Nat} {S : Ms} (h : S.sl[j]? = some (.mu k)) : moveS i j S = .nx { S with sl := S.sl.set i (.mu k) } := by unfold moveS; rw [h]
@[simp] theorem ifS_run (p : Ms → R Bool) (m n : Ms → O) (S : Ms) : ifS p m n S = (p S).stmt fun b S1 => if b then m S1 else n S1 := nrfl rfl
@[simp] theorem retS_run (f : Ms → R Dt) (S : Ms) : retS f S = (f S).stmt fun d S1 => .rt d S1 := nrfl rfl
@[simp] theorem dropS_run (f : Ms → R Dt) (S : Ms) : dropS f S = (f S).stmt fun _ S1 => .nx S1 := nrfl rfl
@[simp] theorem forS_run (it : Ms → R (List Dt)) (k : Dt → Ms → Option Ms) (b : Ms → O) (S : Ms) : forS it k b S = (it S).stmt fun ds S1 => forL k b ds S1 := nrfl rfl
@[simp] theorem kNm (i : Nat) (d : Dt) (S : Ms) : (Tk.nm i).k d S = some { S with sl := S.sl.set i (.im d) } := nrfl rfl
@[simp] theorem kTp (is : List Nat) (ds : List Dt) (S : Ms) : (Tk.tp is).k (.tup ds) S = kNames is ds S := nrfl rfl
theorem muAt_run {S : Ms} {i k : Nat} {xs : List Dt} (h : S.sl[i]? = some (.mu k)) (h2 : S.mo[k]? = some (.ob (.ls xs))) : muAt S i = some (k, xs) := by unfold muAt; rw [h]; dsimp only; rw [h2]
theorem dcAt_run {S : Ms} {i k : Nat} {xs : List (List Int × Dt)} (h : S.sl[i]? = some (.mu k)) (h2 : S.mo[k]? = some (.ob (.dc xs))) : dcAt S i = some (k, xs) := by unfold dcAt; rw [h]; dsimp only; rw [h2]
@[simp] theorem appS_run (i : Nat) (f : Ms → R Dt) (S : Ms) : appS i f S = match muAt S i with
  | none => .no
  | some _ => (f S).stmt fun d S1 => match muAt S1 i with | some (k, xs) => if xs.length < 100000 then .nx { S1 with mo := S1.mo.set k (.ob (.ls (xs ++ [d]))) } else .no | none => .no := nrfl rfl
@[simp] theorem funE_run (n : Nat) (fs : Ms → R (List Dt)) (f : List Dt → Fo) (S : Ms) : funE n fs f S = (fs S).bind fun ds S1 => if ds.length = n then (match f ds with | .ok d => .ok d S1 | .er e => .er e S1 | .no => .no) else .no := nrfl rfl
theorem atI_ofNat {α : Type} (xs : List α) (k : Nat) : atI xs (k : Int) = xs[k]? := by
  cases h : xs[k]? with
  | some v => exact atI_nat h
  | none =>
    have hk := List.getElem?_eq_none_iff.mp h
    unfold atI ixN
    rw [if_pos (by omega), if_neg (by omega)]; rfl

theorem lcF_flt {α : Type} {sl : List Sv} {k : Dt → Ms → Option Ms} {t : Ms → R Bool} {e : Ms → R Dt} {mo : List Mo} (enc : α → Dt) (b : α → Bool) (g : α → Dt) : ∀ (xs : List α) (acc : List Dt),
    (∀ x ∈ xs, ∃ S1 S2, k (enc x) { sl := sl, mo := mo } = some S1 ∧ t S1 = .ok (b x) S2 ∧ S2.mo = mo ∧ (b x = true → ∃ S3, e S2 = .ok (g x) S3 ∧ S3.mo = mo)) → acc.length + xs.length ≤ 100000 →
    lcF sl k t e (xs.map enc) mo acc = .ok (acc ++ (xs.filter b).map g) { sl := sl, mo := mo }
  | [], acc, _, _ => by simp [lcF]
  | x :: xs, acc, h, hl => by
    obtain ⟨S1, S2, h1, h2, h3, h4⟩ := h x List.mem_cons_self
    rw [List.map_cons]
    unfold lcF
    rw [h1]
    dsimp only
    rw [h2]
    have hl' : acc.length + (xs.length + 1) ≤ 100000 := hl
    cases hb : b x with
    | false =>
      dsimp only
      rw [h3, lcF_flt enc b g xs acc (fun y hy => h y (List.mem_cons_of_mem _ hy)) (by omega)]
      simp [hb]
    | true =>
      obtain ⟨S3, h5, h6⟩ := h4 hb
      dsimp only
      rw [h5]
      dsimp only
      rw [if_pos (by omega), h6, lcF_flt enc b g xs (acc ++ [g x]) (fun y hy => h y (List.mem_cons_of_mem _ hy)) (by simp; omega)]
      simp [hb]
theorem lcE_flt {α : Type} {it : Ms → R (List Dt)} {k : Dt → Ms → Option Ms} {t : Ms → R Bool} {e : Ms → R Dt} {own : List Nat} {S S1 : Ms} (enc : α → Dt) (b : α → Bool) (g : α → Dt) (xs : List α) (hi : it S = .ok (xs.map enc) S1)
    (h : ∀ x ∈ xs, ∃ T1 T2, k (enc x) { sl := wipeL S1.sl own, mo := S1.mo } = some T1 ∧ t T1 = .ok (b x) T2 ∧ T2.mo = S1.mo ∧ (b x = true → ∃ T3, e T2 = .ok (g x) T3 ∧ T3.mo = S1.mo)) (hl : xs.length ≤ 100000) :
    lcE it k t e own S = .ok ((xs.filter b).map g) S1 := by
  unfold lcE
  rw [hi]
  simp only [R.bind_ok]
  rw [lcF_flt enc b g xs [] h (by simpa using hl)]
  simp
theorem lcE_map {α : Type} {it : Ms → R (List Dt)} {k : Dt → Ms → Option Ms} {e : Ms → R Dt} {own : List Nat} {S S1 : Ms} (enc : α → Dt) (g : α → Dt) (xs : List α) (hi : it S = .ok (xs.map enc) S1)
    (h : ∀ x ∈ xs, ∃ T1, k (enc x) { sl := wipeL S1.sl own, mo := S1.mo } = some T1 ∧ ∃ T3, e T1 = .ok (g x) T3 ∧ T3.mo = S1.mo) (hk : ∀ d T T', k d T = some T' → T'.mo = T.mo) (hl : xs.length ≤ 100000) :
    lcE it k yesT e own S = .ok (xs.map g) S1 := by
  have := lcE_flt (t := yesT) enc (fun _ => true) g xs hi (fun x hx => by
    obtain ⟨T1, h1, T3, h2, h3⟩ := h x hx
    exact ⟨T1, T1, h1, rfl, by rw [hk _ _ _ h1], fun _ => ⟨T3, h2, h3⟩⟩) hl
  rw [this]
  congr 2
  simp
theorem kNames_mo : ∀ {is : List Nat} {ds : List Dt} {S S' : Ms}, kNames is ds S = some S' → S'.mo = S.mo
  | [], [], _, _, h => by cases h; rfl
  | [], _ :: _, _, _, h => by cases h
  | _ :: _, [], _, _, h => by cases h
  | i :: is, d :: ds, S, S', h => by
    have := kNames_mo (is := is) (ds := ds) (S := { S with sl := S.sl.set i (.im d) }) h
    exact this
theorem Tk.mo {T : Tk} {d : Dt} {S S' : Ms} (h : T.k d S = some S') : S'.mo = S.mo := by
  cases T with
  | nm i => cases h; rfl
  | tp is =>
    cases d with
    | tup ds => exact kNames_mo h
    | _ => cases h
theorem forL_inv {k : Dt → Ms → Option Ms} {body : Ms → O} : ∀ (items : List Dt) (I : Nat → Ms → Prop) (S : Ms), I 0 S → (∀ i d S, items[i]? = some d → I i S → ∃ S1 S2, k d S = some S1 ∧ (body S1 = .nx S2 ∨ body S1 = .ct S2) ∧ I (i + 1) S2) → ∃ S', forL k body items S = .nx S' ∧ I items.length S'
  | [], I, S, h0, _ => ⟨S, rfl, h0⟩
  | d :: ds, I, S, h0, h => by
    obtain ⟨S1, S2, h1, h2, h3⟩ := h 0 d S rfl h0
    obtain ⟨S', e1, e2⟩ := forL_inv ds (fun i => I (i + 1)) S2 h3 fun i d S hd hI => h (i + 1) d S (by simpa using hd) hI
    refine ⟨S', ?_, by simpa using e2⟩
    unfold forL
    rw [h1]
    dsimp only
    rcases h2 with h2 | h2 <;> rw [h2] <;> exact e1
end Lq

namespace Lq
open PySem PySem.Spec PyProof.Rows L2
open Evl (Ex)
theorem mul_once (l : Addr) (its : Array Value) (n : Nat) (dd : Option Addr) (sl : Array (Option Value)) (x : Int) (u : Tok) (c0 : (decide (x < -(2 ^ 63)) || decide (x ≥ 2 ^ 63)) = false) (c1 : (its.isEmpty || x == 1) = true) :
    Meets (Builtin.«tuple.__mul__» ⟨[.ref l, .int x u], []⟩) (fun _ R s => s.heap.get? l = some { cls := .type "tuple", dict := dd, data := .seq its n, slots := sl } ∧ R (.ok (.ret (.ref l))) s) :=
  .of_wp fun prog w A R s h => by
    obtain ⟨hp, gg, d, tk, os⟩ := s
    obtain ⟨hl, h⟩ := h
    have f1 := AutoSeq1.idx_int
    wp_walk using wpAny_loadPart' hl
    refine wpAny_ite_false (decide_eq_false fun z => by rw [c0] at z; exact Bool.noConfusion z) ?_
    wp_walk using wpAny_loadPart' hl
    exact ⟨_, rfl, h⟩
theorem mul_none (l : Addr) (its : Array Value) (n : Nat) (dd : Option Addr) (sl : Array (Option Value)) (x : Int) (u : Tok) (c0 : (decide (x < -(2 ^ 63)) || decide (x ≥ 2 ^ 63)) = false) (c1 : (its.isEmpty || x == 1) = false) (c2 : (decide (x ≤ 0) || its.isEmpty) = true) :
    Meets (Builtin.«tuple.__mul__» ⟨[.ref l, .int x u], []⟩) (fun _ R s => s.heap.get? l = some { cls := .type "tuple", dict := dd, data := .seq its n, slots := sl } ∧
      R (.ok (.ret (.ref s.heap.objs.size))) { s with heap := s.heap.push { cls := .type "tuple", data := .seq #[] } }) :=
  .of_wp fun prog w A R s h => by
    obtain ⟨hp, gg, d, tk, os⟩ := s
    obtain ⟨hl, h⟩ := h
    have f1 := AutoSeq1.idx_int
    wp_walk using wpAny_loadPart' hl
    refine wpAny_ite_false (decide_eq_false fun z => by rw [c0] at z; exact Bool.noConfusion z) ?_
    wp_walk using wpAny_loadPart' hl
    exact ⟨_, rfl, h⟩
section
variable {X : Cx}
def rRepA (K : PySem.W.Frag) : R2 := fun x y H Q => ∃ (l : Addr) (k : Int) (xs : List V), x = .ref l ∧ y = .int k ∧ SqT K H l xs ∧ xs ≠ [] ∧ 0 ≤ k ∧ k ≤ 1000 ∧ xs.length ≤ 1000 ∧ (k = 1 → Q (.ref l) H) ∧ (k ≠ 1 → ∀ p, H p = none → Q (.ref p) (upd H p (.tup (List.replicate k.toNat xs).flatten)))
theorem op_repA : OpR X (binaryOp .Mult) (rRepA X.K) := by
  intro pins s σ H x y v u Q I rx ry h
  obtain ⟨l, k, xs, ex, ey, hT, hne, h0, h1, hz, q1, q2⟩ := h
  by_cases hk : 2 ≤ k
  · exact op_repT pins s σ H x y v u Q I rx ry ⟨l, k, xs, ex, ey, hT, hne, hk, h1, hz, q2 (by omega)⟩
  · subst ex ey
    cases rx
    obtain ⟨t, rfl⟩ := ry
    obtain ⟨its, r, ⟨⟨cls, dd, data, sl⟩, ho, hc, n, hd⟩, hs⟩ := I.tuple hT
    simp only at hc hd
    subst hc hd
    have hle := r.length
    have hi : its.toArray.isEmpty = false := by
      cases its with
      | nil => exact absurd (List.eq_nil_of_length_eq_zero hle) hne
      | cons a b => rfl
    have c0 : (decide (k < -(2 ^ 63)) || decide (k ≥ 2 ^ 63)) = false := by
      have e1 : ¬ k < -(2 ^ 63) := by omega
      have e2 : ¬ k ≥ 2 ^ 63 := by omega
      rw [decide_eq_false e1, decide_eq_false e2]
      rfl
    by_cases h1 : k = 1
    · have c1 : (its.toArray.isEmpty || k == 1) = true := by rw [h1, hi]; rfl
      refine wpAny_binaryOp_repeat_ref (U := "int") (T := "tuple") (by decide) ⟨_, ho, rfl⟩ (fun z => typeIs_int z k t) noFill_tuple_mul F.fills_int_mul F.slot_int_rmul repeat_tuple F.slot_int_index.lookup ?_
      refine call_meets F.slot_int_rmul (typeIs_int s k t) F.entry_int_rmul (F.args_int_rmul_2 _ _) (int_rmul_tuple k t l its.toArray n dd sl) ⟨ho, rfl, ⟨_, ho, rfl⟩, ?_⟩
      exact call_meets F.slot_tuple_mul ⟨_, ho, rfl⟩ F.entry_tuple_mul (F.args_tuple_mul_2 _ _) (mul_once l its.toArray n dd sl k t c0 c1) ⟨ho, ⟨.ref l, H, I, rfl, q1 h1⟩⟩
    · have hk0 : k = 0 := by omega
      have c1 : (its.toArray.isEmpty || k == 1) = false := by rw [hk0, hi]; rfl
      have c2 : (decide (k ≤ 0) || its.toArray.isEmpty) = true := by rw [hk0]; rfl
      refine wpAny_binaryOp_repeat_ref (U := "int") (T := "tuple") (by decide) ⟨_, ho, rfl⟩ (fun z => typeIs_int z k t) noFill_tuple_mul F.fills_int_mul F.slot_int_rmul repeat_tuple F.slot_int_index.lookup ?_
      refine call_meets F.slot_int_rmul (typeIs_int s k t) F.entry_int_rmul (F.args_int_rmul_2 _ _) (int_rmul_tuple k t l its.toArray n dd sl) ⟨ho, rfl, ⟨_, ho, rfl⟩, ?_⟩
      refine call_meets F.slot_tuple_mul ⟨_, ho, rfl⟩ F.entry_tuple_mul (F.args_tuple_mul_2 _ _) (mul_none l its.toArray n dd sl k t c0 c1 c2) ⟨ho, ?_⟩
      refine ⟨.ref s.heap.objs.size, upd H s.heap.objs.size (.tup []), I.laid (t' := s.toks) (fun b ob q => Heap.get?_push_of_some _ q) (Nat.le_refl _) ?_, rfl, ?_⟩
      · exact ⟨Nat.zero_le _, [], .nil, IsTup.new _ _⟩
      · have := q2 h1 _ (I.hok.fresh (Nat.le_refl _))
        rw [hk0] at this
        exact this
end
section
variable {X : Cx} {W : WX} {a b e : Expr} {f g : Ms → R Dt} {p pos : Pos}
def repT : Dt → Dt → Option Dt | .tup xs, .int k => if xs ≠ [] ∧ xs.length ≤ 100 ∧ 0 ≤ k ∧ k ≤ 1000 then some (.tup (List.replicate k.toNat xs).flatten) else none | _, _ => none
theorem de_repT (ha : PE X a (tD X.K W f)) (hb : PE X b (tD X.K W g)) : PE X (.BinOp a .Mult b pos) (tD X.K W (op2 f g repT)) := de_op op_repA (fun F H v w d e z Q ex hv hw hz q => by
  unfold repT at hz
  split at hz <;> try cases hz
  split at hz <;> cases hz
  rename_i xs k hl
  obtain ⟨h1, h2, h3, h4⟩ := hl
  cases hw
  cases hv with
  | tup hs ha =>
    refine ⟨_, _, _, rfl, rfl, Evl.ex_t ex hs.sq, ?_, h3, h4, by rw [ha.length]; omega, fun hk => q.1 _ ?_, fun hk p hp => q.2 p _ hp ?_⟩
    · intro z
      rw [z] at ha
      cases ha
      exact h1 rfl
    · subst hk
      have e1 : (List.replicate (Int.toNat 1) xs).flatten = xs := by simp
      rw [e1]
      exact .tup hs ha
    · have hf : F p = none := by
        cases w : F p with
        | none => rfl
        | some o => rw [ex _ _ w] at hp; cases hp
      exact .tup upd_same (RpA.up (rp_flat ha _) (Ex.new hf))) ha hb
def blsOf : List Dt → Option (List Bool)
  | [] => some []
  | .bl b :: ds => (blsOf ds).map (b :: ·)
  | _ => none
theorem blsOf_eq : ∀ {ds : List Dt} {bs : List Bool}, blsOf ds = some bs → ds = bs.map Dt.bl
  | [], bs, h => by cases h; rfl
  | .bl b :: ds, bs, h => by
    unfold blsOf at h
    cases q : blsOf ds with
    | none => rw [q] at h; cases h
    | some cs => rw [q] at h; cases h; rw [blsOf_eq q]; rfl
  | .non :: _, _, h | .int _ :: _, _, h | .str _ :: _, _, h | .lst _ :: _, _, h | .tup _ :: _, _, h | .obj _ _ _ :: _, _, h | .scr _ _ :: _, _, h => by cases h
theorem blsOf_map : ∀ bs : List Bool, blsOf (bs.map Dt.bl) = some bs
  | [] => rfl
  | b :: bs => by rw [List.map_cons, blsOf, blsOf_map bs]; rfl
theorem blsv {K : PySem.W.Frag} {F : Hp} : ∀ {vs : List V} {bs : List Bool}, RpA K F vs (bs.map Dt.bl) → vs = bs.map V.bl
  | _, [], .nil => rfl
  | _, b :: bs, .cons h t => by rw [h.blv, blsv t]; rfl
def allO : List Dt → Option Dt | [.lst xs] => (blsOf xs).map fun bs => .bl (bs.all id) | _ => none
theorem de_all (hcalm : X.calm = true) (hg : Gl X "all") (hm : X.mg "all" = none) (ha : PE X a (tD X.K W f)) (hs : starEach [a] X.env = (false, eval a X.env) :: starEach [] X.env := by rfl) : PE X (.Call (.Name "all" p) [a] [] pos) (tD X.K W (calE (aCons f aNil) allO)) :=
  de_calB (fun F H vs ds z Q ex hv hz q => by
    unfold allO at hz
    split at hz <;> try cases hz
    rename_i xs
    cases hn : blsOf xs with
    | none => rw [hn] at hz; cases hz
    | some bs =>
      rw [hn] at hz
      cases hz
      have e1 := blsOf_eq hn
      subst e1
      obtain ⟨v, rfl, h1⟩ := rpa1 hv
      cases h1 with
      | lst hs ha =>
        rw [blsv ha] at hs
        exact ⟨_, _, rfl, Evl.ex_l ex (Evl.sq_of hs), q.1 _ (.bl _)⟩) (cr_all hcalm) hg hm (by decide +kernel) (da_cons ha da_nil hs) (by decide) (by decide) hs (by rfl)
end
@[simp] theorem allO_run (bs : List Bool) : allO [.lst (bs.map Dt.bl)] = some (.bl (bs.all id)) := by unfold allO; dsimp only; rw [blsOf_map]; rfl
end Lq

namespace Lq
open PySem PySem.Spec PyProof.Rows L2
section
variable {X : Cx} {W : WX} {a b : Expr} {f g : Ms → R Dt} {p pos : Pos}
end
end Lq

namespace Lq
open PySem PySem.Spec PyProof.Rows L2
structure ScC (N ps : List Str) (sc : Scope) : Prop where
  kind : sc.kind = .function
  co : sc.isCoroutine = false
  gen : sc.isGenerator = false
  nd : N.Nodup
  pre : N.take ps.length = ps
  par : ∀ x ∈ ps, sc.names.lookup x = some .local
  cell : ∀ y ∈ sc.names, y.2 ≠ .cell
  free : ∀ y ∈ sc.names, y.2 = .free → y.1 = "__class__"
  kcl : sc.names.lookup ("__class__" : Str) = some .free
abbrev envK (qual : Str) (sc : Scope) (L f : Addr) (cd : Value) (cc : Addr) : Env := PySem.W.envX qual sc L f cd [("__class__", cc)]
def cxK (CX : CXT) (P : Program) (w : World) (K : PySem.W.Frag) (mg : Str → Option Value) (base : Heap) (N : List Str) (qual : Str) (scope : Scope) (f : Addr) (cd : Value) (cc : Addr) (A : Around) (outer : List Env) (s : Shared) (H : Hp) (E : XK) : Cx where
  prog := P
  w := w
  K := K
  mg := mg
  base := base
  A := A.deeper (envK qual scope s.heap.objs.size f cd cc)
  N := N
  s_0 := s
  H_0 := H
  env := envK qual scope s.heap.objs.size f cd cc
  outer := outer
  stack := envK qual scope s.heap.objs.size f cd cc :: outer
  ex := []
  calm := true
  fn := fun x => !(x == "__class__")
  pn := []
  xe := fun e s' => wpAny (model P w) (A.deeper (envK qual scope s.heap.objs.size f cd cc)) (leaving (envK qual scope s.heap.objs.size f cd cc) e) (fun _ s'' => CX outer H s E e s'') (fun e' s'' => CX outer H s E e' s'') s'
theorem mfz {α β : Type} : ∀ {ps : List α} {us : List β}, ps.Nodup → ((ps.zip us).map (·.1)).Nodup
  | [], _, _ => by simp
  | _ :: _, [], _ => by simp
  | p :: ps, u :: us, h => by
    rw [List.zip_cons_cons, List.map_cons, List.nodup_cons]
    obtain ⟨h1, h2⟩ := List.nodup_cons.mp h
    refine ⟨fun hm => ?_, mfz h2⟩
    obtain ⟨q, hq, e⟩ := List.mem_map.mp hm
    have e' : q.1 = p := e
    exact h1 (e' ▸ (List.of_mem_zip hq).1)
theorem lookup_rev {ps : List Str} (hnd : ps.Nodup) : ∀ {us : List Value} {i : Nat} {y : Str} {u : Value}, ps[i]? = some y → us[i]? = some u → (ps.zip us).reverse.lookup y = some u := by
  intro us i y u h1 h2
  have hmem : (y, u) ∈ (ps.zip us).reverse := by
    rw [List.mem_reverse]
    have hi : i < ps.length := (List.getElem?_eq_some_iff.mp h1).1
    have hi2 : i < us.length := (List.getElem?_eq_some_iff.mp h2).1
    refine List.mem_iff_getElem?.mpr ⟨i, ?_⟩
    rw [List.getElem?_zip_eq_some]
    exact ⟨h1, h2⟩
  have hnd2 : (((ps.zip us).reverse).map (·.1)).Nodup := by
    rw [List.map_reverse]
    exact (List.reverse_perm _).nodup_iff.mpr (mfz hnd)
  generalize (ps.zip us).reverse = l at *
  induction l with
  | nil => cases hmem
  | cons a l ih =>
    obtain ⟨k, v⟩ := a
    rw [List.map_cons, List.nodup_cons] at hnd2
    rcases List.mem_cons.mp hmem with h | h
    · cases h
      simp [List.lookup]
    · have hne : y ≠ k := fun e => hnd2.1 (List.mem_map.mpr ⟨(y, u), h, e⟩)
      have : (y == k) = false := by simpa using hne
      rw [List.lookup_cons, this]
      exact ih h hnd2.2
section
variable {CX : CXT} {P : Program} {w : World} {K : PySem.W.Frag} {mg : Str → Option Value} {base : Heap} {N ps : List Str} {qual : Str} {scope : Scope} {f cc D : Addr} {cd cl : Value} {cld : Option Addr} {csl : Array (Option Value)} {A : Around} {outer : List Env} {s : Shared} {H : Hp} {E : XK} {us : List Value} {vs : List V} {h₀ : Heap} {t : Nat}
theorem inv_startK (S : ScC N ps scope) (hd : A.handled = none) (e0 : Env0 P w K mg base A outer s H) (hl : vs.length = ps.length) (r : Vals vs us) (hcell : K.lookup cc = some ⟨cl, cld, .cell (some (.ref D)), csl⟩)
    (hns : h₀.Ns s.heap.objs.size (fun x => (ps.zip us).reverse.lookup x)) (hk : ∀ b o, s.heap.get? b = some o → h₀.get? b = some o) :
    Inv (cxK CX P w K mg base N qual scope f cd cc A outer s H E) [] (L2.start N vs) H { s with heap := h₀, toks := t } := by
  have hpl : ps.length ≤ N.length := by have := congrArg List.length S.pre; rw [List.length_take] at this; omega
  have cl1 : ∀ {x : Str} {c : Addr}, List.lookup x [(("__class__" : Str), cc)] = some c → x = "__class__" ∧ c = cc := fun {x c} h => by
    rw [List.lookup_cons] at h
    split at h
    · rename_i hx
      cases h
      exact ⟨by simpa using hx, rfl⟩
    · cases h
  have cl2 : List.lookup ("__class__" : Str) [(("__class__" : Str), cc)] = some cc := by simp [List.lookup]
  have hb := e0.mod.kin _ _ hcell
  have hbc := e0.bs _ _ hb
  refine ⟨⟨e0.mod, S.kind, rfl, rfl, Nat.le_refl _, fun y z c h1 h2 => (cl1 h1).1.trans (cl1 h2).1.symm, fun y hy => ?_, fun y c hf h => ?_, fun _ => hd, Around.frames_deeper e0.frames, .inr ⟨rfl, rfl⟩, fun b z => absurd z (by exact List.not_mem_nil), e0.bs, e0.bsz, fun b _ _ => by exact List.not_mem_nil, fun b z => absurd z (by exact List.not_mem_nil), e0.funs, e0.frf⟩,
    rfl, e0.bare, Un.kept hk, ⟨_, hns, fun i y v h1 h2 h3 => ?_⟩, fun y c h => ?_, e0.hok.fresh (Nat.le_refl _), fun y c h => ?_, fun p hp => absurd (show p ∈ ([] : List (Addr × Obj)) from hp) (by simp), e0.hok.kept hk, ?_⟩
  · have hy : scope.names.lookup y = some .cell ∨ scope.names.lookup y = some .free := hy
    rcases hy with hy | hy
    · exact absurd rfl (S.cell _ (PySem.mem_of_lookup hy))
    · have e := S.free _ (PySem.mem_of_lookup hy) rfl
      dsimp only at e
      rw [e]
      exact ⟨cc, cl2⟩
  · have e := (cl1 h).1
    rw [e] at hf
    have hf' : (!(("__class__" : Str) == "__class__")) = true := hf
    exact absurd hf' (by decide)
  · have hi : i < vs.length := by
      unfold L2.start at h2
      by_cases hi : i < vs.length
      · exact hi
      · rw [List.getElem?_append_right (by simpa using hi)] at h2
        rw [List.getElem?_replicate] at h2
        split at h2 <;> cases h2
    have ha : vs[i]? = some v := by
      unfold L2.start at h2
      rw [List.getElem?_append_left (by simpa using hi), List.getElem?_map] at h2
      cases e : vs[i]? with
      | none => rw [e] at h2; cases h2
      | some a => rw [e] at h2; cases h2; rfl
    obtain ⟨u, hu, rv⟩ := r.get ha
    have hp : ps[i]? = some y := by
      rw [← S.pre, List.getElem?_take_of_lt (by omega)]
      exact h1
    have ndP : ps.Nodup := by
      rw [← S.pre]
      exact S.nd.sublist (List.take_sublist _ _)
    exact ⟨u, rv, .inl ⟨S.par y (List.mem_of_getElem? hp), lookup_rev ndP hp hu⟩⟩
  · have e := (cl1 h).2
    rw [e]
    exact ⟨some (.ref D), _, hk _ _ hbc.1, rfl⟩
  · have e := (cl1 h).2
    rw [e]
    exact hbc.2
  · unfold L2.start
    show _ = N.length
    rw [List.length_append, List.length_map, List.length_replicate]
    omega
theorem fnK_of {k : Nat} {x : Str} {params : Arguments} {body : List Stmt} {kV doc pm ct oc : Value} {an od : Option Addr} {osl : Array (Option Value)} {sp : Sp} (lk : K.lookup f = some ⟨oc, od, .func (PySem.W.ksFn x qual params body scope .none kV doc pm an cd ct cc), osl⟩) (hcd : PySem.W.codeIn K cd qual = true)
    (S : ScC N ps scope) (hcell : K.lookup cc = some ⟨cl, cld, .cell (some (.ref D)), csl⟩) (len : ∀ vs H Q E, sp vs H Q E → vs.length = ps.length)
    (hbody : ∀ (A : Around) (outer : List Env) (s s1 : Shared) (H : Hp) (vs : List V) (Q : VK) (E : XK), Room k (A.deeper (envK qual scope s.heap.objs.size f cd cc)) → sp vs H Q E → Inv (cxK CX P w K mg base N qual scope f cd cc A outer s H E) [] (L2.start N vs) H s1 →
      _root_.PySem.wpAt (model P w) (A.deeper (envK qual scope s.heap.objs.size f cd cc)) (.func body (envK qual scope s.heap.objs.size f cd cc)) (execs body (envK qual scope s.heap.objs.size f cd cc)) (SP (cxK CX P w K mg base N qual scope f cd cc A outer s H E) [] { nx := fun _ H' => Q .non H', rt := Q }) (cxK CX P w K mg base N qual scope f cd cc A outer s H E).xe s1) :
    FnOk P w K mg base CX (k + 1) f (PySem.W.ksFn x qual params body scope .none kV doc pm an cd ct cc) ps sp := by
  refine ⟨len, fun A outer s H args us vs Q E hr e0 hb r hsp => ?_⟩
  have hl := len _ _ _ _ hsp
  have KX : K.In s.heap := e0.mod.kin.keeps fun b o e => (e0.bs b o e).1
  have lim : s.heap.NoLimit := e0.mod.nolimit.keeps fun b o e => (e0.bs b o e).1
  refine PySem.ks_codeAny_call_defAt (body := body) (binds := ps.zip us) hr.depth (KX _ _ lk) rfl lim (PySem.W.codeRec_of KX hcd) rfl hb S.cell (fun y hy => S.par _ (List.of_mem_zip (show (y.1, y.2) ∈ ps.zip us from hy)).1) (fun h₀ hns hk => ?_) S.co S.gen S.kind
  have I := inv_startK (CX := CX) (E := E) (qual := qual) (f := f) (cd := cd) (t := s.toks + (ps.zip us).length) S hr.hd e0 hl r hcell hns hk
  refine _root_.PySem.wpAt_mono (hbody A outer s _ H vs Q E (hr.deeper _) hsp I) (fun fl s' hs => ?_) fun e s' hs => hs
  have fin : ∀ {σ' : L2.St} {H' : Hp} {v : V} {u : Value}, Inv (cxK CX P w K mg base N qual scope f cd cc A outer s H E) [] σ' H' s' → RelV v u → Q v H' → CE outer P w H s Q u s' :=
    fun {σ' H' v u} J rv q => ⟨v, H', J.os, J.bare, J.base, J.hok, rv, q⟩
  cases fl with
  | ret u =>
    obtain ⟨v, σ', H', J, rv, q⟩ := hs
    exact fin J rv q
  | next =>
    obtain ⟨σ', H', J, q⟩ := hs
    exact fin (v := V.non) (u := Value.none) J rfl q
  | brk =>
    obtain ⟨_, _, _, q⟩ := hs
    exact False.elim q
  | cont =>
    obtain ⟨_, _, _, q⟩ := hs
    exact False.elim q
end
end Lq

namespace Lq
open PySem PySem.Spec PyProof.Rows L2
structure SupF (P : Program) (K : PySem.W.Frag) (mg : Str → Option Value) (f cda cc D C : Addr) (sc : Scope) (me : Str) : Prop where
  fn : ∃ oc od fd osl ar, K.lookup f = some ⟨oc, od, .func fd, osl⟩ ∧ (fd.params.posonlyargs ++ fd.params.args).head? = some ar ∧ ar.arg = me
  code : ∃ ccl cdd vs ccs file tf, K.lookup cda = some ⟨ccl, cdd, .fields vs, ccs⟩ ∧ vs[2]? = some (.str file tf) ∧ ((P.main.file : Str) == file) = true
  cell : ∃ cl cld csl, K.lookup cc = some ⟨cl, cld, .cell (some (.ref D)), csl⟩
  clD : ∃ cdD, PySem.W.clsIn K D = some cdD
  sub : PySem.W.mroIn K C (.ref D) = some true
  up : PySem.W.ks_superIn K C D "__init__" = some (some (.builtin "ValueError.__init__"))
  bas : PySem.W.subIn K (.ref C) (.type "ValueError") = some true
  any : PySem.W.nsIn K PySem.cStatics "thirdparty.any" = some none
  sup : mg "super" = none
  ksu : sc.names.lookup ("super" : Str) = some .globalImplicit
  kcl : sc.names.lookup ("__class__" : Str) = some .free
  ksl : sc.names.lookup me = some .local
  top : (P.main.scope.names.lookup ("super" : Str)).isSome = false
theorem cls_at {K : PySem.W.Frag} {h : Heap} {D : Addr} {cd : ClassData} (X : K.In h) (e : PySem.W.clsIn K D = some cd) : ∃ o, h.get? D = some o ∧ o.data = .cls cd := by
  unfold PySem.W.clsIn at e
  split at e
  · rename_i c d cd' sl ho
    cases e
    exact ⟨_, X _ _ ho, rfl⟩
  · cases e
section
variable {X : Cx} {pins : List (Addr × Obj)} {σ : L2.St} {H : Hp} {s : Shared} {a C : Addr}
theorem exo_inst (T : OexC X.K C) (I : Inv X pins σ H s) (e : H a = some (exo a C none)) : ∃ t1 : Addr, s.heap.get? a = some ({ cls := .ref C, dict := none, data := .fields #[.ref t1, .none, .none, .none, .bool false, .none] } : Obj) := exo_at I.hok e
theorem fresh_fs (I : Inv X pins σ H s) {b : Addr} (hb : s.heap.objs.size ≤ b) : b ≠ X.env.locals ∧ b ∉ X.fs := by
  obtain ⟨m, ⟨oL, es, ep, hL, _⟩, _⟩ := I.loc
  have l1 : X.env.locals < s.heap.objs.size := Heap.lt_size hL
  have l2 := I.ok.above
  refine ⟨fun z => ?_, fun z => ?_⟩
  · rw [z] at hb
    exact absurd l1 (Nat.not_lt.mpr hb)
  · obtain ⟨_, o, ho, _⟩ := I.ok.funs.mem z
    have l3 : b < X.s_0.heap.objs.size := Heap.lt_size ho
    exact absurd (Nat.lt_of_lt_of_le l3 (Nat.le_trans l2 (Nat.le_of_lt l1))) (Nat.not_lt.mpr hb)
end
theorem call_mw {prog : Program} {w : World} {A : Around} {E : Value → Shared → Prop} {h : Heap} {g : Array GenState} {d : Drawn} {t : Nat} {os : OsState} {nm q : Str} {C N u x t0 : Addr} {bs bm : List Value} {hdct : Bool} {sn : List Str} {sub : List Value} {ab : Bool} {col : Option Bool} {dd : Option Addr} {k0 k1 k2 k3 k5 : Option Value} {us : List Value} {Q : Value → Shared → Prop}
    (hC : h.get? C = some (excClassObj nm q C N bs bm hdct sn sub ab col dd k0 k1 k2 k3 k5 "ValueError.__new__")) (hx : h.get? x = some (PySem.HandSPX.excO C t0)) (hu : h.get? u = some (PySem.W.kxs_mw "ValueError.__init__" x)) (hz : us.length ≤ sizeLine)
    (hq : ∀ h' t1, (∀ b o, b ≠ x → h.get? b = some o → h'.get? b = some o) → h'.get? x = some (PySem.HandSPX.excO C t1) → Q .none ⟨h', g, d, t, os⟩) :
    wpAny (model prog w) A (call (.ref u) us) Q E ⟨h, g, d, t, os⟩ := by
  refine (wpAny_call (codeAny_of_tree (?_ : wpAny (model prog w) A.in1 (callAny (.ref u) ⟨us, []⟩) _ _ _)))
  simp only [callAny]
  refine wpAny_bind (wpAny_load hu (?_ : wpAny _ _ _ _ _ _))
  simp only [PySem.W.kxs_mw, show (Value.type "method-wrapper" == Value.type "method" || Value.type "method-wrapper" == Value.type "builtin_function_or_method" || Value.type "method-wrapper" == Value.type "method-wrapper") = true from by decide, if_true]
  refine PySem.W.KFB.if_so (by decide) (wpAny_bind (PySem.W.check_bound_init F.excBase_ValueError.toExcCallFacts hC hx rfl (wpAny_bind (wpAny_pure (wpAny_pure ?_)))))
  refine ⟨Code.quiet_builtin _ (by decide +kernel), codeAny_builtin (F.excBase_ValueError.initEntry) (?_ : wpAny _ _ _ _ _ _)⟩
  rw [Around.under_plainId (F.excBase_ValueError.init.plain) _]
  wp_walk
  refine hq _ h.objs.size (fun b o hb ho => (Heap.get?_update_other _ _ (Ne.symm hb)).trans (Heap.get?_push_of_some _ ho)) ((Heap.get?_update_self _ (Heap.get?_push_of_some _ hx) rfl).trans rfl)
section
variable {CX : CXT} {P : Program} {w : World} {K : PySem.W.Frag} {mg : Str → Option Value} {base : Heap} {N : List Str} {qual me : Str} {scope : Scope} {f cda cc D C a : Addr} {A : Around} {outer : List Env} {s0 s : Shared} {H0 H : Hp} {E : XK} {pins : List (Addr × Obj)} {σ : L2.St} {body : List Stmt} {e : Expr} {p0 p1 p2 p3 p4 : Pos} {ta : TA} {Rr : Hp → Prop} {pl : Sem Bool}
theorem super_run (S : SupF P K mg f cda cc D C scope me) (hk : scope.kind = .function) (T : OexC K C) (I : Inv (cxK CX P w K mg base N qual scope f (.ref cda) cc A outer s0 H0 E) pins σ H s) (hN : N[0]? = some me) (hσ : σ[0]? = some (some (.ref a))) (he : H a = some (exo a C none))
    (ha : PA (cxK CX P w K mg base N qual scope f (.ref cda) cc A outer s0 H0 E) [e] ta) (h : ta σ H fun vs H1 => vs.length ≤ 1000 ∧ H1 a = some (exo a C none) ∧ Rr H1)
    (hev : eval (.Call (.Attribute (.Call (.Name "super" p0) [] [] p1) "__init__" p2) [e] [] p3) (envK qual scope s0.heap.objs.size f (.ref cda) cc) = (do
      let ov ← attributeBase (.Call (.Name "super" p0) [] [] p1) "__init__" (envK qual scope s0.heap.objs.size f (.ref cda) cc) (eval (.Call (.Name "super" p0) [] [] p1) (envK qual scope s0.heap.objs.size f (.ref cda) cc))
      standAt p2.atName
      let (g1, first) ← holding [ov] (getMethod ov "__init__" pl)
      callWith p3 g1 first (backTo p3 (starEach [e] (envK qual scope s0.heap.objs.size f (.ref cda) cc))) []) := by rfl)
    (hi : interactive (envK qual scope s0.heap.objs.size f (.ref cda) cc) = false := by rfl) (hsw : swapsWith (.Call (.Attribute (.Call (.Name "super" p0) [] [] p1) "__init__" p2) [e] [] p3) none p4.line (envK qual scope s0.heap.objs.size f (.ref cda) cc) = pure false := by rfl) (hst : starEach [e] (envK qual scope s0.heap.objs.size f (.ref cda) cc) = (false, eval e (envK qual scope s0.heap.objs.size f (.ref cda) cc)) :: starEach [] (envK qual scope s0.heap.objs.size f (.ref cda) cc) := by rfl) :
    _root_.PySem.wpAt (model P w) (A.deeper (envK qual scope s0.heap.objs.size f (.ref cda) cc)) (.func body (envK qual scope s0.heap.objs.size f (.ref cda) cc)) (exec (.Expr (.Call (.Attribute (.Call (.Name "super" p0) [] [] p1) "__init__" p2) [e] [] p3) p4) (envK qual scope s0.heap.objs.size f (.ref cda) cc))
      (fun fl s' => fl = .next ∧ ∃ H1, Inv (cxK CX P w K mg base N qual scope f (.ref cda) cc A outer s0 H0 E) pins σ H1 s' ∧ Rr H1) (cxK CX P w K mg base N qual scope f (.ref cda) cc A outer s0 H0 E).xe s := by
  obtain ⟨oc, od, fd, osl, ar, lf, hp, har⟩ := S.fn
  obtain ⟨ccl, cdd, vs, ccs, file, tf, lc, hvs, hfile⟩ := S.code
  obtain ⟨cl, cld, csl, lcc⟩ := S.cell
  obtain ⟨cdD, hD⟩ := S.clD
  have KX : K.In s.heap := I.kIn
  obtain ⟨oD, hD1, hD2⟩ := cls_at KX hD
  obtain ⟨t1, hx⟩ := exo_inst T I he
  refine PySem.ks_wpAt_Expr_any (PySem.ks_wpAt_MethodCall (PySem.ks_wpAt_super_base S.ksu S.kcl (by decide) rfl (KX _ _ lf) rfl hp rfl (KX _ _ lc) rfl hvs hfile S.top ?_) hev) hi hsw
  obtain ⟨mb, hb1, hb2⟩ := I.mod.blt
  refine PySem.W.ks_loadName_global hk S.ksu (PySem.Calls.loadGlobal_builtin (I.mod.glob.keeps I.bk) S.sup (hb1.keeps I.bk) ((hb2 _ (by decide +kernel)).trans (by decide +kernel)) ⟨rfl, ?_⟩)
  refine wpAny_loadName_free hk S.kcl rfl ⟨_, KX _ _ lcc, rfl⟩ ?_
  obtain ⟨m, hm1, hm2⟩ := I.loc
  obtain ⟨u, hu1, hu2⟩ := hm2 0 me (.ref a) hN hσ (.inl S.ksl)
  cases hu1
  have hml : m me = some (.ref a) := by
    rcases hu2 with ⟨_, z⟩ | ⟨z, _⟩
    · exact z
    · have k1 : scope.names.lookup me = some .cell ∨ scope.names.lookup me = some .free := z
      rw [S.ksl] at k1
      rcases k1 with k1 | k1 <;> cases k1
  refine wpAny_loadName_local hk (by rw [har]; exact S.ksl) hm1 (by rw [har]; exact hml) ?_
  obtain ⟨hh, g, d, t, os⟩ := s
  refine PySem.ks_wpAny_isType_cls hD1 hD2 ⟨rfl, ?_⟩
  refine PySem.ks_wpAny_call_super hD1 hD2 hx rfl (fun c z => by cases z) (PySem.W.looks_mroIn KX S.sub) (fun h1 e1 k1 => ?_)
  have I1 := I.kept (h' := h1) (t' := t) k1
  obtain ⟨t2, hx1⟩ := exo_inst T I1 he
  have KX1 : K.In h1 := I1.kIn
  obtain ⟨cdC, hcC, hal⟩ : ∃ cdC, PySem.W.clsIn K C = some cdC ∧ PySem.W.alongIn K "__init__" ((cdC.mro.dropWhile (· != .ref D)).drop 1) = some (some (.builtin "ValueError.__init__")) := by
    have q := S.up
    unfold PySem.W.ks_superIn at q
    cases hc : PySem.W.clsIn K C with
    | none => rw [hc] at q; cases q
    | some cd => rw [hc] at q; exact ⟨cd, rfl, q⟩
  obtain ⟨oC, hC1, hC2⟩ := cls_at KX1 hcC
  have inst : PySem.W.InstAt h1 a _ C none := ⟨hx1, rfl, rfl, trivial⟩
  have aC : a ≠ C := fun z => by
    rw [z, hC1] at hx1
    cases hx1
    cases hC2
  refine PySem.W.kxs_getMethod PySem.W.kxs_ValueError e1 (PySem.W.looks_opaque KX1 S.any) (l₀ := cdC.mro) (fun A Q E s k q => wpAny_bind ((PySem.W.looks_clsIn KX1 hcC) A _ E s k (wpAny_pure q))) rfl KX1 hal (inst.type.andThen (PySem.W.looks_subIn KX1 S.bas)) aC (by decide) ?_
  have I2 := I1.kept (h' := h1.push (PySem.W.kxs_mw "ValueError.__init__" a)) (t' := t + 1) (fun b o z => Heap.get?_push_of_some _ z)
  have hu : (h1.push (PySem.W.kxs_mw "ValueError.__init__" a)).get? h1.objs.size = some (PySem.W.kxs_mw "ValueError.__init__" a) := Heap.get?_push_at rfl rfl
  have fr := fresh_fs I1 (Nat.le_refl h1.objs.size)
  have I3 := I2.pins_of (pins' := (h1.objs.size, PySem.W.kxs_mw "ValueError.__init__" a) :: pins) (fun p hp => by
    rcases List.mem_cons.mp hp with rfl | hp
    · exact ⟨hu, I1.hok.fresh (Nat.le_refl _), fr.1, fr.2, fun v z => by cases z⟩
    · exact I2.pin p (List.mem_append_right _ hp))
  refine PySem.W.kxs_callWith (i := "ValueError.__init__") (x := a) (by rw [hst]; rfl) ?_
  rw [hst]
  refine PySem.Calls.evalArgs_plain ?_
  suffices key : wpAny (model P w) (A.deeper (envK qual scope s0.heap.objs.size f (.ref cda) cc)) (spliced (backTo p3 (starEach [e] (envK qual scope s0.heap.objs.size f (.ref cda) cc)))) (fun vs s' => PySem.W.KxsAt "ValueError.__init__" h1.objs.size a s'.heap ∧ wpAny (model P w) (A.deeper (envK qual scope s0.heap.objs.size f (.ref cda) cc)) (call (.ref h1.objs.size) vs) (fun _ s' => Flow.next = Flow.next ∧ ∃ H1, Inv (cxK CX P w K mg base N qual scope f (.ref cda) cc A outer s0 H0 E) pins σ H1 s' ∧ Rr H1) (cxK CX P w K mg base N qual scope f (.ref cda) cc A outer s0 H0 E).xe s') (cxK CX P w K mg base N qual scope f (.ref cda) cc A outer s0 H0 E).xe ⟨h1.push (PySem.W.kxs_mw "ValueError.__init__" a), g, d, t + 1, os⟩ by
    rw [hst] at key
    exact key
  refine thn (ha.run p3 _ _ σ H _ I3 h) fun us s4 ⟨ws, H1, I4, rv, hz, he1, hr⟩ => ?_
  have hu4 := (I4.pin _ (List.mem_append_right _ List.mem_cons_self)).1
  refine ⟨hu4, ?_⟩
  obtain ⟨nm, qn, N', bs, bm, sn, sub, ab, col, dd, k0, k1', k2, k3, k5, hC, hbm⟩ := T.cls
  obtain ⟨t3, hx4⟩ := exo_inst T I4 he1
  obtain ⟨h4, g4, d4, t4, os4⟩ := s4
  refine call_mw (I4.kIn _ _ hC) hx4 hu4 (by rw [← rv.length]; exact Nat.le_trans hz (by decide)) (fun h5 t5 k5' hx5 => ⟨rfl, H1, ?_, hr⟩)
  have J := I4.write (t' := t4) (x := a) (e := a) (o := exo a C none) (by rw [he1]; trivial) (.inl rfl) k5' ⟨_, hx5⟩ (exo_ok hx5)
  have same : upd H1 a (exo a C none) = H1 := funext fun b => by
    by_cases hb : b = a
    · rw [hb, upd_same, he1]
    · exact upd_ne hb
  rw [same] at J
  exact J.pins_of fun p hp => J.pin p (List.mem_append_right _ (List.mem_cons_of_mem _ hp))
end
end Lq

namespace Lq
open PySem PySem.Spec PyProof.Rows L2
open Evl (Ex)
def spI1 (C : Addr) (fld : Str) : Sp := fun vs H Q _ => ∃ (a : Addr) (y : Str), vs = [.ref a, .str y] ∧ y.length ≤ 1000 ∧ H a = some (exo a C none) ∧ ∀ dx, H dx = none → dx ≠ a → Q .non (upd (upd H dx (exd dx [(fld, .str y)])) a (exo a C (some dx)))
def raiseS (e : Er) : Ms → O := fun S => .er e S
theorem ds_raise1 {X : Cx} {W : WX} {CX : CXT} {x m fld : Str} {j : Nat} {p p2 pos pos' : Pos} {C fI : Addr} {k : Nat} {fd : FuncData} (hc : X.calm = true) (tk : Takes X W) (T : OexC X.K C) (iC : PySem.W.findIn X.K (.ref C) "__init__" = some (some (.ref fI))) (tI : PySem.W.typeIn X.K (.ref fI) = some (.type "function"))
    (F1 : FnOk X.prog X.w X.K X.mg X.base CX k fI fd ["self", fld] (spI1 C fld)) (hr : Room (k + 1) X.A) (hb : Binds X.K fd ["self", fld] []) (hx : Passes CX X (fun _ _ _ => False)) (hg : Gl X x) (hm : X.mg x = some (.ref C)) (hl : m.length ≤ 1000) (hdb : (x == ("__debug__" : Str)) = false := by decide)
    (hst : starEach [Expr.Constant (.str m) j p2] X.env = (false, eval (.Constant (.str m) j p2) X.env) :: starEach [] X.env := by rfl) (hpl : (backTo pos (starEach [] X.env)).any (·.1) = false := by rfl) :
    PS X (.Raise (some (.Call (.Name x p) [.Constant (.str m) j p2] [] pos)) none pos') (sD X.K W (raiseS ⟨C, [fld], [.str m]⟩)) :=
  monoS (ps_raise hc tk (pmk_oex T iC tI F1 hr hb .nil hx hg hm (pa_cons pe_str pa_nil hst) hdb hst hpl)) fun D σ H q => by
    obtain ⟨B, F, as, S, r, o⟩ := q
    refine ⟨(show 1 ≤ 1000 by decide), fun a na => ⟨a, m, rfl, hl, upd_same, fun dx h1 h2 => ⟨rfl, dx, [(fld, .str m)], upd_same, (upd_ne h2).trans upd_same, ?_, ?_⟩⟩⟩
    · rwa [upd_ne h2] at h1
    · have h3 : H dx = none := by rwa [upd_ne h2] at h1
      have e : upd (del (upd (upd (upd H a (exo a C none)) dx (exd dx [(fld, .str m)])) a (exo a C (some dx))) a) dx (.xd [(fld, .str m)]) = upd H dx (.xd [(fld, .str m)]) := funext fun b => by
        by_cases hb : b = dx
        · rw [hb, upd_same, upd_same]
        · rw [upd_ne hb, upd_ne hb]
          by_cases ha : b = a
          · rw [ha, del_same, na]
          · rw [del_ne ha, upd_ne ha, upd_ne hb, upd_ne ha]
      rw [e]
      obtain ⟨ee, r2⟩ := r.new h3 (.xd [(fld, .str m)])
      exact o σ _ _ as (some dx) [(fld, .str m)] ee r2 upd_same rfl (.cons (.str m) .nil)
end Lq

namespace PySem.W
open PySem PySem.Spec PySem.Calls PyProof.Rows
section
variable {prog : Program} {w : World} {A : Around} {E : Value → Shared → Prop} {s : Shared} {K : Frag} {x D : Addr} {ox : Obj} {od : Option Obj}
end
end PySem.W
namespace Lq
open PySem PySem.Spec PyProof.Rows L2
section
variable {X : Cx} {a D dx : Addr} {oe : Obj} {pn : List (Addr × Obj)}
end
end Lq

namespace Lq
open PySem PySem.Spec PyProof.Rows L2
open Evl (Ex)
section
variable {X : Cx} {W : WX} {a b c e : Expr} {pos : Pos} {f g : Ms → R Dt}
theorem rd_inD {K : PySem.W.Frag} : RulD K (rInD K) (inD false) := fun F H v w d e z Q ex hv hw hz q => by
  cases e <;> simp only [inD] at hz <;> try cases hz
  split at hz
  · rename_i h
    simp only [Bool.and_eq_true, shp] at h
    cases hz
    have h2 := Dp.up ex h.2.1 hw
    rw [toPy] at h2
    have h3 := h.2.2
    rw [toPy] at h3
    exact ⟨_, _, Dp.up ex h.1.1 hv, h2, h.1.2, h3, q.1 _ (.bl _)⟩
  · cases hz
theorem de_inD (hu : X.A.units + 65 < cLine) (ha : PE X a (tD X.K W f)) (hb : PE X b (tD X.K W g)) (hm : behindInMarks .In b = false := by rfl) : PE X (.Compare a [.In] [b] pos) (tD X.K W (op2 f g (inD false))) :=
  de_cmp (op_inD hu) rd_inD ha hb hm
end
theorem inD_en {α : Type} [DecidableEq α] [En α] (h : En.dep α + 1 ≤ 64 := by decide) (neg : Bool) (a : α) (xs : List α) : inD neg (En.en a) (.lst (xs.map En.en)) = some (.bl (if neg then !decide (a ∈ xs) else decide (a ∈ xs))) := by
  have h1 : shp (En.en a) = true := shp_en (by omega) a
  have h2 : shp (.lst (xs.map En.en)) = true := shp_en (α := Ls α) h ⟨xs⟩
  have h3 : ((toPys (xs.map En.en)).any fun z => PyData.eqv z (toPy (En.en a))) = decide (a ∈ xs) := by
    clear h2
    induction xs with
    | nil => simp [toPys]
    | cons x xs ih =>
      rw [List.map_cons, toPys, List.any_cons, ih, En.eqv x a]
      by_cases e : x = a
      · simp [e]
      · have e2 : ¬ a = x := fun z => e z.symm
        simp [e, e2]
  unfold inD
  simp only [h1, h2, h3]
  rfl
end Lq

namespace Lq
open PySem PySem.Spec PyProof.Rows L2
open Classical in
noncomputable def mkF {α : Type} (args : α → List Dt) (pre : α → Prop) (res : α → Fo) (ds : List Dt) : Fo := if h : ∃ a, pre a ∧ ds = args a then res h.choose else .no
theorem mkF_inv {α : Type} {args : α → List Dt} {pre : α → Prop} {res : α → Fo} {ds : List Dt} (h : mkF args pre res ds ≠ .no) : ∃ a, pre a ∧ ds = args a ∧ mkF args pre res ds = res a := by
  unfold mkF at h ⊢
  split at h
  · rename_i hc
    refine ⟨hc.choose, hc.choose_spec.1, hc.choose_spec.2, ?_⟩
    rw [dif_pos hc]
  · exact absurd rfl h
theorem mkF_run {α : Type} {args : α → List Dt} {pre : α → Prop} {res : α → Fo} (inj : ∀ a b, args a = args b → a = b) (a : α) (ha : pre a) : mkF args pre res (args a) = res a := by
  have hc : ∃ b, pre b ∧ args a = args b := ⟨a, ha, rfl⟩
  unfold mkF
  rw [dif_pos hc, ← inj _ _ hc.choose_spec.2]
theorem Wd_inj {v w : List Int} (h : Wd v = Wd w) : v = w := by
  have := congrArg wordOf h
  rw [wordOf_Wd, wordOf_Wd] at this
  exact Option.some.inj this
end Lq

namespace Lq
open PySem PySem.Spec PyProof.Rows L2
open Evl (Ex)
section
variable {prog : Program} {w : World} {A : Around} {E : Value → Shared → Prop} {s : Shared}
end
section
variable {X : Cx}
end
end Lq

namespace Lq
open PySem PySem.Spec PyProof.Rows L2
open Evl (Ex)
section
variable {X : Cx} {W : WX} {a b c e o : Expr} {pos p : Pos} {f g : Ms → R Dt} {i : Nat}
instance : ∀ i j, Decidable (CPow i j) := fun i j => by unfold CPow; infer_instance
end
inductive FoN where | ok (ys : List Dt) | er (e : Er) | no
def spN (K : PySem.W.Frag) (n : Nat) (f : List Dt → FoN) : Sp := fun vs H Q E => ∃ B F ds, ds.length = n ∧ Ex F H ∧ Kept B F H ∧ RpA K F vs ds ∧ match f ds with
  | .ok ys => ∀ a F' H' us, Ex F F' → Ex F' H' → Kept B F' H' → B a = none → F' a = none → H' a = some (.lst us) → RpA K F' us ys → Q (.ref a) H'
  | .er e => ∀ F' H' dx fs, Ex F F' → Ex F' H' → Kept B F' H' → DictR H' dx fs → fs.map (·.1) = e.ks → RpA K F' (fs.map (·.2)) e.ds → E (.ref e.C) dx H'
  | .no => False
inductive ON where | rt (ys : List Dt) (s : Ms) | er (e : Er) (s : Ms) | no
def sN (K : PySem.W.Frag) (W : WX) (m : Ms → ON) : TS := fun D σ H => ∃ B F as S, Rep K B F H as σ S ∧ match m S with
  | .rt ys S' => ∀ σ' F' H' as' p us, Ext F F' as as' → Rep K B F' H' as' σ' S' → B p = none → F' p = none → H' p = some (.lst us) → RpA K F' us ys → D.rt (.ref p) H'
  | .er e S' => ∀ σ', OutE K W B F as σ' e S'
  | .no => False
def seqN (m : Ms → O) (n : Ms → ON) : Ms → ON := fun S => match m S with | .nx S1 => n S1 | .er e S1 => .er e S1 | _ => .no
def retNV (i : Nat) : Ms → ON := fun S => match muAt S i with | some (_, xs) => .rt xs S | none => .no
def retNL (f : Ms → R (List Dt)) : Ms → ON := fun S => match f S with | .ok ys S1 => .rt ys S1 | .er e S1 => .er e S1 | .no => .no
section
variable {X : Cx} {W : WX} {e o : Expr} {st : Stmt} {rest : List Stmt} {m : Ms → O} {n : Ms → ON} {f : Ms → R (List Dt)} {i : Nat} {pos : Pos}
theorem dsN_cons (h1 : PS X st (sD X.K W m)) (h2 : PSs X rest (sN X.K W n)) : PSs X (st :: rest) (sN X.K W (seqN m n)) := monoSs (pss_cons h1 h2) fun D σ H q => by
  obtain ⟨B, F, as, S, r, o⟩ := q
  refine ⟨B, F, as, S, r, ?_⟩
  unfold seqN at o
  revert o
  cases m S with
  | nx S1 =>
    intro o σ1 F1 H1 as1 e1 r1
    refine ⟨B, F1, as1, S1, r1, ?_⟩
    revert o
    show (match n S1 with | .rt _ _ => _ | .er _ _ => _ | .no => _) → _
    cases n S1 with
    | rt ys S2 => exact fun o σ' F' H' as' p us e' r' => o σ' F' H' as' p us (e1.trans e') r'
    | er x S2 => exact fun o σ' F' H' as' dx fs e' r' => o σ' F' H' as' dx fs (e1.trans e') r'
    | no => exact fun o => o
  | er x S1 => exact fun o => o
  | rt d S1 => exact fun o => o.elim
  | bk S1 => exact fun o => o.elim
  | ct S1 => exact fun o => o.elim
  | no => exact fun o => o.elim
theorem dsN_retL (h : PE X e (tN X.K W f)) : PSs X [.Return (some e) pos] (sN X.K W (retNL f)) := monoSs (pss_one (ps_ret h)) fun D σ H q => by
  obtain ⟨B, F, as, S, r, o⟩ := q
  refine ⟨B, F, as, S, r, ?_⟩
  unfold retNL at o
  revert o
  cases f S with
  | ok ys S1 => exact fun o F' H' as' e' r' p vs h1 h2 h3 h4 h5 => o σ F' H' as' p vs e' r' h2 h1 h4 h5
  | er x S1 => exact fun o => o σ
  | no => exact fun o => o
end
def ON.fo : ON → FoN | .rt ys _ => .ok ys | .er e _ => .er e | .no => .no
def runN (n : Nat) (m : Ms → ON) (ds : List Dt) : FoN := (m (st0 n ds)).fo
section
variable {P : Program} {w : World} {K : PySem.W.Frag} {mg : Str → Option Value} {base : Heap}
theorem defOkN {x qual : Str} {st : Stmt} {f : Addr} {fd : FuncData} {N ps : List Str} {k : Nat} {m : Ms → ON} (F : Fun K x qual st f fd) (S : FnScope N ps (defScope st))
    (hbody : ∀ (cdv : Value) (A : Around) (outer : List Env) (s : Shared) (H : Hp) (E : XK), Room k (A.deeper (envOfC qual (defScope st) s.heap.objs.size f cdv)) →
      PSs (cxOf (L2.CX P w) P w K mg base N qual (defScope st) f cdv A outer s H E) (defBody st) (sN K (fun cls d _ H' => E cls d H') m)) :
    FnOk P w K mg base (L2.CX P w) (k + 1) f fd ps (spN K ps.length (runN N.length m)) := by
  refine F.okX S (fun vs H Q E h => ?_) (fun cdv A outer s H vs Q E hr h => ⟨_, hbody cdv A outer s H E hr, ?_⟩)
  · obtain ⟨B, F, ds, hn, _, _, hv, _⟩ := h
    rw [hv.length, hn]
  · obtain ⟨B, F, ds, hn, e, kp, hv, q⟩ := h
    refine ⟨B, F, [], st0 N.length ds, ⟨e, kp, ?_, .nil, List.nodup_nil⟩, ?_⟩
    · unfold L2.start st0
      rw [hv.length]
      exact paired_im hv (paired_no _)
    · unfold runN at q
      revert q
      cases m (st0 N.length ds) with
      | rt ys S' => exact fun q σ' F' H' as' p us e' r h1 h2 h3 h4 => q p F' H' us e'.1 r.fh r.bh h1 h2 h3 h4
      | er e S' => exact fun q σ' F' H' as' dx fs e' r => q F' H' dx fs e'.1 r.fh r.bh
      | no => exact fun q => q
end
theorem FnOk.toN {P : Program} {w : World} {K : PySem.W.Frag} {mg : Str → Option Value} {base : Heap} {CX : CXT} {k : Nat} {f : Addr} {fd : FuncData} {ps : List Str} {n : Nat} {g h : List Dt → FoN} (F : FnOk P w K mg base CX k f fd ps (spN K n g)) (e : ∀ ds, h ds ≠ .no → g ds = h ds) :
    FnOk P w K mg base CX k f fd ps (spN K n h) := F.imp fun vs H Q E ⟨B, F, ds, hn, h1, h2, h3, h4⟩ => ⟨B, F, ds, hn, h1, h2, h3, by
      have : h ds ≠ .no := by intro z; rw [z] at h4; exact h4
      rw [e ds this]
      exact h4⟩
def funN (n : Nat) (fs : Ms → R (List Dt)) (f : List Dt → FoN) : Ms → R (List Dt) := fun S => (fs S).bind fun ds S1 => if ds.length = n then (match f ds with | .ok ys => .ok ys S1 | .er e => .er e S1 | .no => .no) else .no
section
variable {X : Cx} {W : WX} {e : Expr} {es : List Expr} {fs : Ms → R (List Dt)} {x : Str} {p pos : Pos} {j k n : Nat} {ps : List Str} {g : List Dt → FoN}
theorem callN_run {K : PySem.W.Frag} {σ : L2.St} {H : Hp} {Q : VK} (q : tN K W (funN n fs g) σ H Q) : tCallS (spN K n g) (WE W) (tA K W fs) σ H Q := by
  obtain ⟨B, F, as, S, r, o⟩ := q
  refine ⟨B, F, as, S, r, Out.mono (Out.bind o) fun ds F1 H1 as1 S1 ⟨r1, e1, o1⟩ vs hv => ?_⟩
  split at o1
  · rename_i hn
    refine ⟨holdB B F1 H1 as1, F1, ds, hn, r1.fh, hold_kept r1, hv, ?_⟩
    cases hg : g ds with
    | ok ys =>
      rw [hg] at o1
      intro a F' H' us ee eh kp hB hF hH hu
      refine o1 F' H' as1 ⟨ee, [], by simp⟩ (hold_back r1 ee eh kp) a us hF ?_ ?_ hH hu
      · unfold holdB at hB
        split at hB
        · rename_i hin
          obtain ⟨i, hi⟩ := List.mem_iff_getElem?.mp hin
          obtain ⟨mm, hmm, z⟩ := pairedGetL r1.mo hi
          cases mm with
          | ob c => exact z.1
          | fz d =>
            obtain ⟨⟨u, z1⟩, _⟩ := z
            rw [ee _ _ z1] at hF
            cases hF
        · exact hB
      · intro hin
        unfold holdB at hB
        rw [if_pos hin] at hB
        obtain ⟨i, hi⟩ := List.mem_iff_getElem?.mp hin
        obtain ⟨mm, hmm, z⟩ := pairedGetL r1.mo hi
        cases mm with
        | ob c =>
          obtain ⟨_, z2, u, z3, _⟩ := z
          rw [if_pos z2, z3] at hB
          cases hB
        | fz d =>
          obtain ⟨⟨u, z1⟩, _⟩ := z
          rw [ee _ _ z1] at hF
          cases hF
    | er x =>
      rw [hg] at o1
      exact fun F' H' dx fs ee eh kp h1 h2 h3 => o1 F' H' as1 dx fs ⟨ee, [], by simp⟩ (hold_back r1 ee eh kp) h1 h2 h3
    | no => rw [hg] at o1; exact o1.elim
  · exact o1.elim
theorem dn_cal (c : Cal X.prog X.w X.K X.mg X.base x k ps (spN X.K n g)) (tk : Takes X W) (hr : Room j X.A) (hk : k ≤ j) (hg : Gl X x)
    (ha : PA X (e :: es) (tA X.K W fs)) (hdb : (x == ("__debug__" : Str)) = false := by decide) (he : starEach (e :: es) X.env = (false, eval e X.env) :: starEach es X.env := by rfl) (hpl : (backTo pos (starEach es X.env)).any (·.1) = false := by rfl) :
    PE X (.Call (.Name x p) (e :: es) [] pos) (tN X.K W (funN n fs g)) := by
  obtain ⟨f, fd, G, hm, kp, hb⟩ := c
  exact monoE (pe_callS G (hr.mono hk) hg hm kp hb (fun σ => passAt tk σ) ha hdb he hpl) fun σ H Q q => callN_run q
end
def spLaw (K : PySem.W.Frag) : Sp := fun vs H Q _ => ∃ (a : Addr) (ns : List Int), vs = [.ref a] ∧ SqL K H a (ns.map V.int) ∧ ns.length ≤ 63 ∧ ∀ H', Q (.bl true) H'
def scrD (ns : List Int) : Dt := .scr false (ns.map Dt.int)
theorem sql_one {K : PySem.W.Frag} {H : Hp} {a : Addr} {xs : List V} (h : SqL K H a xs) : SqL K (fun b => if b = a then H a else none) a xs := by
  rcases h with h | h
  · refine .inl ?_
    unfold Rd at *
    simp only [if_pos rfl]
    exact h
  · exact .inr h
section
variable {P : Program} {w : World} {K : PySem.W.Frag} {mg : Str → Option Value} {base : Heap}
theorem lawOk {st : Stmt} {f : Addr} {fd : FuncData} {N : List Str} {k : Nat} {m : Ms → O} (F : Fun K "law" "law" st f fd) (S : FnScope N ["script"] (defScope st))
    (hrun : ∀ ns : List Int, ns.length ≤ 63 → ∃ S', m (st0 N.length [scrD ns]) = .rt (.bl true) S')
    (hbody : ∀ (cdv : Value) (A : Around) (outer : List Env) (s : Shared) (H : Hp) (E : XK), Room k (A.deeper (envOfC "law" (defScope st) s.heap.objs.size f cdv)) →
      PSs (cxOf (L2.CX P w) P w K mg base N "law" (defScope st) f cdv A outer s H E) (defBody st) (sD K (fun cls d _ H' => E cls d H') m)) :
    FnOk P w K mg base (L2.CX P w) (k + 1) f fd ["script"] (spLaw K) := by
  refine F.okX S (fun vs H Q E h => ?_) (fun cdv A outer s H vs Q E hr h => ⟨_, hbody cdv A outer s H E hr, ?_⟩)
  · obtain ⟨a, ns, rfl, _⟩ := h
    rfl
  · obtain ⟨a, ns, rfl, hS, hlen, q⟩ := h
    obtain ⟨S', e⟩ := hrun ns hlen
    have hv : RpA K (fun b => if b = a then H a else none) [V.ref a] [scrD ns] := .cons (.scr false (sql_one hS) (RpA.ints ns)) .nil
    refine ⟨fun _ => none, fun b => if b = a then H a else none, [], st0 N.length [scrD ns], ⟨fun b o z => ?_, fun b o z => (nomatch z), ?_, .nil, List.nodup_nil⟩, ?_⟩
    · by_cases hb : b = a
      · rw [if_pos hb] at z
        rw [hb]; exact z
      · rw [if_neg hb] at z
        cases z
    · unfold L2.start st0
      exact paired_im hv (paired_no _)
    · rw [e]
      intro σ' F' H2 as' v e' r hv
      have hv' := hv.blv
      subst hv'
      exact q _
end
end Lq

namespace Lq
open PySem PySem.Spec PyProof.Rows L2
open Evl (Ex)
theorem shp_str {a : Str} (h : PyData.strOk a = true) : shp (.str a) = true := by
  unfold shp SeqAt.shaped
  simp [plain, toPy, PyData.canLay0, PyData.depth, h]
theorem eqO_str {a b : Str} (ha : PyData.strOk a = true) (hb : PyData.strOk b = true) : eqO (.str a) (.str b) = some (.bl (decide (a = b))) := by
  unfold eqO
  rw [shp_str ha, shp_str hb]
  simp only [toPy, PyData.eqv, Bool.and_self, if_true]
  rw [bdec]
theorem neO_str {a b : Str} (ha : PyData.strOk a = true) (hb : PyData.strOk b = true) : neO (.str a) (.str b) = some (.bl (!decide (a = b))) := by
  unfold neO
  rw [shp_str ha, shp_str hb]
  simp only [toPy, PyData.eqv, Bool.and_self, if_true]
  rw [bdec]
section
variable {X : Cx} {W : WX} {a b c e o tg : Expr} {pos p apos : Pos} {f g : Ms → R Dt} {i : Nat} {x : Str}
def strO : List Dt → Option Dt | [.int i] => if i.natAbs < 1000000 then some (.str (toString i)) else none | _ => none
theorem de_strc (hg : Gl X "str") (hm : X.mg "str" = none) (ha : PE X a (tD X.K W f)) (hs : starEach [a] X.env = (false, eval a X.env) :: starEach [] X.env := by rfl) : PE X (.Call (.Name "str" p) [a] [] pos) (tD X.K W (calE (aCons f aNil) strO)) :=
  de_calT (fun F H vs ds z Q ex hv hz q => by
    unfold strO at hz
    split at hz <;> try cases hz
    split at hz <;> cases hz
    rename_i i hi
    obtain ⟨v, rfl, h1⟩ := rpa1 hv
    cases h1
    refine ⟨i, rfl, ?_, q.1 _ (.str _)⟩
    have h2 : i.natAbs.log2 ≤ i.natAbs := by
      by_cases h0 : i.natAbs = 0
      · rw [h0]; decide
      · exact Nat.le_of_lt (Nat.lt_of_lt_of_le Nat.lt_two_pow_self (Nat.log2_self_le h0))
    by_cases h0 : i.natAbs = 0
    · rw [h0]; decide
    · exact Nat.lt_of_lt_of_le ((Nat.log2_lt h0).mpr (Nat.lt_of_lt_of_le hi (by decide : 1000000 ≤ 2 ^ 20))) (by decide)) call_str_int hg hm (by decide +kernel) (da_cons ha da_nil hs) (by decide) (by decide) hs (by rfl)
def catS : Dt → Dt → Option Dt | .str x, .str y => if x.length + y.length ≤ 100000 then some (.str (x ++ y)) else none | _, _ => none
theorem de_catS (ha : PE X a (tD X.K W f)) (hb : PE X b (tD X.K W g)) : PE X (.BinOp a .Add b pos) (tD X.K W (op2 f g catS)) := de_op op_add_str (fun F H v w d e z Q ex hv hw hz q => by
  cases d <;> cases e <;> simp only [catS] at hz <;> try cases hz
  split at hz <;> cases hz
  rename_i hl
  cases hv
  cases hw
  exact ⟨_, _, rfl, rfl, Nat.le_trans hl (by decide), q.1 _ (.str _)⟩) ha hb
def findO : Dt → Dt → Option Dt | .str x, .str y => some (.int (Txt.find x y)) | _, _ => none
def findE (f g : Ms → R Dt) : Ms → R Dt := fun S => (f S).bind fun d S1 => match d with | .str x => (g S1).bind fun e S2 => R.of (findO (.str x) e) S2 | _ => .no
theorem de_find (ho : PE X o (tD X.K W f)) (he : PE X e (tD X.K W g)) (hs : starEach [e] X.env = [(false, eval e X.env)] := by rfl) (hbase : attributeBase o "find" X.env (eval o X.env) = eval o X.env := by rfl) (hline : (apos.endLine == pos.line) = true := by rfl) :
    PE X (.Call (.Attribute o "find" apos) [e] [] pos) (tD X.K W (findE f g)) :=
  monoE (pe_m1 F.slot_str_find F.type_str_find mt_find ho he hs hbase hline) fun σ H Q q => by
    obtain ⟨B, F, as, S, r, o⟩ := q
    unfold findE at o
    refine ⟨B, F, as, S, r, Out.mono (Out.bind o) fun d F1 H1 as1 S1 ⟨r1, e1, o1⟩ v hv => ?_⟩
    cases d with
    | str x =>
      cases hv
      refine ⟨⟨x, rfl⟩, B, F1, as1, S1, r1, Out.mono (Out.bind o1) fun d2 F2 H2 as2 S2 ⟨r2, e2, o2⟩ v2 hv2 => ?_⟩
      cases d2 with
      | str y =>
        cases hv2
        exact ⟨x, y, rfl, rfl, Out.now o2 r2 _ (.int _)⟩
      | _ => exact o2.elim
    | _ => exact o1.elim
def strsOf : List Dt → Option (List Str) | [] => some [] | .str x :: ds => (strsOf ds).map (x :: ·) | _ => none
theorem strsOf_map : ∀ ys : List Str, strsOf (ys.map Dt.str) = some ys
  | [] => rfl
  | y :: ys => by rw [List.map_cons, strsOf, strsOf_map ys]; rfl
theorem strsOf_eq : ∀ {ds : List Dt} {ys : List Str}, strsOf ds = some ys → ds = ys.map Dt.str
  | [], ys, h => by cases h; rfl
  | d :: ds, ys, h => by
    cases d <;> simp only [strsOf] at h <;> try cases h
    cases q : strsOf ds with
    | none => rw [q] at h; cases h
    | some zs => rw [q] at h; cases h; rw [strsOf_eq q]; rfl
theorem RpA.strsv {K : PySem.W.Frag} {F : Hp} : ∀ {vs : List V} {ys : List Str}, RpA K F vs (ys.map Dt.str) → vs = ys.map V.str
  | _, [], .nil => rfl
  | _, y :: ys, .cons h t => by cases h; rw [RpA.strsv t]; rfl
def joinO : Dt → Dt → Option Dt | .str x, .lst ds => (strsOf ds).bind fun ys => if (ys.map (·.length)).sum + ys.length * x.length ≤ 1000000 then some (.str (Txt.join x ys)) else none | _, _ => none
theorem de_join (ho : PE X o (tC (.str x))) (he : PE X e (tD X.K W g)) (hs : starEach [e] X.env = [(false, eval e X.env)] := by rfl) (hbase : attributeBase o "join" X.env (eval o X.env) = eval o X.env := by rfl) (hline : (apos.endLine == pos.line) = true := by rfl) :
    PE X (.Call (.Attribute o "join" apos) [e] [] pos) (tD X.K W (op1 g (joinO (.str x)))) :=
  monoE (pe_join ho he hs hbase hline) fun σ H Q q => by
    obtain ⟨B, F, as, S, r, o⟩ := q
    refine ⟨⟨x, rfl⟩, B, F, as, S, r, Out.mono (Out.bind o) fun d F1 H1 as1 S1 ⟨r1, e1, o1⟩ v hv => ?_⟩
    cases d with
    | lst ds =>
      cases hv with
      | lst hs ha =>
        unfold joinO at o1
        dsimp only at o1
        cases hy : strsOf ds with
        | none => rw [hy] at o1; exact o1.elim
        | some ys =>
          rw [hy] at o1
          dsimp only [Option.bind] at o1
          split at o1
          · rename_i hl
            have e2 := strsOf_eq hy
            subst e2
            rw [ha.strsv] at hs
            exact ⟨x, _, ys, rfl, rfl, .inl (Evl.ex_l r1.fh (Evl.sq_of hs)), Nat.le_trans hl (by decide), Out.now o1 r1 _ (.str _)⟩
          · exact o1.elim
    | _ => exact o1.elim
def signs (x : Str) : List Dt := x.cps.toList.map fun c => Dt.str ⟨#[c]⟩
def itC (f : Ms → R Dt) : Ms → R (List Dt) := fun S => (f S).bind fun d S1 => match d with | .str x => .ok (signs x) S1 | _ => .no
theorem walksC {K : PySem.W.Frag} {F : Hp} (x : Str) : Walks K F (Its x) (signs x) := by
  have hl : (signs x).length = x.cps.size := by simp [signs]
  refine ⟨fun i H hi e => by rw [hl] at hi; exact hi, fun H e => by rw [hl]; exact Nat.le_refl _, fun i H v H' F1 hi e e2 y => ?_⟩
  obtain ⟨rfl, c, hc, rfl⟩ := y
  refine ⟨.str ⟨#[c]⟩, ?_, .inl ⟨rfl, .str _⟩⟩
  unfold signs
  rw [List.getElem?_map, Array.getElem?_toList, hc]
  rfl
theorem di_str (h : PE X e (tD X.K W f)) : PI X tg e (tI X.K W (itC f)) := monoI1 (pi_str h) fun σ H R q => by
  obtain ⟨B, F, as, S, r, o⟩ := q
  refine ⟨B, F, as, S, r, Out.mono (Out.bind o) fun d F1 H1 as1 S1 ⟨r1, e1, o1⟩ v hv => ?_⟩
  cases d with
  | str x =>
    cases hv
    exact ⟨x, rfl, Out.now o1 r1 _ (walksC x)⟩
  | _ => exact o1.elim
theorem de_gstr {t : Tok} (hg : Gl X x) {y : Str} (hm : X.mg x = some (.str y t)) (hdb : (x == ("__debug__" : Str)) = false := by decide) : PE X (.Name x pos) (tD X.K W (cE (.str y))) := de_c (pe_glob (v := .str y) hg hm ⟨t, rfl⟩ hdb) fun _ => .str y
end
def spI1i (C : Addr) (fld : Str) : Sp := fun vs H Q _ => ∃ (a : Addr) (y : Int), vs = [.ref a, .int y] ∧ y = 0 ∧ H a = some (exo a C none) ∧ ∀ dx, H dx = none → dx ≠ a → Q .non (upd (upd H dx (exd dx [(fld, .int y)])) a (exo a C (some dx)))
structure RaI (P : Program) (w : World) (K : PySem.W.Frag) (mg : Str → Option Value) (base : Heap) (x : Str) (C : Addr) (fld : Str) : Prop where
  T : OexC K C
  ini : ∃ fI fd, PySem.W.findIn K (.ref C) "__init__" = some (some (.ref fI)) ∧ PySem.W.typeIn K (.ref fI) = some (.type "function") ∧ FnOk P w K mg base CX0 1 fI fd ["self", fld] (spI1i C fld) ∧ Binds K fd ["self", fld] []
  gC : mg x = some (.ref C)
  xc : XfC K C
  nf : PySem.W.findIn K (.ref C) fld = some none
  e1 : PySem.W.exmOne K (.ref C) (.ref C) = some true
structure RaS (P : Program) (w : World) (K : PySem.W.Frag) (mg : Str → Option Value) (base : Heap) (x : Str) (C : Addr) (fld : Str) : Prop where
  T : OexC K C
  ini : ∃ fI fd, PySem.W.findIn K (.ref C) "__init__" = some (some (.ref fI)) ∧ PySem.W.typeIn K (.ref fI) = some (.type "function") ∧ FnOk P w K mg base CX0 1 fI fd ["self", fld] (spI1 C fld) ∧ Binds K fd ["self", fld] []
  gC : mg x = some (.ref C)
  xc : XfC K C
  nf : PySem.W.findIn K (.ref C) fld = some none
  e1 : PySem.W.exmOne K (.ref C) (.ref C) = some true
section
variable {X : Cx} {W : WX} {x fld : Str} {C : Addr} {i : Int} {j : Nat} {p p2 pos pos' : Pos}
theorem ds_raiseI (T : RaI X.prog X.w X.K X.mg X.base x C fld) (hc : X.calm = true) (tk : Takes X W) (hr : Room 2 X.A) (hg : Gl X x) (hl : i = 0) (hdb : (x == ("__debug__" : Str)) = false := by decide)
    (hst : starEach [Expr.Constant (.int i) j p2] X.env = (false, eval (.Constant (.int i) j p2) X.env) :: starEach [] X.env := by rfl) (hpl : (backTo pos (starEach [] X.env)).any (·.1) = false := by rfl) :
    PS X (.Raise (some (.Call (.Name x p) [.Constant (.int i) j p2] [] pos)) none pos') (sD X.K W (raiseS ⟨C, [fld], [.int i]⟩)) := by
  obtain ⟨fI, fd, iC, tI, F1, hb⟩ := T.ini
  exact monoS (ps_raise hc tk (pmk_oex T.T iC tI F1 hr hb .nil pass0 hg T.gC (pa_cons pe_int pa_nil hst) hdb hst hpl)) fun D σ H q => by
    obtain ⟨B, F, as, S, r, o⟩ := q
    refine ⟨(show 1 ≤ 1000 by decide), fun a na => ⟨a, i, rfl, hl, upd_same, fun dx h1 h2 => ⟨rfl, dx, [(fld, .int i)], upd_same, (upd_ne h2).trans upd_same, ?_, ?_⟩⟩⟩
    · rwa [upd_ne h2] at h1
    · have h3 : H dx = none := by rwa [upd_ne h2] at h1
      have e : upd (del (upd (upd (upd H a (exo a C none)) dx (exd dx [(fld, .int i)])) a (exo a C (some dx))) a) dx (.xd [(fld, .int i)]) = upd H dx (.xd [(fld, .int i)]) := funext fun b => by
        by_cases hb : b = dx
        · rw [hb, upd_same, upd_same]
        · rw [upd_ne hb, upd_ne hb]
          by_cases ha : b = a
          · rw [ha, del_same, na]
          · rw [del_ne ha, upd_ne ha, upd_ne hb, upd_ne ha]
      rw [e]
      obtain ⟨ee, r2⟩ := r.new h3 (.xd [(fld, .int i)])
      exact o σ _ _ as (some dx) [(fld, .int i)] ee r2 upd_same rfl (.cons (.int i) .nil)
end
section
variable {X : Cx} {W : WX} {x n fld : Str} {C : Addr} {i : Nat} {m : Ms → O} {body : List Stmt} {np pos pos' p1 p2 p3 : Pos}
end
end Lq

namespace Lq
open PySem PySem.Spec PyProof.Rows L2
open Evl (Ex)
end Lq

namespace Lq
open PySem PySem.Spec PyProof.Rows L2
open Evl (Ex)
end Lq

namespace Lq
open PySem PySem.Spec PyProof.Rows L2
open Evl (Ex)
end Lq

namespace Lq
open PySem PySem.Spec PyProof.Rows L2
open Evl (Ex)
def enumD (xs : List Dt) : List Dt := xs.zipIdx.map fun x => Dt.tup [.int (x.2 : Int), x.1]
def itEn (f : Ms → R (List Dt)) : Ms → R (List Dt) := fun S => (f S).bind fun ds S1 => match ds with | [.tup xs] => .ok (enumD xs) S1 | _ => .no
section
variable {X : Cx} {W : WX} {a b c e o tg : Expr} {pos p tpos apos : Pos} {f g : Ms → R Dt} {fs : Ms → R (List Dt)} {i : Nat} {x : Str}
def anyO : List Dt → Option Dt | [.lst xs] => (blsOf xs).map fun bs => .bl (bs.any id) | _ => none
@[simp] theorem anyO_run (bs : List Bool) : anyO [.lst (bs.map Dt.bl)] = some (.bl (bs.any id)) := by unfold anyO; dsimp only; rw [blsOf_map]; rfl
end
section
variable {X : Cx} {W : WX} {a : Expr} {pos p : Pos} {f : Ms → R Dt}
def sumT : List Dt → Option Dt | [.tup xs] => (intsOf xs).map fun ns => .int ns.sum | _ => none
@[simp] theorem sumT_run (ns : List Int) : sumT [.tup (ns.map Dt.int)] = some (.int ns.sum) := by unfold sumT; dsimp only; rw [intsOf_map]; rfl
end
end Lq

namespace Lq
open PySem PySem.Spec PyProof.Rows L2
open Evl (Ex)
structure RaN (P : Program) (w : World) (K : PySem.W.Frag) (mg : Str → Option Value) (base : Heap) (x : Str) (C : Addr) : Prop where
  gC : mg x = some (.ref C)
  kC : PySem.W.keepIn K (.ref C) = true
  xC : PySem.W.excIn K C [.type "ValueError", .type "Exception", .type "BaseException", .type "object"] "ValueError.__new__" = true
  eC : PySem.W.subIn K (.ref C) (.type "BaseException") = some true
  tC : PySem.W.typeIn K (.ref C) = some (.type "type")
  e1 : PySem.W.exmOne K (.ref C) (.ref C) = some true
section
variable {X : Cx} {W : WX} {x y fld : Str} {C : Addr} {j : Nat} {p p2 pos pos' : Pos} {m : Str}
theorem ds_raiseN (T : RaN X.prog X.w X.K X.mg X.base x C) (hc : X.calm = true) (tk : Takes X W) (hr : Room 2 X.A) (hg : Gl X x) (hdb : (x == ("__debug__" : Str)) = false := by decide) :
    PS X (.Raise (some (.Call (.Name x p) [.Constant (.str m) j p2] [] pos)) none pos') (sD X.K W (raiseS ⟨C, [], []⟩)) :=
  monoS (ps_raise hc tk (pmk_own PySem.F.excBase_ValueError T.xC T.gC T.kC (raises_own T.eC T.tC) hg hdb)) fun D σ H q => by
    obtain ⟨B, F, as, S, r, o⟩ := q
    exact o σ F H as none [] Ext.refl r rfl rfl .nil
theorem ds_raiseS (T : RaS X.prog X.w X.K X.mg X.base x C fld) (hc : X.calm = true) (tk : Takes X W) (hr : Room 2 X.A) (hg : Gl X x) (hl : m.length ≤ 1000) (hdb : (x == ("__debug__" : Str)) = false := by decide)
    (hst : starEach [Expr.Constant (.str m) j p2] X.env = (false, eval (.Constant (.str m) j p2) X.env) :: starEach [] X.env := by rfl) (hpl : (backTo pos (starEach [] X.env)).any (·.1) = false := by rfl) :
    PS X (.Raise (some (.Call (.Name x p) [.Constant (.str m) j p2] [] pos)) none pos') (sD X.K W (raiseS ⟨C, [fld], [.str m]⟩)) := by
  obtain ⟨fI, fd, iC, tI, F1, hb⟩ := T.ini
  exact ds_raise1 hc tk T.T iC tI F1 hr hb pass0 hg T.gC hl hdb hst hpl
end
section
variable {X : Cx} {W : WX} {x x2 n fld y : Str} {C C2 : Addr} {i j : Nat} {m : Ms → O} {body : List Stmt} {np np2 pos pos' pos2 p1 p2 p3 q1 q2 : Pos}
end
end Lq

namespace Lq
open PySem PySem.Spec PyProof.Rows L2
open Evl (Ex)
def fldO (C : Addr) (f : Str) : Dt → Option Dt | .obj C' ks ds => if C' = C then (ks.zip ds).lookup f else none | _ => none
theorem fld_look {K : PySem.W.Frag} {F : Hp} {f : Str} : ∀ {fs : List (Str × V)} {ds : List Dt} {d : Dt}, RpA K F (fs.map (·.2)) ds → ((fs.map (·.1)).zip ds).lookup f = some d → ∃ v, fs.lookup f = some v ∧ Rp K F v d
  | [], _, d, _, h => by simp at h
  | (k, v) :: fs, d0 :: ds, d, .cons h1 t, h => by
    rw [List.map_cons, List.zip_cons_cons] at h
    simp only [List.lookup_cons] at h ⊢
    cases q : f == k with
    | true =>
      simp only [q] at h ⊢
      cases h
      exact ⟨v, rfl, h1⟩
    | false =>
      simp only [q] at h ⊢
      exact fld_look t h
def fldE (C : Addr) (f : Str) (m : Ms → R Dt) : Ms → R Dt := op1 m (fldO C f)
section
variable {X : Cx} {W : WX} {e o : Expr} {es : List Expr} {m : Ms → R Dt} {fs : Ms → R (List Dt)} {x f : Str} {C : Addr} {p pos apos : Pos} {j k n i : Nat} {ps : List Str} {g : List Dt → Fo}
theorem de_fld (c : Cls X.K C) (na : NoAttr X.K C f) (he : PE X e (tD X.K W m)) (hb : attributeBase e f X.env (eval e X.env) = eval e X.env := by rfl) : PE X (.Attribute e f pos) (tD X.K W (fldE C f m)) :=
  monoE (pe_fld he hb) fun σ H Q q => by
    obtain ⟨B, F, as, S, r, o⟩ := q
    refine ⟨B, F, as, S, r, Out.mono (Out.bind (show Out X.K W B F as σ ((m S).bind fun d S1 => R.of (fldO C f d) S1) _ from o)) fun d F1 H1 as1 S1 ⟨r1, e1, o1⟩ v hv => ?_⟩
    cases d with
    | obj C' ks ds =>
      unfold fldO at o1
      dsimp only at o1
      by_cases hC : C' = C
      · subst hC
        rw [if_pos rfl] at o1
        cases hk : (ks.zip ds).lookup f with
        | none => rw [hk] at o1; exact o1.elim
        | some d =>
          rw [hk] at o1
          cases hv with
          | obj hs hks ha =>
            subst hks
            obtain ⟨v, hv1, hv2⟩ := fld_look ha hk
            exact ⟨_, _, _, _, v, rfl, r1.fh _ _ hs, c, na, hv1, Out.now o1 r1 _ hv2⟩
      · rw [if_neg hC] at o1
        exact o1.elim
    | _ => exact o1.elim
def CalM (P : Program) (w : World) (K : PySem.W.Frag) (mg : Str → Option Value) (base : Heap) (C : Addr) (x : Str) (k : Nat) (ps : List Str) (sp : Sp) : Prop :=
  ∃ f fd, FnOk P w K mg base (L2.CX P w) k f fd ps sp ∧ Cls K C ∧ Meth K C x f ∧ Binds K fd ps []
def metE (C : Addr) (x : Str) (n : Nat) (m : Ms → R Dt) (fs : Ms → R (List Dt)) (g : List Dt → Fo) : Ms → R Dt := fun S => (m S).bind fun d S1 => match d with
  | .obj C' ks xs => if C' = C ∧ x ∉ ks then (fs S1).bind fun ds S2 => if ds.length + 1 = n then (match g (.obj C' ks xs :: ds) with | .ok d => .ok d S2 | .er e => .er e S2 | .no => .no) else .no else .no
  | _ => .no
theorem no_look {x : Str} : ∀ {fs : List (Str × V)}, x ∉ fs.map (·.1) → fs.lookup x = none
  | [], _ => rfl
  | (k, v) :: fs, h => by
    rw [List.map_cons, List.mem_cons, not_or] at h
    rw [List.lookup_cons]
    have : (x == k) = false := by simpa using h.1
    rw [this]
    exact no_look h.2
theorem met_run {K : PySem.W.Frag} {dvs : List V} (hd : dvs = []) {σ : L2.St} {H : Hp} {Q : VK} (q : tD K W (metE C x n m fs g) σ H Q) : tMeth C x (spD K n g) dvs (WE W σ) (tD K W m) (tA K W fs) σ H Q := by
  subst hd
  obtain ⟨B, F, as, S, r, o⟩ := q
  refine ⟨B, F, as, S, r, Out.mono (Out.bind o) fun d F1 H1 as1 S1 ⟨r1, e1, o1⟩ v hv => ?_⟩
  cases d with
  | obj C' ks xs =>
    dsimp only at o1
    split at o1
    · rename_i hc
      obtain ⟨hC, hx⟩ := hc
      subst hC
      cases hv with
      | obj hs hks ha =>
        subst hks
        refine ⟨_, _, _, rfl, r1.fh _ _ hs, no_look hx, B, F1, as1, S1, r1, Out.mono (Out.bind o1) fun ds F2 H2 as2 S2 ⟨r2, e2, o2⟩ vs hvs => ?_⟩
        split at o2
        · rename_i hn
          refine ⟨holdB B F2 H2 as2, F2, _ :: ds, hn, r2.fh, hold_kept r2, .cons (.obj (e2.1 _ _ hs) rfl (ha.up e2.1)) (by rw [List.append_nil]; exact hvs), ?_⟩
          cases hg : g (.obj C' _ xs :: ds) with
          | ok d =>
            rw [hg] at o2
            exact fun v F' H' ee eh kp hv' => o2 F' H' as2 ⟨ee, [], by simp⟩ (hold_back r2 ee eh kp) v hv'
          | er x =>
            rw [hg] at o2
            exact fun F' H' dx fs ee eh kp h1 h2 h3 => o2 F' H' as2 dx fs ⟨ee, [], by simp⟩ (hold_back r2 ee eh kp) h1 h2 h3
          | no => rw [hg] at o2; exact o2.elim
        · exact o2.elim
    · exact o1.elim
  | _ => exact o1.elim
theorem pe_methZ {CX : CXT} {k : Nat} {f C : Addr} {fd : FuncData} {ps : List Str} {sp : Sp} {E : L2.St → XK} {m : Str} {pos apos : Pos} {o : Expr} {ta : TE} {pl : Sem Bool} (he : PE X o ta) (c : Cls X.K C) (hm : Meth X.K C m f) (F : FnOk X.prog X.w X.K X.mg X.base CX k f fd ps sp) (hr : Room k X.A) (hb : Binds X.K fd ps []) (hx : ∀ σ, PassesAt CX X σ (E σ))
    (ht : eval ((o.Attribute m apos).Call [] [] pos) X.env = (do
      let ov ← eval o X.env
      standAt apos.atName
      let (f, first) ← holding [ov] (getMethod ov m pl)
      callWith pos f first (backTo pos (starEach [] X.env)) (backToKw pos (keywordEach [] X.env))) := by rfl) :
    PE X (.Call (.Attribute o m apos) [] [] pos) (fun σ H Q => tMeth C m sp [] (E σ) ta tNil σ H Q) :=
  ⟨fun pins s σ H Q I h => W.methodCall_KW (thn (he.run pins s σ H (fun x H1 => ∃ a dx fs, x = V.ref a ∧ H1 a = some (HO.ins C dx fs) ∧ List.lookup m fs = none ∧ tNil σ H1 fun vs H2 => sp (x :: (vs ++ [])) H2 Q (E σ)) I h) fun u s1 x => by
    obtain ⟨x1, H1, I1, rx, a, dx, fs, rfl, ea, l, q⟩ := x
    have hu : u = .ref a := rx
    subst hu
    exact getmeth_ok I1 ea c hm l (W.callWith_K0 (Inv.kIn I1) hm.kp (run_fnS F hr hb (hx σ) I1 (Paired.cons (show L2.RelV (V.ref a) (Value.ref a) from rfl) Paired.nil) q))) ht⟩
theorem pe_methY {CX : CXT} {k : Nat} {f C : Addr} {fd : FuncData} {ps : List Str} {sp : Sp} {E : L2.St → XK} {m : Str} {pos apos : Pos} {e o : Expr} {es : List Expr} {ta : TE} {t : TA} {pl : Sem Bool} (he : PE X o ta) (c : Cls X.K C) (hm : Meth X.K C m f) (F : FnOk X.prog X.w X.K X.mg X.base CX k f fd ps sp) (hr : Room k X.A) (hb : Binds X.K fd ps []) (hx : ∀ σ, PassesAt CX X σ (E σ)) (ha : PA X (e :: es) t)
    (hst : starEach (e :: es) X.env = (false, eval e X.env) :: starEach es X.env := by rfl) (hpl : (backTo pos (starEach es X.env)).any (·.1) = false := by rfl)
    (ht : eval ((o.Attribute m apos).Call (e :: es) [] pos) X.env = (do
      let ov ← eval o X.env
      standAt apos.atName
      let (f, first) ← holding [ov] (getMethod ov m pl)
      callWith pos f first (backTo pos (starEach (e :: es) X.env)) (backToKw pos (keywordEach [] X.env))) := by rfl) :
    PE X (.Call (.Attribute o m apos) (e :: es) [] pos) (fun σ H Q => tMeth C m sp [] (E σ) ta t σ H Q) :=
  ⟨fun pins s σ H Q I h => W.methodCall_KW (thn (he.run pins s σ H (fun x H1 => ∃ a dx fs, x = V.ref a ∧ H1 a = some (HO.ins C dx fs) ∧ List.lookup m fs = none ∧ t σ H1 fun vs H2 => sp (x :: (vs ++ [])) H2 Q (E σ)) I h) fun u s1 x => by
    obtain ⟨x1, H1, I1, rx, a, dx, fs, rfl, ea, l, q⟩ := x
    have hu : u = .ref a := rx
    subst hu
    refine getmeth_ok I1 ea c hm l (W.callWith_K I.ok.mod.kin hm.kp (thn (ha.run pos pins s1 σ H1 (fun vs H2 => sp (V.ref a :: (vs ++ [])) H2 Q (E σ)) I1 q) fun us s2 x => ?_) hst hpl)
    obtain ⟨vs, H2, I2, r, q2⟩ := x
    rw [List.append_nil] at q2
    exact ⟨Inv.kIn I2, run_fnS F hr hb (hx σ) I2 (Paired.cons (show L2.RelV (V.ref a) (Value.ref a) from rfl) r) q2⟩) ht⟩
theorem de_met0 {pl : Sem Bool} (c : CalM X.prog X.w X.K X.mg X.base C x k ps (spD X.K n g)) (tk : Takes X W) (hr : Room j X.A) (hk : k ≤ j) (ho : PE X o (tD X.K W m))
    (heq : eval ((o.Attribute x apos).Call [] [] pos) X.env = (do
      let ov ← eval o X.env
      standAt apos.atName
      let (f, first) ← holding [ov] (getMethod ov x pl)
      callWith pos f first (backTo pos (starEach [] X.env)) (backToKw pos (keywordEach [] X.env))) := by rfl) :
    PE X (.Call (.Attribute o x apos) [] [] pos) (tD X.K W (metE C x n m aNil g)) := by
  obtain ⟨f, fd, F, cl, mt, hb⟩ := c
  exact monoE (pe_methZ (E := fun σ => WE W σ) ho cl mt F (hr.mono hk) hb (fun σ => passAt tk σ) heq) fun σ H Q q => by
    obtain ⟨B, F, as, S, r, o⟩ := met_run rfl q
    exact ⟨B, F, as, S, r, Out.mono o fun d F1 H1 as1 S1 h v hv => by
      obtain ⟨a, dx, fs, h1, h2, h3, B2, F2, as2, S2, r2, o2⟩ := h v hv
      exact ⟨a, dx, fs, h1, h2, h3, o2 F2 H1 as2 Ext.refl r2 [] .nil⟩⟩
theorem de_met {pl : Sem Bool} (c : CalM X.prog X.w X.K X.mg X.base C x k ps (spD X.K n g)) (tk : Takes X W) (hr : Room j X.A) (hk : k ≤ j) (ho : PE X o (tD X.K W m)) (ha : PA X (e :: es) (tA X.K W fs))
    (he : starEach (e :: es) X.env = (false, eval e X.env) :: starEach es X.env := by rfl) (hpl : (backTo pos (starEach es X.env)).any (·.1) = false := by rfl)
    (heq : eval ((o.Attribute x apos).Call (e :: es) [] pos) X.env = (do
      let ov ← eval o X.env
      standAt apos.atName
      let (f, first) ← holding [ov] (getMethod ov x pl)
      callWith pos f first (backTo pos (starEach (e :: es) X.env)) (backToKw pos (keywordEach [] X.env))) := by rfl) :
    PE X (.Call (.Attribute o x apos) (e :: es) [] pos) (tD X.K W (metE C x n m fs g)) := by
  obtain ⟨f, fd, F, cl, mt, hb⟩ := c
  exact monoE (pe_methY (E := fun σ => WE W σ) ho cl mt F (hr.mono hk) hb (fun σ => passAt tk σ) ha he hpl heq) fun σ H Q q => met_run rfl q
end
end Lq

namespace Lq
open PySem PySem.Spec PyProof.Rows L2
open Evl (Ex)
theorem run_makeS {X : Cx} {CX : CXT} {k : Nat} {f C : Addr} {fd : FuncData} {ps : List Str} {sp : Sp} {E : XK} {pins : List (Addr × Obj)} {σ : L2.St} {H : Hp} {s : Shared} {Q : VK} {us : List Value} {vs : List V}
    (M : Mk X.K C f) (F : FnOk X.prog X.w X.K X.mg X.base CX k f fd ps sp) (hr : Room (k + 1) X.A) (hb : L2.Binds X.K fd ps []) (hx : PassesAt CX X σ E) (I : L2.Inv X pins σ H s) (r : Vals vs us)
    (h : ∀ (x dx : Addr), H x = none → H dx = none → dx ≠ x → sp (V.ref x :: vs) (upd (upd H dx (HO.own x)) x (HO.ins C dx [])) (fun v H2 => v = V.non ∧ Q (V.ref x) H2) E) :
    wpAny (model X.prog X.w) X.A (call (Value.ref C) us) (EP X pins σ Q) X.xe s := by
  have hq := h (s.heap.objs.size + 1) s.heap.objs.size (HOk.fresh I.hok (Nat.le_succ s.heap.objs.size)) (HOk.fresh I.hok (Nat.le_refl s.heap.objs.size)) (Nat.ne_of_lt (Nat.lt_succ_self s.heap.objs.size))
  have I2 := Inv.made (C := C) I
  have r2 : Vals (V.ref (s.heap.objs.size + 1) :: vs) (Value.ref (s.heap.objs.size + 1) :: us) := Paired.cons (show L2.RelV (V.ref (s.heap.objs.size + 1)) (Value.ref (s.heap.objs.size + 1)) from rfl) r
  have hl : ((Value.ref (s.heap.objs.size + 1) :: us) ++ ([] : List Value)).length = ps.length := by
    have e := Vals.length r2
    rw [F.len _ _ _ _ hq] at e
    rw [List.append_nil]
    exact e.symm
  have hb2 := hb { heap := (s.heap.push W.emptyDict).push (W.instObj C s.heap.objs.size), gens := s.gens, drawn := s.drawn, toks := s.toks, os := s.os } (Value.ref (s.heap.objs.size + 1) :: us) (Inv.kIn I2) hl
  rw [List.append_nil] at hb2
  refine wpAny_call (make_map (Inv.kIn I) M.makes M.init (beq_iff_eq.mp M.fn) (codeAny_mono (F.run (X.A.under (Code.builtin "type.__call__" { pos := Value.ref C :: us })) X.stack { heap := (s.heap.push W.emptyDict).push (W.instObj C s.heap.objs.size), gens := s.gens, drawn := s.drawn, toks := s.toks, os := s.os } (upd (upd H s.heap.objs.size (HO.own (s.heap.objs.size + 1))) (s.heap.objs.size + 1) (HO.ins C s.heap.objs.size [])) { pos := Value.ref (s.heap.objs.size + 1) :: us } (Value.ref (s.heap.objs.size + 1) :: us) (V.ref (s.heap.objs.size + 1) :: vs) (fun v H2 => v = V.non ∧ Q (V.ref (s.heap.objs.size + 1)) H2) E (Room.make hr C us []) (Env0.make (Inv.env0 I2) C us []) hb2 r2 hq) fun r s' hq' => ?_))
  cases r with
  | error e => exact hx pins _ _ e s' I2 hq'
  | ok fl =>
    cases fl with
    | ret u =>
      obtain ⟨v, H', I3, rv, ev, q3⟩ := Inv.after I2 hq'
      subst ev
      exact ⟨rv, V.ref (s.heap.objs.size + 1), H', I3, rfl, q3⟩
    | _ => exact hq'.elim
theorem pe_makeZ {X : Cx} {CX : CXT} {k : Nat} {f C : Addr} {fd : FuncData} {ps : List Str} {sp : Sp} {E : L2.St → XK} {x : Str} {p pos : Pos} {e : Expr} {es : List Expr} {t : TA} (M : Mk X.K C f) (F : FnOk X.prog X.w X.K X.mg X.base CX k f fd ps sp) (hr : Room (k + 1) X.A) (hg : Gl X x) (hm : X.mg x = some (.ref C)) (hb : L2.Binds X.K fd ps []) (hx : ∀ σ, PassesAt CX X σ (E σ)) (ha : PA X (e :: es) t)
    (hdb : (x == ("__debug__" : Str)) = false := by decide) (he : starEach (e :: es) X.env = (false, eval e X.env) :: starEach es X.env := by rfl) (hpl : (backTo pos (starEach es X.env)).any (·.1) = false := by rfl) :
    PE X (.Call (.Name x p) (e :: es) [] pos) (fun σ H Q => t σ H fun vs H1 => ∀ x dx, H1 x = none → H1 dx = none → dx ≠ x → sp (.ref x :: vs) (upd (upd H1 dx (.own x)) x (.ins C dx [])) (fun v H2 => v = .non ∧ Q (.ref x) H2) (E σ)) :=
  ⟨fun pins s σ H Q I h => wpAny_Call_Name_kw (ld_glob I hg hm (W.callWith_K I.ok.mod.kin M.kp (thn (ha.run pos pins s σ H (fun vs H1 => ∀ (x dx : Addr), H1 x = none → H1 dx = none → dx ≠ x → sp (V.ref x :: vs) (upd (upd H1 dx (HO.own x)) x (HO.ins C dx [])) (fun v H2 => v = V.non ∧ Q (V.ref x) H2) (E σ)) I h) fun us s1 x => by
    obtain ⟨vs, H1, I1, r, q⟩ := x
    exact ⟨Inv.kIn I1, run_makeS M F hr hb (hx σ) I1 r q⟩) he hpl) hdb)⟩
end Lq

namespace Lq
open PySem PySem.Spec PyProof.Rows L2
open Evl (Ex)
def ioAt (S : Ms) (i : Nat) : Option (Nat × Addr × List Str × List Dt) := match S.sl[i]? with | some (.mu k) => (match S.mo[k]? with | some (.ob (.io C ks ds)) => some (k, C, ks, ds) | _ => none) | _ => none
theorem ioAt_rp {K : PySem.W.Frag} {B F H : Hp} {as : List Addr} {σ : L2.St} {S : Ms} (r : Rep K B F H as σ S) {i k : Nat} {C : Addr} {ks : List Str} {ds : List Dt} (h : ioAt S i = some (k, C, ks, ds)) :
    ∃ p dx fs, σ[i]? = some (some (.ref p)) ∧ S.mo[k]? = some (.ob (.io C ks ds)) ∧ as[k]? = some p ∧ B p = none ∧ F p = none ∧ H p = some (.ins C dx fs) ∧ fs.map (·.1) = ks ∧ RpA K F (fs.map (·.2)) ds := by
  unfold ioAt at h
  cases hs : S.sl[i]? with
  | none => rw [hs] at h; cases h
  | some s =>
    rw [hs] at h
    cases s with
    | mu k' =>
      dsimp only at h
      cases hm : S.mo[k']? with
      | none => rw [hm] at h; cases h
      | some mm =>
        rw [hm] at h
        cases mm with
        | ob c =>
          cases c with
          | io C ks ds =>
            cases h
            obtain ⟨ov, hv, z⟩ := pairedGet r.sl hs
            cases ov with
            | none => exact z.elim
            | some v =>
              obtain ⟨p, hp, rfl⟩ := z
              obtain ⟨p', hp', q1, q2, ob, q3, q4⟩ := pairedGet r.mo hm
              rw [hp] at hp'
              cases hp'
              cases q4 with
              | io h1 h2 => exact ⟨p, _, _, hv, hm, hp, q1, q2, q3, h1, h2⟩
          | _ => cases h
        | fz d => cases h
    | _ => cases h
theorem putF_new {f : Str} {v : V} : ∀ {fs : List (Str × V)}, f ∉ fs.map (·.1) → putF f v fs = fs ++ [(f, v)]
  | [], _ => rfl
  | (k, x) :: r, h => by
    rw [List.map_cons, List.mem_cons, not_or] at h
    have e := putF_new (v := v) h.2
    simp only [putF]
    rw [e]
    have h1 : ¬ f = k := h.1
    have h2 : ¬ k = f := fun z => h1 z.symm
    simp [h1, h2]
theorem RpA.snoc1 {K : PySem.W.Frag} {F : Hp} {v : V} {d : Dt} (h : Rp K F v d) : ∀ {vs : List V} {ds : List Dt}, RpA K F vs ds → RpA K F (vs ++ [v]) (ds ++ [d])
  | _, _, .nil => .cons h .nil
  | _, _, .cons h1 t => .cons h1 (RpA.snoc1 h t)
def fldS (C : Addr) (f : Str) (i : Nat) (m : Ms → R Dt) : Ms → O := fun S => (m S).stmt fun d S1 => match ioAt S1 i with
  | some (k, C', ks, ds) => if C' = C ∧ f ∉ ks ∧ ks.length < 100 then .nx { S1 with mo := S1.mo.set k (.ob (.io C (ks ++ [f]) (ds ++ [d]))) } else .no
  | none => .no
theorem ds_fldS {X : Cx} {W : WX} {o value : Expr} {f : Str} {C : Addr} {i : Nat} {m : Ms → R Dt} {pos pos' : Pos} (c : Cls X.K C) (na : NoAttr X.K C f) (ho : PE X o (tVar i)) (hv : PE X value (tD X.K W m)) (hs : swapsWith value (some (o.Attribute f pos')) pos.line X.env = pure false := by rfl) :
    PS X (.Assign [.Attribute o f pos'] value pos) (sD X.K W (fldS C f i m)) := monoS (ps_fld ho hv hs) fun D σ H q => by
  obtain ⟨B, F, as, S, r, o⟩ := q
  refine ⟨B, F, as, S, r, Out.mono (OutS.stmt o) fun d F1 H1 as1 S1 ⟨r1, e1, o1⟩ v hv => ?_⟩
  cases hi : ioAt S1 i with
  | none => rw [hi] at o1; exact o1.elim
  | some z =>
    obtain ⟨k, C', ks, ds⟩ := z
    rw [hi] at o1
    dsimp only at o1
    split at o1
    · rename_i hc
      obtain ⟨hC, hn, hl⟩ := hc
      subst hC
      obtain ⟨p, dx, fs, h1, h2, h3, h4, h5, h6, h7, h8⟩ := ioAt_rp r1 hi
      subst h7
      refine ⟨_, h1, p, _, dx, fs, rfl, h6, c, na, by rw [List.length_map] at hl; omega, ?_⟩
      rw [putF_new hn]
      refine o1 σ F1 _ as1 Ext.refl (r1.put h2 h3 (.io ?_ ?_))
      · simp
      · rw [List.map_append]
        exact RpA.snoc1 hv h8
    · exact o1.elim
def mo0I (S : Ms) : Option (Addr × List Str × List Dt) := match S.mo[(0 : Nat)]? with | some (Mo.ob (Ob.io C ks ds)) => some (C, ks, ds) | _ => none
def stI (C : Addr) (n : Nat) (ds : List Dt) : Ms := { sl := .mu 0 :: (ds.map Sv.im ++ List.replicate (n - 1 - ds.length) .no), mo := [.ob (.io C [] [])] }
def O.foI : O → Fo
  | .nx S => match mo0I S with | some (C, ks, ds) => .ok (.obj C ks ds) | none => .no
  | .er e _ => .er e
  | _ => .no
def runI (C : Addr) (n : Nat) (m : Ms → O) (ds : List Dt) : Fo := (m (stI C n ds)).foI
def spI (K : PySem.W.Frag) (C : Addr) (n : Nat) (f : List Dt → Fo) : Sp := fun vs H Q E => ∃ B F a dx vs' ds, vs = .ref a :: vs' ∧ ds.length = n ∧ Ex F H ∧ Kept B F H ∧ B a = none ∧ F a = none ∧ H a = some (.ins C dx []) ∧ RpA K F vs' ds ∧ match f ds with
  | .ok (.obj C' ks xs) => C' = C ∧ ∀ F' H' dx' fs, Ex F F' → Ex F' H' → Kept B F' H' → F' a = none → H' a = some (.ins C dx' fs) → fs.map (·.1) = ks → RpA K F' (fs.map (·.2)) xs → Q .non H'
  | .er e => ∀ F' H' dx fs, Ex F F' → Ex F' H' → Kept B F' H' → DictR H' dx fs → fs.map (·.1) = e.ks → RpA K F' (fs.map (·.2)) e.ds → E (.ref e.C) dx H'
  | _ => False
section
variable {P : Program} {w : World} {K : PySem.W.Frag} {mg : Str → Option Value} {base : Heap}
theorem defOkI {x qual : Str} {st : Stmt} {f : Addr} {fd : FuncData} {N ps : List Str} {p0 : Str} {k : Nat} {m : Ms → O} {C : Addr} (F : Fun K x qual st f fd) (S : FnScope N (p0 :: ps) (defScope st))
    (hbody : ∀ (cdv : Value) (A : Around) (outer : List Env) (s : Shared) (H : Hp) (E : XK), Room k (A.deeper (envOfC qual (defScope st) s.heap.objs.size f cdv)) →
      PSs (cxOf (L2.CX P w) P w K mg base N qual (defScope st) f cdv A outer s H E) (defBody st) (sD K (fun cls d _ H' => E cls d H') m)) :
    FnOk P w K mg base (L2.CX P w) (k + 1) f fd (p0 :: ps) (spI K C ps.length (runI C N.length m)) := by
  refine F.okX S (fun vs H Q E h => ?_) (fun cdv A outer s H vs Q E hr h => ⟨_, hbody cdv A outer s H E hr, ?_⟩)
  · obtain ⟨B, F, a, dx, vs', ds, rfl, hn, _, _, _, _, _, hv, _⟩ := h
    rw [List.length_cons, List.length_cons, hv.length, hn]
  · obtain ⟨B, F, a, dx, vs', ds, rfl, hn, e, kp, b0, f0, ha, hv, q⟩ := h
    refine ⟨B, F, [a], stI C N.length ds, ⟨e, kp, ?_, .cons ⟨b0, f0, _, ha, .io rfl .nil⟩ .nil, by simp⟩, ?_⟩
    · have hl : ps.length + 1 ≤ N.length := by
        have := congrArg List.length S.pre
        rw [List.length_take, List.length_cons] at this
        omega
      unfold L2.start stI
      rw [List.map_cons, List.length_cons, hv.length]
      have e2 : N.length - (ds.length + 1) = N.length - 1 - ds.length := by omega
      rw [e2]
      exact .cons ⟨a, rfl, rfl⟩ (paired_im hv (paired_no _))
    · unfold runI at q
      revert q
      cases hm : m (stI C N.length ds) with
      | nx S' =>
        intro q σ' F' H' as' e' r
        unfold O.foI at q
        dsimp only at q
        obtain ⟨e1, t, rfl⟩ := e'
        cases h0 : mo0I S' with
        | none => rw [h0] at q; exact q.elim
        | some z =>
          obtain ⟨C', ks, xs⟩ := z
          rw [h0] at q
          obtain ⟨hCC, q⟩ := q
          subst hCC
          unfold mo0I at h0
          cases h1 : S'.mo[0]? with
          | none => rw [h1] at h0; cases h0
          | some mm =>
            rw [h1] at h0
            cases mm with
            | fz d => cases h0
            | ob c =>
              cases c with
              | io C2 ks2 ds2 =>
                cases h0
                obtain ⟨p, hp, q1, q2, ob, q3, q4⟩ := pairedGet r.mo h1
                cases hp
                cases q4 with
                | io g1 g2 => exact q F' H' _ _ e1 r.fh r.bh q2 q3 g1 g2
              | _ => cases h0
      | er e S' => exact fun q σ' F' H' as' dx fs e' r => q F' H' dx fs e'.1 r.fh r.bh
      | rt d S' => exact fun q => q.elim
      | bk S' => exact fun q => q.elim
      | ct S' => exact fun q => q.elim
      | no => exact fun q => q.elim
end

theorem Rep.knowX {K : PySem.W.Frag} {B F H : Hp} {as : List Addr} {σ : L2.St} {S : Ms} (r : Rep K B F H as σ S) {p : Addr} {o : HO} (h : H p = some o) (hf : F p = none) (hb : B p = none) (ha : p ∉ as) : Ext F (upd F p o) as as ∧ Rep K B (upd F p o) H as σ S := by
  have e : Ex F (upd F p o) := Ex.new hf
  have ee : Ext F (upd F p o) as as := ⟨e, [], by simp⟩
  refine ⟨ee, fun a u hu => ?_, fun a u hu => ?_, r.sl.mono fun _ _ q => SvR.up q ee, ?_, r.nd⟩
  · by_cases q : a = p
    · subst q
      rw [upd_same] at hu
      rw [h]; exact hu
    · rw [upd_ne q] at hu
      exact r.fh _ _ hu
  · obtain ⟨q1, q2, q3⟩ := r.bh a u hu
    have n : a ≠ p := by
      rintro rfl
      rw [hb] at hu; cases hu
    rw [upd_ne n]
    exact ⟨q1, q2, q3⟩
  · have : ∀ {l : List Addr} {ms : List Mo}, (∀ a ∈ l, a ≠ p) → Paired (MoR K B F H) l ms → Paired (MoR K B (upd F p o) H) l ms := by
      intro l ms hl hp
      induction hp with
      | nil => exact .nil
      | cons h1 t ih =>
        rename_i a m l ms
        refine .cons ?_ (ih fun b hb => hl b (List.mem_cons_of_mem _ hb))
        have n := hl a List.mem_cons_self
        cases m with
        | ob c =>
          obtain ⟨q1, q2, o2, q3, q4⟩ := h1
          exact ⟨q1, by rw [upd_ne n]; exact q2, o2, q3, q4.up e⟩
        | fz d =>
          obtain ⟨⟨u, q1⟩, q2⟩ := h1
          exact ⟨⟨u, e _ _ q1⟩, q2.up e⟩
    exact this (fun a hal => by rintro rfl; exact ha hal) r.mo
def CalI (P : Program) (w : World) (K : PySem.W.Frag) (mg : Str → Option Value) (base : Heap) (x : Str) (C : Addr) (k : Nat) (ps : List Str) (n : Nat) (g : List Dt → Fo) : Prop :=
  ∃ f fd, FnOk P w K mg base (L2.CX P w) k f fd ps (spI K C n g) ∧ Mk K C f ∧ mg x = some (.ref C) ∧ Binds K fd ps []
def makE (C : Addr) (n : Nat) (fs : Ms → R (List Dt)) (f : List Dt → Fo) : Ms → R Dt := fun S => (fs S).bind fun ds S1 => if ds.length = n then (match f ds with | .ok (.obj C' ks xs) => if C' = C then .ok (.obj C ks xs) S1 else .no | .er e => .er e S1 | _ => .no) else .no
theorem de_make {X : Cx} {W : WX} {e : Expr} {es : List Expr} {fs : Ms → R (List Dt)} {x : Str} {p pos : Pos} {j k n : Nat} {ps : List Str} {g : List Dt → Fo} {C : Addr} (c : CalI X.prog X.w X.K X.mg X.base x C k ps n g) (tk : Takes X W) (hr : Room j X.A) (hk : k + 1 ≤ j) (hg : Gl X x)
    (ha : PA X (e :: es) (tA X.K W fs)) (hdb : (x == ("__debug__" : Str)) = false := by decide) (he : starEach (e :: es) X.env = (false, eval e X.env) :: starEach es X.env := by rfl) (hpl : (backTo pos (starEach es X.env)).any (·.1) = false := by rfl) :
    PE X (.Call (.Name x p) (e :: es) [] pos) (tD X.K W (makE C n fs g)) := by
  obtain ⟨f, fd, F, M, hm, hb⟩ := c
  exact monoE (pe_makeZ (E := fun σ => WE W σ) M F (hr.mono hk) hg hm hb (fun σ => passAt tk σ) ha hdb he hpl) fun σ H Q q => by
    obtain ⟨B, F, as, S, r, o⟩ := q
    refine ⟨B, F, as, S, r, Out.mono (Out.bind o) fun ds F1 H1 as1 S1 ⟨r1, e1, o1⟩ vs hv a dx hx hdx hne => ?_⟩
    split at o1
    · rename_i hn
      have hF : F1 a = none := by
        cases q : F1 a with
        | none => rfl
        | some u => rw [r1.fh _ _ q] at hx; cases hx
      have hFd : F1 dx = none := by
        cases q : F1 dx with
        | none => rfl
        | some u => rw [r1.fh _ _ q] at hdx; cases hdx
      have hB0 : ∀ b u, holdB B F1 H1 as1 b = some u → H1 b = some u := fun b u hu => (hold_kept r1 b u hu).1
      have hBa : holdB B F1 H1 as1 a = none := by
        cases q : holdB B F1 H1 as1 a with
        | none => rfl
        | some u => rw [hB0 a u q] at hx; cases hx
      have hup : ∀ b u, H1 b = some u → upd (upd H1 dx (.own a)) a (.ins C dx []) b = some u := fun b u hu => by
        have n1 : b ≠ a := by rintro rfl; rw [hx] at hu; cases hu
        have n2 : b ≠ dx := by rintro rfl; rw [hdx] at hu; cases hu
        rw [upd_ne n1, upd_ne n2]
        exact hu
      have hBo : B a = none := by
        cases q : B a with
        | none => rfl
        | some u => rw [(r1.bh a u q).1] at hx; cases hx
      have has : a ∉ as1 := fun hin => by
        obtain ⟨i, hi⟩ := List.mem_iff_getElem?.mp hin
        obtain ⟨mm, hmm, z⟩ := pairedGetL r1.mo hi
        cases mm with
        | ob c =>
          obtain ⟨_, _, u, z3, _⟩ := z
          rw [z3] at hx; cases hx
        | fz d =>
          obtain ⟨⟨u, z1⟩, _⟩ := z
          rw [hF] at z1; cases z1
      refine ⟨holdB B F1 H1 as1, F1, a, dx, vs, ds, rfl, hn, fun b u hu => hup b u (r1.fh _ _ hu), fun b u hu => ?_, hBa, hF, upd_same, hv, ?_⟩
      · obtain ⟨z1, z2, z3⟩ := hold_kept r1 b u hu
        exact ⟨hup b u z1, z2, z3⟩
      · revert o1
        cases hgd : g ds with
        | er y => exact fun o1 F' H' dx' fs' ee eh kp h1 h2 h3 => o1 F' H' as1 dx' fs' ⟨ee, [], by simp⟩ (hold_back r1 ee eh kp) h1 h2 h3
        | no => exact fun o1 => o1.elim
        | ok d =>
          cases d with
          | obj C' ks xs =>
            intro o1
            dsimp only at o1 ⊢
            by_cases hC : C' = C
            · subst hC
              rw [if_pos rfl] at o1
              refine ⟨rfl, fun F' H' dx' fs' ee eh kp f0 h1 h2 h3 => ⟨rfl, ?_⟩⟩
              have r2 := hold_back r1 ee eh kp
              obtain ⟨e3, r3⟩ := r2.knowX h1 f0 hBo has
              exact o1 _ H' as1 (Ext.trans (show Ext F1 F' as1 as1 from ⟨ee, [], by simp⟩) e3) r3 _ (.obj upd_same h2 (h3.up e3.1))
            · rw [if_neg hC] at o1
              exact o1.elim
          | _ => exact fun o1 => o1.elim
    · exact o1.elim
end Lq

namespace Lq
open PySem PySem.Spec PyProof.Rows L2
open Evl (Ex)
theorem special_lst_item {prog : Program} {w : World} {A : Around} {E : Value → Shared → Prop} {s : Shared} {it l : Addr} {i : Nat} {items : Array Value} {x : Value} {Q : Option Value → Shared → Prop}
    (hit : s.heap.IsListIter it l i) (ht : s.heap.IsList l items) (hx : items[i]? = some x)
    (hQ : ∀ h' : Heap, h'.IsListIter it l (i + 1) → Heap.SameBut it s.heap h' → Q (some x) { heap := h', gens := s.gens, drawn := s.drawn, toks := s.toks, os := s.os }) :
    wpAny (model prog w) A (callSpecial? (Value.ref it) "__next__") Q E s := by
  obtain ⟨o, ho, hc, hd⟩ := id hit
  obtain ⟨ol, hol, _, nl, hdl⟩ := ht
  refine wpAny_callSpecial?_slot (Heap.IsListIter.typeIs hit) slot_listiter_next (wpAny_call_entry slot_listiter_next (Heap.IsListIter.typeIs hit) entry_listiter_next ?_ (args_listiter_next (Value.ref it)))
  refine wpAny_bind (wpAny_of_eq (show slotArgs "__next__" 0 { pos := [Value.ref it] } = pure (Value.ref it, []) from rfl) ?_)
  refine wpAny_bind (wpAny_field ho hd rfl ?_)
  rw [if_neg (by simp)]
  refine wpAny_bind (wpAny_field ho hd rfl ?_)
  refine wpAny_bind (wpAny_seqItems hol hdl ?_)
  simp only [Int.toNat_natCast, hx]
  refine wpAny_bind (wpAny_setField (i := 1) (x := rawInt ((i : Int) + 1)) ho hd (by simp) ?_)
  refine wpAny_pure (?_)
  refine (⟨x, rfl, hQ _ ⟨_, Heap.get?_update_self _ ho (Obj.isFreed_of_fields (Obj.data_mapFields hd _)), (Obj.cls_mapFields o _).trans hc, ?_⟩ (Heap.SameBut.update s.heap it _)⟩)
  rw [Obj.data_mapFields hd]
  simp
  rfl
theorem special_lst_end {prog : Program} {w : World} {A : Around} {E : Value → Shared → Prop} {s : Shared} {it l : Addr} {i : Nat} {items : Array Value} {Q : Option Value → Shared → Prop}
    (hh : A.handled = none) (hit : s.heap.IsListIter it l i) (ht : s.heap.IsList l items) (hx : items[i]? = none)
    (hE : ∀ (e : Value) (h' : Heap), StopX e h' → Heap.ExtBut it s.heap h' → E e { heap := h', gens := s.gens, drawn := s.drawn, toks := s.toks, os := s.os }) :
    wpAny (model prog w) A (callSpecial? (Value.ref it) "__next__") Q E s := by
  obtain ⟨o, ho, hc, hd⟩ := id hit
  obtain ⟨ol, hol, _, nl, hdl⟩ := ht
  refine wpAny_callSpecial?_slot (Heap.IsListIter.typeIs hit) slot_listiter_next (wpAny_call_entry slot_listiter_next (Heap.IsListIter.typeIs hit) entry_listiter_next ?_ (args_listiter_next (Value.ref it)))
  refine wpAny_bind (wpAny_of_eq (show slotArgs "__next__" 0 { pos := [Value.ref it] } = pure (Value.ref it, []) from rfl) ?_)
  refine wpAny_bind (wpAny_field ho hd rfl ?_)
  rw [if_neg (by simp)]
  refine wpAny_bind (wpAny_field ho hd rfl ?_)
  refine wpAny_bind (wpAny_seqItems hol hdl ?_)
  simp only [Int.toNat_natCast, hx]
  refine wpAny_bind (wpAny_rule ?_)
  refine wpAny_bind (wpAny_setField (i := 0) (x := Value.none) ho hd (by simp) ?_)
  refine wpAny_bind ?_
  refine wpAny_bind (wpAny_newObj_type (wpAny_bind (wpAny_of_eq (Eq.refl (firstArgMember (Value.type "StopIteration") [])) (wpAny_newObj_type ?_ ?_))) ?_)
  · unfold raiseNew
    refine wpAny_bind (wpAny_handled ?_)
    rw [show A.in1.handled = none from hh]
    refine wpAny_bind (wpAny_pure ?_)
    exact wpAny_throw (hE _ _ ⟨_, _, _, rfl, Heap.get?_push_size _ rfl, rfl, rfl, rfl⟩ (Heap.ExtBut.push (Heap.ExtBut.push (Heap.SameBut.extBut (Heap.SameBut.update s.heap it _)) _) _))
  · exact sizeOk_excFields _ _ _ _ _ _ _ _
  · show (#[] : Array Value).size ≤ sizeLine
    decide
theorem close_lst : typeLookup (Value.type "list_iterator") "close" = pure none := by
  rw [typeLookup_type "list_iterator" "close", builtinLookup_eq_fast]
  rfl
end Lq

namespace Lq
open PySem
open Sem (wp)
theorem uns0 {M : Model} {Γ : Ctx} {p : Pos} {w : String} {s s' : Shared} {e : End} (h : Runs M Γ p (.unsupported w) [] s e s') : False := by cases h
theorem unsR {M : Model} {Γ : Ctx} {p : Pos} {w : String} {fs : List Frame} {s s' : Shared} {e : End} (h : Runs M Γ p (.unsupported w) fs s e s') : False := by
  cases fs with
  | nil => exact uns0 h
  | cons F fs =>
    cases h with
    | segRet h1 _ => exact uns0 h1
    | segGen h1 _ => exact uns0 h1
    | segSuspOut _ h1 => exact uns0 h1
    | segSuspGen _ h1 _ _ => exact uns0 h1
def san : Frame → Frame
  | .gen _ _ l c p => .ret (fun _ => .unsupported "") none false l c p []
  | f => f
theorem san_where (f : Frame) : (san f).where_ = f.where_ := by cases f <;> rfl
theorem san_split : ∀ fs : List Frame, splitAtGen (fs.map san) = none
  | [] => rfl
  | .gen .. :: fs => by show (splitAtGen (fs.map san)).map _ = none; rw [san_split fs]; rfl
  | .ret .. :: fs => by show (splitAtGen (fs.map san)).map _ = none; rw [san_split fs]; rfl
def psn : GenState → GenState
  | .suspended _ l c p fs cl => .suspended (fun _ => .unsupported "") l c p (fs.map san) cl
  | x => x
def isSus : GenState → Bool
  | .suspended .. => true
  | _ => false
theorem psn_seen (x : GenState) : (psn x).seen = x.seen := by
  cases x with
  | suspended k l c p fs cl =>
    show (GenStatus.suspended, some ((c, p) :: (fs.map san).map Frame.where_)) = (GenStatus.suspended, some ((c, p) :: fs.map Frame.where_))
    rw [List.map_map]
    congr 3
    exact List.map_congr_left fun f _ => san_where f
  | _ => rfl
theorem psn_bare (x : GenState) : (psn x).bare = x.bare := by cases x <;> rfl
def Psn (s : Shared) : Shared := { s with gens := s.gens.map psn }
def Wf (s : Shared) : Prop := ∀ (i : Nat) (k : Resume → Sem PySem.Fin) (l : List Value) (c : Code) (p : Pos) (fs : List Frame) (cl : Bool), s.gens[i]? = some (GenState.suspended k l c p fs cl) → splitAtGen fs = none
theorem wf_psn (s : Shared) : Wf (Psn s) := fun i k l c p fs cl h => by
  have h : (s.gens.map psn)[i]? = some (.suspended k l c p fs cl) := h
  rw [Array.getElem?_map] at h
  cases e : s.gens[i]? with
  | none => rw [e] at h; cases h
  | some x =>
    rw [e] at h
    cases x <;> simp [psn] at h
    obtain ⟨_, _, _, _, h, _⟩ := h
    rw [← h]; exact san_split _
def Dm (s : Shared) (i : Nat) : Option GenState := match s.gens[i]? with | some x => if isSus x then some x else none | none => none
def Pd (D : Nat → Option GenState) (s : Shared) : Prop := ∀ i x, D i = some x → isSus x = true ∧ s.gens[i]? = some (psn x)
def Rst (D : Nat → Option GenState) (s : Shared) : Shared := { s with gens := s.gens.mapIdx fun i y => (D i).getD y }
theorem pd_start (s : Shared) : Pd (Dm s) (Psn s) := fun i x h => by
  unfold Dm at h
  cases e : s.gens[i]? with
  | none => rw [e] at h; cases h
  | some y =>
    rw [e] at h
    simp only at h
    split at h
    · cases h
      refine ⟨by assumption, ?_⟩
      show (s.gens.map psn)[i]? = _
      rw [Array.getElem?_map, e]; rfl
    · cases h
theorem rst_start (s : Shared) : Rst (Dm s) (Psn s) = s := by
  show ({ s with gens := (s.gens.map psn).mapIdx fun i y => (Dm s i).getD y } : Shared) = s
  have : ((s.gens.map psn).mapIdx fun i y => (Dm s i).getD y) = s.gens := by
    apply Array.ext_getElem?
    intro i
    rw [Array.getElem?_mapIdx, Array.getElem?_map]
    unfold Dm
    cases e : s.gens[i]? with
    | none => rfl
    | some x => cases x <;> rfl
  rw [this]
section
variable {D : Nat → Option GenState} {s : Shared} {g : Nat} {x y : GenState}
theorem Pd.none (h : Pd D s) (hg : s.gens[g]? = some x) (hx : isSus x = false) : D g = none := by
  cases e : D g with
  | none => rfl
  | some y =>
    obtain ⟨h1, h2⟩ := h g y e
    rw [hg] at h2; cases h2
    cases y <;> simp [psn, isSus] at hx h1
theorem rst_get (hg : s.gens[g]? = some x) (hd : D g = none) : (Rst D s).gens[g]? = some x := by
  show (s.gens.mapIdx fun i y => (D i).getD y)[g]? = _
  rw [Array.getElem?_mapIdx, hg, hd]; rfl
theorem Pd.at (h : Pd D s) (hd : D g = some x) : (Rst D s).gens[g]? = some x := by
  show (s.gens.mapIdx fun i y => (D i).getD y)[g]? = _
  rw [Array.getElem?_mapIdx, (h g x hd).2, hd]; rfl
theorem Pd.seen (h : Pd D s) (hg : s.gens[g]? = some x) : ∃ y, (Rst D s).gens[g]? = some y ∧ y.seen = x.seen := by
  cases e : D g with
  | none => exact ⟨x, rst_get hg e, rfl⟩
  | some y =>
    refine ⟨y, h.at e, ?_⟩
    have := (h g y e).2
    rw [hg] at this; cases this
    exact (psn_seen y).symm
theorem Pd.set (h : Pd D s) (hd : D g = .none) : Pd D (s.setGen g x) := fun i y e => by
  have ne : i ≠ g := by rintro rfl; rw [hd] at e; cases e
  refine ⟨(h i y e).1, ?_⟩
  show (s.gens.setIfInBounds g x)[i]? = _
  rw [Array.getElem?_setIfInBounds_ne (Ne.symm ne)]
  exact (h i y e).2
theorem rst_set (hd : D g = none) : Rst D (s.setGen g x) = (Rst D s).setGen g x := by
  show ({ s with gens := (s.gens.setIfInBounds g x).mapIdx fun i y => (D i).getD y } : Shared) = { s with gens := (s.gens.mapIdx fun i y => (D i).getD y).setIfInBounds g x }
  congr 1
  apply Array.ext_getElem?
  intro i
  rw [Array.getElem?_mapIdx]
  by_cases e : i = g
  · subst e
    by_cases hl : i < s.gens.size
    · simp [hl, hd]
    · simp [hl]
  · rw [Array.getElem?_setIfInBounds_ne (Ne.symm e), Array.getElem?_setIfInBounds_ne (Ne.symm e), Array.getElem?_mapIdx]
theorem Pd.push (h : Pd D s) : Pd D { s with gens := s.gens.push x } := fun i y e => by
  refine ⟨(h i y e).1, ?_⟩
  have h2 := (h i y e).2
  have hl : i < s.gens.size := (Array.getElem?_eq_some_iff.mp h2).1
  show (s.gens.push x)[i]? = _
  rw [Array.getElem?_push_lt hl, ← h2, Array.getElem?_eq_getElem hl]
theorem rst_push (h : Pd D s) : Rst D { s with gens := s.gens.push x } = { Rst D s with gens := (Rst D s).gens.push x } := by
  have hd : D s.gens.size = .none := by
    cases e : D s.gens.size with
    | none => rfl
    | some y =>
      have := (h _ y e).2
      simp at this
  show ({ s with gens := (s.gens.push x).mapIdx fun i y => (D i).getD y } : Shared) = { s with gens := (s.gens.mapIdx fun i y => (D i).getD y).push x }
  congr 1
  rw [Array.mapIdx_push, hd]
  rfl
theorem rst_size : (Rst D s).gens.size = s.gens.size := by simp [Rst]
theorem Wf.set (h : Wf s) (hx : ∀ k l c p fs cl, x = .suspended k l c p fs cl → splitAtGen fs = none) : Wf (s.setGen g x) := fun i k l c p fs cl e => by
  have e : (s.gens.setIfInBounds g x)[i]? = some (.suspended k l c p fs cl) := e
  by_cases z : i = g
  · subst z
    rw [Array.getElem?_setIfInBounds_self] at e
    split at e
    · exact hx _ _ _ _ _ _ (Option.some.inj e)
    · cases e
  · rw [Array.getElem?_setIfInBounds_ne (Ne.symm z)] at e
    exact h _ _ _ _ _ _ _ e
theorem Wf.push (h : Wf s) (hx : isSus x = false) : Wf { s with gens := s.gens.push x } := fun i k l c p fs cl e => by
  have e : (s.gens.push x)[i]? = some (.suspended k l c p fs cl) := e
  rw [Array.getElem?_push] at e
  split at e
  · cases e; cases hx
  · exact h _ _ _ _ _ _ _ e
end
theorem split_app : ∀ {a b : List Frame}, splitAtGen a = none → splitAtGen b = none → splitAtGen (a ++ b) = none
  | [], _, _, h => h
  | .gen .. :: a, _, h, _ => by cases h
  | .ret .. :: a, b, h, h2 => by
    have h : (splitAtGen a).map _ = none := h
    show (splitAtGen (a ++ b)).map _ = none
    rw [split_app (by cases e : splitAtGen a with | none => rfl | some z => rw [e] at h; cases h) h2]
    rfl
theorem split_tl {f : Frame} {fs : List Frame} (h : splitAtGen (f :: fs) = none) : splitAtGen fs = none := by
  cases f with
  | gen => cases h
  | ret =>
    have h : (splitAtGen fs).map _ = none := h
    cases e : splitAtGen fs with
    | none => rfl
    | some z => rw [e] at h; cases h
def EndF : End → Prop
  | .ret _ => True
  | .susp _ _ _ _ _ _ fs => splitAtGen fs = none
theorem EndF.state {e : End} (h : EndF e) : ∀ k l c p fs cl, e.genState = .suspended k l c p fs cl → splitAtGen fs = none := fun k l c p fs cl q => by
  cases e with
  | ret r => cases q
  | susp v g l' k' c' p' fs' =>
    cases q
    exact h
section
variable {M : Model} {D : Nat → Option GenState}
theorem runs_sleep {Γ : Ctx} {p : Pos} {t : Sem PySem.Fin} {fs : List Frame} {s s' : Shared} {e : End} (h : Runs M Γ p t fs s e s') : splitAtGen fs = none → Wf s → Pd D s →
    Wf s' ∧ Pd D s' ∧ EndF e ∧ Runs M Γ p t fs (Rst D s) e (Rst D s') := by
  induction h with
  | done => exact fun _ w d => ⟨w, d, trivial, .done⟩
  | raise => exact fun _ w d => ⟨w, d, trivial, .raise⟩
  | again hq _ ih => exact fun f w d => let ⟨a, b, c, r⟩ := ih f w d; ⟨a, b, c, .again hq r⟩
  | rule _ ih => exact fun f w d => let ⟨a, b, c, r⟩ := ih f w d; ⟨a, b, c, .rule r⟩
  | «at» _ ih => exact fun f w d => let ⟨a, b, c, r⟩ := ih f w d; ⟨a, b, c, .at r⟩
  | load ho _ ih => exact fun f w d => let ⟨a, b, c, r⟩ := ih f w d; ⟨a, b, c, .load ho r⟩
  | update ho _ ih => exact fun f w d => let ⟨a, b, c, r⟩ := ih f w d; ⟨a, b, c, .update ho r⟩
  | loadIfAlive _ ih => exact fun f w d => let ⟨a, b, c, r⟩ := ih f w d; ⟨a, b, c, .loadIfAlive r⟩
  | point _ ih => exact fun f w d => let ⟨a, b, c, r⟩ := ih f w d; ⟨a, b, c, .point r⟩
  | alloc _ ih => exact fun f w d => let ⟨a, b, c, r⟩ := ih f w d; ⟨a, b, c, .alloc r⟩
  | fresh _ ih => exact fun f w d => let ⟨a, b, c, r⟩ := ih f w d; ⟨a, b, c, .fresh r⟩
  | ask _ ih => exact fun f w d => let ⟨a, b, c, r⟩ := ih f w d; ⟨a, b, c, .ask r⟩
  | choose hn _ ih => exact fun f w d => let ⟨a, b, c, r⟩ := ih f w d; ⟨a, b, c, .choose hn r⟩
  | os _ ih => exact fun f w d => let ⟨a, b, c, r⟩ := ih f w d; ⟨a, b, c, .os r⟩
  | handled _ ih => exact fun f w d => let ⟨a, b, c, r⟩ := ih f w d; ⟨a, b, c, .handled r⟩
  | genState hst _ ih =>
    intro f w d
    obtain ⟨a, b, c, r⟩ := ih f w d
    obtain ⟨y, h1, h2⟩ := d.seen hst
    rw [← h2] at r
    exact ⟨a, b, c, .genState h1 r⟩
  | stack _ ih => exact fun f w d => let ⟨a, b, c, r⟩ := ih f w d; ⟨a, b, c, .stack r⟩
  | thread _ ih => exact fun f w d => let ⟨a, b, c, r⟩ := ih f w d; ⟨a, b, c, .thread r⟩
  | newGen _ ih =>
    intro f w d
    obtain ⟨a, b, c, r⟩ := ih f (w.push rfl) d.push
    refine ⟨a, b, c, .newGen ?_⟩
    rw [rst_size, ← rst_push d]
    exact r
  | call _ _ ih1 ih2 =>
    intro f w d
    obtain ⟨a, b, c, r⟩ := ih1 rfl w d
    obtain ⟨a', b', c', r'⟩ := ih2 f a b
    exact ⟨a', b', c', .call r r'⟩
  | callSusp _ ih =>
    intro f w d
    obtain ⟨a, b, c, r⟩ := ih rfl w d
    exact ⟨a, b, split_app c rfl, .callSusp r⟩
  | yield => exact fun f w d => ⟨w, d, rfl, .yield⟩
  | resumeFresh hg _ hq _ ih1 ih2 =>
    intro f w d
    have hd := d.none hg rfl
    obtain ⟨a, b, c, r⟩ := ih1 rfl (w.set fun _ _ _ _ _ _ z => by cases z) (d.set hd)
    obtain ⟨a', b', c', r'⟩ := ih2 f (a.set c.state) (b.set hd)
    rw [rst_set hd] at r r'
    exact ⟨a', b', c', .resumeFresh (rst_get hg hd) r hq r'⟩
  | resumeSuspended hg h1 hq _ ih1 ih2 =>
    intro f w d
    rename_i g0 _ _ _ _ _ _ _ _ _ _ _ _ _ _ _
    have hd : D g0 = none := by
      cases e : D g0 with
      | none => rfl
      | some y =>
        have := (d _ y e).2
        rw [hg] at this
        cases y <;> cases this
        exact (unsR h1).elim
    obtain ⟨a, b, c, r⟩ := ih1 (w _ _ _ _ _ _ _ hg) (w.set fun _ _ _ _ _ _ z => by cases z) (d.set hd)
    obtain ⟨a', b', c', r'⟩ := ih2 f (a.set c.state) (b.set hd)
    rw [rst_set hd] at r r'
    exact ⟨a', b', c', .resumeSuspended (rst_get hg hd) r hq r'⟩
  | resumeJustStarted hg hv _ ih =>
    intro f w d
    obtain ⟨a, b, c, r⟩ := ih f w d
    exact ⟨a, b, c, .resumeJustStarted (rst_get hg (d.none hg rfl)) hv r⟩
  | resumeThrowFresh hg _ ih =>
    intro f w d
    have hd := d.none hg rfl
    obtain ⟨a, b, c, r⟩ := ih f (w.set fun _ _ _ _ _ _ z => by cases z) (d.set hd)
    rw [rst_set hd] at r
    exact ⟨a, b, c, .resumeThrowFresh (rst_get hg hd) r⟩
  | resumeRunning hg _ ih =>
    intro f w d
    obtain ⟨a, b, c, r⟩ := ih f w d
    exact ⟨a, b, c, .resumeRunning (rst_get hg (d.none hg rfl)) r⟩
  | resumeFinished hg _ ih =>
    intro f w d
    obtain ⟨a, b, c, r⟩ := ih f w d
    exact ⟨a, b, c, .resumeFinished (rst_get hg (d.none hg rfl)) r⟩
  | segRet _ _ ih1 ih2 =>
    intro f w d
    obtain ⟨a, b, c, r⟩ := ih1 rfl w d
    obtain ⟨a', b', c', r'⟩ := ih2 (split_tl f) a b
    exact ⟨a', b', c', .segRet r r'⟩
  | segGen _ _ _ _ => exact fun f => by cases f
  | segSuspOut hs _ ih =>
    intro f w d
    obtain ⟨a, b, c, r⟩ := ih rfl w d
    exact ⟨a, b, split_app c hs, .segSuspOut hs r⟩
  | segSuspGen hs _ _ _ _ _ => exact fun f => by rw [hs] at f; cases f
theorem wp_sleep {α : Type} (Γ : Ctx) (t : Sem α) : ∀ (Q : α → Pos → Shared → Prop) (E : Value → Pos → Shared → Prop) (p : Pos) (s : Shared), Wf s → Pd D s → wp M Γ t Q E p s →
    wp M Γ t (fun a p' s1 => ∃ s0, s1 = Rst D s0 ∧ Pd D s0 ∧ Q a p' s0) (fun e p' s1 => ∃ s0, s1 = Rst D s0 ∧ Pd D s0 ∧ E e p' s0) p (Rst D s) := by
  induction t with
  | pure a => intro Q E p s w d h; exact ⟨s, rfl, d, h⟩
  | raise e => intro Q E p s w d h; exact ⟨s, rfl, d, h⟩
  | unsupported _ => intro Q E p s _ _ h; exact h
  | finish _ => intro Q E p s _ _ h; exact h
  | rule _ k ih => intro Q E p s w d h; exact ih () Q E p s w d h
  | «at» p' k ih => intro Q E p s w d h; exact ih () Q E p' s w d h
  | load a _ k ih => intro Q E p s w d h; obtain ⟨o, ho, h⟩ := h; exact ⟨o, ho, ih o Q E p s w d h⟩
  | update a _ f k ih => intro Q E p s w d h; exact ⟨h.1, ih () Q E p { s with heap := s.heap.update a f } w d h.2⟩
  | loadIfAlive a k ih => intro Q E p s w d h; exact ih _ Q E p s w d h
  | point _ k ih => intro Q E p s w d h; exact ih () Q E p s w d h
  | register _ _ => intro Q E p s _ _ h; exact h
  | alloc o k ih => intro Q E p s w d h; exact ih _ Q E p { s with heap := s.heap.push o } w d h
  | fresh k ih => intro Q E p s w d h; exact ih _ Q E p { s with toks := s.toks + 1 } w d h
  | ask k ih => intro Q E p s w d h; exact ih _ Q E p s w d h
  | choose src m k ih => intro Q E p s w d h; exact ⟨h.1, ih _ Q E p { s with drawn := s.drawn.bump src } w d h.2⟩
  | os q _ k ih => intro Q E p s w d h; exact ih _ Q E p { s with os := (Os.step s.os q).1 } w d h
  | call c hd _ _ k ih =>
    intro Q E p s w d h
    obtain ⟨r, s', hr, h⟩ := h
    obtain ⟨a, b, _, r2⟩ := runs_sleep hr rfl w d
    exact ⟨r, Rst D s', r2, ih r Q E p s' a b h⟩
  | handled own k ih => intro Q E p s w d h; exact ih _ Q E p s w d h
  | genState g k ih =>
    intro Q E p s w d h
    obtain ⟨st, hs, h⟩ := h
    obtain ⟨y, h1, h2⟩ := d.seen hs
    refine ⟨y, h1, ?_⟩
    rw [h2]
    exact ih _ Q E p s w d h
  | newGen c k ih =>
    intro Q E p s w d h
    have := ih _ Q E p { s with gens := s.gens.push (.fresh c) } (w.push rfl) d.push h
    rw [rst_push d] at this
    show wp M Γ (k (Rst D s).gens.size) _ _ p _
    rw [rst_size]
    exact this
  | resume g r _ k ih =>
    intro Q E p s w d h
    obtain ⟨res, s', hw, h⟩ := h
    have key : Wf s' ∧ Pd D s' ∧ Wakes M Γ p g r (Rst D s) res (Rst D s') := by
      unfold Wakes at hw
      cases e : s.gens[g]? with
      | none => rw [e] at hw; exact hw.elim
      | some st =>
        rw [e] at hw
        cases st with
        | fresh c =>
          have hd := d.none e rfl
          unfold Wakes
          rw [rst_get e hd]
          cases r with
          | send v =>
            cases v with
            | none =>
              obtain ⟨e1, s1, hr, hq, rfl, rfl⟩ := hw
              obtain ⟨a, b, c, r⟩ := runs_sleep hr rfl (w.set fun _ _ _ _ _ _ z => by cases z) (d.set hd)
              rw [rst_set hd] at r
              exact ⟨a.set c.state, b.set hd, e1, Rst D s1, r, hq, rfl, rst_set hd⟩
            | _ => obtain ⟨h1, rfl⟩ := hw; exact ⟨w, d, h1, rfl⟩
          | throw x =>
            obtain ⟨h1, rfl⟩ := hw
            exact ⟨w.set (fun _ _ _ _ _ _ z => by cases z), d.set hd, h1, (rst_set hd).symm ▸ rfl⟩
        | suspended k₀ l₀ c₀ p₀ fs cl =>
          obtain ⟨e1, s1, hr, hq, rfl, rfl⟩ := hw
          have hd : D g = none := by
            cases e' : D g with
            | none => rfl
            | some y =>
              have := (d g y e').2
              rw [e] at this
              cases y <;> cases this
              exact (unsR hr).elim
          unfold Wakes
          rw [rst_get e hd]
          obtain ⟨a, b, c, r⟩ := runs_sleep hr (w _ _ _ _ _ _ _ e) (w.set fun _ _ _ _ _ _ z => by cases z) (d.set hd)
          rw [rst_set hd] at r
          exact ⟨a.set c.state, b.set hd, e1, Rst D s1, r, hq, rfl, rst_set hd⟩
        | running =>
          obtain ⟨h1, rfl⟩ := hw
          refine ⟨w, d, ?_⟩
          unfold Wakes
          rw [rst_get e (d.none e rfl)]
          exact ⟨h1, rfl⟩
        | finished =>
          obtain ⟨h1, rfl⟩ := hw
          refine ⟨w, d, ?_⟩
          unfold Wakes
          rw [rst_get e (d.none e rfl)]
          exact ⟨h1, rfl⟩
    exact ⟨res, Rst D s', key.2.2, ih res Q E p s' key.1 key.2.1 h⟩
  | yield _ _ _ _ => intro Q E p s _ _ h; exact h
  | stack k ih => intro Q E p s w d h; exact ih _ Q E p s w d h
  | fork _ _ => intro Q E p s _ _ h; exact h
  | thread k ih => intro Q E p s w d h; exact ih _ Q E p s w d h
  | await _ _ _ _ _ => intro Q E p s _ _ h; exact h
structure Slp (s s1 s0 : Shared) : Prop where
  heap : s1.heap = s0.heap
  os : s1.os = s0.os
  bare : PyProof.Rows.AllBare s.gens → PyProof.Rows.AllBare s0.gens → PyProof.Rows.AllBare s1.gens
  kept : ∀ (g : Nat) (x : GenState), s.gens[g]? = some x → isSus x = true → s1.gens[g]? = some x
theorem wpAny_sleep {α : Type} {A : Around} {t : Sem α} {Q : α → Shared → Prop} {E : Value → Shared → Prop} {s : Shared} (h : wpAny M A t Q E (Psn s)) :
    wpAny M A t (fun a s1 => ∃ s0, Slp s s1 s0 ∧ Q a s0) (fun e s1 => ∃ s0, Slp s s1 s0 ∧ E e s0) s := by
  intro Γ p hΓ
  have key := wp_sleep (M := M) (D := Dm s) Γ t _ _ p (Psn s) (wf_psn s) (pd_start s) (h Γ p hΓ)
  rw [rst_start] at key
  have sl : ∀ s0, Pd (Dm s) s0 → Slp s (Rst (Dm s) s0) s0 := fun s0 d => by
    refine ⟨rfl, rfl, fun hb h0 => ?_, fun g x hg hx => d.at ?_⟩
    · intro y hy
      obtain ⟨i, hi⟩ := Array.mem_iff_getElem?.mp hy
      have hi : (s0.gens.mapIdx fun i y => (Dm s i).getD y)[i]? = some y := hi
      rw [Array.getElem?_mapIdx] at hi
      cases e : s0.gens[i]? with
      | none => rw [e] at hi; cases hi
      | some z =>
        rw [e] at hi
        cases e2 : Dm s i with
        | none =>
          rw [e2] at hi
          cases hi
          exact h0 _ (Array.mem_of_getElem? e)
        | some w =>
          rw [e2] at hi
          cases hi
          unfold Dm at e2
          cases e3 : s.gens[i]? with
          | none => rw [e3] at e2; cases e2
          | some u =>
            rw [e3] at e2
            simp only at e2
            split at e2
            · cases e2
              exact hb _ (Array.mem_of_getElem? e3)
            · cases e2
    · unfold Dm
      rw [hg]
      simp [hx]
  exact Sem.wp_mono M Γ t (fun a _ s1 ⟨s0, h1, h2, h3⟩ => ⟨s0, h1 ▸ sl s0 h2, h3⟩) (fun a _ s1 ⟨s0, h1, h2, h3⟩ => ⟨s0, h1 ▸ sl s0 h2, h3⟩) p s key
end
theorem psn_allBare {s : Shared} (h : PyProof.Rows.AllBare s.gens) : PyProof.Rows.AllBare (Psn s).gens := fun y hy => by
  obtain ⟨x, hx, rfl⟩ := Array.mem_map.mp (show y ∈ s.gens.map psn from hy)
  rw [psn_bare]; exact h x hx
end Lq

namespace Lq
open PySem PySem.Spec PyProof.Rows L2 GenW
open Evl (Ex)
def Fu (M : Model) (A : Around) (Φ : End → Shared → Prop) (c : Code) (t : Sem PySem.Fin) (fs : List Frame) (s : Shared) : Prop :=
  ∀ (Γ : PySem.Ctx) (p : Pos), Γ.code = c → Γ.Woken A → ∃ e s', Runs M Γ p t fs s e s' ∧ Φ e s'
section
variable {M : Model} {A : Around} {Φ : End → Shared → Prop} {c : Code} {fs : List Frame} {s : Shared}
theorem fu_seg {R : GenEnd} {Y : Protocol} {n : Nat} {s₀ : Shared} {t : Sem PySem.Fin} (h : Seg M A R Y n s₀ c t fs s) (k : ∀ e s', SegEnd R Y n (Seg.next M A R Y n) s₀ e s' → Φ e s') : Fu M A Φ c t fs s := fun Γ p e1 e2 => by
  obtain ⟨e, s', h1, h2⟩ := seg_iff.mp h Γ p e1 e2
  exact ⟨e, s', h1, k e s' h2⟩
theorem fu_wrap {α : Type} {m : Sem α} {K : α → Sem PySem.Fin} {J : Value → Sem PySem.Fin} {gd lv} (h : wpAny M (A.over c fs) m (fun a s' => Fu M A Φ c (K a) fs s') (fun x s' => Fu M A Φ c (J x) fs s') s) : Fu M A Φ c (m.wrap K J gd lv) fs s := by
  rintro Γ p rfl hΓ
  exact runs_wrap_of_wp K J gd lv m (h (Γ.over fs) p (hΓ.over fs)) (fun a p' s' h' => h' Γ p' rfl hΓ) (fun x p' s' h' => h' Γ p' rfl hΓ)
theorem fu_at {p' : Pos} {k : Unit → Sem PySem.Fin} (h : Fu M A Φ c (k ()) fs s) : Fu M A Φ c (.at p' k) fs s :=
  fu_wrap (m := standAt p') (K := k) (J := .raise) (gd := id) (lv := id) (wpAny_standAt h)
theorem fu_point {l : List Value} {k : Unit → Sem PySem.Fin} (h : Fu M A Φ c (k ()) fs s) : Fu M A Φ c (.point l k) fs s :=
  fu_wrap (m := point) (K := k) (J := .raise) (gd := id) (lv := fun _ => l) (wpAny_point h)
theorem fu_bw {α β : Type} {m : Sem α} {K : α → Sem β} {K' : β → Sem PySem.Fin} {J : Value → Sem PySem.Fin} {gd lv} (h : wpAny M (A.over c fs) m (fun a s' => Fu M A Φ c ((K a).wrap K' J gd lv) fs s') (fun x s' => Fu M A Φ c (J x) fs s') s) :
    Fu M A Φ c ((m >>= K).wrap K' J gd lv) fs s := by
  rw [Sem.bind_eq_wrap', Sem.wrap_wrap]
  exact fu_wrap h
theorem fu_bw2 {α β γ : Type} {m : Sem α} {f : α → Sem β} {f2 : β → Sem γ} {K : γ → Sem PySem.Fin} {J : Value → Sem PySem.Fin} {gd lv}
    (h : wpAny M (A.over c fs) m (fun a s' => Fu M A Φ c ((f a).wrap (fun b => (f2 b).wrap K J gd lv) J gd lv) fs s') (fun x s' => Fu M A Φ c (J x) fs s') s) : Fu M A Φ c (((m >>= f) >>= f2).wrap K J gd lv) fs s := by
  rw [Sem.bind_eq_wrap' (m >>= f) f2, Sem.wrap_wrap]
  exact fu_bw h
theorem fu_call {c' : Code} {h g l} {k : Result → Sem PySem.Fin} (hc : ∀ p, Fu M A Φ c' (M.den c') (.ret k h g l c p [] :: fs) s) : Fu M A Φ c (.call c' h g l k) fs s := by
  rintro Γ p rfl hΓ
  obtain ⟨e, s', hr, he⟩ := hc p (Γ.goto c') p rfl (hΓ.goto c')
  exact ⟨e, s', runs_call_seg hr, he⟩
end
theorem execs_app_wrap {env : Env} {K : Flow → Sem PySem.Fin} {J : Value → Sem PySem.Fin} {gd : Bool → Bool} {lv : List Value → List Value} (rest : List Stmt) : ∀ ss : List Stmt,
    (execs (ss ++ rest) env).wrap K J gd lv = (execs ss env).wrap (fun f => match f with | .next => (execs rest env).wrap K J gd lv | f => K f) J gd lv
  | [] => rfl
  | st :: ss => by
    rw [List.cons_append, execs_cons_wrap, execs_cons_wrap]
    refine Sem.wrap_congr _ _ _ (fun f => ?_) (fun _ => rfl)
    cases f with
    | next => exact execs_app_wrap rest ss
    | _ => rfl
section
variable {prog : Program} {w : World} {A : Around} {Φ : End → Shared → Prop} {fs : List Frame} {s : Shared} {env : Env}
theorem fu_func {body : List Stmt} (h : Fu (model prog w) A Φ (.func body env) ((execs body env).wrap (fun f => .pure (.done (.ret (match f with | .ret v => v | _ => .none))))
      (fun e => (leaving env e).wrap (fun _ => .raise e) .raise id id) id id) fs s) : Fu (model prog w) A Φ (.func body env) ((model prog w).den (.func body env)) fs s := by
  show Fu _ A Φ _ (.point [] fun _ => ((execs body env).onRaise (leaving env)) >>= _) fs s
  refine fu_point ?_
  rw [Sem.onRaise_eq_wrap, Sem.bind_eq_wrap', Sem.wrap_wrap, Sem.wrap_congr (execs body env) _ _ (K' := fun f => .pure (.done (.ret (match f with | .ret v => v | _ => .none)))) (H' := fun e => (leaving env e).wrap (fun _ => .raise e) .raise id id) (fun f => by cases f <;> rfl)
    (fun e => by rw [Sem.bind_eq_wrap, Sem.wrap_wrap]; rfl)]
  exact h
end

def LSt (it l : Addr) (xs : List V) (j : Nat) (h : Heap) : Prop := h.IsListIter it l j ∧ ∃ its : List Value, Vals xs its ∧ h.IsList l its.toArray
def Trn (it : Addr) (s s' : Shared) : Prop := ∃ (h' : Heap) (tk : Nat), s' = { s with heap := h', toks := tk } ∧ ∀ b o, b ≠ it → s.heap.get? b = some o → h'.get? b = some o
def TR (it : Addr) (xs : List V) : GenEnd := fun n s₀ r s1 => ((r = .ok (.ret .none) ∨ r = .ok .next) ∧ (n + xs.length = sizeLine ∧ Trn it s₀ s1)) ∨ ∃ e, r = .error e ∧ False
def TY (it l : Addr) (xs : List V) : Protocol := fun n s₀ v s1 kap => ∃ j x, n + 1 + j = sizeLine ∧ xs[j]? = some x ∧ RelV x v ∧ Trn it s₀ s1 ∧ LSt it l xs (j + 1) s1.heap ∧ ∀ s'', LSt it l xs (j + 1) s''.heap → kap (.send .none) s''
abbrev cYf (it : Addr) : Code := .builtin "proto.yield_from" ⟨[.ref it, .bool false, .none], []⟩
theorem seg_tail {X : Cx} {A : Around} {fs : List Frame} {it l : Addr} {xs : List V} (hne : l ≠ it) (ho : (A.over (cYf it) fs).handled = none) (hsp : splitAtGen fs = none) (hgd : fs.any Frame.guarded = false) (hle : xs.length ≤ sizeLine)
    (hend : ∀ (n : Nat) (s₀ s : Shared), n + xs.length = sizeLine → Trn it s₀ s → Seg (model X.prog X.w) A (TR it xs) (TY it l xs) n s₀ (cYf it) (.pure (.done (.ret .none))) fs s) :
    ∀ (r j n : Nat) (s : Shared), j + r = xs.length → n + j = sizeLine → LSt it l xs j s.heap → Seg (model X.prog X.w) A (TR it xs) (TY it l xs) n s (cYf it) ((model X.prog X.w).den (cYf it)) fs s := by
  have hcl : typeLookup (Value.type "list_iterator") "close" = pure none := close_lst
  have hng : (Value.type "list_iterator" != Value.type "generator") = true := by decide
  have cls : ∀ {j h}, LSt it l xs j h → ∃ o, h.get? it = some o ∧ o.cls = .type "list_iterator" := fun {j h} q => by
    obtain ⟨⟨o, ho, hc, _⟩, _⟩ := q
    exact ⟨o, ho, hc⟩
  intro r
  induction r with
  | zero =>
    intro j n s hj hn hst
    have hj' : j = xs.length := by omega
    subst hj'
    obtain ⟨hst1, its, rits, hst2⟩ := hst
    have hnone : its.toArray[xs.length]? = none := by have := rits.length; simp; omega
    rw [den_yf]
    unfold Builtin.«proto.yield_from»
    try dsimp only
    refine seg_bind (wpAny_pure ?_)
    try dsimp only
    refine seg_bind (wpAny_attempt (wpAny_holding ?_))
    rw [if_neg Bool.false_ne_true, if_pos (show (Value.none == Value.none) = true from rfl)]
    refine wpAny_bind (wpAny_rule (wpAny_bind ?_))
    refine special_lst_end ho hst1 hst2 hnone fun e h' hS hk => ?_
    obtain ⟨a, o, vs, rfl, hoa, hcls, hdat, h5⟩ := hS
    try dsimp only
    refine seg_bind (wpAny_endsTurn hoa hcls ?_)
    try dsimp only
    rw [if_pos rfl]
    first
      | refine seg_bind (wpAny_rule ?_)
      | (rw [if_neg Bool.false_ne_true]; refine seg_bind (wpAny_rule ?_))
      | (rw [if_neg Bool.false_ne_true]; refine seg_bind (wpAny_pure ?_); refine seg_bind (wpAny_rule ?_))
    refine seg_bind (wpAny_field hoa hdat h5 ?_)
    exact hend n s _ hn ⟨h', s.toks, rfl, fun b o hb e => hk b o hb e⟩
  | succ r ih =>
    intro j n s hj hn hst
    have hjl : j < xs.length := by omega
    obtain ⟨hst1, its, rits, hst2⟩ := hst
    obtain ⟨x, hx⟩ : ∃ x, xs[j]? = some x := ⟨xs[j], List.getElem?_eq_getElem hjl⟩
    obtain ⟨u, hu, ru⟩ := rits.get hx
    obtain ⟨n, rfl⟩ : ∃ m, n = m + 1 := ⟨n - 1, by omega⟩
    rw [den_yf]
    unfold Builtin.«proto.yield_from»
    try dsimp only
    refine seg_bind (wpAny_pure ?_)
    try dsimp only
    refine seg_bind (wpAny_attempt (wpAny_holding ?_))
    rw [if_neg Bool.false_ne_true, if_pos (show (Value.none == Value.none) = true from rfl)]
    refine wpAny_bind (wpAny_rule (wpAny_bind ?_))
    refine special_lst_item hst1 hst2 (x := u) (by simpa using hu) fun h' hit' hs => ?_
    have hst' : LSt it l xs (j + 1) h' := by
      obtain ⟨ol, h1, h2⟩ := hst2
      exact ⟨hit', its, rits, ol, hs.extBut l ol hne h1, h2⟩
    obtain ⟨oi, hoi, hoc⟩ := cls hst'
    refine wpAny_pure ?_
    try dsimp only
    refine seg_bind (wpAny_typeOf (T := "list_iterator") ⟨oi, hoi, hoc⟩ ?_)
    try dsimp only
    first
      | (refine seg_bind (wpAny_of_eq hcl ?_); refine seg_bind (wpAny_pure ?_))
      | refine seg_bind (wpAny_bind (wpAny_of_eq hcl (wpAny_pure ?_)))
      | refine seg_bind (wpAny_of_eq hcl ?_)
    try dsimp only
    refine seg_bind (wpAny_sleptOver hoi hoc hng ?_)
    refine seg_yield hsp rfl hgd ?_
    refine ⟨j, x, by omega, hx, ru, ⟨h', s.toks, rfl, fun b o hb e => hs.extBut b o hb e⟩, hst', fun s'' z => ?_⟩
    obtain ⟨oj, hoj, hojc⟩ := cls z
    show Seg _ _ _ _ n s'' _ (Builtin.Generator.sleptOver (.ref it) false >>= fun _ => _) fs s''
    refine seg_bind (wpAny_sleptOver hoj hojc hng ?_)
    try dsimp only
    refine seg_bind (wpAny_pure ?_)
    exact seg_again (plainId_quiet plain_yf _) (ih (j + 1) n s'' (by omega) (by omega) z)
end Lq

namespace Lq
open PySem PySem.Spec PyProof.Rows L2 GenW
open Evl (Ex)
abbrev SpY := List V → Hp → (List V → Addr → Hp → Prop) → Prop
def YF (P : Program) (w : World) (outer : List Env) (H : Hp) (s : Shared) (pins : List (Addr × Obj)) (a : Addr) (g : Nat) (Q : List V → Addr → Hp → Prop) (it l : Addr) (xs : List V) (s1 : Shared) : Prop :=
  ∃ H', s1.os = s.os ∧ AllBare s1.gens ∧ s1.heap.NoLimit ∧ Un (frs outer) [] H H' s.heap s1.heap ∧ HOk P w H' s1.heap ∧ H' l = some (.lst xs) ∧ LSt it l xs 0 s1.heap ∧ s.heap.objs.size ≤ it ∧ it ∉ frs outer ∧ a ≠ it ∧ (∀ b o, s.heap.get? b = some o → b ≠ it) ∧ (∀ p ∈ pins, p.1 ≠ it) ∧ l ≠ it ∧ H' it = none ∧ H' a = none ∧
    (∀ p ∈ pins, s1.heap.get? p.1 = some p.2 ∧ H' p.1 = none) ∧ s1.heap.IsGen a g ∧ xs.length ≤ sizeLine ∧ Q xs l H'
def YP (P : Program) (w : World) (A : Around) (outer : List Env) (H : Hp) (s : Shared) (pins : List (Addr × Obj)) (a : Addr) (g : Nat) (Q : List V → Addr → Hp → Prop) (e : End) (s' : Shared) : Prop :=
  ∃ it l xs s1, YF P w outer H s pins a g Q it l xs s1 ∧ SegEnd (TR it xs) (TY it l xs) sizeLine (Seg.next (model P w) A (TR it xs) (TY it l xs) sizeLine) s1 e s'
def YMade (P : Program) (w : World) (k : Nat) (outer : List Env) (H : Hp) (s : Shared) (sp : SpY) (vs : List V) (u : Value) (s' : Shared) : Prop :=
  ∃ (a : Addr) (g : Nat) (c : Code), u = .ref a ∧ s.heap.objs.size ≤ a ∧ a < s'.heap.objs.size ∧ s'.heap.IsGen a g ∧ s'.gens[g]? = some (.fresh c) ∧ s'.os = s.os ∧ AllBare s'.gens ∧ s'.heap.NoLimit ∧ (∀ b o, s.heap.get? b = some o → s'.heap.get? b = some o) ∧
    ∀ (A : Around) (s2 : Shared) (H2 : Hp) (pins : List (Addr × Obj)) (Q : List V → Addr → Hp → Prop), Room k A → A.frames = some outer → (∀ b o, s'.heap.get? b = some o → s2.heap.get? b = some o) → s2.os = s.os → AllBare s2.gens → HOk P w H2 s2.heap →
      (∀ b o, H b = some o → H2 b = some o) → (∀ b, b < s'.heap.objs.size → H b = none → H2 b = none) → (∀ p ∈ pins, s2.heap.get? p.1 = some p.2 ∧ H2 p.1 = none ∧ s'.heap.objs.size ≤ p.1 ∧ ∀ v, p.2.data ≠ .cell v) → sp vs H2 Q →
      Fu (model P w) A (YP P w A outer H s pins a g Q) c ((model P w).den c) [] s2
structure GFnY (P : Program) (w : World) (K : PySem.W.Frag) (mg : Str → Option Value) (base : Heap) (k : Nat) (f : Addr) (fd : FuncData) (ps : List Str) (sp : SpY) : Prop where
  run : ∀ (A : Around) (outer : List Env) (s : Shared) (H : Hp) (args : Args) (us : List Value) (vs : List V), Room k A → Env0 P w K mg base A outer s H → BindsTo s fd args (ps.zip us) → Vals vs us → vs.length = ps.length →
    codeAny (model P w) A (.call (.ref f) args) (fun r s' => match r with | .ok (.ret u) => YMade P w k outer H s sp vs u s' | _ => False) s
abbrev noX : XK := fun _ _ _ => False

theorem gfnY_of {P : Program} {w : World} {K : PySem.W.Frag} {mg : Str → Option Value} {base : Heap} {k : Nat} {f : Addr} {name qual : Str} {params : Arguments} {ss : List Stmt} {e : Expr} {yp pos : Pos} {scope : Scope} {dV kV doc pm cdv ct oc : Value} {an od : Option Addr}
    {osl : Array (Option Value)} {N ps : List Str} {sp : SpY} (lk : K.lookup f = some ⟨oc, od, .func (PySem.W.fnOf name qual params (ss ++ [.Expr (.YieldFrom e yp) pos]) scope dV kV doc pm an cdv ct), osl⟩) (hcd : PySem.W.codeIn K cdv qual = true) (S : GScope N ps scope)
    (hi : ∀ (n : Addr) (f : Addr) (cd : Value), interactive (envOfC qual scope n f cd) = false)
    (hbody : ∀ (A : Around) (outer : List Env) (s : Shared) (H : Hp) (pn : List (Addr × Obj)), Room k (A.deeper (envOfC qual scope s.heap.objs.size f cdv)) →
      ∃ t te, PSs (gcxOf P w K mg base N qual scope f cdv A outer s H noX pn) ss t ∧ PE (gcxOf P w K mg base N qual scope f cdv A outer s H noX pn) e te ∧ ∀ vs H2 Q, sp vs H2 Q →
        t { nx := fun σ' H' => te σ' H' fun x H1 => ∃ l xs, x = V.ref l ∧ H1 l = some (HO.lst xs) ∧ Q xs l H1, rt := fun _ _ => False } (start N vs) H2) :
    GFnY P w K mg base (k + 1) f (PySem.W.fnOf name qual params (ss ++ [.Expr (.YieldFrom e yp) pos]) scope dV kV doc pm an cdv ct) ps sp := by
  refine ⟨fun A outer s H args us vs hr e0 hb r hl => ?_⟩
  have KX : K.In s.heap := e0.mod.kin.keeps fun b o z => (e0.bs b o z).1
  have lim : s.heap.NoLimit := e0.mod.nolimit.keeps fun b o z => (e0.bs b o z).1
  have hkind : ∀ y ∈ ps.zip us, scope.names.lookup y.1 = some .local ∨ (scope.names.lookup y.1 = some .cell ∧ ((cellsFrom (s.heap.objs.size + 1) scope.names []).lookup y.1).isSome = true) := fun ⟨n, v⟩ hy => by
    rcases S.par n (List.of_mem_zip hy).1 with q | q
    · exact .inl q
    · exact .inr ⟨q, PySem.W.cellsFrom_some _ _ _ (.inl q)⟩
  refine codeAny_call_generator hr.depth (KX _ _ lk) rfl S.co S.gen rfl (PySem.W.codeRec_of KX hcd) (hb _ _ _ _ ?_)
  refine wpAny_newFunctionEnv_cells S.kind hkind fun env he s1 x => ?_
  subst he
  have lim1 : s1.heap.NoLimit := lim.keeps x.toInCall.keep
  refine ⟨lim1, ?_⟩
  obtain ⟨h1, tk, es1, hk1⟩ := x.done
  have os1 : s1.os = s.os := by rw [es1]
  have gen1 : s1.gens = s.gens := by rw [es1]
  have lt1 : s.heap.objs.size < s1.heap.objs.size := x.toInCall.ns.lt
  have sz1 : s.heap.objs.size ≤ s1.heap.objs.size := Nat.le_of_lt lt1
  have kp1 : ∀ b o, s.heap.get? b = some o → s1.heap.get? b = some o := x.toInCall.keep
  have main : ∀ (go : Obj) (nm qn : Value) (tk2 : Nat), go.cls = .type "generator" → go.data = .fields #[.int s1.gens.size 0, nm, qn] → go.slots = #[] → (∀ h : Heap, (h.push go).get? h.objs.size = some go) →
      YMade P w (k + 1) outer H s sp vs (.ref s1.heap.objs.size) { s1 with gens := s1.gens.push (.fresh (.func (ss ++ [.Expr (.YieldFrom e yp) pos]) (envOfC qual scope s.heap.objs.size f cdv))), toks := tk2, heap := s1.heap.push go } := by
    intro go nm qn tk2 hgc hgd0 hgs hgp
    have hgen : ∀ h : Heap, h.get? s1.heap.objs.size = some go → h.IsGen s1.heap.objs.size s1.gens.size := fun h z => ⟨go, nm, qn, z, hgc, hgd0, hgs⟩
    have hpushed : (s1.heap.push go).get? s1.heap.objs.size = some go := hgp _
    have hsz' : (s1.heap.push go).objs.size = s1.heap.objs.size + 1 := Heap.size_push ..
    refine ⟨s1.heap.objs.size, s1.gens.size, _, rfl, sz1, ?_, hgen _ hpushed, Array.getElem?_push_size .., os1, ?_, lim1.keeps fun b o z => Heap.get?_push_of_some _ z, fun b o z => Heap.get?_push_of_some _ (kp1 b o z), ?_⟩
    · show _ < (s1.heap.push _).objs.size
      rw [hsz']; exact Nat.lt_succ_self _
    · exact AllBare.push (by rw [gen1]; exact e0.bare) rfl
    intro Aw s2 H2 pins Q hrw hfr hk2 hos hba hok2 hH hHn hpins hsp
    have e0w : Env0 P w K mg base Aw outer s H := ⟨hfr, e0.mod, e0.bs, e0.bsz, e0.funs, e0.frf, e0.hok, e0.bare⟩
    obtain ⟨t, te, ht, hte, hq⟩ := hbody Aw outer s H [(s1.heap.objs.size, go)] (hrw.deeper _)
    have hq := hq vs H2 Q hsp
    have I1 : Inv (gcxOf P w K mg base N qual scope f cdv Aw outer s H noX []) [] (start N vs) H s1 := inv_startG S hrw.hd e0w hl r x
    have kp2 : ∀ b o, s1.heap.get? b = some o → s2.heap.get? b = some o := fun b o z => hk2 b o (Heap.get?_push_of_some _ z)
    have lt2 : ∀ {b o}, s1.heap.get? b = some o → b < (s1.heap.push go).objs.size := fun {b o} z => by
      rw [hsz']; exact Nat.lt_succ_of_lt (Heap.lt_size z)
    have I2 : Inv (gcxOf P w K mg base N qual scope f cdv Aw outer s H noX []) [] (start N vs) H2 s2 :=
      I1.call' (ch := []) (hos.trans os1.symm) ⟨fun b o z _ _ _ => kp2 b o z, fun b o z _ _ _ => ⟨o.slots, kp2 b o z⟩, fun b o z n _ => hHn b (lt2 z) n, fun b o z _ => ⟨o, kp2 b o z⟩, fun b xs z => hH b _ z, fun b o u z => hH b _ z, fun b qs z => ⟨#[], by rw [hH b _ z]; simp⟩⟩ hok2 hba fun b z => by simp at z
    have young : ∀ b, s1.heap.objs.size ≤ b → b ≠ s.heap.objs.size ∧ b ∉ frs outer := fun b hb => ⟨Nat.ne_of_gt (Nat.lt_of_lt_of_le lt1 hb), I1.nofs hb⟩
    have hgd : ∀ v, go.data ≠ .cell v := fun v q => by rw [hgd0] at q; cases q
    have I3 : Inv (gcxOf P w K mg base N qual scope f cdv Aw outer s H noX [(s1.heap.objs.size, go)]) pins (start N vs) H2 s2 := Inv.pinnedG I2 fun p hp => by
      rcases List.mem_append.mp hp with z | z
      · rw [List.mem_singleton.mp z]
        obtain ⟨y1, y2⟩ := young s1.heap.objs.size (Nat.le_refl _)
        refine ⟨hk2 _ _ hpushed, hHn _ (by rw [show ({ s1 with gens := s1.gens.push (.fresh (.func (ss ++ [.Expr (.YieldFrom e yp) pos]) (envOfC qual scope s.heap.objs.size f cdv))), toks := tk2, heap := s1.heap.push go } : Shared).heap = s1.heap.push go from rfl, hsz']; exact Nat.lt_succ_self _) (I1.hok.fresh (Nat.le_refl _)), y1, y2, hgd⟩
      · obtain ⟨z1, z2, z3, z4⟩ := hpins p z
        have z3 : (s1.heap.push go).objs.size ≤ p.1 := z3
        rw [hsz'] at z3
        obtain ⟨y1, y2⟩ := young p.1 (by omega)
        exact ⟨z1, z2, y1, y2, z4⟩
    refine fu_func ?_
    rw [execs_app_wrap]
    refine fu_wrap ?_
    rw [over_func]
    have bad : ∀ (u : Value) (s' : Shared), (gcxOf P w K mg base N qual scope f cdv Aw outer s H noX [(s1.heap.objs.size, go)]).xe u s' → Fu (model P w) Aw (YP P w Aw outer H s pins s1.heap.objs.size s1.gens.size Q) (.func (ss ++ [.Expr (.YieldFrom e yp) pos]) (envOfC qual scope s.heap.objs.size f cdv))
        ((leaving (envOfC qual scope s.heap.objs.size f cdv) u).wrap (fun _ => .raise u) .raise id id) [] s' := fun u s' hx => by
      refine fu_wrap ?_
      rw [over_func]
      refine wpAny_mono (show wpAny (model P w) (Aw.deeper (envOfC qual scope s.heap.objs.size f cdv)) (leaving (envOfC qual scope s.heap.objs.size f cdv) u) (fun _ s'' => CX P w outer H s noX u s'' ∧ ∀ p ∈ [(s1.heap.objs.size, go)], s''.heap.get? p.1 = some p.2) (fun _ _ => False) s' from hx) (fun _ s'' q => ?_) fun _ s'' q => q.elim
      obtain ⟨⟨_, _, _, _, _, _, _, _, _, _, _, _, q⟩, _⟩ := q
      exact q.elim
    refine wpAny_mono (ht.run pins s2 (start N vs) H2 _ I3 hq) (fun fl s3 hs => ?_) fun u s' hx => bad u s' hx
    cases fl with
    | brk => obtain ⟨_, _, _, q⟩ := hs; exact q.elim
    | cont => obtain ⟨_, _, _, q⟩ := hs; exact q.elim
    | ret u => obtain ⟨_, _, _, _, _, q⟩ := hs; exact q.elim
    | next =>
      obtain ⟨σ3, H3, I4, q⟩ := hs
      dsimp only
      rw [execs_cons_wrap, exec_Expr _ _ pos (hi _ _ _) rfl]
      refine fu_at ?_
      refine fu_bw2 ?_
      rw [over_func]
      refine wpAny_mono (hte.run pins s3 σ3 H3 _ I4 q) (fun v s4 hv => ?_) fun u s' hx => bad u s' hx
      obtain ⟨x1, H4, I5, r5, l, xs, rfl, hl4, hQ⟩ := hv
      obtain rfl : v = Value.ref l := r5
      obtain ⟨its, rits, pl, hlen⟩ := Inv.list I5 (Evl.sq_of hl4)
      have hil : s4.heap.IsList l its.toArray := PlainL.isList pl
      refine fu_at ?_
      show Fu _ Aw _ _ ((yieldFrom (envOfC qual scope s.heap.objs.size f cdv) (.ref l)).wrap (fun b => (dropValue (.YieldFrom e yp) pos b).wrap _ _ id id) _ id id) [] s4
      unfold yieldFrom
      refine fu_bw (wpAny_typeOf (T := "list") (by obtain ⟨o, ho, hc, _⟩ := hil; exact ⟨o, ho, hc⟩) ?_)
      rw [if_neg (by decide)]
      refine fu_bw (wpAny_holding ?_)
      rw [over_func]
      refine wpAny_pyIter_list hil ?_
      have hlt : l < s4.heap.objs.size := by obtain ⟨o, ho, _⟩ := hil; exact Heap.lt_size ho
      have kp5 : ∀ (b : Addr) (o : Obj), s4.heap.get? b = some o → (s4.heap.push { cls := Value.type "list_iterator", data := Data.fields #[Value.ref l, Value.int 0 0] }).get? b = some o := fun b o z => Heap.get?_push_of_some _ z
      have I6 := Inv.kept (t' := s4.toks) I5 kp5
      refine fu_call fun p => ?_
      refine fu_seg (R := TR s4.heap.objs.size xs) (Y := TY s4.heap.objs.size l xs) (n := sizeLine) (s₀ := { s4 with heap := s4.heap.push { cls := Value.type "list_iterator", data := Data.fields #[Value.ref l, Value.int 0 0] } })
        (seg_tail (X := gcxOf P w K mg base N qual scope f cdv Aw outer s H noX [(s1.heap.objs.size, go)]) (Nat.ne_of_lt hlt) ?_ rfl rfl ?_ (fun n s₀ s' hn ht => ?_) xs.length 0 sizeLine _ (by simp) (by simp) ?_) fun e' s' he => ⟨_, l, xs, _, ?_, he⟩
      · rw [over_handled, over_func]; exact hrw.hd
      · exact hlen
      · exact seg_leaf (.ok (.ret .none)) (seg_end (.ok (.ret .none)) (.inl ⟨.inl rfl, hn, ht⟩))
      · refine ⟨⟨_, Heap.get?_push_size _ rfl, rfl, rfl⟩, its, rits, ?_⟩
        obtain ⟨o, ho, r⟩ := hil
        exact ⟨o, kp5 _ _ ho, r⟩
      · have far : ∀ {b o}, s4.heap.get? b = some o → b ≠ s4.heap.objs.size := fun {b o} z => Nat.ne_of_lt (Heap.lt_size z)
        refine ⟨H4, I6.os, I6.bare, I6.nolimit, I6.base, I6.hok, hl4, ⟨⟨_, Heap.get?_push_size _ rfl, rfl, rfl⟩, its, rits, ?_⟩, I5.sz, I5.nofs (Nat.le_refl _), ?_, fun b o z => ?_, fun p hp => ?_, Nat.ne_of_lt hlt, I5.hok.fresh (Nat.le_refl _), (I6.pin (s1.heap.objs.size, go) (List.mem_append_left _ (List.mem_singleton.mpr rfl))).2.1, fun p hp => ?_, ?_, hlen, hQ⟩
        · obtain ⟨o, ho, r⟩ := hil
          exact ⟨o, kp5 _ _ ho, r⟩
        · exact far (I5.pin (s1.heap.objs.size, go) (List.mem_append_left _ (List.mem_singleton.mpr rfl))).1
        · obtain ⟨o', z'⟩ := I5.base.there b o z (show b ∉ ([] : List Addr) from List.not_mem_nil)
          exact far z'
        · exact far (I5.pin p (List.mem_append_right _ hp)).1
        · have z := I6.pin p (List.mem_append_right _ hp)
          exact ⟨z.1, z.2.1⟩
        · exact hgen _ (I6.pin (s1.heap.objs.size, go) (List.mem_append_left _ (List.mem_singleton.mpr rfl))).1
  exact main _ _ _ _ rfl rfl rfl fun h => Heap.get?_push_size _ rfl
end Lq

namespace Lq
open PySem PySem.Spec PyProof.Rows L2 GenW
open Evl (Ex)
section
variable {P : Program} {w : World} {A : Around} {E : Value → Shared → Prop} {s : Shared}
def GoF (M : Model) (A : Around) (Φ : End → Shared → Prop) (gs : GenState) (s : Shared) : Prop := match gs with
  | .fresh c => Fu M A Φ c (M.den c) [] s
  | .suspended k _ c _ fs _ => Fu M A Φ c (k (.send .none)) fs s
  | _ => False
theorem wpAny_resume_fu {M : Model} {α : Type} {g : Nat} {gs : GenState} {Φ : End → Shared → Prop} {l : List Value} {k : GenResult → Sem α} {Q : α → Shared → Prop} (hgs : s.gens[g]? = some gs) (hfu : GoF M A Φ gs (s.setGen g .running))
    (h : ∀ e s1, Φ e s1 → e.quiet = true ∧ wpAny M A (k e.result) Q E (s1.setGen g e.genState)) : wpAny M A (.resume g (.send .none) l k) Q E s := fun Γ p hΓ => by
  rw [Sem.wp_resume]
  cases gs with
  | running => exact hfu.elim
  | finished => exact hfu.elim
  | fresh c =>
    obtain ⟨e, s1, hr, he⟩ := hfu (Γ.wake c p) p rfl (hΓ.wake c p)
    obtain ⟨q, hk⟩ := h e s1 he
    refine ⟨e.result, s1.setGen g e.genState, ?_, hk Γ p hΓ⟩
    unfold Wakes
    rw [hgs]
    exact ⟨e, s1, hr, q, rfl, rfl⟩
  | suspended k0 l0 c p0 fs cl =>
    obtain ⟨e, s1, hr, he⟩ := hfu (Γ.wake c p) p0 rfl (hΓ.wake c p)
    obtain ⟨q, hk⟩ := h e s1 he
    refine ⟨e.result, s1.setGen g e.genState, ?_, hk Γ p hΓ⟩
    unfold Wakes
    rw [hgs]
    exact ⟨e, s1, hr, q, rfl, rfl⟩
theorem next_fu {a : Addr} {g : Nat} {gs : GenState} {Φ : End → Shared → Prop} {Q : Option Value → Shared → Prop} (hh : A.handled = none) (hl : s.heap.NoLimit) (hroom : A.depth < recursionLimit) (hg : s.heap.IsGen a g) (hgs : s.gens[g]? = some gs)
    (hfu : GoF (model P w) A.in1 Φ gs (s.setGen g .running))
    (hR : ∀ r s₁, Φ (.ret r) s₁ → (r = .ok (.ret .none) ∨ r = .ok .next) ∧ ∀ h', (∀ b o, s₁.heap.get? b = some o → h'.get? b = some o) → Q none { s₁.setGen g .finished with heap := h' })
    (hS : ∀ v g0 l k c p fs s₁, Φ (.susp v g0 l k c p fs) s₁ → (End.susp v g0 l k c p fs).quiet = true ∧ Q (some v) (s₁.setGen g (End.susp v g0 l k c p fs).genState)) :
    wpAny (model P w) A (pyNext (.ref a)) Q E s := by
  unfold pyNext
  refine wpAny_bind (wpAny_attempt (wpAny_callSpecial?_slot (name := Str.ofString "__next__") hg.typeIs slot_gen_next
    (wpAny_call_entry slot_gen_next hg.typeIs entry_gen_next ?_ (args_gen_next _))))
  show wpAny _ A.in1 (Builtin.Generator.genWake (.ref a) (.send .none)) _ _ s
  unfold Builtin.Generator.genWake
  refine wpAny_bind (wpAny_holding (wpAny_genNumber hg (wpAny_bind (wpAny_genState hgs ?_))))
  cases gs with
  | running => exact hfu.elim
  | finished => exact hfu.elim
  | _ =>
  refine wpAny_bind (wpAny_roomToWake hl hroom ?_)
  show wpAny _ A.in1 (.resume g (.send .none) [] _) _ _ s
  refine wpAny_resume_fu hgs hfu fun e s₁ he => ?_
  cases e with
  | susp v g0 l k c p fs =>
    obtain ⟨h1, h2⟩ := hS _ _ _ _ _ _ _ _ he
    exact ⟨h1, wpAny_pure ⟨v, rfl, wpAny_pure h2⟩⟩
  | ret r =>
    obtain ⟨hr, hp⟩ := hR r s₁ he
    refine ⟨rfl, ?_⟩
    have hres : End.result (.ret r) = .returned .none := by
      rcases hr with hr | hr <;> rw [hr] <;> rfl
    first | rw [hres] | simp only [hres]
    show wpAny _ A.in1 (newExc (.type "StopIteration") [] >>= _) _ _ _
    refine wpAny_bind ?_
    simp only [newExc, newTuple]
    refine wpAny_bind (wpAny_newObj_type ?_ (by size_fits))
    refine wpAny_bind (m := firstArgMember _ _) (wpAny_of_eq (a := Value.none) (by first | rfl | (simp only [firstArgMember]; rfl)) ?_)
    refine wpAny_newObj_type ?_ (by size_fits)
    simp only [raiseNew]
    refine wpAny_bind (wpAny_bind (wpAny_handled ?_))
    first | rw [show A.in1.handled = none from hh] | rw [hh]
    refine wpAny_throw ?_
    refine wpAny_bind (wpAny_isInstance (T := "StopIteration") (b := true) ⟨_, Heap.get?_push_size _ rfl, rfl⟩ isSubtype_stop ?_)
    exact wpAny_pure (hp _ fun b o hb => Heap.get?_push_of_some _ (Heap.get?_push_of_some _ hb))

structure YAt (P : Program) (w : World) (A : Around) (a : Addr) (g : Nat) (it l : Addr) (xs : List V) (j : Nat) (s : Shared) : Prop where
  gen : s.heap.IsGen a g
  at_ : LSt it l xs j s.heap
  len : xs.length ≤ sizeLine
  sus : ∃ k l0 c p fs cl m, s.gens[g]? = some (.suspended k l0 c p fs cl) ∧ m + j = sizeLine ∧ ∀ s'', LSt it l xs j s''.heap → Seg (model P w) A.in1 (TR it xs) (TY it l xs) m s'' c (k (.send .none)) fs s''
structure YTrn (it : Addr) (s s1 : Shared) : Prop where
  os : s1.os = s.os
  bare : AllBare s.gens → AllBare s1.gens
  keep : ∀ b o, b ≠ it → s.heap.get? b = some o → s1.heap.get? b = some o
theorem seg_next_pred {M : Model} {R : GenEnd} {Y : Protocol} {n : Nat} {c : Code} {t : Sem PySem.Fin} {fs : List Frame} (h : Seg.next M A R Y n c t fs s) : ∃ m, n = m + 1 ∧ Seg M A R Y m s c t fs s := by
  cases n with
  | zero => exact h.elim
  | succ m => exact ⟨m, rfl, h⟩
theorem susp_at {a : Addr} {g : Nat} {it l : Addr} {xs : List V} {n : Nat} {s0 s1 : Shared} {v : Value} {g0 : Bool} {l0 : List Value} {k : Resume → Sem PySem.Fin} {c : Code} {p : Pos} {fs : List Frame} (hgen : s0.heap.IsGen a g) (ne : a ≠ it) (hlen : xs.length ≤ sizeLine) (hgl : g < s1.gens.size)
    (h : SegEnd (TR it xs) (TY it l xs) n (Seg.next (model P w) A.in1 (TR it xs) (TY it l xs) n) s0 (.susp v g0 l0 k c p fs) s1) :
    (End.susp v g0 l0 k c p fs).quiet = true ∧ ∃ j x, n + j = sizeLine ∧ xs[j]? = some x ∧ RelV x v ∧ Trn it s0 s1 ∧ YAt P w A a g it l xs (j + 1) (s1.setGen g (End.susp v g0 l0 k c p fs).genState) := by
  obtain ⟨hq, j, x, h1, h2, h3, ht, h5, h6⟩ := h
  obtain ⟨m, rfl, _⟩ := seg_next_pred (h6 _ h5)
  refine ⟨hq, j, x, by omega, h2, h3, ht, ?_, h5, hlen, k, l0, c, p, fs, _, m, setGen_at hgl, by omega, fun s'' z => ?_⟩
  · obtain ⟨h', tk, rfl, hk⟩ := ht
    obtain ⟨o, nm, qn, ho, r⟩ := hgen
    exact ⟨o, nm, qn, hk a o ne ho, r⟩
  · obtain ⟨m', e, q⟩ := seg_next_pred (h6 s'' z)
    cases e
    exact q
theorem Trn.gsz {it : Addr} {s s1 : Shared} (h : Trn it s s1) : s1.gens = s.gens := by obtain ⟨_, _, rfl, _⟩ := h; rfl
theorem Trn.y {it : Addr} {s s1 : Shared} {g : Nat} {x y : GenState} (h : Trn it (s.setGen g x) s1) (hx : x.bare = true) (hy : y.bare = true) : YTrn it s (s1.setGen g y) := by
  obtain ⟨h', tk, rfl, hk⟩ := h
  exact ⟨rfl, fun z => allBare_setGen (s := { (s.setGen g x) with heap := h', toks := tk }) (allBare_setGen z hx) hy, fun b o hb e => hk b o hb e⟩
theorem next_item {a : Addr} {g : Nat} {it l : Addr} {xs : List V} {j : Nat} {x : V} (hh : A.handled = none) (hl : s.heap.NoLimit) (hroom : A.depth < recursionLimit) (Y : YAt P w A a g it l xs j s) (ne : a ≠ it) (hx : xs[j]? = some x) {Q : Option Value → Shared → Prop}
    (hQ : ∀ u s1, RelV x u → YAt P w A a g it l xs (j + 1) s1 → YTrn it s s1 → Q (some u) s1) : wpAny (model P w) A (pyNext (.ref a)) Q E s := by
  obtain ⟨k, l0, c, p, fs, cl, m, hgs, hm, hgo⟩ := Y.sus
  have hjl : j < xs.length := (List.getElem?_eq_some_iff.mp hx).1
  have hgl : g < s.gens.size := (Array.getElem?_eq_some_iff.mp hgs).1
  refine next_fu (Φ := SegEnd (TR it xs) (TY it l xs) m (Seg.next (model P w) A.in1 (TR it xs) (TY it l xs) m) (s.setGen g .running)) hh hl hroom Y.gen hgs (fu_seg (hgo (s.setGen g .running) Y.at_) fun _ _ z => z) (fun r s₁ he => ?_) (fun v g0 l1 k1 c1 p1 f1 s₁ he => ?_)
  · rcases he with ⟨_, h1, _⟩ | ⟨_, _, h⟩
    · omega
    · exact h.elim
  · have hszg : g < s₁.gens.size := by
      obtain ⟨_, _, _, _, _, _, ht, _⟩ := id he
      rw [ht.gsz]
      have q : (s.setGen g .running).gens.size = s.gens.size := setGen_size _ _ _
      omega
    obtain ⟨hq, j', x', h1, h2, h3, ht, hY⟩ := susp_at (P := P) (w := w) (A := A) (a := a) (g := g) (s0 := s.setGen g .running) (show (s.setGen g .running).heap.IsGen a g from Y.gen) ne Y.len hszg he
    have ej : j' = j := by omega
    subst ej
    rw [hx] at h2; cases h2
    exact ⟨hq, hQ v _ h3 hY (ht.y rfl (End.bare_of_quiet hq))⟩
theorem next_done {a : Addr} {g : Nat} {it l : Addr} {xs : List V} {j : Nat} (hh : A.handled = none) (hl : s.heap.NoLimit) (hroom : A.depth < recursionLimit) (Y : YAt P w A a g it l xs j s) (hj : xs.length ≤ j) {Q : Option Value → Shared → Prop}
    (hQ : ∀ s1, YTrn it s s1 → Q none s1) : wpAny (model P w) A (pyNext (.ref a)) Q E s := by
  obtain ⟨k, l0, c, p, fs, cl, m, hgs, hm, hgo⟩ := Y.sus
  refine next_fu (Φ := SegEnd (TR it xs) (TY it l xs) m (Seg.next (model P w) A.in1 (TR it xs) (TY it l xs) m) (s.setGen g .running)) hh hl hroom Y.gen hgs (fu_seg (hgo (s.setGen g .running) Y.at_) fun _ _ z => z) (fun r s₁ he => ?_) (fun v g0 l1 k1 c1 p1 f1 s₁ he => ?_)
  · rcases he with ⟨hr, _, ht⟩ | ⟨_, _, h⟩
    · refine ⟨hr, fun h' hk => hQ _ ?_⟩
      have y := ht.y (y := .finished) rfl rfl
      exact ⟨y.os, y.bare, fun b o hb e => hk b o (y.keep b o hb e)⟩
    · exact h.elim
  · obtain ⟨_, j', x', h1, h2, _, _, h5, h6⟩ := he
    have := (List.getElem?_eq_some_iff.mp h2).1
    obtain ⟨m', rfl, _⟩ := seg_next_pred (h6 _ h5)
    omega
end
end Lq

namespace Lq
open PySem PySem.Spec PyProof.Rows L2 GenW
open Evl (Ex)
def Kg (s s1 : Shared) : Prop := ∀ (g : Nat) (x : GenState), s.gens[g]? = some x → isSus x = true → s1.gens[g]? = some x
theorem Kg.trans {s s1 s2 : Shared} (a : Kg s s1) (b : Kg s1 s2) : Kg s s2 := fun g x h hx => b g x (a g x h hx) hx
section
variable {X : Cx} {pins : List (Addr × Obj)} {σ : L2.St} {H H' : Hp} {s s0 s1 : Shared}
theorem Inv.psn (I : L2.Inv X pins σ H s) : L2.Inv X pins σ H (Psn s) := ⟨I.ok, I.os, psn_allBare I.bare, I.base, I.loc, I.cell, I.free, I.freeC, I.pin, I.hok, I.len⟩
theorem Inv.slp (I : L2.Inv X pins σ H s0) (h : Slp s s1 s0) (hb : AllBare s.gens) : L2.Inv X pins σ H s1 := by
  have e := h.heap
  exact ⟨I.ok, h.os.trans I.os, h.bare hb I.bare, by rw [e]; exact I.base, by rw [e]; exact I.loc, by rw [e]; exact I.cell, I.free, I.freeC, by rw [e]; exact I.pin, by rw [e]; exact I.hok, I.len⟩
theorem slp_any {α : Type} {t : Sem α} {Q : α → Shared → Prop} {E : Value → Shared → Prop} (hb : AllBare s.gens) (h : wpAny (model X.prog X.w) X.A t Q (fun _ _ => False) (Psn s)) :
    wpAny (model X.prog X.w) X.A t (fun a s1 => ∃ s0, Slp s s1 s0 ∧ Q a s0 ∧ Kg s s1) E s :=
  wpAny_mono (wpAny_sleep h) (fun a s1 ⟨s0, h1, h2⟩ => ⟨s0, h1, h2, h1.kept⟩) fun e s1 ⟨_, _, h⟩ => h.elim
theorem pe_S {e : Expr} {t : TE} {Q : VK} {E : Value → Shared → Prop} (h : PE X e t) (hx : X.xe = fun _ _ => False) (I : L2.Inv X pins σ H s) (q : t σ H Q) : wpAny (model X.prog X.w) X.A (eval e X.env) (fun u s1 => EP X pins σ Q u s1 ∧ Kg s s1) E s := by
  have z := h.run pins (Psn s) σ H Q (Inv.psn I) q
  rw [hx] at z
  exact wpAny_mono (slp_any I.bare z) (fun u s1 ⟨s0, h1, ⟨v, H1, I1, r⟩, h3⟩ => ⟨⟨v, H1, Inv.slp I1 h1 I.bare, r⟩, h3⟩) fun _ _ z => z
theorem pts_S {ifs : List Expr} {t : TT} {Q : Bool → Hp → Prop} {E : Value → Shared → Prop} (h : PTs X ifs t) (hx : X.xe = fun _ _ => False) (I : L2.Inv X pins σ H s) (q : t σ H Q) :
    wpAny (model X.prog X.w) X.A (forIn ifs true fun c r => if r = true then do let ok ← isTrue c X.env (eval c X.env); pure (ForInStep.yield ok) else pure (ForInStep.yield r)) (fun b s1 => TP X pins σ Q b s1 ∧ Kg s s1) E s := by
  have z := h.run pins (Psn s) σ H Q (Inv.psn I) q
  rw [hx] at z
  exact wpAny_mono (slp_any I.bare z) (fun u s1 ⟨s0, h1, ⟨H1, I1, r⟩, h3⟩ => ⟨⟨H1, Inv.slp I1 h1 I.bare, r⟩, h3⟩) fun _ _ z => z
theorem pg_S {tg : Expr} {t : TG} {v : V} {u : Value} {Q : L2.St → Hp → Prop} {E : Value → Shared → Prop} (h : PG X tg t) (hx : X.xe = fun _ _ => False) (I : L2.Inv X pins σ H s) (r : RelV v u) (q : t v σ H Q) :
    wpAny (model X.prog X.w) X.A (assign tg X.env u) (fun _ s1 => (∃ σ' H', L2.Inv X pins σ' H' s1 ∧ Q σ' H') ∧ Kg s s1) E s := by
  have z := h.run pins (Psn s) σ H v u Q (Inv.psn I) r q
  rw [hx] at z
  exact wpAny_mono (slp_any I.bare z) (fun u s1 ⟨s0, h1, ⟨σ1, H1, I1, r⟩, h3⟩ => ⟨⟨σ1, H1, Inv.slp I1 h1 I.bare, r⟩, h3⟩) fun _ _ z => z
theorem app_S {D : Addr} {xs : List V} {y : V} {v : Value} {E : Value → Shared → Prop} (I : L2.Inv X pins σ H s) (hD : H D = some (.lst xs)) (hz : xs.length < sizeLine) (r : RelV y v) :
    wpAny (model X.prog X.w) X.A (call (.builtin "list.append") [.ref D, v]) (fun _ s1 => L2.Inv X pins σ (upd H D (.lst (xs ++ [y]))) s1 ∧ Kg s s1) E s := by
  have z := app_ok (E := fun _ _ => False) (Q := fun _ s' => L2.Inv X pins σ (upd H D (.lst (xs ++ [y]))) s') (Inv.psn I) hD hz r fun s' I' => I'
  exact wpAny_mono (slp_any I.bare z) (fun u s1 ⟨s0, h1, I1, h3⟩ => ⟨Inv.slp I1 h1 I.bare, h3⟩) fun _ _ z => z
theorem Inv.yt {it : Addr} (I : L2.Inv X pins σ H s) (f : FpOk X pins H it) (h : YTrn it s s1) : L2.Inv X pins σ H s1 := by
  obtain ⟨f0, f1, f2, f3, f4, f5⟩ := f
  have nit : ∀ b u, H b = some u → b ≠ it := fun b u e z => by rw [z, f0] at e; cases e
  refine I.call' (ch := [it]) h.os ⟨fun b o e _ _ hc => h.keep b o (fun z => hc (by simp [z])) e, fun b o e _ _ hc => ⟨o.slots, h.keep b o (fun z => hc (by simp [z])) e⟩, fun b o _ n _ => n, fun b o e hc => ⟨o, h.keep b o (fun z => hc (by simp [z])) e⟩, fun _ _ e => e, fun _ _ _ e => e, fun b ps e => ⟨#[], by rw [e]; simp⟩⟩
    (fun b u e => (I.hok b u e).stay (fun c v hc z => h.keep c v ?_ z) (fun _ z => z) fun _ _ z => z) (h.bare I.bare) fun b hb => ?_
  · rcases hc with rfl | hc
    · exact nit _ _ e
    · exact nit _ _ hc
  · have : b = it := by simpa using hb
    subst this
    exact ⟨f3, f1, f4, f5⟩
end
section
variable {X : Cx} {pins : List (Addr × Obj)} {σ σ' : L2.St} {H1 H3 H6 : Hp} {sc s3 s4 s6 : Shared} {scope : Scope} {ce : Env}
theorem blk_older (I1 : L2.Inv X pins σ H1 sc) (I4 : L2.Inv (X.blk s3 H3 scope ce []) [] σ' H6 s4) (u : Un (frs X.stack) [] H1 H3 sc.heap s3.heap) (os : s3.os = sc.os) (sz : sc.heap.objs.size ≤ s3.heap.objs.size) :
    L2.Inv (X.blk sc H1 scope ce []) [] σ' H6 s4 := by
  have no : ∀ (b : Addr) (P : Prop), b ∈ ([] : List Addr) → P := fun b P h => by cases h
  refine ⟨⟨I4.ok.mod, I4.ok.kind, I4.ok.glob, I4.ok.blt, Nat.le_trans sz I4.ok.above, I4.ok.inj, I4.ok.has, fun y c h1 h2 => Nat.le_trans sz (I4.ok.cab y c h1 h2), I4.ok.hd, I4.ok.frames, I4.ok.stk, fun b hb => no b _ hb, I1.bs, Nat.le_trans I1.ok.bsz I1.sz, fun b o e hb => no b _ hb, fun b hb => no b _ hb, I1.stack, I1.stkFree⟩,
    I4.os.trans os, I4.bare, u.trans I4.base, I4.loc, I4.cell, I4.free, I4.freeC, I4.pin, I4.hok, I4.len⟩
theorem blk_jump (I1 : L2.Inv X pins σ H1 sc) (I5 : L2.Inv (X.blk sc H1 scope ce []) [] σ' H3 s4) (hce : ∀ y c, ce.cells.lookup y = some c → ∃ z, X.env.cells.lookup z = some c) (k : ∀ b o, sc.heap.get? b = some o → s4.heap.get? b = some o)
    (hC : ∀ o, s4.heap.get? ce.locals = some o → s6.heap.get? ce.locals = some o) (hCn : H6 ce.locals = none) (os : s6.os = sc.os) (hb : AllBare s6.gens) (base : Un (frs X.stack) [] H1 H6 sc.heap s6.heap) (hok : HOk X.prog X.w H6 s6.heap) :
    L2.Inv (X.blk sc H1 scope ce []) [] σ' H6 s6 := by
  have cellK : ∀ y c v, ce.cells.lookup y = some c → s4.heap.IsCell c v → s6.heap.IsCell c v := fun y c v e hv => by
    obtain ⟨z, hz⟩ := hce y c e
    obtain ⟨v0, o, ho, hd⟩ := I1.cell z c hz
    obtain ⟨o4, ho4, hd4⟩ := hv
    rw [k c o ho] at ho4; cases ho4
    obtain ⟨sl, e6⟩ := base.any ho (I1.freeC z c hz) (by simp)
    exact ⟨_, e6, hd4⟩
  refine ⟨I5.ok, os, hb, base, ?_, fun y c e => ?_, hCn, fun y c e => ?_, fun p hp => absurd (show p ∈ ([] : List (Addr × Obj)) ++ [] from hp) (by simp), hok, I5.len⟩
  · obtain ⟨m, hn, hl⟩ := I5.loc
    refine ⟨m, Heap.Ns.at' hn hC, fun i x v h1 h2 h3 => ?_⟩
    obtain ⟨u, r, q⟩ := hl i x v h1 h2 h3
    refine ⟨u, r, ?_⟩
    rcases q with q | ⟨q1, c, q2, q3⟩
    · exact .inl q
    · exact .inr ⟨q1, c, q2, cellK x c _ q2 q3⟩
  · obtain ⟨v, hv⟩ := I5.cell y c e
    exact ⟨v, cellK y c v e hv⟩
  · obtain ⟨z, hz⟩ := hce y c e
    obtain ⟨v0, o, ho, hd⟩ := I1.cell z c hz
    exact base.free c o ho (I1.freeC z c hz) (by simp)
end
abbrev TyG := L2.St → Hp → (List V → Hp → Prop) → Prop
structure PYG (X : Cx) (k : Nat) (e : Expr) (sp : SpY) (ty : TyG) : Prop where
  run : ∀ (pins : List (Addr × Obj)) (s : Shared) (σ : L2.St) (H : Hp) (R : List V → Hp → Prop), L2.Inv X pins σ H s → ty σ H R →
    wpAny (model X.prog X.w) X.A (eval e X.env) (fun u s' => ∃ H1 sc vs, L2.Inv X pins σ H1 sc ∧ R vs H1 ∧ YMade X.prog X.w k X.stack H1 sc sp vs u s') X.xe s
end Lq

namespace Lq
open PySem PySem.Spec PyProof.Rows L2 GenW
open Evl (Ex)
theorem Trn.y' {it : Addr} {s s1 : Shared} {g : Nat} {y : GenState} (h : Trn it s s1) (hy : y.bare = true) : YTrn it s (s1.setGen g y) := by
  obtain ⟨h', tk, rfl, hk⟩ := h
  exact ⟨rfl, fun z => allBare_setGen (s := { s with heap := h', toks := tk }) z hy, fun b o hb e => hk b o hb e⟩
def StepY (g : TG) (tt : TT) (te : TE) (vs : List Nat) (σ : L2.St) (D : Addr) (W : Nat → Hp → Prop) (xs : List V) : Prop :=
  ∀ i x H', xs[i]? = some x → W i H' → ∃ Nx : Hp → Prop, (∀ H', Nx H' → W (i + 1) H') ∧ g x (wipe σ vs) H' fun σ2 H3 => wipe σ2 vs = wipe σ vs ∧ tt σ2 H3 fun b H4 => if b = true then te σ2 H4 fun y H5 => ∃ acc, H5 D = some (.lst acc) ∧ acc.length < sizeLine ∧ Nx (upd H5 D (.lst (acc ++ [y]))) else Nx H4
def tLcY (ty : TyG) (sp : SpY) (g : TG) (tt : TT) (te : TE) (vs : List Nat) : TE := fun σ H Q => ty σ H fun as H1 => ∀ D, H1 D = none → sp as (upd H1 D (.lst [])) fun xs l H2 => ∃ W : Nat → Hp → Prop, W 0 H2 ∧ (∀ i H', W i H' → H' l = some (.lst xs)) ∧ (∀ H', W xs.length H' → Q (.ref D) H') ∧
  StepY g tt te vs σ D W xs
section
variable {X : Cx}
theorem lcY_core {k : Nat} {pins : List (Addr × Obj)} {s : Shared} {σ : L2.St} {H : Hp} {Q : VK} {elt tg iter : Expr} {ifs : List Expr} {scope : Scope} {own : List (Str × Nat)} {pos pos' : Pos} {sp : SpY} {ty : TyG} {g : TG} {tt : TT} {te : TE} {use : Option (Value → Sem Unit)} {Qf : Value → Shared → Prop}
    (hc : X.calm = true) (hN : X.N.Nodup) (I : L2.Inv X pins σ H s) (hr : Room (k + 1) X.A) (hi : PYG X k iter sp ty) (ok : BlkOk X.N X.env.scope scope own) (hnc : ∀ y ∈ scope.names, y.2 ≠ .cell)
    (hg : ∀ (s : Shared) (H : Hp) (C : Addr) (cl : List (Str × Addr)) (fp : List Addr), PG (X.blk s H scope (compEnvC scope cl C X.env) fp) tg g) (ht : ∀ (s : Shared) (H : Hp) (C : Addr) (cl : List (Str × Addr)) (fp : List Addr), PTs (X.blk s H scope (compEnvC scope cl C X.env) fp) ifs tt)
    (he : ∀ (s : Shared) (H : Hp) (C : Addr) (cl : List (Str × Addr)) (fp : List Addr), PE (X.blk s H scope (compEnvC scope cl C X.env) fp) elt te) (hs : ∀ x, foldedSetIterable iter X.env x = pure x)
    (h : tLcY ty sp g tt te (own.map (·.2)) σ H Q)
    (hRR : ∀ D C s' m H', L2.Inv X pins σ H' s' → Q (.ref D) H' → s'.heap.Ns C m → FpOk X pins H' C → compPost (model X.prog X.w) X.A X.xe use Qf (.ref D) C (.ok .next) s') :
    wpAny (model X.prog X.w) X.A (comprehension (.ListComp elt [⟨tg, iter, ifs, 0⟩] scope pos) scope X.env pos' (newList []) false (eval iter X.env) use) Qf X.xe s := by
  have hfree : ∀ y ∈ scope.names, y.2 = .free → ∃ c, X.env.cells.lookup y.1 = some c := fun y hy e => by
    rcases ok.free y hy e with q | q
    · exact I.ok.has _ (.inl q)
    · exact I.ok.has _ (.inr q)
  refine wpAny_comprehension_free (use := use) rfl hs (closure_ok hfree) ok.kind (fun y hy e => by rw [ok.uniq y hy, e]) (thn (hi.run pins s σ H _ I h) fun xv s1 hx => ?_)
  obtain ⟨H1, sc, as, I1, q, a, gi, c, rfl, ha1, ha2, hgen, hgs, hos, hb, hl, hkp, wake⟩ := hx
  refine wpAny_pyIter_gen hgen ?_
  refine wpAny_newObj_type (newEnv_comp ?_) (by show 0 ≤ sizeLine; decide)
  have I2 : L2.Inv X pins σ H1 s1 := I1.call' (ch := []) hos (Un.kept hkp) (I1.hok.kept hkp) hb fun b z => by simp at z
  generalize hD : s1.heap.objs.size = D
  have hDn : H1 D = none := I2.hok.fresh (Nat.le_of_eq hD)
  have q := q D hDn
  generalize hs3 : ({ s1 with heap := s1.heap.push { cls := .type "list", data := .seq ([] : List Value).toArray } } : Shared) = s3
  have I3 : L2.Inv X pins σ (upd H1 D (.lst [])) s3 := by
    rw [← hs3]
    refine I2.laid (t' := s1.toks) (fun b o e => Heap.get?_push_of_some _ e) (Nat.le_of_eq hD) ⟨Nat.zero_le _, [], 0, .nil, ?_⟩
    rw [← hD]
    exact Heap.get?_push_size _ rfl
  have h3 : s3.heap = s1.heap.push { cls := .type "list", data := .seq ([] : List Value).toArray } := by rw [← hs3]
  have g3 : s3.gens = s1.gens := by rw [← hs3]
  have os3 : s3.os = s1.os := by rw [← hs3]
  have sz3 : s3.heap.objs.size = s1.heap.objs.size + 1 := by rw [h3, Heap.size_push]
  have k13 : ∀ b o, s1.heap.get? b = some o → s3.heap.get? b = some o := fun b o e => by rw [h3]; exact Heap.get?_push_of_some _ e
  have I4 := block_start (fp := []) I3 ok hN fun b hb => by simp at hb
  have pg := hg sc H1 s3.heap.objs.size (cellsFrom (s3.heap.objs.size + 1) scope.names (cloFrom X.env.cells scope.names [])) []
  have pt := ht sc H1 s3.heap.objs.size (cellsFrom (s3.heap.objs.size + 1) scope.names (cloFrom X.env.cells scope.names [])) []
  have pe := he sc H1 s3.heap.objs.size (cellsFrom (s3.heap.objs.size + 1) scope.names (cloFrom X.env.cells scope.names [])) []
  show codeAny _ _ (.compStart (.ListComp elt [⟨tg, iter, ifs, 0⟩] scope pos) 0 (.ref a) (.ref D) (compEnvC scope (cellsFrom (s3.heap.objs.size + 1) scope.names (cloFrom X.env.cells scope.names [])) s3.heap.objs.size X.env)) (compPost (model X.prog X.w) X.A X.xe use Qf (.ref D) s3.heap.objs.size) { s3 with heap := pushCells (s3.heap.push { cls := .type "dict", data := .dict #[] }) scope.names }
  have hcells : ∀ y d, (compEnvC scope (cellsFrom (s3.heap.objs.size + 1) scope.names (cloFrom X.env.cells scope.names [])) s3.heap.objs.size X.env).cells.lookup y = some d → ∃ z, X.env.cells.lookup z = some d := fun y d e => by
    have e : (cellsFrom (s3.heap.objs.size + 1) scope.names (cloFrom X.env.cells scope.names [])).lookup y = some d := e
    rw [← Heap.size_push s3.heap { cls := .type "dict", data := .dict #[] }] at e
    rcases cells_mem (PySem.mem_of_lookup e) with hm | ⟨h1, _, _⟩
    · rcases cloFrom_mem hm with hm | ⟨h1, rfl⟩
      · cases hm
      · obtain ⟨c, hc⟩ := hfree _ h1 rfl
        exact ⟨_, by rw [hc]; rfl⟩
    · exact absurd rfl (hnc _ h1)
  generalize hce : compEnvC scope (cellsFrom (s3.heap.objs.size + 1) scope.names (cloFrom X.env.cells scope.names [])) s3.heap.objs.size X.env = ce at I4 pg pt pe hcells ⊢
  have cL : ce.locals = s3.heap.objs.size := by subst hce; rfl
  generalize hH3 : upd H1 D (.lst []) = H3 at I3 I4 q
  have k34 : ∀ b o, s3.heap.get? b = some o → (pushCells (s3.heap.push { cls := .type "dict", data := .dict #[] }) scope.names).get? b = some o := fun b o e => pushCells_keeps _ _ _ _ (Heap.get?_push_of_some _ e)
  generalize hs4 : ({ s3 with heap := pushCells (s3.heap.push { cls := .type "dict", data := .dict #[] }) scope.names } : Shared) = s4 at I4 ⊢
  have h4 : s4.heap = pushCells (s3.heap.push { cls := .type "dict", data := .dict #[] }) scope.names := by rw [← hs4]
  have g4 : s4.gens = s1.gens := by rw [← hs4]; exact g3
  have os4 : s4.os = sc.os := by rw [← hs4]; exact os3.trans hos
  have k14 : ∀ b o, s1.heap.get? b = some o → s4.heap.get? b = some o := fun b o e => by rw [h4]; exact k34 b o (k13 b o e)
  have kc4 : ∀ b o, sc.heap.get? b = some o → s4.heap.get? b = some o := fun b o e => k14 b o (hkp b o e)
  have hsub : ∀ b o, H1 b = some o → H3 b = some o := fun b o e => by
    rw [← hH3, upd_ne (ne_of_none e hDn)]; exact e
  have hsubn : ∀ b, b < s1.heap.objs.size → H1 b = none → H3 b = none := fun b hlt e => by
    rw [← hH3, upd_ne (by rw [← hD]; exact Nat.ne_of_lt hlt)]; exact e
  have I5 : L2.Inv (X.blk sc H1 scope ce []) [] (wipe σ (own.map (·.2))) H3 s4 := blk_older I1 I4 (by
    refine ⟨fun b o e _ _ _ => k13 b o (hkp b o e), fun b o e _ _ _ => ⟨o.slots, k13 b o (hkp b o e)⟩, fun b o e n _ => hsubn b (Heap.lt_size (hkp b o e)) n, fun b o e _ => ⟨o, k13 b o (hkp b o e)⟩, fun b xs e => hsub b _ e, fun b o u e => hsub b _ e, fun b qs e => ⟨#[], by rw [hsub b _ e]; simp⟩⟩) (os3.trans hos) (by
    have := ha2
    have h5 : sc.heap.objs.size ≤ s1.heap.objs.size := Nat.le_trans ha1 (Nat.le_of_lt ha2)
    rw [sz3]; omega)
  have hroom : X.A.depth < recursionLimit := hr.depth
  have hh : X.A.handled = none := hr.hd
  have aC : a ≠ ce.locals := by rw [cL, sz3]; exact Nat.ne_of_lt (Nat.lt_succ_of_lt ha2)
  have cellLt : ∀ y d, ce.cells.lookup y = some d → ∃ o, sc.heap.get? d = some o := fun y d e => by
    obtain ⟨z, hz⟩ := hcells y d e
    obtain ⟨v, o, ho, _⟩ := I1.cell z d hz
    exact ⟨o, ho⟩
  have fpA : ∀ {H' : Hp}, H' a = none → FpOk (X.blk sc H1 scope ce []) [] H' a := fun {H'} hn => by
    refine ⟨hn, aC, fun z => (List.mem_cons.mp (I1.stkSub a z)).elim (fun e => absurd (Nat.lt_of_lt_of_le I1.lt ha1) (by rw [e]; exact Nat.lt_irrefl _)) (I1.nofs ha1), .inr ha1, fun y d e z => ?_, fun p hp => absurd (show p ∈ ([] : List (Addr × Obj)) ++ [] from hp) (by simp)⟩
    obtain ⟨o, ho⟩ := cellLt y d e
    rw [z] at ho
    exact absurd (Nat.lt_of_lt_of_le (Heap.lt_size ho) ha1) (Nat.lt_irrefl _)
  -- back in the def's context
  have finish : ∀ {H' : Hp} {s' : Shared}, L2.Inv (X.blk sc H1 scope ce []) [] (wipe σ (own.map (·.2))) H' s' → Q (.ref D) H' → compPost (model X.prog X.w) X.A X.xe use Qf (.ref D) s3.heap.objs.size (.ok .next) s' := fun {H' s'} I' qq => by
    have I7 : L2.Inv X pins σ H' s' := I1.call' (ch := []) I'.os I'.base I'.hok I'.bare fun b z => by simp at z
    have nC : H' s3.heap.objs.size = none := by
      have z : H' ce.locals = none := I'.free
      rw [cL] at z
      exact z
    obtain ⟨m, hn, _⟩ := I'.loc
    have hn : s'.heap.Ns ce.locals m := hn
    rw [cL] at hn
    exact hRR D s3.heap.objs.size s' m H' I7 qq hn (I3.fpOk (Nat.le_refl _) nC)
  have objs : ∀ {it l : Addr} {xs : List V} {j : Nat} {s' : Shared}, YAt X.prog X.w X.A a gi it l xs j s' → ∀ b ∈ [it, a], ∃ o, s'.heap.get? b = some o ∧ ∀ v, o.data ≠ .cell v := fun {it l xs j s'} y b hb => by
    rcases List.mem_cons.mp hb with rfl | hb
    · obtain ⟨⟨o, ho, hc, hd⟩, _⟩ := y.at_
      exact ⟨o, ho, fun v z => by rw [hd] at z; cases z⟩
    · obtain rfl : b = a := by simpa using hb
      obtain ⟨o, nm, qn, ho, hc, hd, _⟩ := y.gen
      exact ⟨o, ho, fun v z => by rw [hd] at z; cases z⟩
  -- what is known behind the first item
  let LI : Nat → Shared → Prop := fun n s' => (n = sizeLine + 1 ∧ s' = s4) ∨ ∃ i H' xs l it, ∃ W : Nat → Hp → Prop, n = xs.length - i ∧ i ≤ xs.length ∧ L2.Inv (X.blk sc H1 scope ce []) [] (wipe σ (own.map (·.2))) H' s' ∧ YAt X.prog X.w X.A a gi it l xs i s' ∧ FpOk (X.blk sc H1 scope ce []) [] H' it ∧ FpOk (X.blk sc H1 scope ce []) [] H' a ∧ a ≠ it ∧ W i H' ∧
    (∀ i H', W i H' → H' l = some (.lst xs)) ∧ (∀ H', W xs.length H' → Q (.ref D) H') ∧
    StepY g tt te (own.map (·.2)) σ D W xs
  -- the rest of a turn
  have tail : ∀ {n i : Nat} {H6 : Hp} {xs : List V} {l it : Addr} {W : Nat → Hp → Prop} {s6 : Shared} {x : V} {u : Value}, xs.length - (i + 1) < n → xs[i]? = some x → RelV x u → L2.Inv (X.blk sc H1 scope ce []) [] (wipe σ (own.map (·.2))) H6 s6 → YAt X.prog X.w X.A a gi it l xs (i + 1) s6 → FpOk (X.blk sc H1 scope ce []) [] H6 it → FpOk (X.blk sc H1 scope ce []) [] H6 a → a ≠ it → W i H6 →
      (∀ i H', W i H' → H' l = some (.lst xs)) → (∀ H', W xs.length H' → Q (.ref D) H') →
      StepY g tt te (own.map (·.2)) σ D W xs →
      ∀ {E1 : Value → Shared → Prop} {E2 : Value → Shared → Prop} {E3 : Value → Shared → Prop} {E4 : Value → Shared → Prop}, wpAny (model X.prog X.w) X.A (letOwnedTupleGo tg (.ref a) u) (fun _ s₁' => wpAny (model X.prog X.w) X.A (assign tg ce u) (fun _ s₂ =>
          wpAny (model X.prog X.w) X.A (forIn ifs true fun c r => if r = true then do let ok ← isTrue c ce (eval c ce); pure (ForInStep.yield ok) else pure (ForInStep.yield r)) (fun ok s₃ =>
            if ok = true then wpAny (model X.prog X.w) X.A (eval elt ce) (fun x s₄ => wpAny (model X.prog X.w) X.A (call (.builtin "list.append") [.ref D, x]) (fun _ s₅ => ∃ m, m < n ∧ LI m s₅) E4 s₄) E3 s₃
            else ∃ m, m < n ∧ LI m s₃) E3 s₂) E2 s₁') E1 s6 := by
    intro n i H6 xs l it W s6 x u hlt hx ru I6 Y6 fit fa hne w6 hl6 hq6 step E1 E2 E3 E4
    obtain ⟨o, nm, qn, ho, hco, hdo, _⟩ := Y6.gen
    refine go_of ho hco hdo (by decide) ?_
    have I7 := I6.pinned (fp := [it, a]) (fun b hb => by
      rcases List.mem_cons.mp hb with rfl | hb
      · exact fit
      · obtain rfl : b = a := by simpa using hb
        exact fa) (objs Y6)
    have fin : ∀ {s' : Shared} {H' : Hp} {σ8 : L2.St}, wipe σ8 (own.map (·.2)) = wipe σ (own.map (·.2)) → L2.Inv (X.blk sc H1 scope ce []) ([] ++ pinsAt [it, a] s6.heap) σ8 H' s' → Kg s6 s' → W (i + 1) H' → ∃ m, m < n ∧ LI m s' := fun {s' H' σ8} hw8 I' kg nx => by
      have pin' : ∀ b ∈ [it, a], ∀ o, s6.heap.get? b = some o → s'.heap.get? b = some o ∧ H' b = none := fun b hb o e =>
        let z := I'.pin (b, o) (List.mem_append_right _ (List.mem_append_right _ (mem_pinsAt hb e)))
        ⟨z.1, z.2.1⟩
      have hln : (wipe σ (own.map (·.2))).length = σ8.length := by rw [← hw8, wipe_length]
      have Hit : H' it = none := by
        obtain ⟨o, e, _⟩ := objs Y6 it (by simp)
        exact (pin' it (by simp) o e).2
      have Ha : H' a = none := by
        obtain ⟨o, e, _⟩ := objs Y6 a (by simp)
        exact (pin' a (by simp) o e).2
      have hlist := hl6 _ _ nx
      have I8 := (I'.unpinned (pins := [])).weak hln fun j v e => by
        rw [← hw8] at e
        exact (wipe_some e).1
      obtain ⟨its, rits, pl, hlen⟩ := Inv.list I8 (Evl.sq_of hlist)
      have hil := (List.getElem?_eq_some_iff.mp hx).1
      refine ⟨xs.length - (i + 1), hlt, .inr ⟨i + 1, H', xs, l, it, W, rfl, hil, I8, ⟨?_, ⟨?_, its, rits, PlainL.isList pl⟩, Y6.len, ?_⟩, ⟨Hit, fit.2⟩, ⟨Ha, fa.2⟩, hne, nx, hl6, hq6, step⟩⟩
      · obtain ⟨o, nm, qn, ho, r⟩ := Y6.gen
        exact ⟨o, nm, qn, (pin' a (by simp) o ho).1, r⟩
      · exact Y6.at_.1.at fun o e => (pin' it (by simp) o e).1
      · obtain ⟨k0, l0, c0, p0, fs0, cl0, m0, h1, h2⟩ := Y6.sus
        exact ⟨k0, l0, c0, p0, fs0, cl0, m0, kg _ _ h1 rfl, h2⟩
    obtain ⟨Nx, hNx, stp⟩ := step i x H6 hx w6
    refine wpAny_mono (pg_S pg rfl I7 ru stp) (fun _ s8 ⟨⟨σ8, H8, I8, hw8, q8⟩, kg8⟩ => ?_) fun _ _ z => z
    refine wpAny_mono (pts_S pt rfl I8 q8) (fun b s9 ⟨⟨H9, I9, q9⟩, kg9⟩ => ?_) fun _ _ z => z
    cases b with
    | false =>
      simp only [Bool.false_eq_true, if_false] at q9 ⊢
      exact fin hw8 I9 (kg8.trans kg9) (hNx _ q9)
    | true =>
      simp only [if_true] at q9 ⊢
      refine wpAny_mono (pe_S pe rfl I9 q9) (fun z s10 ⟨⟨yv, H10, I10, r10, acc, hD10, hz10, nx⟩, kg10⟩ => ?_) fun _ _ z => z
      exact wpAny_mono (app_S (X := X.blk sc H1 scope ce []) I10 hD10 hz10 r10) (fun _ s11 ⟨I11, kg11⟩ => fin hw8 I11 (kg8.trans (kg9.trans (kg10.trans kg11))) (hNx _ nx)) fun _ _ z => z
  have loop : codeAny (model X.prog X.w) X.A (.compLoop (.ListComp elt [⟨tg, iter, ifs, 0⟩] scope pos) 0 (.ref a) (.ref D) ce) (compPost (model X.prog X.w) X.A X.xe use Qf (.ref D) s3.heap.objs.size) s4 := by
    refine compLoop_any LI ?_ (sizeLine + 1) (.inl ⟨rfl, rfl⟩)
    rintro n s5 (⟨rfl, rfl⟩ | ⟨i, H5, xs, l, it, W, rfl, hi5, J5, Y5, fit, fa, hne, w5, hl5, hq5, step⟩)
    · -- the first turn
      obtain ⟨mC, ⟨oC, esC, epC, hoC, hdC, hrC⟩, _⟩ := id I5.loc
      have hoC : s5.heap.get? ce.locals = some oC := hoC
      have hgl : gi < s5.gens.size := by rw [g4]; exact (Array.getElem?_eq_some_iff.mp hgs).1
      have hgs5 : s5.gens[gi]? = some (.fresh c) := by rw [g4]; exact hgs
      have hgen5 : s5.heap.IsGen a gi := hgen.keeps k14
      have room1 : Room k X.A.in1 := ⟨hr.hd, by have := hr.dp; show X.A.depth + 3 * k + 5 < _; omega, by have := hr.un; show X.A.units + 1 + 16 * k + 200 < _; omega⟩
      have wk := wake X.A.in1 (s5.setGen gi .running) H3 [(ce.locals, oC)] _ room1 (show X.A.frames = some X.stack from I.ok.frames) k14 os4 (allBare_setGen I5.bare rfl) I5.hok hsub hsubn (fun p hp => by
        rw [List.mem_singleton.mp hp]
        refine ⟨hoC, I5.free, ?_, fun v z => by rw [hdC] at z; cases z⟩
        rw [cL, sz3]
        exact Nat.le_succ _) q
      refine wpAny_gsz (n := gi + 1) hgl (next_fu (gs := .fresh c) hh I5.nolimit hroom hgen5 hgs5 wk (fun r s6 he => ?_) fun v g0 l0 k0 c0 p0 fs0 s6 he => ?_)
      · obtain ⟨it, l, xs, s1', ⟨H6, f1, f2, f3, f4, f5, f6, f7, f8, f9, f10, f11, f12, f13, f14, f15, f16, f17, f18, W, w0, hl6, hq6, step⟩, he⟩ := he
        rcases he with ⟨hr, hn, ht⟩ | ⟨_, _, z⟩
        · refine ⟨hr, fun h' hk _ => ?_⟩
          have hx0 : xs.length = 0 := by omega
          have J1 : L2.Inv (X.blk sc H1 scope ce []) [] (wipe σ (own.map (·.2))) H6 s1' := blk_jump I1 I5 hcells kc4 (fun o e => by
            rw [hoC] at e; cases e
            exact (f16 (ce.locals, oC) (by simp)).1) (f16 (ce.locals, oC) (by simp)).2 f1 f2 f4 f5
          have fit : FpOk (X.blk sc H1 scope ce []) [] H6 it := ⟨f14, fun z => f12 (ce.locals, oC) (by simp) z.symm, f9, .inr f8, fun y d e z => by
            obtain ⟨o, ho⟩ := cellLt y d e
            exact f11 d o ho z, fun p hp => absurd (show p ∈ ([] : List (Addr × Obj)) ++ [] from hp) (by simp)⟩
          have t6 : YTrn it s1' { s6.setGen gi .finished with heap := h' } := by
            have y := ht.y' (g := gi) (y := .finished) rfl
            exact ⟨y.os, y.bare, fun b o hb e => hk b o (y.keep b o hb e)⟩
          refine finish (Inv.yt J1 fit t6) (hq6 _ ?_)
          rw [hx0]; exact w0
        · exact z.elim
      · obtain ⟨it, l, xs, s1', ⟨H6, f1, f2, f3, f4, f5, f6, f7, f8, f9, f10, f11, f12, f13, f14, f15, f16, f17, f18, W, w0, hl6, hq6, step⟩, he⟩ := he
        refine ⟨he.1, fun hsz => ?_⟩
        have hsz6 : gi < s6.gens.size := by
          have z : (s6.setGen gi (End.susp v g0 l0 k0 c0 p0 fs0).genState).gens.size = s6.gens.size := setGen_size _ _ _
          omega
        obtain ⟨hq, j, x, h1, h2, h3, ht, Y6⟩ := susp_at (P := X.prog) (w := X.w) (A := X.A) (a := a) (g := gi) f17 f10 f18 hsz6 he
        obtain rfl : j = 0 := by omega
        have J1 : L2.Inv (X.blk sc H1 scope ce []) [] (wipe σ (own.map (·.2))) H6 s1' := blk_jump I1 I5 hcells kc4 (fun o e => by
          rw [hoC] at e; cases e
          exact (f16 (ce.locals, oC) (by simp)).1) (f16 (ce.locals, oC) (by simp)).2 f1 f2 f4 f5
        have fit : FpOk (X.blk sc H1 scope ce []) [] H6 it := ⟨f14, fun z => f12 (ce.locals, oC) (by simp) z.symm, f9, .inr f8, fun y d e z => by
          obtain ⟨o, ho⟩ := cellLt y d e
          exact f11 d o ho z, fun p hp => absurd (show p ∈ ([] : List (Addr × Obj)) ++ [] from hp) (by simp)⟩
        exact tail (by omega) h2 h3 (Inv.yt J1 fit (ht.y' (End.bare_of_quiet hq))) Y6 fit (fpA f15) f10 w0 hl6 hq6 step
    · by_cases hil : i < xs.length
      · have hx : xs[i]? = some xs[i] := List.getElem?_eq_getElem hil
        refine next_item hh J5.nolimit hroom Y5 hne hx fun u s6 ru Y6 t6 => ?_
        exact tail (by omega) hx ru (Inv.yt J5 fit t6) Y6 fit fa hne w5 hl5 hq5 step
      · have hie : i = xs.length := by omega
        subst hie
        refine next_done hh J5.nolimit hroom Y5 (Nat.le_refl _) fun s6 t6 => ?_
        exact finish (Inv.yt J5 fit t6) (hq5 _ w5)
  exact codeAny_compStart_list loop (wpAny_pyIter_gen (hgen.keeps k14) loop)
end
end Lq

namespace Lq
open PySem PySem.Spec PyProof.Rows L2 GenW
open Evl (Ex)
section
variable {X : Cx} {k : Nat} {elt tg iter : Expr} {ifs : List Expr} {scope : Scope} {own : List (Str × Nat)} {pos : Pos} {sp : SpY} {ty : TyG} {g : TG} {tt : TT} {te : TE}
theorem pe_lcY (hc : X.calm = true) (hN : X.N.Nodup) (hr : Room (k + 1) X.A) (hi : PYG X k iter sp ty) (ok : BlkOk X.N X.env.scope scope own) (hnc : ∀ y ∈ scope.names, y.2 ≠ .cell)
    (hg : ∀ (s : Shared) (H : Hp) (C : Addr) (cl : List (Str × Addr)) (fp : List Addr), PG (X.blk s H scope (compEnvC scope cl C X.env) fp) tg g) (ht : ∀ (s : Shared) (H : Hp) (C : Addr) (cl : List (Str × Addr)) (fp : List Addr), PTs (X.blk s H scope (compEnvC scope cl C X.env) fp) ifs tt)
    (he : ∀ (s : Shared) (H : Hp) (C : Addr) (cl : List (Str × Addr)) (fp : List Addr), PE (X.blk s H scope (compEnvC scope cl C X.env) fp) elt te) (hs : ∀ x, foldedSetIterable iter X.env x = pure x := by intro _; rfl) :
    PE X (.ListComp elt [⟨tg, iter, ifs, 0⟩] scope pos) (tLcY ty sp g tt te (own.map (·.2))) := by
  refine ⟨fun pins s σ H Q I h => ?_⟩
  rw [eval_ListComp]
  refine lcY_core hc hN I hr hi ok hnc hg ht he hs h fun D C s' m H' I' q hn f => ⟨m, hn, fun h'' sb => ?_⟩
  obtain ⟨f0, f1, f2, f3, f4, f5⟩ := f
  exact ⟨.ref D, H', I'.turned (t' := s'.toks) (fun b o hb e => (sb.2 b hb).trans e) f0 f1 f3 f4 f5, rfl, q⟩
end
section
variable {X : Cx} {k : Nat} {f C : Addr} {fd : FuncData} {ps : List Str} {sp : SpY} {m : Str} {p pos pos' apos : Pos} {o : Expr} {ta : TE}
def tyMeth (C : Addr) (m : Str) (ta : TE) : TyG := fun σ H R => ta σ H fun x H1 => ∃ a dx fs, x = V.ref a ∧ H1 a = some (.ins C dx fs) ∧ fs.lookup m = none ∧ R [x] H1
theorem pyg_meth0 {pl : Sem Bool} (he : PE X o ta) (c : Cls X.K C) (hm : Meth X.K C m f) (F : GFnY X.prog X.w X.K X.mg X.base k f fd ps sp) (hl : ps.length = 1) (hr : Room k X.A) (hb : Binds X.K fd ps [])
    (ht : eval (.Call (.Attribute o m apos) [] [] pos') X.env = (do
      let ov ← eval o X.env
      standAt apos.atName
      let (f, first) ← holding [ov] (getMethod ov m pl)
      callWith pos' f first (backTo pos' (starEach [] X.env)) (backToKw pos' (keywordEach [] X.env))) := by rfl) :
    PYG X k (.Call (.Attribute o m apos) [] [] pos') sp (tyMeth C m ta) := by
  refine ⟨fun pins s σ H R I h => ?_⟩
  refine PySem.W.methodCall_KW (pl := pl) (thn (he.run pins s σ H _ I h) fun u s1 ⟨x, H1, I1, rx, a, dx, fs, ex, ea, l, q⟩ => ?_) ht
  subst ex
  obtain rfl : u = Value.ref a := rx
  refine getmeth_ok I1 ea c hm l ?_
  refine PySem.W.callWith_K0 (first := [.ref a]) I1.kIn hm.kp ?_
  have rv : Vals [V.ref a] ([Value.ref a] ++ []) := .cons (show RelV (V.ref a) (Value.ref a) from rfl) .nil
  refine wpAny_call (codeAny_mono (F.run X.A X.stack s1 H1 ⟨[.ref a], []⟩ ([Value.ref a] ++ []) [V.ref a] hr I1.env0 (hb s1 [Value.ref a] I1.kIn (by simpa using hl.symm)) rv (by simpa using hl.symm)) fun r s' hq => ?_)
  cases r with
  | error e => exact False.elim hq
  | ok fl =>
    cases fl with
    | ret u => exact ⟨H1, s1, [.ref a], I1, q, hq⟩
    | next => exact False.elim hq
    | brk => exact False.elim hq
    | cont => exact False.elim hq
end
end Lq

namespace Lq
open PySem PySem.Spec PyProof.Rows L2 GenW
open Evl (Ex)
def spG (K : PySem.W.Frag) (n : Nat) (f : List Dt → FoN) : SpY := fun vs H Q => ∃ B F ds, ds.length = n ∧ Ex F H ∧ Kept B F H ∧ RpA K F vs ds ∧ match f ds with
  | .ok zs => ∀ l ws F' H', Ex F F' → Ex F' H' → Kept B F' H' → F' l = some (.lst ws) → RpA K F' ws zs → Q ws l H'
  | _ => False
def CalY (P : Program) (w : World) (K : PySem.W.Frag) (mg : Str → Option Value) (base : Heap) (C : Addr) (x : Str) (k : Nat) (ps : List Str) (g : List Dt → FoN) : Prop :=
  ∃ f fd, GFnY P w K mg base k f fd ps (spG K ps.length g) ∧ Cls K C ∧ Meth K C x f ∧ Binds K fd ps []
def itG (C : Addr) (x : Str) (m : Ms → R Dt) (g : List Dt → FoN) : Ms → R (List Dt) := fun S => (m S).bind fun d S1 => match d with
  | .obj C' ks xs => if C' = C ∧ x ∉ ks then (match g [.obj C' ks xs] with | .ok zs => .ok zs S1 | _ => .no) else .no
  | _ => .no
theorem R.assoc {α β γ : Type} (r : R α) (f : α → Ms → R β) (g : β → Ms → R γ) : (r.bind f).bind g = r.bind fun a S => (f a S).bind g := by cases r <;> rfl
def Ity (l : Addr) (ws : List V) : It := ⟨fun i H => H l = some (.lst ws) ∧ i < ws.length, fun i H x H' => H' = H ∧ ws[i]? = some x, fun i H => H l = some (.lst ws) ∧ ws.length ≤ i⟩
theorem walksY {K : PySem.W.Frag} {F : Hp} {l : Addr} {ws : List V} {zs : List Dt} (h : F l = some (.lst ws)) (r : RpA K F ws zs) : Walks K F (Ity l ws) zs where
  go := fun i H hi e => ⟨e _ _ h, by rw [r.length]; exact hi⟩
  stop := fun H e => ⟨e _ _ h, by rw [r.length]; exact Nat.le_refl _⟩
  yld := fun i H x H' F1 hi e1 e2 hy => by
    obtain ⟨rfl, hx⟩ := hy
    obtain ⟨d, hd, hr⟩ := r.getv hx
    exact ⟨d, hd, .inl ⟨rfl, hr.up e1⟩⟩
theorem Out.later {K : PySem.W.Frag} {W : WX} {B F F' : Hp} {as as' : List Addr} {σ : L2.St} {α : Type} {r : R α} {Q : α → Hp → Hp → List Addr → Ms → Prop} (h : Out K W B F as σ r Q) (e : Ext F F' as as') : Out K W B F' as' σ r Q := by
  cases r with
  | ok a S => exact fun F2 H2 as2 e2 r2 => h F2 H2 as2 (e.trans e2) r2
  | er x S => exact fun F2 H2 as2 dx fs e2 r2 => h F2 H2 as2 dx fs (e.trans e2) r2
  | no => exact h
section
variable {X : Cx} {W : WX} {m : Ms → R Dt} {T : Tk} {t : Ms → R Bool} {e : Ms → R Dt} {own : List Nat} {C : Addr} {x : Str} {g : List Dt → FoN}
theorem lcY_run (hi : ∀ i ∈ T.is, i ∈ own) {σ : L2.St} {H : Hp} {Q : VK} (q : tN X.K W (lcE (itG C x m g) T.k t e own) σ H Q) :
    tLcY (tyMeth C x (tD X.K W m)) (spG X.K 1 g) (T.g X.K) (tT X.K W0 t) (tD X.K W0 e) own σ H Q := by
  obtain ⟨B, F, as, S, r, o⟩ := q
  have o0 : Out X.K W B F as σ ((m S).bind fun d S1 => ((match d with
      | .obj C' ks xs => if C' = C ∧ x ∉ ks then (match g [.obj C' ks xs] with | .ok zs => R.ok zs S1 | _ => .no) else .no
      | _ => R.no : R (List Dt))).bind fun ds S1 => (lcF (wipeL S1.sl own) T.k t e ds S1.mo []).bind fun ys S2 => .ok ys { sl := S1.sl, mo := S2.mo }) fun ds F' H' as' _ => ∀ p vs, F' p = none → B p = none → p ∉ as' → H' p = some (.lst vs) → RpA X.K F' vs ds → Q (.ref p) H' := by
    rw [← R.assoc]; exact o
  refine ⟨B, F, as, S, r, Out.mono (Out.bind o0) fun d F1 H1 as1 S1 ⟨r1, e1, o1⟩ v hv => ?_⟩
  cases d with
  | obj C' ks xs =>
    dsimp only at o1
    split at o1
    · rename_i hc
      obtain ⟨rfl, hx⟩ := hc
      cases hv with
      | @obj a _ dx fs _ _ hs hks ha =>
        subst hks
        refine ⟨a, dx, fs, rfl, r1.fh _ _ hs, no_look hx, fun D hD => ?_⟩
        obtain ⟨f1, f2, f3⟩ := r1.fresh hD
        cases hg : g [.obj C' (fs.map (·.1)) xs] with
        | er z => rw [hg] at o1; exact o1.elim
        | no => rw [hg] at o1; exact o1.elim
        | ok zs =>
          rw [hg] at o1
          have o2 : Out X.K W B F1 as1 σ ((lcF (wipeL S1.sl own) T.k t e zs S1.mo []).bind fun ys S2 => .ok ys { sl := S1.sl, mo := S2.mo }) fun ds F' H' as' _ => ∀ p vs, F' p = none → B p = none → p ∉ as' → H' p = some (.lst vs) → RpA X.K F' vs ds → Q (.ref p) H' := o1
          have hBn : holdB B F1 H1 as1 D = none := by unfold holdB; rw [if_neg f3]; exact f2
          refine ⟨upd (holdB B F1 H1 as1) D (.lst []), F1, [.obj C' (fs.map (·.1)) xs], rfl, fun b o z => ?_, fun b o z => ?_, .cons (.obj hs rfl ha) .nil, ?_⟩
          · rw [upd_ne (ne_of_none (r1.fh _ _ z) hD)]
            exact r1.fh _ _ z
          · by_cases hb : b = D
            · subst hb
              rw [upd_same] at z ⊢
              cases z
              exact ⟨rfl, f1, trivial⟩
            · rw [upd_ne hb] at z ⊢
              exact hold_kept r1 b o z
          · rw [hg]
            intro l ws F' H' ee eh kp hl hz
            have hD' := kp D (.lst []) upd_same
            have kp' : Kept (holdB B F1 H1 as1) F' H' := fun b o z => kp b o (by
              have : b ≠ D := by rintro rfl; rw [hBn] at z; cases z
              rw [upd_ne this]; exact z)
            have r2 : Rep X.K B F' H' as1 σ S1 := hold_back r1 ee eh kp'
            have lD : ∀ {b o}, F' b = some o → b ≠ D := fun {b o} z => by rintro rfl; rw [hD'.2.1] at z; cases z
            have eU : upd (fun b => if b = D then none else H' b) D (.lst []) = H' := by
              funext b
              by_cases hb : b = D
              · subst hb; rw [upd_same]; exact hD'.1.symm
              · rw [upd_ne hb]; exact if_neg hb
            have r3 : Rep X.K B F' (fun b => if b = D then none else H' b) as1 σ S1 := by
              refine ⟨fun b o z => ?_, fun b o z => ?_, r2.sl, ?_, r2.nd⟩
              · show (if b = D then none else H' b) = _
                rw [if_neg (lD z)]; exact r2.fh _ _ z
              · obtain ⟨z1, z2, z3⟩ := r2.bh b o z
                have : b ≠ D := by rintro rfl; rw [f2] at z; cases z
                exact ⟨(if_neg this).trans z1, z2, z3⟩
              · have : ∀ {xs : List Addr} {ys : List Mo}, (∀ a ∈ xs, a ≠ D) → Paired (MoR X.K B F' H') xs ys → Paired (MoR X.K B F' (fun b => if b = D then none else H' b)) xs ys := by
                  intro xs ys hn z
                  induction z with
                  | nil => exact .nil
                  | @cons a b l1 l2 z zs ih =>
                    refine .cons ?_ (ih fun a ha => hn a (List.mem_cons_of_mem _ ha))
                    cases b with
                    | ob ds =>
                      obtain ⟨z1, z2, ws, z3, z4⟩ := z
                      exact ⟨z1, z2, ws, (if_neg (hn _ List.mem_cons_self)).trans z3, z4⟩
                    | fz d => exact z
                exact this (fun a ha z => f3 (z ▸ ha)) r2.mo
            have e2 : Ext F1 F' as1 as1 := ⟨ee, [], by simp⟩
            obtain ⟨W1, ⟨m0, w0⟩, turn⟩ := lc_core0 (J := Ity l ws) hi r3 (o2.later e2) (walksY hl hz) (D := D) (if_pos rfl)
            rw [eU] at w0
            refine ⟨fun i H => ∃ m, W1 i m H, ⟨m0, w0⟩, fun i H2 ⟨m, w⟩ => ?_, fun H2 ⟨m, w⟩ => ?_, fun i y H2 hy ⟨m, w⟩ => ?_⟩
            · rcases turn i m H2 w with ⟨h1, _⟩ | ⟨h1, _⟩
              · exact h1.1
              · exact h1.1
            · rcases turn _ m H2 w with ⟨_, h1⟩ | ⟨h1, _⟩
              · exact h1
              · exact absurd h1.2 (Nat.lt_irrefl _)
            · rcases turn i m H2 w with ⟨h1, _⟩ | ⟨h1, Nx, h2, h3⟩
              · exact absurd (List.getElem?_eq_some_iff.mp hy).1 (Nat.not_lt.mpr h1.2)
              · exact ⟨Nx, fun H' n => let ⟨m', _, h⟩ := h2 H' n; ⟨m', h⟩, h3 y H2 ⟨rfl, hy⟩⟩
    · exact o1.elim
  | _ => exact o1.elim
end
section
variable {X : Cx} {W : WX} {m : Ms → R Dt} {T : Tk} {t : Ms → R Bool} {fe : Ms → R Dt} {own : List (Str × Nat)} {C : Addr} {x y : Str} {g : List Dt → FoN} {k j : Nat} {p0 : Str} {o elt tg : Expr} {ifs : List Expr} {scope : Scope} {pos pos' apos : Pos} {i : Nat} {pl : Sem Bool}
theorem dn_lcY (cl : CalY X.prog X.w X.K X.mg X.base C x k [p0] g) (hc : X.calm = true) (hN : X.N.Nodup) (hr : Room j X.A) (hk : k + 1 ≤ j) (ho : PE X o (tD X.K W m)) (ok : BlkOk X.N X.env.scope scope own) (hnc : ∀ y ∈ scope.names, y.2 ≠ .cell) {vs : List Nat} (hsub : ∀ i ∈ T.is, i ∈ vs)
    (hg : ∀ (s : Shared) (H : Hp) (C : Addr) (cl : List (Str × Addr)) (fp : List Addr), DG (X.blk s H scope (compEnvC scope cl C X.env) fp) tg T) (ht : ∀ (s : Shared) (H : Hp) (C : Addr) (cl : List (Str × Addr)) (fp : List Addr), PTs (X.blk s H scope (compEnvC scope cl C X.env) fp) ifs (tT X.K W0 t))
    (he : ∀ (s : Shared) (H : Hp) (C : Addr) (cl : List (Str × Addr)) (fp : List Addr), PE (X.blk s H scope (compEnvC scope cl C X.env) fp) elt (tD X.K W0 fe))
    (heq : eval (.Call (.Attribute o x apos) [] [] pos') X.env = (do
      let ov ← eval o X.env
      standAt apos.atName
      let (f, first) ← holding [ov] (getMethod ov x pl)
      callWith pos' f first (backTo pos' (starEach [] X.env)) (backToKw pos' (keywordEach [] X.env))) := by rfl)
    (hs : ∀ x1, foldedSetIterable (.Call (.Attribute o x apos) [] [] pos') X.env x1 = pure x1 := by intro _; rfl) (hvs : own.map (·.2) = vs := by rfl) :
    PE X (.ListComp elt [⟨tg, .Call (.Attribute o x apos) [] [] pos', ifs, 0⟩] scope pos) (tN X.K W (lcE (itG C x m g) T.k t fe vs)) := by
  subst hvs
  obtain ⟨f, fd, F, c, hm, hb⟩ := cl
  exact ⟨fun pins s σ H Q I q => (pe_lcY hc hN (hr.mono hk) (pyg_meth0 ho c hm F rfl ((hr.mono hk).mono (Nat.le_succ _)) hb heq) ok hnc (fun s H C cl fp => (hg s H C cl fp).pg) ht he hs).run pins s σ H Q I (lcY_run hsub q)⟩
end
end Lq

namespace Lq
open PySem PySem.Spec PyProof.Rows L2
open Evl (Ex)
theorem lc_coreA {X : Cx} {W : WX} {T : Tk} {t : Ms → R Bool} {e : Ms → R Dt} {own : List Nat} (hi : ∀ i ∈ T.is, i ∈ own) {σ : L2.St} {H1 : Hp} {Z : Hp → Prop} {B F1 : Hp} {as1 : List Addr} {S1 : Ms} {ds acc0 : List Dt} {accV0 : List V} {J : It} {D : Addr} (f2 : B D = none) (r1 : Rep X.K B F1 H1 as1 σ S1)
    (h1 : F1 D = none) (h2 : D ∉ as1) (h3 : H1 D = some (.lst accV0)) (h4 : RpA X.K F1 accV0 acc0) (w : Walks X.K F1 J ds)
    (o : Out X.K W B F1 as1 σ (lcF (wipeL S1.sl own) T.k t e ds S1.mo acc0) fun ys F' H' as' S' => ∀ vs, (Rep X.K B F' H' as' σ { S1 with mo := S'.mo }) → F' D = none → D ∉ as' → H' D = some (.lst vs) → RpA X.K F' vs ys → Z H') :
    ∃ W : Nat → Nat → Hp → Prop, (∃ m, W 0 m H1) ∧ ∀ i m H, W i m H →
      (J.stop i H ∧ Z H) ∨ (J.go i H ∧ ∃ Nx : Hp → Prop, (∀ H', Nx H' → ∃ m', m' < m ∧ W (i + 1) m' H') ∧ ∀ x H', J.yld i H x H' → T.g X.K x (wipe σ own) H' fun σ2 H2 => wipe σ2 own = wipe σ own ∧ tT X.K W0 t σ2 H2 fun b H3 =>
        if b = true then tD X.K W0 e σ2 H3 fun y H4 => ∃ acc, H4 D = some (.lst acc) ∧ acc.length < sizeLine ∧ Nx (upd H4 D (.lst (acc ++ [y]))) else Nx H3) := by
  refine ⟨fun i m H => m = ds.length - i ∧ i ≤ ds.length ∧ ∃ F2 as2 mo acc accV, Ext F1 F2 as1 as2 ∧ Rep X.K B F2 H as2 σ { S1 with mo := mo } ∧ F2 D = none ∧ D ∉ as2 ∧ H D = some (.lst accV) ∧ RpA X.K F2 accV acc ∧
    Out X.K W B F2 as2 σ (lcF (wipeL S1.sl own) T.k t e (ds.drop i) mo acc) fun ys F' H' as' S' => ∀ vs, (Rep X.K B F' H' as' σ { S1 with mo := S'.mo }) → F' D = none → D ∉ as' → H' D = some (.lst vs) → RpA X.K F' vs ys → Z H', ⟨ds.length, by simp, Nat.zero_le _, F1, as1, S1.mo, acc0, accV0, Ext.refl, r1, h1, h2, h3, h4, by rw [List.drop_zero]; exact o⟩, ?_⟩
  rintro i m H ⟨rfl, hle, F2, as2, mo, acc, accV, e2, r2, hF, hA, hH, hacc, o3⟩
  by_cases hlt : i < ds.length
  · refine .inr ⟨w.go i H hlt (e2.1.trans r2.fh), ?_⟩
    obtain ⟨d, hd⟩ : ∃ d, ds[i]? = some d := ⟨ds[i], by simp [hlt]⟩
    have hdrop : ds.drop i = d :: ds.drop (i + 1) := by
      rw [List.drop_eq_getElem_cons hlt]
      congr 1
      rw [List.getElem?_eq_getElem hlt] at hd
      exact Option.some.inj hd
    rw [hdrop] at o3
    refine ⟨fun H' => ∃ F2 as2 mo acc accV, Ext F1 F2 as1 as2 ∧ Rep X.K B F2 H' as2 σ { S1 with mo := mo } ∧ F2 D = none ∧ D ∉ as2 ∧ H' D = some (.lst accV) ∧ RpA X.K F2 accV acc ∧
      Out X.K W B F2 as2 σ (lcF (wipeL S1.sl own) T.k t e (ds.drop (i + 1)) mo acc) fun ys F' H' as' S' => ∀ vs, (Rep X.K B F' H' as' σ { S1 with mo := S'.mo }) → F' D = none → D ∉ as' → H' D = some (.lst vs) → RpA X.K F' vs ys → Z H', fun H' h => ⟨ds.length - (i + 1), by omega, rfl, hlt, h⟩, fun x H' hy => ?_⟩
    obtain ⟨d', hd', hx⟩ := w.yld i H x H' F2 hlt e2.1 r2.fh hy
    rw [hd] at hd'
    cases hd'
    have rh : Rep X.K (upd B D (.lst accV)) F2 H as2 σ { S1 with mo := mo } := r2.hold hH hF hA trivial
    -- the state at the turn
    obtain ⟨F3, e3, r3, hv3⟩ : ∃ F3, Ext F2 F3 as2 as2 ∧ Rep X.K (upd B D (.lst accV)) F3 H' as2 σ { S1 with mo := mo } ∧ Rp X.K F3 x d := by
      rcases hx with ⟨rfl, hx⟩ | ⟨T, ob, hT, rfl, hx⟩
      · exact ⟨F2, Ext.refl, rh, hx⟩
      · obtain ⟨ee, rr⟩ := rh.new hT ob
        exact ⟨_, ee, rr, hx⟩
    have r4 : Rep X.K (upd B D (.lst accV)) F3 H' as2 (wipe σ own) { sl := wipeL S1.sl own, mo := mo } := ⟨r3.fh, r3.bh, wipe_rp r3.sl own, r3.mo, r3.nd⟩
    unfold lcF at o3
    cases hk : T.k d { sl := wipeL S1.sl own, mo := mo } with
    | none => rw [hk] at o3; exact o3.elim
    | some S4 =>
      rw [hk] at o3
      dsimp only at o3
      refine T.run r4 hv3 hk fun σ4 r5 hw => ⟨by rw [hw own hi, wipe_wipe], ?_⟩
      refine ⟨_, F3, as2, S4, r5, ?_⟩
      cases ht : t S4 with
      | no => rw [ht] at o3; exact o3.elim
      | er x S5 => rw [ht] at o3; exact o3.elim
      | ok b S5 =>
        rw [ht] at o3
        intro F5 H5 as5 e5 r6
        cases b with
        | false =>
          show ∃ F2 as2 mo acc accV, _
          dsimp only at o3
          obtain ⟨r7, h7, h8, h9⟩ := (Rep.back r6 r3.sl e5).unhold f2
          have e25 := e3.trans e5
          exact ⟨F5, as5, S5.mo, acc, accV, e2.trans e25, r7, h8, h9, h7, hacc.up e25.1, by
            revert o3
            cases lcF (wipeL S1.sl own) T.k t e (ds.drop (i + 1)) S5.mo acc with
            | ok ys S' => exact fun o3 F' H' as' ee rr => o3 F' H' as' (e25.trans ee) rr
            | er y S' => exact fun o3 F' H' as' dx fs ee rr => o3 F' H' as' dx fs (e25.trans ee) rr
            | no => exact fun o3 => o3⟩
        | true =>
          show tD X.K W0 e σ4 H5 _
          dsimp only at o3
          refine ⟨_, F5, as5, S5, r6, ?_⟩
          cases he : e S5 with
          | no => rw [he] at o3; exact o3.elim
          | er x S6 => rw [he] at o3; exact o3.elim
          | ok y S6 =>
            rw [he] at o3
            dsimp only at o3
            split at o3
            · rename_i hlen
              intro F6 H6 as6 e6 r7 v hv
              obtain ⟨r8, h7, h8, h9⟩ := (Rep.back r7 r3.sl (e5.trans e6)).unhold f2
              have e26 := (e3.trans e5).trans e6
              refine ⟨accV, h7, Evl.sz_lt (by rw [hacc.length]; exact hlen), F6, as6, S6.mo, acc ++ [y], accV ++ [v], e2.trans e26, ?_, h8, h9, upd_same, (hacc.up e26.1).snoc hv, ?_⟩
              · refine ⟨fun a u hu => ?_, fun a u hu => ?_, r8.sl, ?_, r8.nd⟩
                · have n : a ≠ D := by
                    rintro rfl
                    rw [h8] at hu; cases hu
                  rw [upd_ne n]
                  exact r8.fh _ _ hu
                · have n : a ≠ D := by
                    rintro rfl
                    rw [f2] at hu; cases hu
                  rw [upd_ne n]
                  exact r8.bh a u hu
                · have : ∀ {xs : List Addr} {ys : List Mo}, (∀ a ∈ xs, a ≠ D) → Paired (MoR X.K B F6 H6) xs ys → Paired (MoR X.K B F6 (upd H6 D (.lst (accV ++ [v])))) xs ys := by
                    intro xs ys hn z
                    induction z with
                    | nil => exact .nil
                    | @cons a b l1 l2 z zs ih =>
                      refine .cons ?_ (ih fun a ha => hn a (List.mem_cons_of_mem _ ha))
                      cases b with
                      | ob ds =>
                        obtain ⟨z1, z2, ws, z3, z4⟩ := z
                        exact ⟨z1, z2, ws, by rw [upd_ne (hn _ List.mem_cons_self)]; exact z3, z4⟩
                      | fz d => exact z
                  exact this (fun a ha z => h9 (z ▸ ha)) r8.mo
              · revert o3
                cases lcF (wipeL S1.sl own) T.k t e (ds.drop (i + 1)) S6.mo (acc ++ [y]) with
                | ok ys S' => exact fun o3 F' H' as' ee rr => o3 F' H' as' (e26.trans ee) rr
                | er y S' => exact fun o3 F' H' as' dx fs ee rr => o3 F' H' as' dx fs (e26.trans ee) rr
                | no => exact fun o3 => o3
            · exact o3.elim
  · have e : i = ds.length := by omega
    subst e
    rw [List.drop_length] at o3
    unfold lcF at o3
    refine .inl ⟨w.stop H (e2.1.trans r2.fh), ?_⟩
    exact o3 F2 H as2 Ext.refl ⟨r2.fh, r2.bh, wipeL_rp r2.sl own, r2.mo, r2.nd⟩ accV r2 hF hA hH hacc
theorem Rep.newD {K : PySem.W.Frag} {B F1 H1 : Hp} {as1 : List Addr} {σ : L2.St} {S1 : Ms} (r1 : Rep K B F1 H1 as1 σ S1) {D : Addr} {o : HO} (hD : H1 D = none) : Rep K B F1 (upd H1 D o) as1 σ S1 := by
  refine ⟨fun a u hu => ?_, fun a u hu => ?_, r1.sl, r1.mo.mono fun a m z => ?_, r1.nd⟩
  · rw [upd_ne (ne_of_none (r1.fh _ _ hu) hD)]
    exact r1.fh _ _ hu
  · obtain ⟨z1, z2, z3⟩ := r1.bh a u hu
    exact ⟨by rw [upd_ne (ne_of_none z1 hD)]; exact z1, z2, z3⟩
  · cases m with
    | ob ds =>
      obtain ⟨z1, z2, ws, z3, z4⟩ := z
      exact ⟨z1, z2, ws, by rw [upd_ne (ne_of_none z3 hD)]; exact z3, z4⟩
    | fz d => exact z
def lcF2 (sl : List Sv) (k : Dt → Ms → Option Ms) (t : Ms → R Bool) (it1 : Ms → R (List Dt)) (k1 : Dt → Ms → Option Ms) (t1 : Ms → R Bool) (e : Ms → R Dt) (vs1 : List Nat) : List Dt → List Mo → List Dt → R (List Dt)
  | [], mo, acc => .ok acc { sl := sl, mo := mo }
  | d :: ds, mo, acc => match k d { sl := sl, mo := mo } with
    | none => .no
    | some S1 => match t S1 with
      | .ok false S2 => lcF2 sl k t it1 k1 t1 e vs1 ds S2.mo acc
      | .ok true S2 => (match it1 S2 with
        | .ok ds1 S3 => (match lcF (wipeL S3.sl vs1) k1 t1 e ds1 S3.mo acc with
          | .ok acc' S4 => lcF2 sl k t it1 k1 t1 e vs1 ds S4.mo acc'
          | _ => .no)
        | _ => .no)
      | _ => .no
def lcE2 (it : Ms → R (List Dt)) (k : Dt → Ms → Option Ms) (t : Ms → R Bool) (it1 : Ms → R (List Dt)) (k1 : Dt → Ms → Option Ms) (t1 : Ms → R Bool) (e : Ms → R Dt) (own vs1 : List Nat) : Ms → R (List Dt) := fun S => (it S).bind fun ds S1 => (lcF2 (wipeL S1.sl own) k t it1 k1 t1 e vs1 ds S1.mo []).bind fun ys S2 => .ok ys { sl := S1.sl, mo := S2.mo }
theorem lc2_run {X : Cx} {W : WX} {it it1 : Ms → R (List Dt)} {T T1 : Tk} {t t1 : Ms → R Bool} {e : Ms → R Dt} {own vs1 : List Nat} (hi : ∀ i ∈ T.is, i ∈ own) (hi1 : ∀ i ∈ T1.is, i ∈ vs1) {σ : L2.St} {H : Hp} {Q : VK}
    (q : tN X.K W (lcE2 it T.k t it1 T1.k t1 e own vs1) σ H Q) : tLc2 (tI X.K W it) (T.g X.K) (tT X.K W0 t) (tI X.K W0 it1) (T1.g X.K) (tT X.K W0 t1) (tD X.K W0 e) own vs1 σ H Q := by
  obtain ⟨B, F, as, S, r, o⟩ := q
  refine ⟨B, F, as, S, r, Out.mono (Out.bind o) fun ds F1 H1 as1 S1 ⟨r1, e1, o1⟩ J w => ?_⟩
  intro D hD
  obtain ⟨f1, f2, f3⟩ := r1.fresh hD
  have o2 := Out.bind o1
  refine ⟨fun i m H => m = ds.length - i ∧ i ≤ ds.length ∧ ∃ F2 as2 mo acc accV, Ext F1 F2 as1 as2 ∧ Rep X.K B F2 H as2 σ { S1 with mo := mo } ∧ F2 D = none ∧ D ∉ as2 ∧ H D = some (.lst accV) ∧ RpA X.K F2 accV acc ∧
    Out X.K W B F2 as2 σ (lcF2 (wipeL S1.sl own) T.k t it1 T1.k t1 e vs1 (ds.drop i) mo acc) fun ys F' H' as' S' => ∀ vs, (Rep X.K B F' H' as' σ { S1 with mo := S'.mo }) → F' D = none → D ∉ as' → H' D = some (.lst vs) → RpA X.K F' vs ys → Q (.ref D) H', ⟨ds.length, by simp, Nat.zero_le _, F1, as1, S1.mo, [], [], Ext.refl, r1.newD hD, f1, f3, upd_same, .nil, ?_⟩, ?_⟩
  · refine Out.mono o2 fun ys F' H' as' S' ⟨r', e', o3⟩ vs r'' hF hA hH hv => ?_
    exact o3 F' H' as' Ext.refl r'' D vs hF f2 hA hH hv
  · rintro i m H ⟨rfl, hle, F2, as2, mo, acc, accV, e2, r2, hF, hA, hH, hacc, o3⟩
    by_cases hlt : i < ds.length
    · refine .inr ⟨w.go i H hlt (e2.1.trans r2.fh), ?_⟩
      obtain ⟨d, hd⟩ : ∃ d, ds[i]? = some d := ⟨ds[i], by simp [hlt]⟩
      have hdrop : ds.drop i = d :: ds.drop (i + 1) := by
        rw [List.drop_eq_getElem_cons hlt]
        congr 1
        rw [List.getElem?_eq_getElem hlt] at hd
        exact Option.some.inj hd
      rw [hdrop] at o3
      refine ⟨fun H' => ∃ F2 as2 mo acc accV, Ext F1 F2 as1 as2 ∧ Rep X.K B F2 H' as2 σ { S1 with mo := mo } ∧ F2 D = none ∧ D ∉ as2 ∧ H' D = some (.lst accV) ∧ RpA X.K F2 accV acc ∧
        Out X.K W B F2 as2 σ (lcF2 (wipeL S1.sl own) T.k t it1 T1.k t1 e vs1 (ds.drop (i + 1)) mo acc) fun ys F' H' as' S' => ∀ vs, (Rep X.K B F' H' as' σ { S1 with mo := S'.mo }) → F' D = none → D ∉ as' → H' D = some (.lst vs) → RpA X.K F' vs ys → Q (.ref D) H', fun H' h => ⟨ds.length - (i + 1), by omega, rfl, hlt, h⟩, fun x H' hy => ?_⟩
      obtain ⟨d', hd', hx⟩ := w.yld i H x H' F2 hlt e2.1 r2.fh hy
      rw [hd] at hd'
      cases hd'
      have rh : Rep X.K (upd B D (.lst accV)) F2 H as2 σ { S1 with mo := mo } := r2.hold hH hF hA trivial
      -- the state at the turn
      obtain ⟨F3, e3, r3, hv3⟩ : ∃ F3, Ext F2 F3 as2 as2 ∧ Rep X.K (upd B D (.lst accV)) F3 H' as2 σ { S1 with mo := mo } ∧ Rp X.K F3 x d := by
        rcases hx with ⟨rfl, hx⟩ | ⟨T, ob, hT, rfl, hx⟩
        · exact ⟨F2, Ext.refl, rh, hx⟩
        · obtain ⟨ee, rr⟩ := rh.new hT ob
          exact ⟨_, ee, rr, hx⟩
      have r4 : Rep X.K (upd B D (.lst accV)) F3 H' as2 (wipe σ own) { sl := wipeL S1.sl own, mo := mo } := ⟨r3.fh, r3.bh, wipe_rp r3.sl own, r3.mo, r3.nd⟩
      unfold lcF2 at o3
      cases hk : T.k d { sl := wipeL S1.sl own, mo := mo } with
      | none => rw [hk] at o3; exact o3.elim
      | some S4 =>
        rw [hk] at o3
        dsimp only at o3
        refine T.run r4 hv3 hk fun σ4 r5 hw => ⟨by rw [hw own hi, wipe_wipe], ?_⟩
        refine ⟨_, F3, as2, S4, r5, ?_⟩
        cases ht : t S4 with
        | no => rw [ht] at o3; exact o3.elim
        | er x S5 => rw [ht] at o3; exact o3.elim
        | ok b S5 =>
          rw [ht] at o3
          intro F5 H5 as5 e5 r6
          cases b with
          | false =>
            show ∃ F2 as2 mo acc accV, _
            dsimp only at o3
            obtain ⟨r7, h7, h8, h9⟩ := (Rep.back r6 r3.sl e5).unhold f2
            have e25 := e3.trans e5
            exact ⟨F5, as5, S5.mo, acc, accV, e2.trans e25, r7, h8, h9, h7, hacc.up e25.1, by
              revert o3
              cases lcF2 (wipeL S1.sl own) T.k t it1 T1.k t1 e vs1 (ds.drop (i + 1)) S5.mo acc with
              | ok ys S' => exact fun o3 F' H' as' ee rr => o3 F' H' as' (e25.trans ee) rr
              | er y S' => exact fun o3 F' H' as' dx fs ee rr => o3 F' H' as' dx fs (e25.trans ee) rr
              | no => exact fun o3 => o3⟩
          | true =>
            show tI X.K W0 it1 σ4 H5 _
            dsimp only at o3
            refine ⟨_, F5, as5, S5, r6, ?_⟩
            cases hit : it1 S5 with
            | no => rw [hit] at o3; exact o3.elim
            | er x S6 => rw [hit] at o3; exact o3.elim
            | ok ds1 S6 =>
              rw [hit] at o3
              dsimp only at o3
              intro F6 H6 as6 e6 r7 J1 w1
              obtain ⟨r8, h7, h8, h9⟩ := r7.unhold f2
              have e26 := (e3.trans e5).trans e6
              refine lc_coreA (W := W) hi1 f2 r8 h8 h9 h7 (hacc.up e26.1) w1 ?_
              cases hl : lcF (wipeL S6.sl vs1) T1.k t1 e ds1 S6.mo acc with
              | no => rw [hl] at o3; exact o3.elim
              | er x S7 => rw [hl] at o3; exact o3.elim
              | ok acc' S7 =>
                rw [hl] at o3
                dsimp only at o3
                intro F7 H7 as7 e7 r9 vs r10 q1 q2 q3 q4
                have e27 := e26.trans e7
                refine ⟨F7, as7, S7.mo, acc', vs, e2.trans e27, Rep.back (S := { sl := S6.sl, mo := S7.mo }) r10 r3.sl ((e5.trans e6).trans e7), q1, q2, q3, q4, ?_⟩
                revert o3
                cases lcF2 (wipeL S1.sl own) T.k t it1 T1.k t1 e vs1 (ds.drop (i + 1)) S7.mo acc' with
                | ok ys S' => exact fun o3 F' H' as' ee rr => o3 F' H' as' (e27.trans ee) rr
                | er y S' => exact fun o3 F' H' as' dx fs ee rr => o3 F' H' as' dx fs (e27.trans ee) rr
                | no => exact fun o3 => o3
    · have e : i = ds.length := by omega
      subst e
      rw [List.drop_length] at o3
      unfold lcF2 at o3
      refine .inl ⟨w.stop H (e2.1.trans r2.fh), ?_⟩
      exact o3 F2 H as2 Ext.refl ⟨r2.fh, r2.bh, wipeL_rp r2.sl own, r2.mo, r2.nd⟩ accV r2 hF hA hH hacc
section
variable {X : Cx} {W : WX} {T T1 : Tk} {it it1 : Ms → R (List Dt)} {t t1 : Ms → R Bool} {fe : Ms → R Dt} {own : List (Str × Nat)} {y : Str} {elt tg iter tg1 iter1 : Expr} {ifs ifs1 : List Expr} {scope : Scope} {pos : Pos} {i : Nat}
theorem ds_lc2N {py spos : Pos} (hc : X.calm = true) (hN : X.N.Nodup) (hy : X.N[i]? = some y) (hyl : X.env.scope.names.lookup y = some .local)
    (hsw : swapsWith (.ListComp elt [⟨tg, iter, ifs, 0⟩, ⟨tg1, iter1, ifs1, 0⟩] scope pos) (some (.Name y py)) spos.line X.env = pure true) (hi : PI X tg iter (tI X.K W it)) (ok : BlkOk X.N X.env.scope scope own) {vs vs1 : List Nat} (hsub : ∀ i ∈ T.is, i ∈ vs) (hsub1 : ∀ i ∈ T1.is, i ∈ vs1) (hv : ∀ i ∈ vs1, i ∈ vs)
    (hg : ∀ (s : Shared) (H : Hp) (C : Addr) (cl : List (Str × Addr)) (fp : List Addr), DG (X.blk s H scope (compEnvC scope cl C X.env) fp) tg T) (ht : ∀ (s : Shared) (H : Hp) (C : Addr) (cl : List (Str × Addr)) (fp : List Addr), PTs (X.blk s H scope (compEnvC scope cl C X.env) fp) ifs (tT X.K W0 t))
    (hi1 : ∀ (s : Shared) (H : Hp) (C : Addr) (cl : List (Str × Addr)) (fp : List Addr), PI (X.blk s H scope (compEnvC scope cl C X.env) fp) tg1 iter1 (tI X.K W0 it1))
    (hg1 : ∀ (s : Shared) (H : Hp) (C : Addr) (cl : List (Str × Addr)) (fp : List Addr), DG (X.blk s H scope (compEnvC scope cl C X.env) fp) tg1 T1) (ht1 : ∀ (s : Shared) (H : Hp) (C : Addr) (cl : List (Str × Addr)) (fp : List Addr), PTs (X.blk s H scope (compEnvC scope cl C X.env) fp) ifs1 (tT X.K W0 t1))
    (he : ∀ (s : Shared) (H : Hp) (C : Addr) (cl : List (Str × Addr)) (fp : List Addr), PE (X.blk s H scope (compEnvC scope cl C X.env) fp) elt (tD X.K W0 fe)) (hs : ∀ x, foldedSetIterable iter X.env x = pure x := by intro _; rfl) (hs1 : ∀ env x, foldedSetIterable iter1 env x = pure x := by intro _ _; rfl) (hvs : own.map (·.2) = vs := by rfl) :
    PS X (.Assign [.Name y py] (.ListComp elt [⟨tg, iter, ifs, 0⟩, ⟨tg1, iter1, ifs1, 0⟩] scope pos) spos) (sD X.K W (asgN i (lcE2 it T.k t it1 T1.k t1 fe vs vs1))) := by
  subst hvs
  exact ⟨fun pins s σ H D I q => (ps_setLc2 hc hN hy hyl hsw hi ok hv (fun s H C cl fp => (hg s H C cl fp).pg) ht hi1 (fun s H C cl fp => (hg1 s H C cl fp).pg) ht1 he hs hs1).run pins s σ H D I (lc2_run (Q := fun x H1 => D.nx (σ.set i (some x)) H1) hsub hsub1 (asgN_run q))⟩
end
end Lq

namespace Lq
open PySem PySem.Spec PyProof.Rows L2 GenW
open Evl (Ex)
theorem defOkY {P : Program} {w : World} {K : PySem.W.Frag} {mg : Str → Option Value} {base : Heap} {x qual : Str} {st : Stmt} {f : Addr} {fd : FuncData} {N ps : List Str} {k i : Nat} {m : Ms → O} {ss : List Stmt} {e : Expr} {yp pos : Pos} (F : Fun K x qual st f fd) (S : GScope N ps (defScope st))
    (hst : defBody st = ss ++ [.Expr (.YieldFrom e yp) pos]) (hi : ∀ (n : Addr) (f : Addr) (cd : Value), interactive (envOfC qual (defScope st) n f cd) = false)
    (hbody : ∀ (cdv : Value) (A : Around) (outer : List Env) (s : Shared) (H : Hp) (pn : List (Addr × Obj)), Room k (A.deeper (envOfC qual (defScope st) s.heap.objs.size f cdv)) →
      PSs (gcxOf P w K mg base N qual (defScope st) f cdv A outer s H noX pn) ss (sD K (fun cls d _ H' => noX cls d H') m) ∧ PE (gcxOf P w K mg base N qual (defScope st) f cdv A outer s H noX pn) e (tVar i)) :
    GFnY P w K mg base (k + 1) f fd ps (spG K ps.length (runN N.length (seqN m (retNV i)))) := by
  obtain ⟨oc, od, kV, doc, pm, an, cdv, ct, osl, rfl, lk, hcd⟩ := F.ex
  rw [hst] at lk ⊢
  refine gfnY_of lk hcd S hi fun A outer s H pn hr => ?_
  obtain ⟨h1, h2⟩ := hbody cdv A outer s H pn hr
  refine ⟨_, _, h1, h2, fun vs H2 Q q => ?_⟩
  obtain ⟨B, F0, ds, hn, e0, kp, hv, q⟩ := q
  refine ⟨B, F0, [], st0 N.length ds, ⟨e0, kp, ?_, .nil, List.nodup_nil⟩, ?_⟩
  · unfold L2.start st0
    rw [hv.length]
    exact paired_im hv (paired_no _)
  · unfold runN seqN at q
    revert q
    cases m (st0 N.length ds) with
    | nx S' =>
      intro q σ' F' H' as' e' r
      dsimp only at q
      unfold retNV at q
      cases hm : muAt S' i with
      | none => rw [hm] at q; exact q.elim
      | some km =>
        rw [hm] at q
        obtain ⟨kk, zs⟩ := km
        obtain ⟨p, ws, hp, hmo, ha, _, _, hH, hvs⟩ := muAt_rp r hm
        obtain ⟨a, F1, ha', e1, r1, rp⟩ := r.freeze hmo
        rw [ha] at ha'; cases ha'
        refine ⟨_, hp, p, ws, rfl, hH, ?_⟩
        have e01 : Ex F0 F1 := e'.1.trans e1.1
        cases rp with
        | @lst _ xs' _ hs hz =>
          have : xs' = ws := by
            have := r1.fh _ _ hs
            rw [hH] at this
            cases this; rfl
          subst this
          exact q p xs' F1 H' e01 r1.fh r1.bh hs hz
    | rt d S' => exact fun q => q.elim
    | er e S' => exact fun q => q.elim
    | bk S' => exact fun q => q.elim
    | ct S' => exact fun q => q.elim
    | no => exact fun q => q.elim
section
variable {X : Cx} {W : WX} {a b e o ix : Expr} {pos p p2 tpos : Pos} {f g : Ms → R Dt} {i : Nat} {x : Str}
def isi2O (T U : String) (d : Dt) : Option Dt := (tyN d).bind fun n => (kitB n T).bind fun b => (kitB n U).map fun c => .bl (b || c)
theorem de_isi2 {T U : String} {y z : Str} {k1 : Nat} {py pz : Pos} (hT : bootBuiltins y = some (.type T)) (hU : bootBuiltins z = some (.type U)) (hg : Gl X "isinstance") (hm : X.mg "isinstance" = none) (hgT : Gl X y) (hmT : X.mg y = none) (hgU : Gl X z) (hmU : X.mg z = none) (ha : PE X a (tD X.K W f))
    (hyn : y ≠ "__name__" := by decide) (hyd : (y == ("__debug__" : Str)) = false := by decide) (hzn : z ≠ "__name__" := by decide) (hzd : (z == ("__debug__" : Str)) = false := by decide)
    (ht : starEach [.Name y py, .Name z pz] X.env = (false, eval (.Name y py) X.env) :: starEach [.Name z pz] X.env := by rfl) (ht2 : starEach [.Name z pz] X.env = (false, eval (.Name z pz) X.env) :: starEach [] X.env := by rfl)
    (hs : ∀ t k q, starEach [a, .Tuple t k q] X.env = (false, eval a X.env) :: starEach [.Tuple t k q] X.env := by intros; rfl) (hs2 : ∀ t k q, starEach [.Tuple t k q] X.env = (false, eval (.Tuple t k q) X.env) :: starEach [] X.env := by intros; rfl) (hpl : ∀ t k q, (backTo pos (starEach [.Tuple t k q] X.env)).any (·.1) = false := by intros; rfl) :
    PE X (.Call (.Name "isinstance" p) [a, .Tuple [.Name y py, .Name z pz] k1 tpos] [] pos) (tD X.K W (op1 f (isi2O T U))) := by
  have hy : PE X (.Name y py) (tC (.ty T)) := pe_bltn hgT hmT hT rfl hyn hyd
  have hz : PE X (.Name z pz) (tC (.ty U)) := pe_bltn hgU hmU hU rfl hzn hzd
  refine monoE (pe_callB call_isiT hg hm (by decide +kernel) (pa_cons ha (pa_cons (pe_tup (pa_cons hy (pa_cons hz pa_nil ht2) ht)) pa_nil (hs2 _ _ _)) (hs _ _ _)) (by decide) (by decide) (hs _ _ _) (hpl _ _ _)) fun σ H Q q => ?_
  obtain ⟨B, F, as, S, r, o⟩ := q
  refine ⟨B, F, as, S, r, Out.mono (Out.bind o) fun d F1 H1 as1 S1 ⟨r1, e1, o1⟩ v hv => ?_⟩
  refine ⟨(by decide : 2 ≤ sizeLine), fun tp htp => ?_⟩
  show rIsiT X.K [v, .ref tp] _ Q
  unfold isi2O at o1
  cases hn : tyN d with
  | none => rw [hn] at o1; exact o1.elim
  | some n =>
    rw [hn] at o1
    dsimp only [Option.bind] at o1
    cases hk : kitB n T with
    | none => rw [hk] at o1; exact o1.elim
    | some k =>
      rw [hk] at o1
      dsimp only at o1
      cases hk2 : kitB n U with
      | none => rw [hk2] at o1; exact o1.elim
      | some k2 =>
        rw [hk2] at o1
        obtain ⟨e2, r2⟩ := r1.new htp (.tup [.ty T, .ty U])
        refine ⟨v, tp, _, .type n, [.type T, .type U], k || k2, rfl, upd_same, .cons (.ty T) (.cons (.ty U) .nil), tyx_of r2.fh (hv.up e2.1) hn, ?_, Out.now (o1.later e2) r2 _ (.bl _)⟩
        unfold PySem.W.kitAny
        rw [kit_ty hk]
        cases k with
        | true => rfl
        | false =>
          dsimp only
          unfold PySem.W.kitAny
          rw [kit_ty hk2]
          cases k2 <;> rfl
theorem de_gtup {q : Addr} {ds : List Dt} {vs : List V} {its : Array Value} {n : Nat} {dd : Option Addr} {sl : Array (Option Value)} (hg : Gl X x) (hm : X.mg x = some (.ref q)) (hk : X.K.lookup q = some ⟨.type "tuple", dd, .seq its n, sl⟩) (hz : its.size ≤ sizeLine) (hv : Vals vs its.toList) (hr : ∀ F, RpA X.K F vs ds)
    (hdb : (x == ("__debug__" : Str)) = false := by decide) : PE X (.Name x pos) (tD X.K W (cE (.scr true ds))) :=
  de_c (pe_glob (v := .ref q) hg hm rfl hdb) fun F => .scr true (show SqT X.K F q vs from .inr ⟨_, its, n, hk, rfl, rfl, hz, hv⟩) (hr F)
def KTup (K : PySem.W.Frag) (mg : Str → Option Value) (x : Str) (ds : List Dt) : Prop := ∃ (q : Addr) (dd : Option Addr) (its : Array Value) (n : Nat) (sl : Array (Option Value)) (vs : List V),
  mg x = some (.ref q) ∧ K.lookup q = some ⟨.type "tuple", dd, .seq its n, sl⟩ ∧ its.size ≤ sizeLine ∧ Vals vs its.toList ∧ ∀ F, RpA K F vs ds
theorem de_ktup {ds : List Dt} (h : KTup X.K X.mg x ds) (hg : Gl X x) (hdb : (x == ("__debug__" : Str)) = false := by decide) : PE X (.Name x pos) (tD X.K W (cE (.scr true ds))) := by
  obtain ⟨q, dd, its, n, sl, vs, h1, h2, h3, h4, h5⟩ := h
  exact de_gtup hg h1 h2 h3 h4 h5 hdb
theorem de_gint {t : Tok} {n : Int} (hg : Gl X x) (hm : X.mg x = some (.int n t)) (hdb : (x == ("__debug__" : Str)) = false := by decide) : PE X (.Name x pos) (tD X.K W (cE (.int n))) := de_c (pe_glob (v := .int n) hg hm ⟨t, rfl⟩ hdb) fun _ => .int n
end
end Lq

namespace Lq
open PySem PySem.Spec PyProof.Rows L2
open Evl (Ex)
def wG (K : PySem.W.Frag) (Wout : WX) (D : Ends) : List (Value × Option Nat × (Addr → Value → Option Addr → TS)) → WX
  | [] => Wout
  | (c, none, ts) :: r => fun cls d σ H => ∃ b, PySem.W.exmOne K cls c = some b ∧ (b = true → ∀ a, H a = none → ts a cls d D σ H) ∧ (b = false → wG K Wout D r cls d σ H)
  | (c, some i, ts) :: r => wAs K c i ts (wG K Wout D r) D
inductive HdG (X : Cx) : List ExceptHandler → List (Value × Option Nat × (Addr → Value → Option Addr → TS)) → Prop
  | nil : HdG X [] []
  | cons {x : Str} {c : Value} {ts : Addr → Value → Option Addr → TS} {b₀ : Stmt} {suite : List Stmt} {np pos' : Pos} {hds : List ExceptHandler} {l : List (Value × Option Nat × (Addr → Value → Option Addr → TS))} (hc : Names X x c)
      (hsu : ∀ (a : Addr) (oe : Obj) (cls : Value) (d : Option Addr) (pn : List (Addr × Obj)), Zc cls d oe → (∃ vs, oe.data = Data.fields vs) → PSs (X.suite a ((a, oe) :: pn)) (b₀ :: suite) (ts a cls d)) (r : HdG X hds l) :
      HdG X (.ExceptHandler (some (.Name x np)) none (b₀ :: suite) pos' :: hds) ((c, none, ts) :: l)
  | nam {i : Nat} {x n : Str} {c : Value} {ts : Addr → Value → Option Addr → TS} {b₀ : Stmt} {suite : List Stmt} {np pos' : Pos} {hds : List ExceptHandler} {l : List (Value × Option Nat × (Addr → Value → Option Addr → TS))} (hN : X.N.Nodup) (hi : X.N[i]? = some n) (hln : X.env.kindOf n = some NameKind.local) (hc : Names X x c)
      (hsu : ∀ (a : Addr) (oe : Obj) (cls : Value) (d : Option Addr) (pn : List (Addr × Obj)), Zc cls d oe → (∃ vs, oe.data = Data.fields vs) → PSs (X.suite a ((a, oe) :: pn)) (b₀ :: suite) (ts a cls d)) (r : HdG X hds l) :
      HdG X (.ExceptHandler (some (.Name x np)) (some n) (b₀ :: suite) pos' :: hds) ((c, some i, ts) :: l)
theorem ps_tryH {X : Cx} {body : List Stmt} {pos : Pos} {tb : WX → TS} {Wout : WX} {h₀ : ExceptHandler} {hds : List ExceptHandler} {l : List (Value × Option Nat × (Addr → Value → Option Addr → TS))}
    (hs : X.stack = X.env :: X.outer) (hf : X.env.frame = some X.env.locals) (tk : Takes X Wout)
    (hb : ∀ (W : WX) (pn : List (Addr × Obj)) (xe : Value → Shared → Prop), Takes (X.tr pn xe) W → PassesOwn (model X.prog X.w) X.A X.env xe → PSs (X.tr pn xe) body (tb W)) (hh : HdG X (h₀ :: hds) l) :
    PS X (Stmt.Try body (h₀ :: hds) [] [] pos) fun D σ H => tb (wG X.K Wout D l) D σ H := by
  refine ⟨fun pins s σ H D I h => ?_⟩
  have ok := I.ok
  have hfr := ok.frames
  rw [hs] at hfr
  refine wpAny_Try_except (wpAny_mono ((hb (wG X.K Wout D l) (X.pn ++ pins) (fun e s₁ => wpAny (model X.prog X.w) X.A (noteFrame e X.env) (fun _ s₂ => wpAny (model X.prog X.w) X.A (setFlight e none) (fun _ s₃ => wpAny (model X.prog X.w) X.A (handleBy e X.env (h₀ :: hds)) (SP X pins D) X.xe s₃) X.xe s₂) X.xe s₁) (fun u s' xx => ?_) PassesOwn.looking).run [] s σ H D (Inv.toTry I _) h) (fun f s1 hsp => ?_) (fun e s1 he => he))
  · obtain ⟨a, B, sI, pins', σ', H', cls, d, rfl, J', nb, up, sky, na, os, ag, w⟩ := xx
    have J := Inv.ofTry J' ok
    have sky' : Sky B (X.env :: X.outer) a (Zc cls d) X.env.locals s'.heap := by rw [← hs]; exact sky
    show wpAny _ _ _ _ _ _
    refine Sky.land Zc.steady hfr hf sky' fun h3 fl3 up3 => ?_
    have J3 : L2.Inv X pins σ' H' { s' with heap := h3 } := Inv.landed J nb fl3.left (Heap.UpToSlots.trans up up3) os ag
    obtain ⟨oe3, vs3, he3, hz3, hd3⟩ := HandSPX.FlyingZ.there fl3
    have nfr : ¬ a ∈ (X.env :: X.outer).filterMap (·.frame) := fun hm => by
      obtain ⟨_, o', e', hnf⟩ := Heap.FunFrames.mem fl3.right.right.left hm
      rw [he3] at e'
      cases e'
      exact hnf vs3 hd3
    have nL : a ≠ X.env.locals := fun z => nfr (List.mem_filterMap.mpr ⟨X.env, List.mem_cons_self, by show X.env.frame = some a; rw [hf, z]⟩)
    have nF : ¬ a ∈ X.outer.filterMap (·.frame) := fun hm => by
      obtain ⟨e, he, q⟩ := List.mem_filterMap.mp hm
      exact nfr (List.mem_filterMap.mpr ⟨e, List.mem_cons_of_mem X.env he, q⟩)
    have S3 := Inv.suite J3 he3 hd3 na nL nF
    have go : ∀ {hds' : List ExceptHandler} {l' : List (Value × Option Nat × (Addr → Value → Option Addr → TS))}, HdG X hds' l' → wG X.K Wout D l' cls d σ' H' → wpAny (model X.prog X.w) X.A (handleBy (Value.ref a) X.env hds') (SP X pins D) X.xe { s' with heap := h3 } := by
      intro hds' l' hk
      induction hk with
      | nil =>
        intro w
        refine wpAny_handleBy_nil ?_
        obtain ⟨k1, k2, k3, oe, vs, T, oT, ts', he, hz, hd, h1, hr⟩ := id fl3
        refine wpAny_bind (wpAny_field he hd h1 ?_)
        rw [if_neg (by simp)]
        refine wpAny_bind ?_
        rw [hf]
        exact HandSPX.setFlight_upZ fl3 fun h4 hh4 up4 => wpAny_throw (tk (Value.ref a) _ ⟨a, B, sI, pins, σ', H', cls, d, rfl, J, nb, Heap.UpToSlots.trans (Heap.UpToSlots.trans up up3) up4, Or.inr (Or.inr (by rw [hs]; exact hh4)), na, os, ag, w⟩)
      | cons hc hsu r ih =>
        intro w
        obtain ⟨b, hb1, hyes, hno⟩ := w
        refine wpAny_handleBy_cons (codeAny_handlers_test ?_) (fun q => nomatch q)
        have LM := W.exm_one (M := model X.prog X.w) (Inv.kIn J3) (fun A Q E s k q => wpAny_typeOf_ref (k a oe3 he3) (by rw [hz3.left]; exact q)) hb1
        obtain ⟨hg, hdbg, hm⟩ := hc
        suffices hq : _ from hm.elim (fun hm => ld_glob S3 hg hm (W.Looks.here LM hq) hdbg) (fun hm => ld_blt S3 hg hm.1 hm.2.1 (W.Looks.here LM hq) hm.2.2 hdbg)
        cases b with
        | false => exact ih (hno rfl)
        | true =>
          refine codeAny_handlers_suite (HandSPX.lands_againZ fl3 fun h4 fl4 up4 => ?_)
          have J4 : L2.Inv X pins σ' H' { s' with heap := h4 } := Inv.landed J nb fl4.left (Heap.UpToSlots.trans (Heap.UpToSlots.trans up up3) up4) os ag
          obtain ⟨oe4, vs4, he4, hz4, hd4⟩ := HandSPX.FlyingZ.there fl4
          have S4 := Inv.suite J4 he4 hd4 na nL nF
          refine wpAny_mono ((hsu a oe4 cls d (X.pn ++ pins) hz4 ⟨vs4, hd4⟩).run [] _ σ' H' D S4 (hyes rfl a na)) (fun f s6 hsp => ?_) (fun _ _ z => z.elim)
          cases f with
          | ret u => obtain ⟨v6, σ6, H6, S6, r6, q6⟩ := hsp; exact ⟨v6, σ6, H6, Inv.unsuite S6 ok, r6, q6⟩
          | _ => obtain ⟨σ6, H6, S6, q6⟩ := hsp; exact ⟨σ6, H6, Inv.unsuite S6 ok, q6⟩
      | nam hN hi hln hc hsu r ih =>
        rename_i i _ _ _ _ _ _ _ _ _ _
        intro w
        obtain ⟨b, hb1, hyes, hno⟩ := w
        refine wpAny_handleBy_cons (codeAny_handlers_test ?_) (fun q => nomatch q)
        have LM := W.exm_one (M := model X.prog X.w) (Inv.kIn J3) (fun A Q E s k q => wpAny_typeOf_ref (k a oe3 he3) (by rw [hz3.left]; exact q)) hb1
        obtain ⟨hg, hdbg, hm⟩ := hc
        suffices hq : _ from hm.elim (fun hm => ld_glob S3 hg hm (W.Looks.here LM hq) hdbg) (fun hm => ld_blt S3 hg hm.1 hm.2.1 (W.Looks.here LM hq) hm.2.2 hdbg)
        cases b with
        | false => exact ih (hno rfl)
        | true =>
          refine codeAny_handlers_suite_as (HandSPX.lands_againZ fl3 fun h4 fl4 up4 => ?_)
          have J4 : L2.Inv X pins σ' H' { s' with heap := h4 } := Inv.landed J nb fl4.left (Heap.UpToSlots.trans (Heap.UpToSlots.trans up up3) up4) os ag
          obtain ⟨oe4, vs4, he4, hz4, hd4⟩ := HandSPX.FlyingZ.there fl4
          have S4 := Inv.suite J4 he4 hd4 na nL nF
          refine store_ok (X := X.suite a ((a, oe4) :: (X.pn ++ pins))) S4 hN hi (Or.inl hln) (show L2.RelV (V.ref a) (Value.ref a) from rfl) (fun s5 S5 => ?_) (Or.inr hln)
          refine wpAny_mono ((hsu a oe4 cls d (X.pn ++ pins) hz4 ⟨vs4, hd4⟩).run [] s5 (σ'.set i (some (V.ref a))) H' { nx := fun σ' H' => D.nx (List.set σ' i none) H', rt := D.rt, bk := fun σ' H' => D.bk (List.set σ' i none) H', ct := fun σ' H' => D.ct (List.set σ' i none) H' } S5 (hyes rfl a na)) (fun f s6 hsp => ?_) (fun _ _ z => z.elim)
          cases f with
          | ret u => obtain ⟨v6, σ6, H6, S6, r6, q6⟩ := hsp; exact gone_ok (Inv.unsuite S6 ok) hN hi hln fun s7 J7 => ⟨v6, σ6.set i none, H6, J7, r6, q6⟩
          | _ => obtain ⟨σ6, H6, S6, q6⟩ := hsp; exact gone_ok (Inv.unsuite S6 ok) hN hi hln fun s7 J7 => ⟨σ6.set i none, H6, J7, q6⟩
    exact go hh w
  · cases f with
    | next => obtain ⟨σ', H', J', q⟩ := hsp; exact wpAny_execs_nil ⟨σ', H', Inv.ofTry J' ok, q⟩
    | ret u => obtain ⟨v, σ', H', J', r, q⟩ := hsp; exact ⟨v, σ', H', Inv.ofTry J' ok, r, q⟩
    | _ => obtain ⟨σ', H', J', q⟩ := hsp; exact ⟨σ', H', Inv.ofTry J' ok, q⟩

inductive Hk where | st (h : Ms → O) | rf (f : Str) (i : Nat) | ap (f : Str) (i j : Nat)
structure Hc where
  C : Addr
  yes : List Addr
  nos : List Addr
  k : Hk
def runH (k : Hk) (e : Er) (S : Ms) : O := match k with
  | .st h => (match h S with | .er _ _ => .no | o => o)
  | .rf f i => if e.ks = [f] ∧ i < S.sl.length then (match e.ds with | [d] => .rt d S | _ => .no) else .no
  | .ap f i j => if e.ks = [f] ∧ i < S.sl.length ∧ i ≠ j then (match e.ds with
    | [d] => (match muAt S j with | some (k, xs) => if xs.length < 100000 then .nx { sl := S.sl.set i .no, mo := S.mo.set k (.ob (.ls (xs ++ [d]))) } else .no | none => .no)
    | _ => .no) else .no
def catchX : List Hc → Er → Ms → O
  | [], e, S => .er e S
  | c :: r, e, S => if e.C ∈ c.yes then runH c.k e S else if e.C ∈ c.nos then catchX r e S else .no
def tryX (cs : List Hc) (m : Ms → O) : Ms → O := fun S => match m S with | .er e S1 => catchX cs e S1 | o => o
def Hk.ts (K : PySem.W.Frag) (C : Addr) : Hk → Addr → Value → Option Addr → TS
  | .st h => fun _ _ _ => sD K W0 h
  | .rf f i => fun a cls d D σ H => ∃ dx, cls = .ref C ∧ d = some dx ∧ tRet (tXf a (.ref C) (some dx) C f (tVar i)) D σ H
  | .ap f i j => fun a cls d D σ H => ∃ dx, cls = .ref C ∧ d = some dx ∧ ∃ p xs fs v, σ[j]? = some (some (.ref p)) ∧ H p = some (.lst xs) ∧ xs.length < sizeLine ∧ σ[i]? = some (some (.ref a)) ∧ H dx = some (.xd fs) ∧ fs.lookup f = some v ∧ D.nx σ (upd H p (.lst (xs ++ [v])))
def Hk.sl : Hk → Option Nat | .st _ => none | .rf _ i => some i | .ap _ i _ => some i
structure HcOk (K : PySem.W.Frag) (c : Hc) : Prop where
  yes : ∀ A ∈ c.yes, PySem.W.exmOne K (.ref A) (.ref c.C) = some true
  nos : ∀ A ∈ c.nos, PySem.W.exmOne K (.ref A) (.ref c.C) = some false
  sole : c.k.sl ≠ none → ∀ A ∈ c.yes, A = c.C
theorem caught {K : PySem.W.Frag} {W : WX} {D : Ends} {B F : Hp} {as : List Addr} : ∀ {cs : List Hc} {e : Er} {S1 : Ms}, (∀ c ∈ cs, HcOk K c) → OutS K W B F as (catchX cs e S1) D → ∀ σ', OutE K (wG K W D (cs.map fun c => (.ref c.C, c.k.sl, c.k.ts K c.C))) B F as σ' e S1
  | [], _, _, _, o => o
  | c :: cs, e, S1, hc, o => by
    intro σ' F' H' as' dx fs e' r' hd hk hv'
    have ok := hc c List.mem_cons_self
    unfold catchX at o
    split at o
    · rename_i hy
      have e1 := ok.yes _ hy
      cases hkk : c.k with
      | st h =>
        rw [hkk] at o
        show (wG K W D ((.ref c.C, c.k.sl, c.k.ts K c.C) :: _)) (.ref e.C) dx σ' H'
        rw [hkk]
        refine ⟨true, e1, fun _ a na => ⟨B, F', as', S1, r', ?_⟩, fun z => nomatch z⟩
        unfold runH at o
        dsimp only at o
        revert o
        cases h S1 with
        | er x S2 => exact fun o => o.elim
        | nx S2 => exact fun o => OutS.ext (K := K) (W := W0) (o := .nx S2) o e'
        | rt d S2 => exact fun o => OutS.ext (K := K) (W := W0) (o := .rt d S2) o e'
        | bk S2 => exact fun o => OutS.ext (K := K) (W := W0) (o := .bk S2) o e'
        | ct S2 => exact fun o => OutS.ext (K := K) (W := W0) (o := .ct S2) o e'
        | no => exact fun o => o.elim
      | rf f i =>
        have hC : e.C = c.C := ok.sole (by rw [hkk]; exact fun z => nomatch z) _ hy
        rw [hkk] at o
        show (wG K W D ((.ref c.C, c.k.sl, c.k.ts K c.C) :: _)) (.ref e.C) dx σ' H'
        rw [hkk, hC]
        rw [hC] at e1
        unfold runH at o
        dsimp only at o
        split at o
        · rename_i hcc
          obtain ⟨h2, h3⟩ := hcc
          split at o
          · rename_i d hds
            rw [h2] at hk
            rw [hds] at hv'
            have hne : fs ≠ [] := by rintro rfl; cases hk
            obtain ⟨dx, rfl, hd⟩ := hd.some hne
            obtain ⟨v, rfl, rv⟩ : ∃ v, fs = [(f, v)] ∧ Rp K F' v d := by
              match fs, hk, hv' with
              | [(n1, v1)], hk, hv' =>
                cases hk
                cases hv' with
                | cons h1 _ => exact ⟨v1, rfl, h1⟩
            have hlt : i < σ'.length := by rw [Paired.length r'.sl]; exact h3
            refine ⟨true, e1, fun _ a na => ⟨dx, rfl, rfl, ?_⟩, fun z => nomatch z⟩
            show ∃ v, _ ∧ _
            refine ⟨.ref a, ?_, rfl, rfl, dx, _, v, rfl, hd, ?_, o σ' F' H' as' v e' r' rv⟩
            · rw [List.getElem?_set, if_pos rfl, if_pos hlt]
            · simp [List.lookup]
          · exact o.elim
        · exact o.elim
      | ap f i j =>
        have hC : e.C = c.C := ok.sole (by rw [hkk]; exact fun z => nomatch z) _ hy
        rw [hkk] at o
        show (wG K W D ((.ref c.C, c.k.sl, c.k.ts K c.C) :: _)) (.ref e.C) dx σ' H'
        rw [hkk, hC]
        rw [hC] at e1
        unfold runH at o
        dsimp only at o
        split at o
        · rename_i hcc
          obtain ⟨h2, h3, h4⟩ := hcc
          split at o
          · rename_i d hds
            rw [h2] at hk
            rw [hds] at hv'
            have hne : fs ≠ [] := by rintro rfl; cases hk
            obtain ⟨dx, rfl, hd⟩ := hd.some hne
            obtain ⟨v, rfl, rv⟩ : ∃ v, fs = [(f, v)] ∧ Rp K F' v d := by
              match fs, hk, hv' with
              | [(n1, v1)], hk, hv' =>
                cases hk
                cases hv' with
                | cons h1 _ => exact ⟨v1, rfl, h1⟩
            have hlt : i < σ'.length := by rw [Paired.length r'.sl]; exact h3
            cases hm : muAt S1 j with
            | none => rw [hm] at o; exact o.elim
            | some km =>
              rw [hm] at o
              obtain ⟨k, xs⟩ := km
              dsimp only at o
              split at o
              · rename_i hl
                obtain ⟨p, vs, hp, hmo, ha, _, _, hH, hvs⟩ := muAt_rp r' hm
                refine ⟨true, e1, fun _ a na => ⟨dx, rfl, rfl, p, vs, _, v, ?_, hH, Evl.sz_lt (by rw [hvs.length]; exact hl), ?_, hd, by simp [List.lookup], ?_⟩, fun z => nomatch z⟩
                · rw [List.getElem?_set_ne h4]; exact hp
                · rw [List.getElem?_set, if_pos rfl, if_pos hlt]
                · have r2 := r'.put hmo ha (.ls (hvs.snoc rv))
                  refine o _ F' _ as' e' ⟨r2.fh, r2.bh, ?_, r2.mo, r2.nd⟩
                  show Paired _ ((σ'.set i (some (.ref a))).set i none) (S1.sl.set i .no)
                  rw [List.set_set]
                  exact pairedSet i r2.sl trivial
              · exact o.elim
          · exact o.elim
        · exact o.elim
    · split at o
      · rename_i hn
        have e1 := ok.nos _ hn
        have ih := caught (fun c hcm => hc c (List.mem_cons_of_mem _ hcm)) o σ' F' H' as' dx fs e' r' hd hk hv'
        show (wG K W D ((.ref c.C, c.k.sl, c.k.ts K c.C) :: _)) (.ref e.C) dx σ' H'
        cases hs : c.k.sl with
        | none => exact ⟨false, e1, (fun z => nomatch z), fun _ => ih⟩
        | some i => exact ⟨false, e1, (fun z => nomatch z), fun _ => ih⟩
      · exact o.elim
theorem ds_tryX {X : Cx} {W : WX} {body : List Stmt} {pos : Pos} {h₀ : ExceptHandler} {hds : List ExceptHandler} {m : Ms → O} {cs : List Hc} (hc : ∀ c ∈ cs, HcOk X.K c) (hs : X.stack = X.env :: X.outer) (hf : X.env.frame = some X.env.locals) (tk : Takes X W)
    (hb : ∀ (W : WX) (pn : List (Addr × Obj)) (xe : Value → Shared → Prop), Takes (X.tr pn xe) W → PassesOwn (model X.prog X.w) X.A X.env xe → PSs (X.tr pn xe) body (sD X.K W m))
    (hh : HdG X (h₀ :: hds) (cs.map fun c => (.ref c.C, c.k.sl, c.k.ts X.K c.C))) : PS X (.Try body (h₀ :: hds) [] [] pos) (sD X.K W (tryX cs m)) :=
  monoS (ps_tryH hs hf tk (tb := fun W => sD X.K W m) hb hh) fun D σ H q => by
    obtain ⟨B, F, as, S, r, o⟩ := q
    refine ⟨B, F, as, S, r, ?_⟩
    unfold tryX at o
    revert o
    cases m S with
    | er e S1 => exact fun o => caught hc o
    | nx S1 => exact fun o => o
    | rt d S1 => exact fun o => o
    | bk S1 => exact fun o => o
    | ct S1 => exact fun o => o
    | no => exact fun o => o
theorem hcs_nil {K : PySem.W.Frag} : ∀ c ∈ ([] : List Hc), HcOk K c := fun c h => by cases h
theorem hcs_cons {K : PySem.W.Frag} {c : Hc} {cs : List Hc} (h : HcOk K c) (t : ∀ c ∈ cs, HcOk K c) : ∀ d ∈ c :: cs, HcOk K d := fun d hd => by
  rcases List.mem_cons.mp hd with rfl | hd
  · exact h
  · exact t d hd
def NoE (K : PySem.W.Frag) (C : Addr) (l : List Addr) : Prop := ∀ A ∈ l, PySem.W.exmOne K (.ref A) (.ref C) = some false
theorem noE_nil {K : PySem.W.Frag} {C : Addr} : NoE K C [] := fun A h => by cases h
theorem hcOk {K : PySem.W.Frag} {C : Addr} {l : List Addr} {k : Hk} (h : PySem.W.exmOne K (.ref C) (.ref C) = some true) (n : NoE K C l) : HcOk K ⟨C, [C], l, k⟩ :=
  ⟨fun A hA => by obtain rfl : A = C := by simpa using hA
                  exact h, n, fun _ A hA => by simpa using hA⟩
section
variable {X : Cx} {x n f : Str} {C : Addr} {i j : Nat} {h : Ms → O} {b₀ : Stmt} {suite : List Stmt} {np pos' p1 p2 p3 apos cpos : Pos} {hds : List ExceptHandler} {l : List (Value × Option Nat × (Addr → Value → Option Addr → TS))}
theorem hd_st (hg : Gl X x) (hm : X.mg x = some (.ref C)) (hsu : ∀ (a : Addr) (oe : Obj) (pn : List (Addr × Obj)), PSs (X.suite a ((a, oe) :: pn)) (b₀ :: suite) (sD X.K W0 h)) (r : HdG X hds l) (hdb : (x == ("__debug__" : Str)) = false := by decide) :
    HdG X (.ExceptHandler (some (.Name x np)) none (b₀ :: suite) pos' :: hds) ((.ref C, (Hk.st h).sl, (Hk.st h).ts X.K C) :: l) := .cons ⟨hg, hdb, .inl hm⟩ (fun a oe cls d pn _ _ => hsu a oe pn) r
end
end Lq

namespace Lq
open PySem PySem.Spec PyProof.Rows L2
@[simp] theorem fldE_run' (C : Addr) (f : Str) (m : Ms → R Dt) (S : Ms) : fldE C f m S = (m S).bind fun d S1 => R.of (fldO C f d) S1 := nrfl rfl
theorem fldO_self (C : Addr) (f : Str) (ks : List Str) (ds : List Dt) : fldO C f (.obj C ks ds) = (ks.zip ds).lookup f := by unfold fldO; exact if_pos rfl
theorem itG_run {C : Addr} {x : Str} {m : Ms → R Dt} {g : List Dt → FoN} {S S1 : Ms} {ks : List Str} {xs zs : List Dt} (h : m S = .ok (.obj C ks xs) S1) (hx : x ∉ ks) (hg : g [.obj C ks xs] = .ok zs) : itG C x m g S = .ok zs S1 := by
  unfold itG
  rw [h, R.bind_ok]
  dsimp only
  rw [if_pos ⟨rfl, hx⟩, hg]
theorem makE_run {C : Addr} {n : Nat} {fs : Ms → R (List Dt)} {f : List Dt → Fo} {S S1 : Ms} {ds xs : List Dt} {ks : List Str} (h : fs S = .ok ds S1) (hn : ds.length = n) (hf : f ds = .ok (.obj C ks xs)) : makE C n fs f S = .ok (.obj C ks xs) S1 := by
  unfold makE
  rw [h, R.bind_ok, if_pos hn, hf]
  dsimp only
  rw [if_pos rfl]
theorem fldS_run {C : Addr} {f : Str} {i k : Nat} {m : Ms → R Dt} {S S1 : Ms} {d : Dt} {ks : List Str} {ds : List Dt} (h : m S = .ok d S1) (hi : ioAt S1 i = some (k, C, ks, ds)) (hf : f ∉ ks) (hl : ks.length < 100) : fldS C f i m S = .nx { S1 with mo := S1.mo.set k (.ob (.io C (ks ++ [f]) (ds ++ [d]))) } := by
  unfold fldS
  rw [h, R.stmt_ok, hi]
  dsimp only
  rw [if_pos ⟨rfl, hf, hl⟩]
theorem lcF2_map {α β : Type} {sl : List Sv} {k k1 : Dt → Ms → Option Ms} {it1 : Ms → R (List Dt)} {e : Ms → R Dt} {vs1 : List Nat} {mo : List Mo} (enc : α → Dt) (enc1 : β → Dt) (f : α → β → Dt) (ys : List β) (B : Nat) : ∀ (xs : List α) (acc : List Dt),
    (∀ x ∈ xs, ∃ T1, k (enc x) { sl := sl, mo := mo } = some T1 ∧ ∃ T2, it1 T1 = .ok (ys.map enc1) T2 ∧ T2.mo = mo ∧ ∀ y ∈ ys, ∃ U1, k1 (enc1 y) { sl := wipeL T2.sl vs1, mo := mo } = some U1 ∧ U1.mo = mo ∧ ∃ U2, e U1 = .ok (f x y) U2 ∧ U2.mo = mo) →
    acc.length + xs.length * ys.length ≤ 100000 →
    lcF2 sl k yesT it1 k1 yesT e vs1 (xs.map enc) mo acc = .ok (acc ++ xs.flatMap fun x => ys.map (f x)) { sl := sl, mo := mo }
  | [], acc, _, _ => by simp [lcF2]
  | x :: xs, acc, h, hl => by
    obtain ⟨T1, h1, T2, h2, h3, h4⟩ := h x List.mem_cons_self
    have hl' : acc.length + (xs.length * ys.length + ys.length) ≤ 100000 := by rw [List.length_cons, Nat.succ_mul] at hl; exact hl
    rw [List.map_cons]
    unfold lcF2
    rw [h1]
    dsimp only
    have hy : yesT T1 = .ok true T1 := rfl
    rw [hy]
    dsimp only
    rw [h2]
    dsimp only
    rw [h3, lcF_flt (t := yesT) enc1 (fun _ => true) (f x) ys acc (fun y hy => by
      obtain ⟨U1, u1, u2, U2, u3, u4⟩ := h4 y hy
      exact ⟨U1, U1, u1, rfl, u2, fun _ => ⟨U2, u3, u4⟩⟩) (by omega)]
    dsimp only
    rw [lcF2_map enc enc1 f ys B xs _ (fun y hy => h y (List.mem_cons_of_mem _ hy)) (by rw [List.length_append, List.length_map]; have := List.length_filter_le (fun _ => true) ys; omega)]
    have hft : ys.filter (fun _ => true) = ys := List.filter_eq_self.mpr fun _ _ => rfl
    rw [hft]
    simp
theorem lcE2_map {α β : Type} {it it1 : Ms → R (List Dt)} {k k1 : Dt → Ms → Option Ms} {e : Ms → R Dt} {own vs1 : List Nat} {S S1 : Ms} (enc : α → Dt) (enc1 : β → Dt) (f : α → β → Dt) (xs : List α) (ys : List β) (hi : it S = .ok (xs.map enc) S1)
    (h : ∀ x ∈ xs, ∃ T1, k (enc x) { sl := wipeL S1.sl own, mo := S1.mo } = some T1 ∧ ∃ T2, it1 T1 = .ok (ys.map enc1) T2 ∧ T2.mo = S1.mo ∧ ∀ y ∈ ys, ∃ U1, k1 (enc1 y) { sl := wipeL T2.sl vs1, mo := S1.mo } = some U1 ∧ U1.mo = S1.mo ∧ ∃ U2, e U1 = .ok (f x y) U2 ∧ U2.mo = S1.mo)
    (hl : xs.length * ys.length ≤ 100000) : lcE2 it k yesT it1 k1 yesT e own vs1 S = .ok (xs.flatMap fun x => ys.map (f x)) S1 := by
  unfold lcE2
  rw [hi]
  simp only [R.bind_ok]
  rw [lcF2_map enc enc1 f ys 0 xs [] h (by simpa using hl)]
  simp
theorem metE_run {C : Addr} {x : Str} {n : Nat} {m : Ms → R Dt} {fs : Ms → R (List Dt)} {g : List Dt → Fo} {S S1 S2 : Ms} {ks : List Str} {xs ds : List Dt} {d : Dt} (h : m S = .ok (.obj C ks xs) S1) (hx : x ∉ ks) (hf : fs S1 = .ok ds S2) (hn : ds.length + 1 = n) (hg : g (.obj C ks xs :: ds) = .ok d) : metE C x n m fs g S = .ok d S2 := by
  unfold metE
  rw [h, R.bind_ok]
  dsimp only
  rw [if_pos ⟨rfl, hx⟩, hf, R.bind_ok, if_pos hn, hg]
end Lq

namespace Lq
open PySem PySem.Spec PyProof.Rows L2
open Evl (Ex)
section
variable {X : Cx} {W : WX} {a e : Expr} {p pos p2 kp : Pos} {f : Ms → R Dt}
theorem ints_reads {h : Heap} {us : List Value} {w : List Int} (hi : IntsAre us w) : ∃ as, ReadsAll h us (w.map PyData.int) as := isT_reads (b := 0) hi
def rAnyT (K : PySem.W.Frag) : List V → Hp → VK → Prop := fun vs H Q => ∃ (a : Addr) (ns : List Int), vs = [V.ref a] ∧ SqT K H a (ns.map V.int) ∧ Q (.bl (ns.any fun n => n != 0)) H
theorem plain_ints : ∀ ns : List Int, PyData.plainAll (ns.map PyData.int) = true
  | [] => by simp [PyData.plainAll]
  | n :: ns => by simp [PyData.plainAll, PyData.plain, plain_ints ns]
theorem cr_anyT (hc : X.calm = true) : CallR X (.builtin "any") (rAnyT X.K) := by
  intro pins s σ H vs us Q I r h
  obtain ⟨a, ns, rfl, hs, q⟩ := h
  obtain ⟨its, rv, hl, hz⟩ := Inv.tuple I hs
  rw [Vals.ref1 r]
  have hl' : s.heap.IsTuple a its.toArray := hl
  obtain ⟨as, hrd⟩ := ints_reads rv.ints
  refine PySem.W.any_tuple_data (I.ok.hd hc) hl' hrd (plain_ints ns) (fun x hx => ?_) fun h' tk hk => ?_
  · obtain ⟨i, _, rfl⟩ := List.mem_map.mp hx
    trivial
  · refine ⟨.bl _, H, I.kept hk, ?_, q⟩
    show Value.bool _ = Value.bool _
    rw [List.any_map]
    rfl
def anyT : List Dt → Option Dt | [.tup xs] => (intsOf xs).map fun ns => .bl (ns.any fun n => n != 0) | _ => none
theorem de_anyT (hcalm : X.calm = true) (hg : Gl X "any") (hm : X.mg "any" = none) (ha : PE X a (tD X.K W f)) (hs : starEach [a] X.env = (false, eval a X.env) :: starEach [] X.env := by rfl) : PE X (.Call (.Name "any" p) [a] [] pos) (tD X.K W (calE (aCons f aNil) anyT)) :=
  de_calB (fun F H vs ds z Q ex hv hz q => by
    unfold anyT at hz
    split at hz <;> try cases hz
    rename_i xs
    cases hn : intsOf xs with
    | none => rw [hn] at hz; cases hz
    | some ns =>
      rw [hn] at hz
      cases hz
      have e1 := intsOf_eq hn
      subst e1
      obtain ⟨v, rfl, h1⟩ := rpa1 hv
      cases h1 with
      | tup hs ha =>
        rw [ha.intsv] at hs
        exact ⟨_, _, rfl, Evl.ex_t ex hs.sq, q.1 _ (.bl _)⟩) (cr_anyT hcalm) hg hm (by decide +kernel) (da_cons ha da_nil hs) (by decide) (by decide) hs (by rfl)
@[simp] theorem anyT_run (ns : List Int) : anyT [.tup (ns.map Dt.int)] = some (.bl (ns.any fun n => n != 0)) := by unfold anyT; dsimp only; rw [intsOf_map]; rfl
end
end Lq

namespace Lq
open PySem PySem.Spec PyProof.Rows L2
open Evl (Ex)
def rEqO (C : Addr) (sp : Sp) : R2 := fun x y H Q => ∃ a b dx dy fs gs, x = V.ref a ∧ y = V.ref b ∧ H a = some (.ins C dx fs) ∧ H b = some (.ins C dy gs) ∧ sp [.ref a, .ref b] H (fun v H' => ∃ k, v = V.bl k ∧ Q v H') fun _ _ _ => False
theorem op_eqO {X : Cx} {CX : CXT} {n : Nat} {C f : Addr} {fd : FuncData} {ps : List Str} {sp : Sp} (F : FnOk X.prog X.w X.K X.mg X.base CX n f fd ps sp)
    (hs : PySem.W.findIn X.K (.ref C) "__eq__" = some (some (.ref f))) (hf : PySem.W.isFn X.K (.ref f) = true) (hb : Binds X.K fd ps []) (hx : Passes CX X fun _ _ _ => False) (hr : Room n X.A) : OpR X (compareOp .Eq) (rEqO C sp) := by
  intro pins s σ H x y u v Q I rx ry hq
  obtain ⟨a, b, dx, dy, fs, gs, rfl, rfl, ha, hb', hsp⟩ := hq
  cases rx
  cases ry
  show wpAny (model X.prog X.w) X.A (richCompare .Eq (.ref a) (.ref b)) (EP X pins σ Q) X.xe s
  obtain ⟨mA, J, _⟩ := ins_get I.hok ha
  obtain ⟨mB, J', _⟩ := ins_get I.hok hb'
  obtain ⟨od, J, _⟩ := J.look
  obtain ⟨od', J', _⟩ := J'.look
  obtain ⟨m, hF⟩ := I.fr
  refine PySem.W.cmp_K (op := .Eq) (tb := .ref C) hr.units0 hF I.ok.mod.kin J J'.type (by simp [PySem.W.notFirst]) hs hf ?_
  have hl := F.len _ _ _ _ hsp
  have r2 : Vals [V.ref a, V.ref b] [Value.ref a, Value.ref b] := .cons rfl (.cons rfl .nil)
  refine wpAny_call (codeAny_mono (F.run X.A X.stack s H ⟨[.ref a, .ref b], []⟩ [.ref a, .ref b] [.ref a, .ref b] _ _ hr I.env0 (by
    have := hb s [.ref a, .ref b] I.kIn (by simpa using hl)
    simpa using this) r2 hsp) fun r s' hq => ?_)
  cases r with
  | error e => exact hx pins σ H s e s' I hq
  | ok fl =>
    cases fl with
    | ret w =>
      obtain ⟨z, H', I', rz, ⟨k, ez, q⟩⟩ := I.after hq
      subst ez
      cases rz
      exact ⟨.bl k, H', I', rfl, q⟩
    | next => exact False.elim hq
    | brk => exact False.elim hq
    | cont => exact False.elim hq
def CalQ (P : Program) (w : World) (K : PySem.W.Frag) (mg : Str → Option Value) (base : Heap) (C : Addr) (k : Nat) (ps : List Str) (g : List Dt → Fo) : Prop :=
  ∃ f fd, FnOk P w K mg base (L2.CX P w) k f fd ps (spD K 2 g) ∧ PySem.W.findIn K (.ref C) "__eq__" = some (some (.ref f)) ∧ PySem.W.isFn K (.ref f) = true ∧ Binds K fd ps []
def eqC (C : Addr) (g : List Dt → Fo) : Dt → Dt → Option Dt
  | .obj C1 ks xs, .obj C2 ls ys => if C1 = C ∧ C2 = C then (match g [.obj C1 ks xs, .obj C2 ls ys] with | .ok (.bl k) => some (.bl k) | _ => none) else none
  | _, _ => none
theorem eqC_run {C : Addr} {g : List Dt → Fo} {ks ls : List Str} {xs ys : List Dt} {k : Bool} (h : g [.obj C ks xs, .obj C ls ys] = .ok (.bl k)) : eqC C g (.obj C ks xs) (.obj C ls ys) = some (.bl k) := by
  unfold eqC
  dsimp only
  rw [if_pos ⟨rfl, rfl⟩, h]
theorem dt_eqO {K : PySem.W.Frag} {W : WX} {f g : Ms → R Dt} {C : Addr} {e : List Dt → Fo} (σ : L2.St) (H : Hp) (Q : VK) (q : tD K W (op2 f g (eqC C e)) σ H Q) : tOp (rEqO C (spD K 2 e)) (tD K W f) (tD K W g) σ H Q := by
  obtain ⟨B, F, as, S, r0, o⟩ := q
  refine ⟨B, F, as, S, r0, Out.mono (Out.bind o) fun d F1 H1 as1 S1 ⟨r1, e1, o1⟩ v hv => ?_⟩
  refine ⟨B, F1, as1, S1, r1, ?_⟩
  have o2 := Out.bind o1
  revert o2
  cases g S1 with
  | ok d' S2 =>
    intro o2 F2 H2 as2 e2 r2 w hw
    obtain ⟨_, _, o3⟩ := o2 F2 H2 as2 e2 r2
    cases hz : eqC C e d d' with
    | none => rw [hz] at o3; exact o3.elim
    | some z =>
      rw [hz] at o3
      cases d with
      | obj C1 ks xs =>
        cases d' with
        | obj C2 ls ys =>
          unfold eqC at hz
          dsimp only at hz
          split at hz
          · rename_i hc
            obtain ⟨hC1, hC2⟩ := hc
            subst hC1
            subst hC2
            have hv2 := hv.up e2.1
            have hw2 := hw
            cases hv2 with
            | obj hs hks ha =>
              cases hw2 with
              | obj hs' hks' ha' =>
                subst hks
                subst hks'
                refine ⟨_, _, _, _, _, _, rfl, rfl, r2.fh _ _ hs, r2.fh _ _ hs', holdB B F2 H2 as2, F2, [_, _], rfl, r2.fh, hold_kept r2, .cons (.obj hs rfl ha) (.cons (.obj hs' rfl ha') .nil), ?_⟩
                split at hz
                · rename_i k hg
                  cases hz
                  rw [hg]
                  refine fun v F' H' ee eh kp hv' => ?_
                  have hv3 := hv'
                  cases hv3
                  exact ⟨k, rfl, o3 F' H' as2 ⟨ee, [], by simp⟩ (hold_back r2 ee eh kp) _ hv'⟩
                · cases hz
          · cases hz
        | _ => cases hz
      | _ => cases hz
  | er x S2 => exact fun o2 => o2
  | no => exact fun o2 => o2
section
variable {X : Cx} {W W1 : WX} {a b : Expr} {pos : Pos} {f g : Ms → R Dt} {C : Addr} {j k : Nat} {ps : List Str} {e : List Dt → Fo}
theorem passes_no (tk : Takes X W1) : Passes (L2.CX X.prog X.w) X fun _ _ _ => False := fun pins σ H s u s' I c => tk u s' (XE.of_call I (fun _ _ _ h => h.elim) c)
theorem de_eqC (c : CalQ X.prog X.w X.K X.mg X.base C k ps e) (tk : Takes X W1) (hr : Room j X.A) (hk : k ≤ j) (ha : PE X a (tD X.K W f)) (hb : PE X b (tD X.K W g)) : PE X (.Compare a [.Eq] [b] pos) (tD X.K W (op2 f g (eqC C e))) := by
  obtain ⟨f, fd, F, h1, h2, h3⟩ := c
  exact monoE (pe_cmpR (op_eqO F h1 h2 h3 (passes_no tk) (hr.mono hk)) ha hb (nomark _)) dt_eqO
structure IsC (K : PySem.W.Frag) (C : Addr) : Prop where
  cl : Cls K C
  ha : PySem.W.findIn K (.ref C) "__class__" = some (some (.builtin "object.__class__"))
  hn : PySem.W.specialIn K (.builtin "object.__class__") "__get__" = some (some (.builtin "getset_descriptor.__get__"))
  htk : PySem.W.takesIn K (.builtin "object.__class__") = some true
  hm : PySem.W.mroIn K C (.type "object") = some true
end
end Lq

namespace Lq
open PySem PySem.Spec PyProof.Rows L2
end Lq

namespace Lq
open PySem PySem.Spec PyProof.Rows L2
section
variable {X : Cx} {W : WX} {e : Expr} {x : Str} {i : Nat} {f : Ms → R Dt} {pos pos' : Pos}
end
end Lq

namespace Lq
open PySem PySem.Spec PyProof.Rows L2
section
variable {X : Cx} {W : WX} {o e : Expr} {i : Nat} {fn : Ms → R (List Dt)} {pos apos cpos : Pos}
theorem RpA.init {K : PySem.W.Frag} {F : Hp} : ∀ {vs : List V} {ds : List Dt}, RpA K F vs ds → RpA K F vs.dropLast ds.dropLast
  | _, _, .nil => .nil
  | _, _, .cons h .nil => .nil
  | _, _, .cons h (.cons h2 t) => .cons h (RpA.init (.cons h2 t))
end
end Lq

namespace Lq
open PySem PySem.Spec PyProof.Rows L2
open Evl (Ex)
section
variable {X : Cx} {W : WX} {tg : Expr} {p pos : Pos}
def itEnL (f : Ms → R (List Dt)) : Ms → R (List Dt) := fun S => (f S).bind fun ds S1 => match ds with | [.lst xs] => .ok (enumD xs) S1 | _ => .no
def itEnA (f : Ms → R (List Dt)) : Ms → R (List Dt) := fun S => match f S with | .ok [.lst _] _ => itEnL f S | _ => itEn f S
@[simp] theorem itEnA_lst {f : Ms → R (List Dt)} {S S1 : Ms} {xs : List Dt} (h : f S = .ok [.lst xs] S1) : itEnA f S = .ok (enumD xs) S1 := by
  unfold itEnA
  rw [h]
  dsimp only
  unfold itEnL
  rw [h, R.bind_ok]
@[simp] theorem itEnA_tup {f : Ms → R (List Dt)} {S S1 : Ms} {xs : List Dt} (h : f S = .ok [.tup xs] S1) : itEnA f S = .ok (enumD xs) S1 := by
  unfold itEnA
  rw [h]
  dsimp only
  unfold itEn
  rw [h, R.bind_ok]
end
end Lq

namespace Lq
open PySem PySem.Spec PyProof.Rows L2
open Evl (Ex)
section
variable {X : Cx} {W : WX} {x n fld y : Str} {C : Addr} {i : Nat} {m : Ms → O} {body : List Stmt} {np pos pos' p1 p2 p3 p4 p5 : Pos} {k5 : Nat}
end
end Lq

namespace Lq
open PySem PySem.Spec PyProof.Rows L2
open Evl (Ex)
section
variable {X : Cx} {W : WX} {e : Expr} {p pos : Pos} {f : Ms → R Dt}
end
section
variable {X : Cx} {W : WX} {x n fld y : Str} {C : Addr} {i : Nat} {m : Ms → O} {body : List Stmt} {np pos pos' p1 p2 p3 p4 p5 : Pos} {k5 kt : Nat}
end
end Lq

namespace Lq
open PySem PySem.Spec PyProof.Rows L2
open Evl (Ex)
open PySem.W (alike dataLt dataLe AllAlike Sortable EachIs)
section
variable {X : Cx} {W : WX} {e a b : Expr} {p pos : Pos}
end
end Lq

namespace Lz
open PySem PySem.Spec PyProof.Rows L2
section
variable {prog : Program} {w : World} {A : Around} {E : Value → Shared → Prop} {s : Shared} {z TI TO i1 i2 T : Addr} {fp1 fp2 : List Addr} {n1 n2 i : Nat} {P1 P2 : Nat → Value → Prop} {St1 St2 : Nat → Heap → Prop} {f : Bool} {oT : Obj}
theorem next_held {Q : Value → Shared → Prop} (S : ZipSep2 z TI TO i1 i2 fp1 fp2) (D1 : Draws prog w A i1 fp1 n1 P1 St1) (D2 : Draws prog w A i2 fp2 n2 P2 St2)
    (hz : IsZipHeld s.heap z TI TO T f) (hT : s.heap.get? T = some oT) (hTI : IsTupOf2 s.heap TI (.ref i1) (.ref i2)) (st1 : St1 i s.heap) (st2 : St2 i s.heap) (hlt1 : i < n1) (hlt2 : i < n2)
    (hQ : ∀ x1 x2 h' tk, P1 i x1 → P2 i x2 → IsZipHeld h' z TI TO T true → St1 (i + 1) h' → St2 (i + 1) h' → IsTupOf2 h' s.heap.objs.size x1 x2 →
      (∀ c o, c ≠ z → c ≠ i1 → c ≠ i2 → s.heap.get? c = some o → h'.get? c = some o) → Q (.ref s.heap.objs.size) { s with heap := h', toks := tk }) :
    wpAny (model prog w) A (Builtin.«zip.__next__» ⟨[.ref z], []⟩) (fun fin s' => ∃ v, fin = .done (.ret v) ∧ Q v s') E s := by
  obtain ⟨hp, g, d, tk0, os⟩ := s
  show wpAny _ _ (field (.ref z) 2 >>= _) _ _ _
  refine wpAny_bind (wpAny_field hz rfl (x := .bool false) rfl ?_)
  show wpAny _ _ (field (.ref z) 3 >>= _) _ _ _
  refine wpAny_bind (wpAny_field hz rfl (x := .ref TI) rfl ?_)
  refine wpAny_bind (wpAny_seqItems hTI rfl ?_)
  show wpAny _ _ (Builtin.SmallTypes.ownedTupleIsFree (.ref z) >>= _) _ _ _
  refine wpAny_bind (wpAny_tupleHeld_zip hz hT fun h₁ hz₁ hs₁ => ?_)
  simp only [Bool.false_eq_true, if_false]
  refine wpAny_bind ?_
  rw [← Array.forIn_toList]
  simp only [List.forIn_cons, List.forIn_nil]
  replace hs₁ : Heap.SameBut z hp h₁ := hs₁
  refine wpAny_bind (wpAny_bind (wpAny_holding ?_))
  show wpAny _ _ (Builtin.SmallTypes.nextOf (.ref i1) >>= _) _ _ ⟨h₁, g, d, tk0, os⟩
  refine wpAny_bind (D1.item i ⟨h₁, g, d, tk0, os⟩ _ _ hlt1 (D1.over st1 hs₁ S.zf1) fun x1 p1 tk1 hx1 sn1 hp1 => wpAny_pure ?_)
  replace hp1 : Heap.SameBut i1 h₁ p1 := hp1
  refine wpAny_pure ?_
  refine wpAny_bind (wpAny_bind (wpAny_holding ?_))
  show wpAny _ _ (Builtin.SmallTypes.nextOf (.ref i2) >>= _) _ _ ⟨p1, g, d, tk1, os⟩
  refine wpAny_bind (D2.item i ⟨p1, g, d, tk1, os⟩ _ _ hlt2 (D2.over (D2.over st2 hs₁ S.zf2) hp1 S.sep1_2) fun x2 p2 tk2 hx2 sn2 hp2 => wpAny_pure ?_)
  replace hp2 : Heap.SameBut i2 p1 p2 := hp2
  refine wpAny_pure (wpAny_pure ?_)
  show wpAny _ _ (newTuple [x1, x2] >>= _) _ _ ⟨p2, g, d, tk2, os⟩
  refine wpAny_bind (wpAny_newTuple ?_)
  have hsz : p2.objs.size = hp.objs.size := by rw [hp2.1, hp1.1, hs₁.1]
  have hz₃ : IsZipHeld p2 z TI TO T true := hp2.extBut _ _ S.zi2 (hp1.extBut _ _ S.zi1 hz₁)
  have hk : ∀ c o, c ≠ z → c ≠ i1 → c ≠ i2 → hp.get? c = some o → p2.get? c = some o := fun c o c1 c2 c3 e => hp2.extBut _ _ c3 (hp1.extBut _ _ c2 (hs₁.extBut _ _ c1 e))
  have j1 : St1 (i + 1) p2 := D1.over sn1 hp2 S.sep2_1
  refine wpAny_pure ⟨_, rfl, ?_⟩
  show Q (.ref p2.objs.size) _
  have hp' : IsTupOf2 (p2.push { cls := .type "tuple", data := .seq #[x1, x2] }) p2.objs.size x1 x2 := Heap.get?_push_size _ rfl
  rw [hsz] at hp' ⊢
  exact hQ _ _ _ _ hx1 hx2 (Heap.get?_push_of_some _ hz₃) (D1.frame _ _ _ j1 fun b _ o e => Heap.get?_push_of_some _ e) (D2.frame _ _ _ sn2 fun b _ o e => Heap.get?_push_of_some _ e) hp' fun c o c1 c2 c3 e => Heap.get?_push_of_some _ (hk c o c1 c2 c3 e)
theorem end_held {Q : Fin → Shared → Prop} (S : ZipSep2 z TI TO i1 i2 fp1 fp2) (D1 : Draws prog w A i1 fp1 n1 P1 St1) (D2 : Draws prog w A i2 fp2 n2 P2 St2)
    (hz : IsZipHeld s.heap z TI TO T f) (hT : s.heap.get? T = some oT) (hTI : IsTupOf2 s.heap TI (.ref i1) (.ref i2)) (st1 : St1 i s.heap) (st2 : St2 i s.heap) (hle1 : i ≤ n1) (hle2 : i ≤ n2) (hend : i = n1 ∨ i = n2)
    (hE : ∀ h' tk e, (∀ c o, c ≠ z → c ≠ i1 → c ≠ i2 → s.heap.get? c = some o → h'.get? c = some o) → (∃ o, h'.get? e = some o ∧ o.cls = .type "StopIteration") → E (.ref e) { s with heap := h', toks := tk }) :
    wpAny (model prog w) A (Builtin.«zip.__next__» ⟨[.ref z], []⟩) Q E s := by
  obtain ⟨hp, g, d, tk0, os⟩ := s
  show wpAny _ _ (field (.ref z) 2 >>= _) _ _ _
  refine wpAny_bind (wpAny_field hz rfl (x := .bool false) rfl ?_)
  show wpAny _ _ (field (.ref z) 3 >>= _) _ _ _
  refine wpAny_bind (wpAny_field hz rfl (x := .ref TI) rfl ?_)
  refine wpAny_bind (wpAny_seqItems hTI rfl ?_)
  show wpAny _ _ (Builtin.SmallTypes.ownedTupleIsFree (.ref z) >>= _) _ _ _
  refine wpAny_bind (wpAny_tupleHeld_zip hz hT fun h₁ hz₁ hs₁ => ?_)
  simp only [Bool.false_eq_true, if_false]
  refine wpAny_bind ?_
  rw [← Array.forIn_toList]
  simp only [List.forIn_cons, List.forIn_nil]
  replace hs₁ : Heap.SameBut z hp h₁ := hs₁
  refine wpAny_bind (wpAny_bind (wpAny_holding ?_))
  show wpAny _ _ (Builtin.SmallTypes.nextOf (.ref i1) >>= _) _ _ ⟨h₁, g, d, tk0, os⟩
  by_cases hlt1 : i < n1
  · refine wpAny_bind (D1.item i ⟨h₁, g, d, tk0, os⟩ _ _ hlt1 (D1.over st1 hs₁ S.zf1) fun x1 p1 tk1 hx1 sn1 hp1 => wpAny_pure ?_)
    replace hp1 : Heap.SameBut i1 h₁ p1 := hp1
    refine wpAny_pure ?_
    have hi2 : i = n2 := by omega
    refine wpAny_bind (wpAny_bind (wpAny_holding ?_))
    show wpAny _ _ (Builtin.SmallTypes.nextOf (.ref i2) >>= _) _ _ ⟨p1, g, d, tk1, os⟩
    refine wpAny_bind (D2.done ⟨p1, g, d, tk1, os⟩ _ _ (by rw [← hi2]; exact D2.over (D2.over st2 hs₁ S.zf2) hp1 S.sep1_2) fun q e hq he => ?_)
    exact hE q tk1 e (fun c o c1 c2 c3 x => hq _ _ c3 (hp1.extBut _ _ c2 (hs₁.extBut _ _ c1 x))) he
  · have hi1 : i = n1 := by omega
    refine wpAny_bind (D1.done ⟨h₁, g, d, tk0, os⟩ _ _ (by rw [← hi1]; exact D1.over st1 hs₁ S.zf1) fun q e hq he => ?_)
    exact hE q tk0 e (fun c o c1 c2 _ x => hq _ _ c2 (hs₁.extBut _ _ c1 x)) he
theorem pyNext_held {Q : Option Value → Shared → Prop} (S : ZipSep2 z TI TO i1 i2 fp1 fp2) (D1 : Draws prog w A.in1 i1 fp1 n1 P1 St1) (D2 : Draws prog w A.in1 i2 fp2 n2 P2 St2)
    (hz : IsZipHeld s.heap z TI TO T f) (hT : s.heap.get? T = some oT) (hTI : IsTupOf2 s.heap TI (.ref i1) (.ref i2)) (st1 : St1 i s.heap) (st2 : St2 i s.heap) (hlt1 : i < n1) (hlt2 : i < n2)
    (hQ : ∀ x1 x2 h' tk, P1 i x1 → P2 i x2 → IsZipHeld h' z TI TO T true → St1 (i + 1) h' → St2 (i + 1) h' → IsTupOf2 h' s.heap.objs.size x1 x2 →
      (∀ c o, c ≠ z → c ≠ i1 → c ≠ i2 → s.heap.get? c = some o → h'.get? c = some o) → Q (some (.ref s.heap.objs.size)) { s with heap := h', toks := tk }) :
    wpAny (model prog w) A (pyNext (.ref z)) Q E s := by
  have hTy : s.TypeIs (.ref z) "zip" := ⟨_, hz, rfl⟩
  unfold pyNext
  exact wpAny_bind (wpAny_attempt (wpAny_callSpecial?_slot (name := Str.ofString "__next__") hTy F.slot_zip_next
    (wpAny_call_entry F.slot_zip_next hTy F.entry_zip_next
      (next_held S D1 D2 hz hT hTI st1 st2 hlt1 hlt2 fun x1 x2 h' tk a1 a2 a3 a4 a5 a6 a7 => wpAny_pure (hQ x1 x2 h' tk a1 a2 a3 a4 a5 a6 a7)) (F.args_zip_next_1 _))))
theorem pyNext_endHeld {Q : Option Value → Shared → Prop} (S : ZipSep2 z TI TO i1 i2 fp1 fp2) (D1 : Draws prog w A.in1 i1 fp1 n1 P1 St1) (D2 : Draws prog w A.in1 i2 fp2 n2 P2 St2)
    (hz : IsZipHeld s.heap z TI TO T f) (hT : s.heap.get? T = some oT) (hTI : IsTupOf2 s.heap TI (.ref i1) (.ref i2)) (st1 : St1 i s.heap) (st2 : St2 i s.heap) (hle1 : i ≤ n1) (hle2 : i ≤ n2) (hend : i = n1 ∨ i = n2)
    (hQ : ∀ h' tk, (∀ c o, c ≠ z → c ≠ i1 → c ≠ i2 → s.heap.get? c = some o → h'.get? c = some o) → Q none { s with heap := h', toks := tk }) : wpAny (model prog w) A (pyNext (.ref z)) Q E s := by
  have hTy : s.TypeIs (.ref z) "zip" := ⟨_, hz, rfl⟩
  unfold pyNext
  refine wpAny_bind (wpAny_attempt (wpAny_callSpecial?_slot (name := Str.ofString "__next__") hTy F.slot_zip_next
    (wpAny_call_entry F.slot_zip_next hTy F.entry_zip_next (end_held S D1 D2 hz hT hTI st1 st2 hle1 hle2 hend fun h' tk e hk he => ?_) (F.args_zip_next_1 _))))
  obtain ⟨o, ho, hc⟩ := he
  refine wpAny_bind (wpAny_isInstance (T := "StopIteration") (b := true) ⟨o, ho, hc⟩ isSubtype_stop ?_)
  exact wpAny_pure (hQ _ _ hk)
end
structure ZSt (z TI TO i1 i2 S : Addr) (St1 St2 : Nat → Heap → Prop) (i : Nat) (h : Heap) : Prop where
  ti : IsTupOf2 h TI (.ref i1) (.ref i2)
  s1 : St1 i h
  s2 : St2 i h
  to : ∃ a1 a2, IsTupOf2 h TO a1 a2
  zz : IsZip h z TI TO .none ∨ ∃ T f oT, IsZipHeld h z TI TO T f ∧ h.get? T = some oT ∧ T ≠ z ∧ T ≠ i1 ∧ T ≠ i2 ∧ T ≠ S
structure ZGo (base : Nat) (ks : List Addr) (P1 P2 : Nat → Value → Prop) (ts : List Addr) (h : Heap) : Prop where
  at' : ∀ j t, ts[j]? = some t → ∃ x y, P1 j x ∧ P2 j y ∧ IsTupOf2 h t x y
  big : ∀ t ∈ ts, base ≤ t
  off : ∀ t ∈ ts, t ∉ ks
  nd : ts.Nodup
theorem ZGo.keep {base : Nat} {ks : List Addr} {P1 P2 : Nat → Value → Prop} {ts : List Addr} {h h' : Heap} (g : ZGo base ks P1 P2 ts h) (k : ∀ b o, b ∉ ks → h.get? b = some o → h'.get? b = some o) : ZGo base ks P1 P2 ts h' :=
  ⟨fun j t e => let ⟨x, y, p1, p2, it⟩ := g.at' j t e; ⟨x, y, p1, p2, k t _ (g.off t (List.mem_of_getElem? e)) it⟩, g.big, g.off, g.nd⟩
section
variable {prog : Program} {w : World} {A : Around} {z TI TO i1 i2 S : Addr} {fp1 fp2 : List Addr} {n1 n2 : Nat} {P1 P2 : Nat → Value → Prop} {St1 St2 : Nat → Heap → Prop} {R : Result → Shared → Prop}
theorem ZSt.frame (D1 : Draws prog w A i1 fp1 n1 P1 St1) (D2 : Draws prog w A i2 fp2 n2 P2 St2) (hS : S ≠ z ∧ S ≠ TI ∧ S ≠ TO) (h1 : S ∉ fp1) (h2 : S ∉ fp2) {i : Nat} {h h' : Heap} (x : ZSt z TI TO i1 i2 S St1 St2 i h) (k : ∀ b o, b ≠ S → h.get? b = some o → h'.get? b = some o) : ZSt z TI TO i1 i2 S St1 St2 i h' where
  ti := k _ _ (Ne.symm hS.2.1) x.ti
  s1 := D1.frame _ _ _ x.s1 fun b hb o e => k b o (fun q => h1 (q ▸ hb)) e
  s2 := D2.frame _ _ _ x.s2 fun b hb o e => k b o (fun q => h2 (q ▸ hb)) e
  to := let ⟨a, b, c⟩ := x.to; ⟨a, b, k _ _ (Ne.symm hS.2.2) c⟩
  zz := by
    rcases x.zz with a | ⟨T, f, oT, a, b, c, d, e, g⟩
    · exact .inl (k _ _ (Ne.symm hS.1) a)
    · exact .inr ⟨T, f, oT, k _ _ (Ne.symm hS.1) a, k _ _ g b, c, d, e, g⟩
theorem loop (Z : ZipSep2 z TI TO i1 i2 fp1 fp2) (D1 : Draws prog w A.in1.in1 i1 fp1 n1 P1 St1) (D2 : Draws prog w A.in1.in1 i2 fp2 n2 P2 St2) (hn : min n1 n2 ≤ sizeLine) (hS : S ≠ z ∧ S ≠ TI ∧ S ≠ TO) (hS1 : S ∉ fp1) (hS2 : S ∉ fp2) (res : Value) (base : Nat) :
    ∀ (k i : Nat) (s : Shared) (acc : Array Value) (c : Nat) (ts : List Addr), min n1 n2 - i = k → i ≤ min n1 n2 → ZSt z TI TO i1 i2 S St1 St2 i s.heap → s.heap.get? S = some { cls := .type "list", dict := none, data := .seq acc c, slots := #[] } →
      acc.toList = ts.map Value.ref → ts.length = i → base ≤ s.heap.objs.size → ZGo base [S, z, TO, i1, i2] P1 P2 ts s.heap →
    (∀ h' tk acc' c' ts', (∀ b o, b ∉ [S, z, TO, i1, i2] → s.heap.get? b = some o → h'.get? b = some o) → h'.get? S = some { cls := .type "list", dict := none, data := .seq acc' c', slots := #[] } → acc'.toList = ts'.map Value.ref → ts'.length = min n1 n2 → ZGo base [S, z, TO, i1, i2] P1 P2 ts' h' → R (.ok (.ret res)) { s with heap := h', toks := tk }) →
    codeAny (model prog w) A (.builtin "list.extend.loop" ⟨[.ref S, .ref z, res], []⟩) R s := by
  have hSi1 : S ≠ i1 := fun e => hS1 (e ▸ Z.mem1)
  have hSi2 : S ≠ i2 := fun e => hS2 (e ▸ Z.mem2)
  intro k
  induction k with
  | zero =>
    intro i s acc c ts hk hi st hl ha hti hb hg hR
    have hin : i = min n1 n2 := by omega
    refine codeAny_builtin F.entry_extend_loop ?_
    rw [Around.under_plainId F.plain_extend_loop _]
    show wpAny _ A.in1 (pyNext (.ref z) >>= _) _ _ s
    have he : i = n1 ∨ i = n2 := by omega
    have kp : ∀ (h' : Heap), (∀ c o, c ≠ z → c ≠ TO → c ≠ i1 → c ≠ i2 → s.heap.get? c = some o → h'.get? c = some o) → ∀ b o, b ∉ [S, z, TO, i1, i2] → s.heap.get? b = some o → h'.get? b = some o := fun h' q b o hb e => by
      simp only [List.mem_cons, List.not_mem_nil, or_false, not_or] at hb
      exact q b o hb.2.1 hb.2.2.1 hb.2.2.2.1 hb.2.2.2.2 e
    have fin : ∀ h' tk, (∀ c o, c ≠ z → c ≠ TO → c ≠ i1 → c ≠ i2 → s.heap.get? c = some o → h'.get? c = some o) → R (.ok (.ret res)) { s with heap := h', toks := tk } := fun h' tk q =>
      hR h' tk acc c ts (kp h' q) (q _ _ hS.1 hS.2.2 hSi1 hSi2 hl) ha (hti.trans hin) (hg.keep (kp h' q))
    obtain ⟨a1, a2, hTO⟩ := st.to
    rcases st.zz with hz | ⟨T, f, oT, hz, hT, _⟩
    · exact wpAny_bind (wpAny_pyNext_zipD2_end Z D1 D2 hz st.ti hTO st.s1 st.s2 (by omega) (by omega) he fun h' tk q => wpAny_pure (fin h' tk q))
    · exact wpAny_bind (pyNext_endHeld Z D1 D2 hz hT st.ti st.s1 st.s2 (by omega) (by omega) he fun h' tk q => wpAny_pure (fin h' tk fun c o c1 _ c3 c4 e => q c o c1 c3 c4 e))
  | succ k ih =>
    intro i s acc c ts hk hi st hl ha hti hb hg hR
    have hlt1 : i < n1 := by omega
    have hlt2 : i < n2 := by omega
    refine codeAny_builtin F.entry_extend_loop ?_
    rw [Around.under_plainId F.plain_extend_loop _]
    show wpAny _ A.in1 (pyNext (.ref z) >>= _) _ _ s
    have lt : ∀ {c o}, s.heap.get? c = some o → s.heap.objs.size ≠ c := fun e => Nat.ne_of_gt (Heap.lt_size e)
    have nS := lt hl
    have ni1 : s.heap.objs.size ≠ i1 := by obtain ⟨_, e⟩ := D1.live _ _ st.s1; exact lt e
    have ni2 : s.heap.objs.size ≠ i2 := by obtain ⟨_, e⟩ := D2.live _ _ st.s2; exact lt e
    -- after the pair has been made
    have go : ∀ x1 x2 h' tk, P1 i x1 → P2 i x2 → ZSt z TI TO i1 i2 S St1 St2 (i + 1) h' → IsTupOf2 h' s.heap.objs.size x1 x2 → (∀ c o, c ≠ z → c ≠ TO → c ≠ i1 → c ≠ i2 → s.heap.get? c = some o → h'.get? c = some o) → s.heap.objs.size ≠ z → s.heap.objs.size ≠ TO →
        wpAny (model prog w) A.in1 (updateSeq S (·.push (.ref s.heap.objs.size)) >>= fun _ => again (.builtin "list.extend.loop" ⟨[.ref S, .ref z, res], []⟩)) (fun fin s' => match fin with | .done f => R (.ok f) s' | .again c' => c'.quiet = true ∧ codeAny (model prog w) A c' R s') (fun e s' => R (.error e) s') { s with heap := h', toks := tk } := fun x1 x2 h' tk p1 p2 st' hT' hk' nz nT => by
      have hl' : h'.get? S = some { cls := .type "list", dict := none, data := .seq acc c, slots := #[] } := hk' _ _ hS.1 hS.2.2 hSi1 hSi2 hl
      have hacc : acc.size = i := by rw [← Array.length_toList, ha, List.length_map, hti]
      have kp : ∀ b o, b ∉ [S, z, TO, i1, i2] → s.heap.get? b = some o → h'.get? b = some o := fun b o hb e => by
        simp only [List.mem_cons, List.not_mem_nil, or_false, not_or] at hb
        exact hk' b o hb.2.1 hb.2.2.1 hb.2.2.2.1 hb.2.2.2.2 e
      have nb : s.heap.objs.size ∉ [S, z, TO, i1, i2] := by
        simp only [List.mem_cons, List.not_mem_nil, or_false, not_or]
        exact ⟨nS, nz, nT, ni1, ni2⟩
      have tl : ∀ t ∈ ts, t < s.heap.objs.size := fun t ht => by
        obtain ⟨j, hj⟩ := List.mem_iff_getElem?.mp ht
        obtain ⟨_, _, _, _, e⟩ := hg.at' j t hj
        exact Heap.lt_size e
      refine wpAny_bind ?_
      refine wpAny_updateSeq hl' rfl (wpAny_pure ⟨plainId_quiet F.plain_extend_loop _, ih (i + 1) _ (acc.push (.ref s.heap.objs.size)) _ (ts ++ [s.heap.objs.size]) (by omega) (by omega) (st'.frame D1 D2 hS hS1 hS2 fun b o hb e => (Heap.get?_update_other _ _ (Ne.symm hb)).trans e) (Heap.get?_update_self _ hl' rfl) ?_ ?_ ?_ ?_ ?_⟩)
        (by rw [hacc]; omega) (by show (acc.push _).size ≤ sizeLine + 1; rw [Array.size_push, hacc]; omega)
      · rw [Array.toList_push, ha, List.map_append]; rfl
      · rw [List.length_append, hti]; rfl
      · show base ≤ (h'.update S _).objs.size
        have : (h'.update S (Obj.mapSeq fun a => a.push (.ref s.heap.objs.size))).objs.size = h'.objs.size := Heap.size_update ..
        rw [this]
        exact Nat.le_trans hb (Nat.le_of_lt (Heap.lt_size hT'))
      · refine ⟨fun j t e => ?_, fun t ht => ?_, fun t ht => ?_, ?_⟩
        · by_cases hj : j < ts.length
          · rw [List.getElem?_append_left hj] at e
            obtain ⟨x, y, q1, q2, q3⟩ := hg.at' j t e
            have ht := hg.off t (List.mem_of_getElem? e)
            exact ⟨x, y, q1, q2, (Heap.get?_update_other _ _ (fun q => ht (by rw [← q]; exact List.mem_cons_self))).trans (kp _ _ ht q3)⟩
          · rw [List.getElem?_append_right (by omega)] at e
            have hj0 : j - ts.length = 0 := by
              rcases Nat.eq_zero_or_pos (j - ts.length) with q | q
              · exact q
              · rw [List.getElem?_eq_none (by simp; omega)] at e; cases e
            rw [hj0] at e
            cases e
            have : j = i := by omega
            subst this
            exact ⟨x1, x2, p1, p2, (Heap.get?_update_other _ _ (Ne.symm nS)).trans hT'⟩
        · rcases List.mem_append.mp ht with ht | ht
          · exact hg.big t ht
          · rw [List.mem_singleton.mp ht]; exact hb
        · rcases List.mem_append.mp ht with ht | ht
          · exact hg.off t ht
          · rw [List.mem_singleton.mp ht]; exact nb
        · rw [List.nodup_append]
          refine ⟨hg.nd, by simp, fun a ha b hb' => ?_⟩
          rw [List.mem_singleton.mp hb']
          exact Nat.ne_of_lt (tl a ha)
      · intro h'' tk'' acc' c' ts' q1 q2 q3 q4 q5
        refine hR h'' tk'' acc' c' ts' (fun b o hb e => q1 b o hb ?_) q2 q3 q4 q5
        exact (Heap.get?_update_other _ _ (fun q => hb (by rw [← q]; exact List.mem_cons_self))).trans (kp b o hb e)
    obtain ⟨a1, a2, hTO⟩ := st.to
    rcases st.zz with hz | ⟨T, f, oT, hz, hT, r1, r2, r3, r4⟩
    · refine wpAny_bind (wpAny_pyNext_zipD2_item Z D1 D2 hz st.ti hTO st.s1 st.s2 hlt1 hlt2 fun x1 x2 h' tk p1 p2 b1 b2 d1 d2 b5 b6 hk' => ?_)
      exact go x1 x2 h' tk p1 p2 ⟨hk' _ _ Z.TIz Z.TITO Z.TIi1 Z.TIi2 st.ti, d1, d2, ⟨_, _, b2⟩, .inr ⟨s.heap.objs.size, false, _, b1, b5, lt hz, ni1, ni2, nS⟩⟩ b5 hk' (lt hz) (lt hTO)
    · refine wpAny_bind (pyNext_held Z D1 D2 hz hT st.ti st.s1 st.s2 hlt1 hlt2 fun x1 x2 h' tk p1 p2 b1 d1 d2 b5 hk' => ?_)
      exact go x1 x2 h' tk p1 p2 ⟨hk' _ _ Z.TIz Z.TIi1 Z.TIi2 st.ti, d1, d2, ⟨_, _, hk' _ _ Z.TOz Z.Ti1 Z.Ti2 hTO⟩, .inr ⟨T, true, oT, b1, hk' _ _ r1 r2 r3 hT, r1, r2, r3, r4⟩⟩ b5 (fun c o c1 _ c3 c4 e => hk' c o c1 c3 c4 e) (lt hz) (lt hTO)
end
def putT : Hp → List Addr → List (V × V) → Hp
  | H, a :: as, p :: ps => putT (upd H a (.tup [p.1, p.2])) as ps
  | H, _, _ => H
theorem putT_off {b : Addr} : ∀ (as : List Addr) (ps : List (V × V)) (H : Hp), b ∉ as → putT H as ps b = H b
  | [], _, _, _ => rfl
  | _ :: _, [], _, _ => rfl
  | a :: as, p :: ps, H, h => by
    show putT (upd H a (.tup [p.1, p.2])) as ps b = H b
    rw [putT_off as ps _ (fun z => h (List.mem_cons_of_mem _ z)), upd_ne (fun z => h (by rw [z]; exact List.mem_cons_self))]
theorem putT_at : ∀ (as : List Addr) (ps : List (V × V)) (H : Hp), as.length = ps.length → as.Nodup → Paired (fun (t : Addr) (p : V × V) => putT H as ps t = some (.tup [p.1, p.2])) as ps
  | [], [], _, _, _ => .nil
  | [], _ :: _, _, h, _ => by cases h
  | _ :: _, [], _, h, _ => by cases h
  | a :: as, p :: ps, H, h, hn => by
    have hn' := List.nodup_cons.mp hn
    refine .cons ?_ (putT_at as ps (upd H a (.tup [p.1, p.2])) (Nat.succ.inj h) hn'.2)
    show putT (upd H a (.tup [p.1, p.2])) as ps a = some (.tup [p.1, p.2])
    rw [putT_off as ps _ hn'.1, upd_same]
section
variable {X : Cx} {ta : TA}
theorem laid {pins : List (Addr × Obj)} {σ : L2.St} {H : Hp} {s : Shared} {h' : Heap} {tk : Nat} {ps : List (V × V)} {S : Addr} {acc : Array Value} {c : Nat} {as : List Addr} (I : Inv X pins σ H s) (hz : ps.length ≤ sizeLine)
    (hk : ∀ b o, s.heap.get? b = some o → h'.get? b = some o) (hSn : s.heap.objs.size ≤ S) (hS : h'.get? S = some { cls := .type "list", dict := none, data := .seq acc c, slots := #[] }) (hl : as.length = ps.length) (hacc : acc.toList = as.map Value.ref)
    (hb : ∀ t ∈ as, s.heap.objs.size ≤ t) (hoff : S ∉ as) (nd : as.Nodup) (hG : ∀ (j : Nat) (t : Addr) (p : V × V), as[j]? = some t → ps[j]? = some p → ∃ x y, RelV p.1 x ∧ RelV p.2 y ∧ IsTupOf2 h' t x y) :
    ∃ H' : Hp, (∀ b o, H b = some o → H' b = some o) ∧ H S = none ∧ (∀ t ∈ as, H t = none) ∧ H' S = some (.lst (as.map V.ref)) ∧ Paired (fun (t : Addr) (q : V × V) => H' t = some (.tup [q.1, q.2])) as ps ∧ Inv X pins σ H' { s with heap := h', toks := tk } := by
  have new : ∀ t ∈ as, H t = none := fun t ht => I.hok.fresh (hb t ht)
  have newS : H S = none := I.hok.fresh hSn
  have atP := putT_at as ps (upd H S (.lst (as.map V.ref))) hl nd
  have off : ∀ b, b ∉ as → b ≠ S → putT (upd H S (.lst (as.map V.ref))) as ps b = H b := fun b h1 h2 => by rw [putT_off as ps _ h1, upd_ne h2]
  have low : ∀ b o, s.heap.get? b = some o → b ∉ as ∧ b ≠ S := fun b o e => ⟨fun z => absurd (Heap.lt_size e) (Nat.not_lt.mpr (hb b z)), fun z => absurd (Heap.lt_size e) (Nat.not_lt.mpr (z ▸ hSn))⟩
  have kp : ∀ b u, H b = some u → (putT (upd H S (.lst (as.map V.ref))) as ps) b = some u := fun b u e => by
    rw [off b (fun z => by rw [new b z] at e; cases e) (fun z => by rw [z, newS] at e; cases e)]
    exact e
  have eS : putT (upd H S (.lst (as.map V.ref))) as ps S = some (.lst (as.map V.ref)) := by rw [putT_off as ps _ hoff, upd_same]
  refine ⟨putT (upd H S (.lst (as.map V.ref))) as ps, kp, newS, new, eS, atP, ?_⟩
  refine I.call' (ch := []) rfl ⟨fun b o q _ _ _ => hk b o q, fun b o q _ _ _ => ⟨o.slots, hk b o q⟩, fun b o q n _ => ?_, fun b o q _ => ⟨o, hk b o q⟩, fun b xs q => kp b _ q, fun b o u q => kp b _ q, fun b ps q => ⟨#[], by rw [kp b _ q]; simp⟩⟩ (fun b u q => ?_) I.bare fun b z => by simp at z
  · obtain ⟨z1, z2⟩ := low b o q
    rw [off b z1 z2]
    exact n
  · by_cases hb1 : b ∈ as
    · obtain ⟨j, pk, e1, e2, e3⟩ := LiI.paired_ix atP hb1
      rw [e3] at q
      cases q
      obtain ⟨x, y, f1, f2, f3⟩ := hG j b pk e1 e2
      exact ⟨by show 2 ≤ sizeLine; decide, [x, y], .cons f1 (.cons f2 .nil), ⟨_, f3, rfl, _, rfl⟩⟩
    · by_cases hb2 : b = S
      · rw [hb2] at q ⊢
        rw [eS] at q
        cases q
        refine ⟨by rw [List.length_map]; omega, acc.toList, c, by rw [hacc]; exact LiI.vals_refs as, ?_⟩
        rw [Array.toArray_toList]
        exact hS
      · rw [off b hb1 hb2] at q
        exact (I.hok b u q).stay (fun d v _ y => hk d v y) (fun d y => kp d _ y) fun d xs y => kp d _ y
end
end Lz
namespace Lq
open PySem PySem.Spec PyProof.Rows L2
open Evl (Ex)
section
variable {X : Cx} {W : WX} {a b : Expr} {f g : Ms → R Dt} {pos : Pos}
end
end Lq

namespace Lq
open PySem PySem.Spec PyProof.Rows L2
open Evl (Ex)
section
variable {X : Cx} {W : WX} {o e : Expr} {f g : Ms → R Dt} {pos : Pos}
end
end Lq

namespace Lq
open PySem PySem.Spec PyProof.Rows L2
open Evl (Ex)
section
variable {X : Cx} {W : WX} {a : Expr} {f : Ms → R Dt} {p p2 pos pos2 : Pos}
end
structure NotT (K : PySem.W.Frag) (C : Addr) (n : String) : Prop where
  nf : PySem.W.notFirst K C (.type n) = true
  ki : PySem.W.kitOne K (.type n) (.ref C) = some false
def plainV (d : Dt) : Option String := match d with | .non => some "NoneType" | .str _ => some "str" | _ => none
def rEqT (K : PySem.W.Frag) (C : Addr) (n : String) (sp : Sp) : R2 := fun x y H Q => ∃ a dx fs, x = V.ref a ∧ H a = some (.ins C dx fs) ∧ ((y = .non ∧ n = "NoneType") ∨ (∃ z, y = .str z ∧ n = "str")) ∧ sp [.ref a, y] H (fun v H' => ∃ k, v = V.bl k ∧ Q v H') fun _ _ _ => False
theorem op_eqT {X : Cx} {CX : CXT} {n : Nat} {C f : Addr} {T : String} {fd : FuncData} {ps : List Str} {sp : Sp} (N : NotT X.K C T) (F : FnOk X.prog X.w X.K X.mg X.base CX n f fd ps sp)
    (hs : PySem.W.findIn X.K (.ref C) "__eq__" = some (some (.ref f))) (hf : PySem.W.isFn X.K (.ref f) = true) (hb : Binds X.K fd ps []) (hx : Passes CX X fun _ _ _ => False) (hr : Room n X.A) : OpR X (compareOp .Eq) (rEqT X.K C T sp) := by
  intro pins s σ H x y u v Q I rx ry hq
  obtain ⟨a, dx, fs, rfl, ha, hy, hsp⟩ := hq
  cases rx
  have hlk : PySem.W.Looks (model X.prog X.w) s.heap (typeOf v) (.type T) := by
    rcases hy with ⟨rfl, rfl⟩ | ⟨z, rfl, rfl⟩
    · cases (show v = Value.none from ry)
      exact PySem.W.Looks.of_pure rfl
    · obtain ⟨t, e⟩ := (show ∃ t, v = Value.str z t from ry)
      cases e
      exact PySem.W.Looks.of_pure rfl
  show wpAny (model X.prog X.w) X.A (richCompare .Eq (.ref a) v) (EP X pins σ Q) X.xe s
  obtain ⟨mA, J, _⟩ := ins_get I.hok ha
  obtain ⟨od, J, _⟩ := J.look
  obtain ⟨m, hF⟩ := I.fr
  refine PySem.W.cmp_K (op := .Eq) (tb := .type T) hr.units0 hF I.ok.mod.kin J hlk N.nf hs hf ?_
  have hl := F.len _ _ _ _ hsp
  have r2 : Vals [V.ref a, y] [Value.ref a, v] := .cons rfl (.cons ry .nil)
  refine wpAny_call (codeAny_mono (F.run X.A X.stack s H ⟨[.ref a, v], []⟩ [.ref a, v] [.ref a, y] _ _ hr I.env0 (by
    have := hb s [.ref a, v] I.kIn (by simpa using hl)
    simpa using this) r2 hsp) fun r s' hq => ?_)
  cases r with
  | error e => exact hx pins σ H s e s' I hq
  | ok fl =>
    cases fl with
    | ret w =>
      obtain ⟨z, H', I', rz, ⟨k, ez, q⟩⟩ := I.after hq
      subst ez
      cases rz
      exact ⟨.bl k, H', I', rfl, q⟩
    | next => exact False.elim hq
    | brk => exact False.elim hq
    | cont => exact False.elim hq
def eqT (C : Addr) (T : String) (g : List Dt → Fo) : Dt → Dt → Option Dt
  | .obj C1 ks xs, d => if C1 = C ∧ plainV d = some T then (match g [.obj C1 ks xs, d] with | .ok (.bl k) => some (.bl k) | _ => none) else none
  | _, _ => none
theorem eqT_run {C : Addr} {T : String} {g : List Dt → Fo} {ks : List Str} {xs : List Dt} {d : Dt} {k : Bool} (hd : plainV d = some T) (h : g [.obj C ks xs, d] = .ok (.bl k)) : eqT C T g (.obj C ks xs) d = some (.bl k) := by
  unfold eqT
  dsimp only
  rw [if_pos ⟨rfl, hd⟩, h]
theorem dt_eqT' {K : PySem.W.Frag} {W : WX} {f g : Ms → R Dt} {C : Addr} {T : String} {e : List Dt → Fo} (σ : L2.St) (H : Hp) (Q : VK) (q : tD K W (op2 f g (eqT C T e)) σ H Q) : tOp (rEqT K C T (spD K 2 e)) (tD K W f) (tD K W g) σ H Q := by
  obtain ⟨B, F, as, S, r0, o⟩ := q
  refine ⟨B, F, as, S, r0, Out.mono (Out.bind o) fun d F1 H1 as1 S1 ⟨r1, e1, o1⟩ v hv => ?_⟩
  refine ⟨B, F1, as1, S1, r1, ?_⟩
  have o2 := Out.bind o1
  revert o2
  cases g S1 with
  | ok d' S2 =>
    intro o2 F2 H2 as2 e2 r2 w hw
    obtain ⟨_, _, o3⟩ := o2 F2 H2 as2 e2 r2
    cases hz : eqT C T e d d' with
    | none => rw [hz] at o3; exact o3.elim
    | some z =>
      rw [hz] at o3
      cases d with
      | obj C1 ks xs =>
        unfold eqT at hz
        dsimp only at hz
        split at hz
        · rename_i hc
          obtain ⟨hC1, hP⟩ := hc
          subst hC1
          have hv2 := hv.up e2.1
          have hw2 := hw
          cases hv2 with
          | obj hs hks ha =>
            subst hks
            have hy : (w = .non ∧ T = "NoneType") ∨ (∃ z, w = .str z ∧ T = "str") := by
              cases d' with
              | non => cases hw; cases hP; exact .inl ⟨rfl, rfl⟩
              | str z => cases hw; cases hP; exact .inr ⟨z, rfl, rfl⟩
              | _ => cases hP
            refine ⟨_, _, _, rfl, r2.fh _ _ hs, hy, holdB B F2 H2 as2, F2, [_, _], rfl, r2.fh, hold_kept r2, .cons (.obj hs rfl ha) (.cons hw2 .nil), ?_⟩
            split at hz
            · rename_i k hg
              cases hz
              rw [hg]
              refine fun v F' H' ee eh kp hv' => ?_
              have hv3 := hv'
              cases hv3
              exact ⟨k, rfl, o3 F' H' as2 ⟨ee, [], by simp⟩ (hold_back r2 ee eh kp) _ hv'⟩
            · cases hz
        · cases hz
      | _ => cases hz
  | er x S2 => exact fun o2 => o2
  | no => exact fun o2 => o2
section
variable {X : Cx} {W W1 : WX} {a b : Expr} {pos : Pos} {f g : Ms → R Dt} {C : Addr} {T : String} {j k : Nat} {ps : List Str} {e : List Dt → Fo}
theorem de_eqT (N : NotT X.K C T) (c : CalQ X.prog X.w X.K X.mg X.base C k ps e) (tk : Takes X W1) (hr : Room j X.A) (hk : k ≤ j) (ha : PE X a (tD X.K W f)) (hb : PE X b (tD X.K W g)) : PE X (.Compare a [.Eq] [b] pos) (tD X.K W (op2 f g (eqT C T e))) := by
  obtain ⟨f, fd, F, h1, h2, h3⟩ := c
  exact monoE (pe_cmpR (op_eqT N F h1 h2 h3 (passes_no tk) (hr.mono hk)) ha hb (nomark _)) dt_eqT'
def isCN (C : Addr) (Ts : List String) : Dt → Option Dt
  | .obj C' ks xs => if C' = C then some (.bl true) else none
  | d => match plainV d with | some T => if T ∈ Ts then some (.bl false) else none | none => none
theorem isCN_run (C : Addr) (Ts : List String) (ks : List Str) (ds : List Dt) : isCN C Ts (.obj C ks ds) = some (.bl true) := if_pos rfl
theorem tyN_plain {d : Dt} {T : String} (h : plainV d = some T) : tyN d = some T := by
  cases d with
  | non => cases h; rfl
  | str z => cases h; rfl
  | _ => cases h
theorem de_isCN {o : Expr} {x : Str} {p p2 : Pos} {Ts : List String} (hN : ∀ T ∈ Ts, NotT X.K C T) (c : IsC X.K C) (hg : Gl X "isinstance") (hm : X.mg "isinstance" = none) (hgC : Gl X x) (hmC : X.mg x = some (.ref C)) (ho : PE X o (tD X.K W f)) (hdb : (x == ("__debug__" : Str)) = false := by decide)
    (hs : starEach [o, .Name x p2] X.env = (false, eval o X.env) :: starEach [.Name x p2] X.env := by rfl) (hs2 : starEach [.Name x p2] X.env = (false, eval (.Name x p2) X.env) :: starEach [] X.env := by rfl) (hpl : (backTo pos (starEach [.Name x p2] X.env)).any (·.1) = false := by rfl) :
    PE X (.Call (.Name "isinstance" p) [o, .Name x p2] [] pos) (tD X.K W (op1 f (isCN C Ts))) := by
  have hy : PE X (.Name x p2) (tC (.ref C)) := pe_glob hgC hmC rfl hdb
  refine monoE (pe_callB call_isi hg hm (by decide +kernel) (pa_cons ho (pa_cons hy pa_nil hs2) hs) (by decide) (by decide) hs hpl) fun σ H Q q => ?_
  obtain ⟨B, F, as, S, r, o⟩ := q
  refine ⟨B, F, as, S, r, Out.mono (Out.bind o) fun d F1 H1 as1 S1 ⟨r1, e1, o1⟩ v hv => ?_⟩
  have other : (∀ ks xs C', d ≠ .obj C' ks xs) → rIsi X.K [v, .ref C] H1 Q := fun hne => by
    have hd : isCN C Ts d = match plainV d with | some T => if T ∈ Ts then some (.bl false) else none | none => none := by
      cases d with
      | obj C' ks xs => exact absurd rfl (hne ks xs C')
      | _ => rfl
    rw [hd] at o1
    cases hp : plainV d with
    | none => rw [hp] at o1; exact o1.elim
    | some T =>
      rw [hp] at o1
      dsimp only at o1
      split at o1
      · rename_i hT
        exact ⟨v, .ref C, .type T, .ref C, false, rfl, .own C, tyx_of r1.fh hv (tyN_plain hp), (hN T hT).ki, Out.now o1 r1 _ (.bl false)⟩
      · exact o1.elim
  cases d with
  | obj C1 ks xs =>
    by_cases hC : C1 = C
    · subst hC
      rw [isCN_run] at o1
      cases hv with
      | obj hs hks ha =>
        exact ⟨_, _, .ref C1, .ref C1, true, rfl, .own C1, .base (.ins (r1.fh _ _ hs) c.cl c.ha c.hn c.htk c.hm), by unfold PySem.W.kitOne; rw [if_pos (by simp)], Out.now o1 r1 _ (.bl _)⟩
    · unfold isCN at o1
      dsimp only at o1
      rw [if_neg hC] at o1
      exact o1.elim
  | _ => exact other (fun _ _ _ h => nomatch h)
end
end Lq

namespace Lz
open PySem PySem.Spec PyProof.Rows L2
structure Ap3 (z TI TO i1 i2 i3 a b c : Addr) : Prop where
  sep : ZipSep3 z TI TO i1 i2 i3 [i1, a] [i2, b] [i3, c]
  a1 : a ≠ i1
  a2 : b ≠ i2
  a3 : c ≠ i3
end Lz
namespace Lq
open PySem PySem.Spec PyProof.Rows L2
open Evl (Ex)
section
variable {X : Cx} {W : WX} {e e2 e3 : Expr} {fs : Ms → R (List Dt)} {p pos tpos : Pos}
end
end Lq
namespace Lq
theorem forall_mem_cons' {α : Type} {P : α → Prop} {a : α} {l : List α} (h : P a) (r : ∀ x ∈ l, P x) : ∀ x ∈ a :: l, P x := fun x hx => by
  rcases List.mem_cons.mp hx with rfl | hx
  · exact h
  · exact r x hx
end Lq

namespace Lsr
open PySem PyProof.Rows Srt SrtO
section
variable {prog : Program} {w : World} {A : Around} {E : Value → Shared → Prop} {s : Shared}
end
end Lsr
namespace Lq
open PySem PySem.Spec PyProof.Rows L2
open Evl (Ex)
section
variable {X : Cx} {W : WX} {e : Expr} {p pos : Pos} {f : Ms → R Dt}
end
end Lq

namespace Lq
open PySem PySem.Spec PyProof.Rows L2
open Evl (Ex)
section
variable {X : Cx} {W : WX} {a b e o : Expr} {f g : Ms → R Dt} {pos apos p : Pos}
def fmtE (f : Ms → R Dt) : Ms → R Dt := fun S => (f S).bind fun d S1 => match d with
  | .str y => if y.length ≤ 100000 then .ok (.str y) S1 else .no
  | .int i => if i.natAbs < 1000000 then .ok (.str (toString i)) S1 else .no
  | _ => .no
theorem log_small {i : Int} (hi : i.natAbs < 1000000) : i.natAbs.log2 < 1920 := by
  have h2 : i.natAbs.log2 ≤ i.natAbs := by
    by_cases h0 : i.natAbs = 0
    · rw [h0]; decide
    · exact Nat.le_of_lt (Nat.lt_of_lt_of_le Nat.lt_two_pow_self (Nat.log2_self_le h0))
  by_cases h0 : i.natAbs = 0
  · rw [h0]; decide
  · exact Nat.lt_of_lt_of_le ((Nat.log2_lt h0).mpr (Nat.lt_of_lt_of_le hi (by decide : 1000000 ≤ 2 ^ 20))) (by decide)
theorem de_fmt (he : PE X e (tD X.K W f)) : PE X (.FormattedValue e (-1) none pos) (tD X.K W (fmtE f)) := monoE (pe_fmt he) fun σ H Q q => by
  obtain ⟨B, F, as, S, r, o⟩ := q
  refine ⟨B, F, as, S, r, Out.mono (Out.bind o) fun d F1 H1 as1 S1 ⟨r1, e1, o1⟩ v hv => ?_⟩
  cases d with
  | str y =>
    cases hv
    dsimp only at o1
    split at o1
    · rename_i hl
      exact .inl ⟨y, rfl, Nat.le_trans hl (by decide), Out.now o1 r1 _ (.str _)⟩
    · exact o1.elim
  | int i =>
    cases hv
    dsimp only at o1
    split at o1
    · rename_i hl
      exact .inr ⟨i, rfl, log_small hl, Out.now o1 r1 _ (.str _)⟩
    · exact o1.elim
  | _ => exact o1.elim
def jsG : List (Ms → R Dt) → Str → Ms → R Dt
  | [], acc, S => .ok (.str acc) S
  | t :: ts, acc, S => (t S).bind fun d S1 => match d with | .str y => if (acc ++ y).length ≤ 100000 then jsG ts (acc ++ y) S1 else .no | _ => .no
def jsE (ts : List (Ms → R Dt)) : Ms → R Dt := jsG ts Str.empty
inductive DJ (X : Cx) (W : WX) : List Expr → List (Ms → R Dt) → Prop where
  | nil : DJ X W [] []
  | cons {e : Expr} {t : Ms → R Dt} {es : List Expr} {ts : List (Ms → R Dt)} (h : PE X e (tD X.K W t)) (r : DJ X W es ts) : DJ X W (e :: es) (t :: ts)
theorem DJ.pj {es : List Expr} {ts : List (Ms → R Dt)} (h : DJ X W es ts) : PJ X es (ts.map (tD X.K W)) := by
  induction h with
  | nil => exact .nil
  | cons h r ih => exact .cons h ih
theorem tJs_of {K : PySem.W.Frag} : ∀ {ts : List (Ms → R Dt)} {acc : Str} {σ : L2.St} {B F H : Hp} {as : List Addr} {S : Ms} {Q : Str → Hp → Prop}, Rep K B F H as σ S → Out K W B F as σ (jsG ts acc S) (fun d _ H' _ _ => ∀ y, d = .str y → Q y H') → tJs (ts.map (tD K W)) acc σ H Q
  | [], acc, σ, B, F, H, as, S, Q, r, o => Out.now o r acc rfl
  | t :: ts, acc, σ, B, F, H, as, S, Q, r, o => by
    refine ⟨B, F, as, S, r, Out.mono (Out.bind o) fun d F1 H1 as1 S1 ⟨r1, e1, o1⟩ v hv => ?_⟩
    cases d with
    | str y =>
      cases hv
      dsimp only at o1
      split at o1
      · rename_i hl
        exact ⟨y, rfl, Nat.le_trans hl (by decide), tJs_of r1 o1⟩
      · exact o1.elim
    | _ => exact o1.elim
theorem de_js {v1 v2 : Expr} {rest : List Expr} {ts : List (Ms → R Dt)} (h : DJ X W (v1 :: v2 :: rest) ts) : PE X (.JoinedStr (v1 :: v2 :: rest) pos) (tD X.K W (jsE ts)) := monoE (pe_joined h.pj) fun σ H Q q => by
  obtain ⟨B, F, as, S, r, o⟩ := q
  refine tJs_of r ?_
  unfold jsE at o
  cases hj : jsG ts Str.empty S with
  | ok d S1 =>
    rw [hj] at o
    intro F' H' as' ee rr y hy
    subst hy
    exact o F' H' as' ee rr _ (.str y)
  | er x S1 => rw [hj] at o; exact o
  | no => rw [hj] at o; exact o.elim
def parE (f g : Ms → R Dt) : Ms → R Dt := fun S => (f S).bind fun d S1 => match d with
  | .str x => (g S1).bind fun e S2 => match e with
    | .str y => if (y.length == 0) = false ∧ x.length ≤ 100000 then .ok (.tup [.str (Txt.partition x y).1, .str (Txt.partition x y).2.1, .str (Txt.partition x y).2.2]) S2 else .no
    | _ => .no
  | _ => .no
theorem de_par (ho : PE X o (tD X.K W f)) (he : PE X e (tD X.K W g)) (hs : starEach [e] X.env = [(false, eval e X.env)] := by rfl) (hbase : attributeBase o "partition" X.env (eval o X.env) = eval o X.env := by rfl) (hline : (apos.endLine == pos.line) = true := by rfl) :
    PE X (.Call (.Attribute o "partition" apos) [e] [] pos) (tD X.K W (parE f g)) :=
  monoE (pe_partition ho he hs hbase hline) fun σ H Q q => by
    obtain ⟨B, F, as, S, r, o⟩ := q
    refine ⟨B, F, as, S, r, Out.mono (Out.bind o) fun d F1 H1 as1 S1 ⟨r1, e1, o1⟩ v hv => ?_⟩
    cases d with
    | str x =>
      cases hv
      refine ⟨⟨x, rfl⟩, B, F1, as1, S1, r1, Out.mono (Out.bind o1) fun d2 F2 H2 as2 S2 ⟨r2, e2, o2⟩ v2 hv2 => ?_⟩
      cases d2 with
      | str y =>
        cases hv2
        dsimp only at o2
        split at o2
        · rename_i hl
          exact ⟨x, y, rfl, rfl, hl.1, Nat.le_trans hl.2 (by decide), fun p hp => (gv_of o2 r2).2 p _ hp (.tup upd_same (.cons (.str _) (.cons (.str _) (.cons (.str _) .nil))))⟩
        · exact o2.elim
      | _ => exact o2.elim
    | _ => exact o1.elim
def splN (f g : Ms → R Dt) : Ms → R (List Dt) := fun S => (f S).bind fun d S1 => match d with
  | .str x => (g S1).bind fun e S2 => match e with
    | .str y => if (y.length == 0) = false ∧ x.length ≤ 100000 then .ok ((Txt.split x y).map Dt.str) S2 else .no
    | _ => .no
  | _ => .no
theorem rp_strs {K : PySem.W.Frag} {F : Hp} : ∀ ys : List Str, RpA K F (ys.map V.str) (ys.map Dt.str)
  | [] => .nil
  | y :: ys => .cons (.str y) (rp_strs ys)
theorem dn_spl (ho : PE X o (tD X.K W f)) (he : PE X e (tD X.K W g)) (hs : starEach [e] X.env = [(false, eval e X.env)] := by rfl) (hbase : attributeBase o "split" X.env (eval o X.env) = eval o X.env := by rfl) (hline : (apos.endLine == pos.line) = true := by rfl) :
    PE X (.Call (.Attribute o "split" apos) [e] [] pos) (tN X.K W (splN f g)) :=
  monoE (pe_split ho he hs hbase hline) fun σ H Q q => by
    obtain ⟨B, F, as, S, r, o⟩ := q
    refine ⟨B, F, as, S, r, Out.mono (Out.bind o) fun d F1 H1 as1 S1 ⟨r1, e1, o1⟩ v hv => ?_⟩
    cases d with
    | str x =>
      cases hv
      refine ⟨⟨x, rfl⟩, B, F1, as1, S1, r1, Out.mono (Out.bind o1) fun d2 F2 H2 as2 S2 ⟨r2, e2, o2⟩ v2 hv2 => ?_⟩
      cases d2 with
      | str y =>
        cases hv2
        dsimp only at o2
        split at o2
        · rename_i hl
          refine ⟨x, y, rfl, rfl, hl.1, Nat.le_trans (Nat.add_le_add_right hl.2 2) (by decide), fun p hp => gvl_of o2 r2 p _ hp (rp_strs _)⟩
        · exact o2.elim
      | _ => exact o2.elim
    | _ => exact o1.elim
def intSO : List Dt → Option Dt | [.str x] => if x.length ≤ 640 then (PySem.intText? x).map Dt.int else none | _ => none
theorem de_intS (hg : Gl X "int") (hm : X.mg "int" = none) (ha : PE X a (tD X.K W f)) (hs : starEach [a] X.env = (false, eval a X.env) :: starEach [] X.env := by rfl) : PE X (.Call (.Name "int" p) [a] [] pos) (tD X.K W (calE (aCons f aNil) intSO)) :=
  de_calT (fun F H vs ds z Q ex hv hz q => by
    unfold intSO at hz
    split at hz
    · split at hz
      · rename_i x hl
        cases hn : PySem.intText? x with
        | none => rw [hn] at hz; cases hz
        | some n =>
          rw [hn] at hz
          cases hz
          obtain ⟨v, rfl, h1⟩ := rpa1 hv
          cases h1
          exact ⟨x, n, rfl, hn, hl, q.1 _ (.int _)⟩
      · cases hz
    · cases hz) call_int_str hg hm (by decide +kernel) (da_cons ha da_nil hs) (by decide) (by decide) hs (by rfl)
end
def rStrO (C : Addr) (sp : Sp) : List V → Hp → VK → Prop := fun xs H Q => ∃ a dx fs, xs = [V.ref a] ∧ H a = some (.ins C dx fs) ∧ sp [.ref a] H (fun v H' => ∃ y, v = V.str y ∧ Q v H') fun _ _ _ => False
theorem call_strO {X : Cx} {CX : CXT} {n : Nat} {C f : Addr} {fd : FuncData} {ps : List Str} {sp : Sp} (F : FnOk X.prog X.w X.K X.mg X.base CX n f fd ps sp)
    (hs : PySem.W.findIn X.K (.ref C) "__str__" = some (some (.ref f))) (hf : PySem.W.isFn X.K (.ref f) = true) (hb : Binds X.K fd ps []) (hx : Passes CX X fun _ _ _ => False) (hr : Room (n + 2) X.A) : CallR X (.type "str") (rStrO C sp) := by
  intro pins s σ H xs us Q I rs hq
  obtain ⟨a, dx, fs, rfl, ha, hsp⟩ := hq
  obtain ⟨u, rfl, ru⟩ := vals1 rs
  obtain rfl : u = Value.ref a := ru
  obtain ⟨mA, J, _⟩ := ins_get I.hok ha
  obtain ⟨od, J, _⟩ := J.look
  have hl := F.len _ _ _ _ hsp
  have r2 : Vals [V.ref a] [Value.ref a] := .cons rfl .nil
  have hr1 : Room n X.A.in1.in1 := hr.in1.in1
  refine PySem.W.kso_call hr1.units0 I.kIn J hs hf ?_
  refine wpAny_call (codeAny_mono (F.run X.A.in1.in1 X.stack s H ⟨[.ref a], []⟩ [.ref a] [.ref a] _ _ hr1 I.env0.in1.in1 (by
    have := hb s [.ref a] I.kIn (by simpa using hl)
    simpa using this) r2 hsp) fun r s' hq => ?_)
  cases r with
  | error e => exact hx pins σ H s e s' I hq
  | ok fl =>
    cases fl with
    | ret w =>
      obtain ⟨z, H', I', rz, ⟨y, ez, q⟩⟩ := I.after hq
      subst ez
      obtain ⟨t, e⟩ := rz
      subst e
      exact ⟨.str y, H', I', ⟨t, rfl⟩, q⟩
    | next => exact False.elim hq
    | brk => exact False.elim hq
    | cont => exact False.elim hq
end Lq

namespace Lne
open PySem PySem.W PySem.Spec PySem.Calls PyProof.Rows
section
variable {prog : Program} {w : World} {A : Around} {E : Value → Shared → Prop} {s : Shared} {K : Frag} {x C L f : Addr} {h₀ : Heap} {m : Str → Option Value} {ox : Obj} {od : Option Obj} {b tb : Value}
theorem ifBound_B {M : Model} {name : Str} {id : String} {args : List Value} {Q : Option Value → Shared → Prop} (X : K.In s.heap) (I : InstAt s.heap x ox C od) (hs : findIn K (.ref C) name = some (some (.builtin id)))
    (hb : ∀ self, bindSpecial (.builtin id) self = pure (.builtin id, [self])) (h : wpAny M A (call (.builtin id) (.ref x :: args)) (fun v => Q (some v)) E s) : wpAny M A (callSpecialIfBound? (.ref x) name args) Q E s := by
  simp only [callSpecialIfBound?, bindSpecialIfBound?]
  refine wpAny_holding (wpAny_bind (wpAny_bind (wpAny_bind (I.type.here ((looks_findIn X hs).here ?_)))))
  refine wpAny_bind (wpAny_askSetting (wpAny_ite ?_))
  have fin : wpAny M A (call (.builtin id) ([.ref x] ++ args) >>= fun v => pure (some v)) Q E s := wpAny_bind (wpAny_mono h (fun v s' h' => wpAny_pure h') fun _ _ h' => h')
  split
  · exact wpAny_bind ((Looks.of_pure (hb _)).here (wpAny_pure (by exact fin)))
  · exact wpAny_tryCatch (wpAny_bind ((Looks.of_pure (hb _)).here (wpAny_pure (by exact fin))))
theorem ne_K {Q : Value → Shared → Prop} (hu : A.units < cLine) (hu1 : A.in1.units < cLine) (F : Fr h₀ L s.heap m) (X₀ : K.In h₀) (I : InstAt s.heap x ox C od) (hb : Looks (model prog w) s.heap (typeOf b) tb) (hn : notFirst K C tb = true)
    (hsn : findIn K (.ref C) "__ne__" = some (some (.builtin "object.__ne__"))) (hm : mroIn K C (.type "object") = some true)
    (hs : findIn K (.ref C) "__eq__" = some (some (.ref f))) (hf : isFn K (.ref f) = true)
    (h : wpAny (model prog w) A.in1 (call (.ref f) [.ref x, b]) (fun v s' => ∃ k, v = .bool k ∧ Q (.bool (!k)) s') E s) : wpAny (model prog w) A (richCompare .NotEq (.ref x) b) Q E s := by
  have X := X₀.keeps F.keep
  have one : wpAny (model prog w) A (tryCompare (.ref x) (cmpInfo .NotEq).2.1 b) (fun r s' => ∃ v, r = some v ∧ Q v s') E s := by
    unfold tryCompare
    refine wpAny_bind (ifBound_B X I hsn PySem.F.slot_object_ne.bind ?_)
    refine wpAny_call (codeAny_call_builtin PySem.F.slot_object_ne.plain PySem.F.cmpEntry_ne (check_slot (i := "object.__ne__") (owner := "object") (n := "__ne__") (by decide +kernel) (by decide +kernel) (I.type.andThen (looks_mroIn X hm)) (PySem.F.cmpArgs_ne _ _) ?_))
    unfold Builtin.«object.__ne__»
    refine wpAny_bind (m := slotArgs "__ne__" 1 _) (wpAny_pure ?_)
    refine wpAny_bind (m := cRoomFor _ _) (wpAny_cRoomFor hu1 ?_)
    refine wpAny_bind (m := callSpecialIfBound? (.ref x) (Str.ofString "__eq__") _) (ifBound_K X I hs hf (wpAny_mono h (fun v s' hv => ?_) fun _ _ e => e))
    obtain ⟨k, rfl, hq⟩ := hv
    exact wpAny_pure (wpAny_pure ⟨_, rfl, hq⟩)
  unfold richCompare
  simp only [oneThing_ref]
  refine wpAny_holding (wpAny_bind (wpAny_cRoomFor hu ?_))
  refine wpAny_bind (I.type.here (wpAny_bind (hb.here ?_)))
  split
  · rename_i q
    have e : subIn K tb (.ref C) = some false := by
      rcases Bool.or_eq_true_iff.mp hn with e | e
      · rw [beq_iff_eq.mp e] at q; simp at q
      · exact beq_iff_eq.mp e
    refine wpAny_bind ((looks_subIn X e).here ?_)
    simp only [Bool.false_eq_true, if_false]
    refine wpAny_bind (wpAny_mono one (fun r s' z => ?_) fun _ _ e => e)
    obtain ⟨v, rfl, hq⟩ := z
    exact wpAny_pure hq
  · refine wpAny_bind (wpAny_pure ?_)
    simp only [Bool.false_eq_true, if_false]
    refine wpAny_bind (wpAny_mono one (fun r s' z => ?_) fun _ _ e => e)
    obtain ⟨v, rfl, hq⟩ := z
    exact wpAny_pure hq
end
end Lne
namespace Lq
open PySem PySem.Spec PyProof.Rows L2
open Evl (Ex)
structure NeC (K : PySem.W.Frag) (C : Addr) : Prop where
  sn : PySem.W.findIn K (.ref C) "__ne__" = some (some (.builtin "object.__ne__"))
  hm : PySem.W.mroIn K C (.type "object") = some true
def rNeO (C : Addr) (sp : Sp) : R2 := fun x y H Q => ∃ a b dx dy fs gs, x = V.ref a ∧ y = V.ref b ∧ H a = some (.ins C dx fs) ∧ H b = some (.ins C dy gs) ∧ sp [.ref a, .ref b] H (fun v H' => ∃ k, v = V.bl k ∧ Q (V.bl (!k)) H') fun _ _ _ => False
theorem op_neC {X : Cx} {CX : CXT} {n : Nat} {C f : Addr} {fd : FuncData} {ps : List Str} {sp : Sp} (N : NeC X.K C) (F : FnOk X.prog X.w X.K X.mg X.base CX n f fd ps sp)
    (hs : PySem.W.findIn X.K (.ref C) "__eq__" = some (some (.ref f))) (hf : PySem.W.isFn X.K (.ref f) = true) (hb : Binds X.K fd ps []) (hx : Passes CX X fun _ _ _ => False) (hr : Room (n + 1) X.A) : OpR X (compareOp .NotEq) (rNeO C sp) := by
  intro pins s σ H x y u v Q I rx ry hq
  obtain ⟨a, b, dx, dy, fs, gs, rfl, rfl, ha, hb', hsp⟩ := hq
  cases rx
  cases ry
  show wpAny (model X.prog X.w) X.A (richCompare .NotEq (.ref a) (.ref b)) (EP X pins σ Q) X.xe s
  obtain ⟨mA, J, _⟩ := ins_get I.hok ha
  obtain ⟨mB, J', _⟩ := ins_get I.hok hb'
  obtain ⟨od, J, _⟩ := J.look
  obtain ⟨od', J', _⟩ := J'.look
  obtain ⟨m, hF⟩ := I.fr
  refine Lne.ne_K (tb := .ref C) hr.units0 hr.in1.units0 hF I.ok.mod.kin J J'.type (by simp [PySem.W.notFirst]) N.sn N.hm hs hf ?_
  have hl := F.len _ _ _ _ hsp
  have r2 : Vals [V.ref a, V.ref b] [Value.ref a, Value.ref b] := .cons rfl (.cons rfl .nil)
  refine wpAny_call (codeAny_mono (F.run X.A.in1 X.stack s H ⟨[.ref a, .ref b], []⟩ [.ref a, .ref b] [.ref a, .ref b] _ _ hr.in1 I.env0.in1 (by
    have := hb s [.ref a, .ref b] I.kIn (by simpa using hl)
    simpa using this) r2 hsp) fun r s' hq => ?_)
  cases r with
  | error e => exact hx pins σ H s e s' I hq
  | ok fl =>
    cases fl with
    | ret w =>
      obtain ⟨z, H', I', rz, ⟨k, ez, q⟩⟩ := I.after hq
      subst ez
      cases rz
      exact ⟨k, rfl, .bl (!k), H', I', rfl, q⟩
    | next => exact False.elim hq
    | brk => exact False.elim hq
    | cont => exact False.elim hq
def neC (C : Addr) (g : List Dt → Fo) : Dt → Dt → Option Dt
  | .obj C1 ks xs, .obj C2 ls ys => if C1 = C ∧ C2 = C then (match g [.obj C1 ks xs, .obj C2 ls ys] with | .ok (.bl k) => some (.bl (!k)) | _ => none) else none
  | _, _ => none
theorem neC_run {C : Addr} {g : List Dt → Fo} {ks ls : List Str} {xs ys : List Dt} {k : Bool} (h : g [.obj C ks xs, .obj C ls ys] = .ok (.bl k)) : neC C g (.obj C ks xs) (.obj C ls ys) = some (.bl (!k)) := by
  unfold neC
  dsimp only
  rw [if_pos ⟨rfl, rfl⟩, h]
theorem dt_neO' {K : PySem.W.Frag} {W : WX} {f g : Ms → R Dt} {C : Addr} {e : List Dt → Fo} (σ : L2.St) (H : Hp) (Q : VK) (q : tD K W (op2 f g (neC C e)) σ H Q) : tOp (rNeO C (spD K 2 e)) (tD K W f) (tD K W g) σ H Q := by
  obtain ⟨B, F, as, S, r0, o⟩ := q
  refine ⟨B, F, as, S, r0, Out.mono (Out.bind o) fun d F1 H1 as1 S1 ⟨r1, e1, o1⟩ v hv => ?_⟩
  refine ⟨B, F1, as1, S1, r1, ?_⟩
  have o2 := Out.bind o1
  revert o2
  cases g S1 with
  | ok d' S2 =>
    intro o2 F2 H2 as2 e2 r2 w hw
    obtain ⟨_, _, o3⟩ := o2 F2 H2 as2 e2 r2
    cases hz : neC C e d d' with
    | none => rw [hz] at o3; exact o3.elim
    | some z =>
      rw [hz] at o3
      cases d with
      | obj C1 ks xs =>
        cases d' with
        | obj C2 ls ys =>
          unfold neC at hz
          dsimp only at hz
          split at hz
          · rename_i hc
            obtain ⟨hC1, hC2⟩ := hc
            subst hC1
            subst hC2
            have hv2 := hv.up e2.1
            have hw2 := hw
            cases hv2 with
            | obj hs hks ha =>
              cases hw2 with
              | obj hs' hks' ha' =>
                subst hks
                subst hks'
                refine ⟨_, _, _, _, _, _, rfl, rfl, r2.fh _ _ hs, r2.fh _ _ hs', holdB B F2 H2 as2, F2, [_, _], rfl, r2.fh, hold_kept r2, .cons (.obj hs rfl ha) (.cons (.obj hs' rfl ha') .nil), ?_⟩
                split at hz
                · rename_i k hg
                  cases hz
                  rw [hg]
                  refine fun v F' H' ee eh kp hv' => ?_
                  have hv3 := hv'
                  cases hv3
                  exact ⟨k, rfl, o3 F' H' as2 ⟨ee, [], by simp⟩ (hold_back r2 ee eh kp) _ (.bl (!k))⟩
                · cases hz
          · cases hz
        | _ => cases hz
      | _ => cases hz
  | er x S2 => exact fun o2 => o2
  | no => exact fun o2 => o2
def CalS (P : Program) (w : World) (K : PySem.W.Frag) (mg : Str → Option Value) (base : Heap) (C : Addr) (k : Nat) (ps : List Str) (g : List Dt → Fo) : Prop :=
  ∃ f fd, FnOk P w K mg base (L2.CX P w) k f fd ps (spD K 1 g) ∧ PySem.W.findIn K (.ref C) "__str__" = some (some (.ref f)) ∧ PySem.W.isFn K (.ref f) = true ∧ Binds K fd ps []
def strC (C : Addr) (g : List Dt → Fo) : List Dt → Option Dt
  | [.obj C1 ks xs] => if C1 = C then (match g [.obj C1 ks xs] with | .ok (.str y) => some (.str y) | _ => none) else none
  | _ => none
theorem strC_run {C : Addr} {g : List Dt → Fo} {ks : List Str} {xs : List Dt} {y : Str} (h : g [.obj C ks xs] = .ok (.str y)) : strC C g [.obj C ks xs] = some (.str y) := by
  unfold strC
  dsimp only
  rw [if_pos rfl, h]
section
variable {X : Cx} {W W1 : WX} {a b : Expr} {pos p : Pos} {f g : Ms → R Dt} {C : Addr} {j k : Nat} {ps : List Str} {e : List Dt → Fo}
theorem de_neC (N : NeC X.K C) (c : CalQ X.prog X.w X.K X.mg X.base C k ps e) (tk : Takes X W1) (hr : Room j X.A) (hk : k + 1 ≤ j) (ha : PE X a (tD X.K W f)) (hb : PE X b (tD X.K W g)) : PE X (.Compare a [.NotEq] [b] pos) (tD X.K W (op2 f g (neC C e))) := by
  obtain ⟨f, fd, F, h1, h2, h3⟩ := c
  exact monoE (pe_cmpR (op_neC N F h1 h2 h3 (passes_no tk) (hr.mono hk)) ha hb (nomark _)) dt_neO'
theorem de_strC (c : CalS X.prog X.w X.K X.mg X.base C k ps e) (tk : Takes X W1) (hr : Room j X.A) (hk : k + 2 ≤ j) (hg : Gl X "str") (hm : X.mg "str" = none) (ha : PE X a (tD X.K W f)) (hs : starEach [a] X.env = (false, eval a X.env) :: starEach [] X.env := by rfl) :
    PE X (.Call (.Name "str" p) [a] [] pos) (tD X.K W (calE (aCons f aNil) (strC C e))) := by
  obtain ⟨ff, fd, F, h1, h2, h3⟩ := c
  refine monoE (pe_callTy (call_strO F h1 h2 h3 (passes_no tk) (hr.mono hk)) hg hm (by decide +kernel) (da_cons ha da_nil hs) (by decide) (by decide) hs (by rfl)) fun σ H Q q => ?_
  obtain ⟨B, F, as, S, r0, o⟩ := q
  refine ⟨B, F, as, S, r0, Out.mono (Out.bind o) fun ds F1 H1 as1 S1 ⟨r1, e1, o1⟩ vs hv => ?_⟩
  cases hz : strC C e ds with
  | none => rw [hz] at o1; exact o1.elim
  | some z =>
    rw [hz] at o1
    unfold strC at hz
    split at hz
    · split at hz
      · rename_i C1 ks xs hC
        subst hC
        obtain ⟨v, rfl, h4⟩ := rpa1 hv
        cases h4 with
        | obj hs hks ha =>
          subst hks
          refine ⟨_, _, _, rfl, r1.fh _ _ hs, holdB B F1 H1 as1, F1, [_], rfl, r1.fh, hold_kept r1, .cons (.obj hs rfl ha) .nil, ?_⟩
          split at hz
          · rename_i y hg
            cases hz
            rw [hg]
            refine fun v F' H' ee eh kp hv' => ?_
            have hv3 := hv'
            cases hv3
            exact ⟨y, rfl, o1 F' H' as1 ⟨ee, [], by simp⟩ (hold_back r1 ee eh kp) _ (.str y)⟩
          · cases hz
      · cases hz
    · cases hz
end
end Lq

namespace Lq
open PySem PySem.Spec PyProof.Rows L2
def addW (p : Int) (v w : List Int) : List Int := List.zipWith (fun a b => (a + b) % p) v w
def scW (p a : Int) (v : List Int) : List Int := v.map fun x => x * a % p
def okP (p : Int) : Bool := decide (0 < p ∧ p ≤ 1000)
def okW (p : Int) (v : List Int) : Bool := decide (v.length ≤ 1000) && v.all fun x => decide (0 ≤ x ∧ x < p)
theorem okP_iff {p : Int} : okP p = true ↔ 0 < p ∧ p ≤ 1000 := by simp [okP]
theorem okW_iff {p : Int} {v : List Int} : okW p v = true ↔ v.length ≤ 1000 ∧ ∀ x ∈ v, 0 ≤ x ∧ x < p := by simp [okW]

def m_add : Ms → O := (retS (calE (aCons (frz (lcE (itZ (aCons (varE 0) (aCons (varE 1) aNil))) (Tk.tp [3, 4]).k yesT (op2 (op2 (varE 3) (varE 4) addO) (varE 2) modO) [3, 4])) aNil) tupO))
def m_scaled : Ms → O := (retS (calE (aCons (frz (lcE (itS (varE 0)) (Tk.nm 3).k yesT (op2 (op2 (varE 3) (varE 1) mulO) (varE 2) modO) [3])) aNil) tupO))
def m__law_sum : Ms → O := (retS (calE (aCons (frz (lcE (itR1 (aCons (calE (aCons (varE 0) aNil) lenO) aNil)) (Tk.nm 3).k yesT (op2 (calE (aCons (op2 (op2 (varE 0) (varE 3) ixO) (op2 (varE 1) (varE 3) ixO) addO) aNil) intO) (varE 2) modO) [3])) aNil) tupO))
def m__law_scaled : Ms → O := (retS (calE (aCons (frz (lcE (itS (varE 0)) (Tk.nm 3).k yesT (op2 (calE (aCons (op2 (varE 3) (varE 1) mulO) aNil) intO) (varE 2) modO) [3])) aNil) tupO))
def m__law_take : Ms → O := (seqS (ifS (tst (op2 (ixV 0 (cE (.int 0))) (cE (.int 0)) gtO)) (seqS (asgS 2 (op2 (calE (aCons (ixV 0 (cE (.int 0))) aNil) intO) (varE 1) modO))
  (seqS (setS 0 (op2 (ixV 0 (cE (.int 0))) (varE 1) divO) (cE (.int 0)))
  (retS (varE 2)))) nilS)
  (seqS (setS 0 (op2 (calE (aCons (op2 (op2 (ixV 0 (cE (.int 1))) (cE (.int 48271)) mulO) (cE (.int 11)) addO) aNil) intO) (cE (.int 2147483647)) modO) (cE (.int 1)))
  (retS (op2 (calE (aCons (op2 (ixV 0 (cE (.int 1))) (cE (.int 7)) divO) aNil) intO) (varE 1) modO))))
def FaddW : List Dt → Fo
  | [d, e, .int p] => match wordOf d, wordOf e with
    | some v, some w => if (okP p && okW p v && okW p w && decide (v.length = w.length)) = true then .ok (Wd (addW p v w)) else .no
    | _, _ => .no
  | _ => .no
theorem FaddW_inv {ds : List Dt} (h : FaddW ds ≠ .no) : ∃ v w p, ds = [Wd v, Wd w, .int p] ∧ okP p = true ∧ okW p v = true ∧ okW p w = true ∧ v.length = w.length ∧ FaddW ds = .ok (Wd (addW p v w)) := by
  unfold FaddW at h
  split at h
  · rename_i d e p
    split at h
    · rename_i v w h1 h2
      split at h
      · rename_i hc
        have := wordOf_eq h1
        have := wordOf_eq h2
        subst_vars
        simp only [Bool.and_eq_true, decide_eq_true_eq] at hc
        refine ⟨v, w, p, rfl, hc.1.1.1, hc.1.1.2, hc.1.2, hc.2, ?_⟩
        simp only [FaddW, wordOf_Wd]
        rw [if_pos (by simp [hc])]
      · exact absurd rfl h
    · exact absurd rfl h
  · exact absurd rfl h
def FscW : List Dt → Fo
  | [d, .int a, .int p] => match wordOf d with
    | some v => if (okP p && okW p v) = true then .ok (Wd (scW p a v)) else .no
    | _ => .no
  | _ => .no
theorem FscW_inv {ds : List Dt} (h : FscW ds ≠ .no) : ∃ v a p, ds = [Wd v, .int a, .int p] ∧ okP p = true ∧ okW p v = true ∧ FscW ds = .ok (Wd (scW p a v)) := by
  unfold FscW at h
  split at h
  · rename_i d a p
    split at h
    · rename_i v h1
      split at h
      · rename_i hc
        have := wordOf_eq h1
        subst_vars
        simp only [Bool.and_eq_true] at hc
        refine ⟨v, a, p, rfl, hc.1, hc.2, ?_⟩
        simp only [FscW, wordOf_Wd]
        rw [if_pos (by simp [hc])]
      · exact absurd rfl h
    · exact absurd rfl h
  · exact absurd rfl h
theorem zipD_ints : ∀ (v w : List Int), zipD (v.map Dt.int) (w.map Dt.int) = (v.zip w).map fun q => Dt.tup [.int q.1, .int q.2]
  | [], _ => by simp [zipD]
  | _ :: _, [] => by simp [zipD]
  | a :: v, b :: w => by
    have := zipD_ints v w
    unfold zipD at this ⊢
    simp [this]
theorem cmul_w {p x a : Int} (hp : p ≤ 1000) (hx : 0 ≤ x ∧ x < p) : CMul x a := by
  have h1 : (1000 : Int) < 2 ^ 64 := by decide
  have h2 : -(2 : Int) ^ 64 < 0 := by decide
  exact .inl ⟨by omega, by omega⟩
theorem run_add (ds : List Dt) (h : FaddW ds ≠ .no) : runD 5 m_add ds = FaddW ds := by
  obtain ⟨v, w, p, rfl, hp, hv, hw, hl, e⟩ := FaddW_inv h
  rw [e]
  obtain ⟨hp1, hp2⟩ := okP_iff.mp hp
  obtain ⟨hv1, hv2⟩ := okW_iff.mp hv
  have key : (lcE (itZ (aCons (varE 0) (aCons (varE 1) aNil))) (Tk.tp [3, 4]).k yesT (op2 (op2 (varE 3) (varE 4) addO) (varE 2) modO) [3, 4]) (st0 5 [Wd v, Wd w, .int p]) = .ok ((v.zip w).map fun q => Dt.int ((q.1 + q.2) % p)) (st0 5 [Wd v, Wd w, .int p]) := by
    refine lcE_map (fun q : Int × Int => Dt.tup [.int q.1, .int q.2]) _ (v.zip w) ?_ (fun q hq => ?_) (fun d T T' => Tk.mo) (by simp; omega)
    · simp [st0, Wd, zipD_ints]
    · simp [st0, wipeL, kNames, hp1]
  unfold runD m_add
  simp only [retS_run, calE_run, aCons_run, frz_run']
  rw [key]
  simp only [R.bind_ok, aNil_run, tupO_lst, R.of_some, R.stmt_ok, O.fo, Wd, addW]
  congr 2
  rw [List.map_zipWith, List.zip, List.map_zipWith]
theorem run_scaled (ds : List Dt) (h : FscW ds ≠ .no) : runD 4 m_scaled ds = FscW ds := by
  obtain ⟨v, a, p, rfl, hp, hv, e⟩ := FscW_inv h
  rw [e]
  obtain ⟨hp1, hp2⟩ := okP_iff.mp hp
  obtain ⟨hv1, hv2⟩ := okW_iff.mp hv
  have key : (lcE (itS (varE 0)) (Tk.nm 3).k yesT (op2 (op2 (varE 3) (varE 1) mulO) (varE 2) modO) [3]) (st0 4 [Wd v, .int a, .int p]) = .ok (v.map fun x => Dt.int (x * a % p)) (st0 4 [Wd v, .int a, .int p]) := by
    refine lcE_map Dt.int _ v ?_ (fun x hx => ?_) (fun d T T' => Tk.mo) (by omega)
    · simp [st0, Wd]
    · have := cmul_w (a := a) hp2 (hv2 x hx)
      simp [st0, wipeL, hp1, this]
  unfold runD m_scaled
  simp only [retS_run, calE_run, aCons_run, frz_run']
  rw [key]
  simp only [R.bind_ok, aNil_run, tupO_lst, R.of_some, R.stmt_ok, O.fo, Wd, scW, List.map_map]
  rfl
theorem run__law_scaled (ds : List Dt) (h : FscW ds ≠ .no) : runD 4 m__law_scaled ds = FscW ds := by
  obtain ⟨v, a, p, rfl, hp, hv, e⟩ := FscW_inv h
  rw [e]
  obtain ⟨hp1, hp2⟩ := okP_iff.mp hp
  obtain ⟨hv1, hv2⟩ := okW_iff.mp hv
  have key : (lcE (itS (varE 0)) (Tk.nm 3).k yesT (op2 (calE (aCons (op2 (varE 3) (varE 1) mulO) aNil) intO) (varE 2) modO) [3]) (st0 4 [Wd v, .int a, .int p]) = .ok (v.map fun x => Dt.int (x * a % p)) (st0 4 [Wd v, .int a, .int p]) := by
    refine lcE_map Dt.int _ v ?_ (fun x hx => ?_) (fun d T T' => Tk.mo) (by omega)
    · simp [st0, Wd]
    · have := cmul_w (a := a) hp2 (hv2 x hx)
      simp [st0, wipeL, hp1, this]
  unfold runD m__law_scaled
  simp only [retS_run, calE_run, aCons_run, frz_run']
  rw [key]
  simp only [R.bind_ok, aNil_run, tupO_lst, R.of_some, R.stmt_ok, O.fo, Wd, scW, List.map_map]
  rfl
theorem run__law_sum (ds : List Dt) (h : FaddW ds ≠ .no) : runD 4 m__law_sum ds = FaddW ds := by
  obtain ⟨v, w, p, rfl, hp, hv, hw, hl, e⟩ := FaddW_inv h
  rw [e]
  obtain ⟨hp1, hp2⟩ := okP_iff.mp hp
  obtain ⟨hv1, hv2⟩ := okW_iff.mp hv
  have key : (lcE (itR1 (aCons (calE (aCons (varE 0) aNil) lenO) aNil)) (Tk.nm 3).k yesT (op2 (calE (aCons (op2 (op2 (varE 0) (varE 3) ixO) (op2 (varE 1) (varE 3) ixO) addO) aNil) intO) (varE 2) modO) [3]) (st0 4 [Wd v, Wd w, .int p]) = .ok ((List.range v.length).map fun k => Dt.int ((v.getD k 0 + w.getD k 0) % p)) (st0 4 [Wd v, Wd w, .int p]) := by
    refine lcE_map (fun k : Nat => Dt.int (k : Int)) _ (List.range v.length) ?_ (fun k hk => ?_) (fun d T T' => Tk.mo) (by simp; omega)
    · refine itR1_run ?_ (by omega)
      simp [st0, Wd]
    · have h1 : k < v.length := List.mem_range.mp hk
      have h2 : k < w.length := by omega
      simp [st0, wipeL, hp1, Wd, atI_ofNat, List.getElem?_map, List.getElem?_eq_getElem h1, List.getElem?_eq_getElem h2]
  unfold runD m__law_sum
  simp only [retS_run, calE_run, aCons_run, frz_run']
  rw [key]
  simp only [R.bind_ok, aNil_run, tupO_lst, R.of_some, R.stmt_ok, O.fo, Wd, addW]
  refine congrArg (fun l => Fo.ok (Dt.tup l)) ?_
  apply List.ext_getElem?
  intro k
  rw [List.getElem?_map, List.getElem?_map, List.getElem?_zipWith]
  by_cases hk : k < v.length
  · have h2 : k < w.length := by omega
    simp [List.getElem?_range hk, List.getElem?_eq_getElem hk, List.getElem?_eq_getElem h2, List.getD_eq_getElem?_getD]
  · rw [List.getElem?_eq_none (by simpa using hk), List.getElem?_eq_none (show v.length ≤ k by omega)]
    rfl
end Lq

namespace Lq
open PySem PySem.Spec PyProof.Rows L2
def takeF (m : Int) (q : Int × Int) : Int × (Int × Int) :=
  if 0 < q.1 then (q.1 % m, (q.1 / m, q.2)) else ((q.2 * 48271 + 11) % 2147483647 / 7 % m, (q.1, (q.2 * 48271 + 11) % 2147483647))
theorem takeF_range {m : Int} (hm : 0 < m) (q : Int × Int) : 0 ≤ (takeF m q).1 ∧ (takeF m q).1 < m := by
  unfold takeF
  split
  · exact ⟨Int.emod_nonneg _ (by omega), Int.emod_lt_of_pos _ hm⟩
  · exact ⟨Int.emod_nonneg _ (by omega), Int.emod_lt_of_pos _ hm⟩
def stD (q : Int × Int) : List Dt := [.int q.1, .int q.2]
def Ftake : List Dt → List Dt → FoM
  | [.int s, .int t], [.int m] => if 0 < m ∧ m < 1073741824 then .ok (.int (takeF m (s, t)).1) (stD (takeF m (s, t)).2) else .no
  | _, _ => .no
theorem Ftake_run {m : Int} (q : Int × Int) (h : 0 < m ∧ m < 1073741824) : Ftake (stD q) [.int m] = .ok (.int (takeF m q).1) (stD (takeF m q).2) := by
  unfold Ftake stD
  dsimp only
  rw [if_pos h]
theorem atI0 {α : Type} (a b : α) : atI [a, b] 0 = some a := rfl
theorem atI1 {α : Type} (a b : α) : atI [a, b] 1 = some b := rfl
theorem run__law_take (xs ds : List Dt) (h : Ftake xs ds ≠ .no) : runM 3 m__law_take xs ds = Ftake xs ds := by
  unfold Ftake at h
  split at h
  · rename_i s t m
    split at h
    · rename_i hm
      have e : Ftake [.int s, .int t] [.int m] = .ok (.int (takeF m (s, t)).1) (stD (takeF m (s, t)).2) := Ftake_run (s, t) hm
      rw [e]
      have c1 : CMul t 48271 := .inr (by decide)
      have c2 : CDiv s m := hm
      have c3 : ∀ z : Int, CDiv z 7 := fun z => ⟨by decide, by decide⟩
      have i0 : ixN 2 0 = some 0 := by decide
      have i1 : ixN 2 1 = some 1 := by decide
      unfold runM m__law_take takeF
      by_cases hs : 0 < s
      · simp [stM, ixV, muAt, setS, atI0, atI1, hs, hm.1, c2, i0, O.foM, mo0, stD]
      · simp [stM, ixV, muAt, setS, atI0, atI1, hs, hm.1, c1, c3, i1, O.foM, mo0, stD]
    · exact absurd rfl h
  · exact absurd rfl h
def foldG {α β σ : Type} (g : α → σ → β × σ) : List α → σ → List β × σ
  | [], q => ([], q)
  | a :: as, q => ((g a q).1 :: (foldG g as (g a q).2).1, (foldG g as (g a q).2).2)
theorem lcF_fold {α σ : Type} {sl : List Sv} {k : Dt → Ms → Option Ms} {e : Ms → R Dt} (moOf : σ → List Mo) (enc : α → Dt) (g : α → σ → Dt × σ)
    (h : ∀ a q, ∃ S1 S3, k (enc a) { sl := sl, mo := moOf q } = some S1 ∧ e S1 = .ok (g a q).1 S3 ∧ S3.mo = moOf (g a q).2) : ∀ (xs : List α) (q : σ) (acc : List Dt), acc.length + xs.length ≤ 100000 →
    lcF sl k yesT e (xs.map enc) (moOf q) acc = .ok (acc ++ (foldG g xs q).1) { sl := sl, mo := moOf (foldG g xs q).2 }
  | [], q, acc, _ => by simp [lcF, foldG]
  | x :: xs, q, acc, hl => by
    obtain ⟨S1, S3, h1, h2, h3⟩ := h x q
    have hl' : acc.length + (xs.length + 1) ≤ 100000 := hl
    rw [List.map_cons]
    unfold lcF
    rw [h1]
    dsimp only [yesT]
    rw [h2]
    dsimp only
    rw [if_pos (by omega), h3, lcF_fold moOf enc g h xs _ (acc ++ [(g x q).1]) (by simp; omega)]
    simp [foldG]
def takeN (m : Int) : Nat → Int × Int → List Int × (Int × Int)
  | 0, q => ([], q)
  | k + 1, q => ((takeF m q).1 :: (takeN m k (takeF m q).2).1, (takeN m k (takeF m q).2).2)
theorem takeN_len (m : Int) : ∀ (k : Nat) (q : Int × Int), (takeN m k q).1.length = k
  | 0, _ => rfl
  | k + 1, q => by simp [takeN, takeN_len m k]
theorem takeN_range {m : Int} (hm : 0 < m) : ∀ (k : Nat) (q : Int × Int), ∀ x ∈ (takeN m k q).1, 0 ≤ x ∧ x < m
  | 0, _, x, h => by simp [takeN] at h
  | k + 1, q, x, h => by
    simp only [takeN, List.mem_cons] at h
    rcases h with rfl | h
    · exact takeF_range hm q
    · exact takeN_range hm k _ x h
theorem fold_takeN {α : Type} (m : Int) : ∀ (xs : List α) (q : Int × Int), foldG (fun (_ : α) q => (Dt.int (takeF m q).1, (takeF m q).2)) xs q = ((takeN m xs.length q).1.map Dt.int, (takeN m xs.length q).2)
  | [], q => rfl
  | x :: xs, q => by simp [foldG, takeN, fold_takeN m xs]
def m__law_word : Ms → O := (retS (calE (aCons (frz (lcE (itR1 (aCons (varE 1) aNil)) (Tk.nm 3).k yesT (funM 1 0 (aCons (varE 2) aNil) Ftake) [3])) aNil) tupO))
def Fword : List Dt → List Dt → FoM
  | [.int s, .int t], [.int n, .int p] => if (0 ≤ n ∧ n ≤ 1000) ∧ 0 < p ∧ p < 1073741824 then .ok (Wd (takeN p n.toNat (s, t)).1) (stD (takeN p n.toNat (s, t)).2) else .no
  | _, _ => .no
theorem Fword_run {n : Nat} {p : Int} (q : Int × Int) (hn : n ≤ 1000) (hp : 0 < p ∧ p < 1073741824) : Fword (stD q) [.int n, .int p] = .ok (Wd (takeN p n q).1) (stD (takeN p n q).2) := by
  unfold Fword stD
  dsimp only
  rw [if_pos ⟨by omega, hp⟩, Int.toNat_natCast]
theorem run__law_word (xs ds : List Dt) (h : Fword xs ds ≠ .no) : runM 4 m__law_word xs ds = Fword xs ds := by
  unfold Fword at h
  split at h
  · rename_i s t n p
    split at h
    · rename_i hc
      obtain ⟨hn, hp⟩ := hc
      obtain ⟨n, rfl⟩ : ∃ k : Nat, n = (k : Int) := ⟨n.toNat, by omega⟩
      have e : Fword [.int s, .int t] [.int n, .int p] = _ := Fword_run (s, t) (by omega) hp
      rw [e]
      have hit : itR1 (aCons (varE 1) aNil) (stM 4 [.int s, .int t] [.int n, .int p]) = .ok ((List.range n).map fun (i : Nat) => Dt.int (i : Int)) (stM 4 [.int s, .int t] [.int n, .int p]) := itR1_run (by simp [stM]) (by omega)
      have hlc := lcF_fold (sl := wipeL (stM 4 [.int s, .int t] [.int n, .int p]).sl [3]) (k := (Tk.nm 3).k) (e := funM 1 0 (aCons (varE 2) aNil) Ftake) (fun q : Int × Int => [Mo.ob (.ls (stD q))]) (fun (i : Nat) => Dt.int (i : Int)) (fun _ q => (Dt.int (takeF p q).1, (takeF p q).2)) (fun a q => by
        simp [stM, wipeL, funM, muAt, Ftake_run q hp]) (List.range n) (s, t) [] (by simp; omega)
      have key : lcE (itR1 (aCons (varE 1) aNil)) (Tk.nm 3).k yesT (funM 1 0 (aCons (varE 2) aNil) Ftake) [3] (stM 4 [.int s, .int t] [.int n, .int p]) = .ok ((takeN p n (s, t)).1.map Dt.int) { sl := (stM 4 [.int s, .int t] [.int n, .int p]).sl, mo := [Mo.ob (.ls (stD (takeN p n (s, t)).2))] } := by
        unfold lcE
        rw [hit, R.bind_ok]
        have : (stM 4 [.int s, .int t] [.int n, .int p]).mo = [Mo.ob (.ls (stD (s, t)))] := rfl
        rw [this, hlc, fold_takeN]
        simp
      unfold runM m__law_word
      simp only [retS_run, calE_run, aCons_run, frz_run']
      rw [key]
      simp only [R.bind_ok, aNil_run, tupO_lst, R.of_some, R.stmt_ok, O.foM, Wd]
      rfl
    · exact absurd rfl h
  · exact absurd rfl h
def m__law_prime : Ms → O := (retS (op2 (frz (lstE (aCons (cE (.int 2)) (aCons (cE (.int 2)) (aCons (cE (.int 3)) (aCons (cE (.int 3)) (aCons (cE (.int 5)) (aCons (cE (.int 7)) aNil)))))))) (funM 1 0 (aCons (cE (.int 6)) aNil) Ftake) ixO))
def primeF (q : Int × Int) : Int := [2, 2, 3, 3, 5, 7].getD (takeF 6 q).1.toNat 2
theorem primeF_mem (q : Int × Int) : primeF q = 2 ∨ primeF q = 3 ∨ primeF q = 5 ∨ primeF q = 7 := by
  obtain ⟨h1, h2⟩ := takeF_range (m := 6) (by decide) q
  unfold primeF
  generalize hv : (takeF 6 q).1 = v at h1 h2
  obtain ⟨k, rfl⟩ : ∃ k : Nat, v = (k : Int) := ⟨v.toNat, by omega⟩
  have : k < 6 := by omega
  match k, this with
  | 0, _ => decide
  | 1, _ => decide
  | 2, _ => decide
  | 3, _ => decide
  | 4, _ => decide
  | 5, _ => decide
def Fprime : List Dt → List Dt → FoM
  | [.int s, .int t], [] => .ok (.int (primeF (s, t))) (stD (takeF 6 (s, t)).2)
  | _, _ => .no
theorem run__law_prime (xs ds : List Dt) (h : Fprime xs ds ≠ .no) : runM 1 m__law_prime xs ds = Fprime xs ds := by
  unfold Fprime at h
  split at h
  · rename_i s t
    have e : Fprime [.int s, .int t] [] = .ok (.int (primeF (s, t))) (stD (takeF 6 (s, t)).2) := rfl
    rw [e]
    have h0 : Ftake [.int s, .int t] [.int 6] = _ := Ftake_run (s, t) (by decide)
    have hv : atI [Dt.int 2, Dt.int 2, Dt.int 3, Dt.int 3, Dt.int 5, Dt.int 7] (takeF 6 (s, t)).1 = some (.int (primeF (s, t))) := by
      obtain ⟨h1, h2⟩ := takeF_range (m := 6) (by decide) (s, t)
      unfold primeF
      generalize hv : (takeF 6 (s, t)).1 = v at h1 h2
      obtain ⟨k, rfl⟩ : ∃ k : Nat, v = (k : Int) := ⟨v.toNat, by omega⟩
      have : k < 6 := by omega
      rw [atI_ofNat]
      match k, this with
      | 0, _ => rfl
      | 1, _ => rfl
      | 2, _ => rfl
      | 3, _ => rfl
      | 4, _ => rfl
      | 5, _ => rfl
    unfold runM m__law_prime
    simp [stM, funM, muAt, h0, hv, O.foM, mo0]
  · exact absurd rfl h
theorem lstE_nil (S : Ms) : lstE aNil S = .ok [] S := by
  simp only [lstE_run, aNil_run, R.bind_ok]
  rw [if_pos (show ([] : List Dt).length ≤ 100000 from Nat.zero_le _)]
def m__law_rows : Ms → O := (seqS (asgN 4 (lstE aNil))
  (seqS (forS (itR1 (aCons (funM 1 0 (aCons (op2 (varE 3) (cE (.int 1)) addO) aNil) Ftake) aNil)) (Tk.nm 5).k (appS 4 (funM 2 0 (aCons (varE 1) (aCons (varE 2) aNil)) Fword)))
  (retS (varE 4))))
def rowsN (p : Int) (n : Nat) : Nat → Int × Int → List (List Int) × (Int × Int)
  | 0, q => ([], q)
  | k + 1, q => ((rowsN p n k q).1 ++ [(takeN p n (rowsN p n k q).2).1], (takeN p n (rowsN p n k q).2).2)
theorem rowsN_len (p : Int) (n : Nat) : ∀ (k : Nat) (q : Int × Int), (rowsN p n k q).1.length = k
  | 0, _ => rfl
  | k + 1, q => by simp [rowsN, rowsN_len p n k]
theorem rowsN_mem {p : Int} (hp : 0 < p) (n : Nat) : ∀ (k : Nat) (q : Int × Int), ∀ r ∈ (rowsN p n k q).1, r.length = n ∧ ∀ x ∈ r, 0 ≤ x ∧ x < p
  | 0, _, r, h => by simp [rowsN] at h
  | k + 1, q, r, h => by
    simp only [rowsN, List.mem_append, List.mem_singleton] at h
    rcases h with h | rfl
    · exact rowsN_mem hp n k q r h
    · exact ⟨takeN_len _ _ _, takeN_range hp _ _⟩
def rowsF (p : Int) (n : Nat) (most : Int) (q : Int × Int) : List (List Int) × (Int × Int) := rowsN p n (takeF (most + 1) q).1.toNat (takeF (most + 1) q).2
def Frows : List Dt → List Dt → FoM
  | [.int s, .int t], [.int n, .int p, .int most] => if (0 ≤ n ∧ n ≤ 1000) ∧ (0 < p ∧ p < 1073741824) ∧ 0 ≤ most ∧ most ≤ 1000 then .ok (.lst ((rowsF p n.toNat most (s, t)).1.map Wd)) (stD (rowsF p n.toNat most (s, t)).2) else .no
  | _, _ => .no
theorem Frows_run {n : Nat} {p most : Int} (q : Int × Int) (hn : n ≤ 1000) (hp : 0 < p ∧ p < 1073741824) (hm : 0 ≤ most ∧ most ≤ 1000) : Frows (stD q) [.int n, .int p, .int most] = .ok (.lst ((rowsF p n most q).1.map Wd)) (stD (rowsF p n most q).2) := by
  unfold Frows stD
  dsimp only
  rw [if_pos ⟨by omega, hp, hm⟩, Int.toNat_natCast]
theorem run__law_rows (xs ds : List Dt) (h : Frows xs ds ≠ .no) : runM 6 m__law_rows xs ds = Frows xs ds := by
  unfold Frows at h
  split at h
  · rename_i s t n p most
    split at h
    · rename_i hc
      obtain ⟨hn, hp, hm⟩ := hc
      obtain ⟨n, rfl⟩ : ∃ k : Nat, n = (k : Int) := ⟨n.toNat, by omega⟩
      have e : Frows [.int s, .int t] [.int n, .int p, .int most] = _ := Frows_run (s, t) (by omega) hp hm
      rw [e]
      obtain ⟨r1, r2⟩ := takeF_range (m := most + 1) (by omega) (s, t)
      obtain ⟨c, hc⟩ : ∃ c : Nat, (takeF (most + 1) (s, t)).1 = (c : Int) := ⟨(takeF (most + 1) (s, t)).1.toNat, by omega⟩
      have h0 : Ftake [.int s, .int t] [.int (most + 1)] = _ := Ftake_run (s, t) ⟨by omega, by omega⟩
      -- the loop
      have hit : itR1 (aCons (funM 1 0 (aCons (op2 (varE 3) (cE (.int 1)) addO) aNil) Ftake) aNil) { sl := [.mu 0, .im (.int n), .im (.int p), .im (.int most), .mu 1, .no], mo := [.ob (.ls [.int s, .int t]), .ob (.ls [])] } =
          .ok ((List.range c).map fun (i : Nat) => Dt.int (i : Int)) { sl := [.mu 0, .im (.int n), .im (.int p), .im (.int most), .mu 1, .no], mo := [.ob (.ls (stD (takeF (most + 1) (s, t)).2)), .ob (.ls [])] } := itR1_run (by simp [funM, muAt, h0, hc]) (by omega)
      obtain ⟨S', f1, f2⟩ := forL_inv (k := (Tk.nm 5).k) (body := appS 4 (funM 2 0 (aCons (varE 1) (aCons (varE 2) aNil)) Fword)) ((List.range c).map fun (i : Nat) => Dt.int (i : Int))
        (fun i S => i ≤ c ∧ ∃ x, S = { sl := [.mu 0, .im (.int n), .im (.int p), .im (.int most), .mu 1, x], mo := [.ob (.ls (stD (rowsN p n i (takeF (most + 1) (s, t)).2).2)), .ob (.ls ((rowsN p n i (takeF (most + 1) (s, t)).2).1.map Wd))] })
        { sl := [.mu 0, .im (.int n), .im (.int p), .im (.int most), .mu 1, .no], mo := [.ob (.ls (stD (takeF (most + 1) (s, t)).2)), .ob (.ls [])] } ⟨Nat.zero_le _, .no, rfl⟩ (fun i d S hd hI => by
          obtain ⟨hi, x, rfl⟩ := hI
          have hic : i < c := by
            have := (List.getElem?_eq_some_iff.mp hd).1
            simpa using this
          have hw := Fword_run (n := n) (rowsN p n i (takeF (most + 1) (s, t)).2).2 (by omega) hp
          have hlen := rowsN_len p n i (takeF (most + 1) (s, t)).2
          refine ⟨_, _, kNm _ _ _, .inl ?_, hic, .im d, rfl⟩
          simp [funM, muAt, hw, hlen, rowsN]
          omega)
      obtain ⟨_, x, hS'⟩ := f2
      rw [List.length_map, List.length_range] at hS'
      unfold runM m__law_rows
      simp only [seqS_run, asgN_run', lstE_nil]
      have hst : (stM 6 [.int s, .int t] [.int n, .int p, .int most]) = { sl := [.mu 0, .im (.int n), .im (.int p), .im (.int most), .no, .no], mo := [.ob (.ls [.int s, .int t])] } := rfl
      rw [hst]
      rw [R.stmt_ok, seq_nx]
      simp only [List.length_cons, List.length_nil, List.set_cons_succ, List.set_cons_zero, List.cons_append, List.nil_append, Nat.zero_add, seqS_run]
      simp only [forS_run]
      rw [hit]
      simp only [R.stmt_ok]
      rw [f1, hS']
      simp [O.foM, mo0, rowsF, hc]
    · exact absurd rfl h
  · exact absurd rfl h
theorem cmul_r {p a : Int} (h1 : -1000 ≤ p) (h2 : p ≤ 1000) : CMul a p := by
  have e1 : (1000 : Int) < 2 ^ 64 := by decide
  have e2 : -(2 : Int) ^ 64 < -1000 := Int.neg_lt_neg e1
  exact .inr ⟨Int.lt_of_lt_of_le e2 h1, Int.lt_of_le_of_lt h2 e1⟩
end Lq

namespace Lq
open PySem PySem.Spec PyProof.Rows L2
def m_inverse : Ms → O := (seqS (forS (itR2 (aCons (cE (.int 1)) (aCons (varE 1) aNil))) (Tk.nm 2).k (ifS (tst (op2 (op2 (op2 (varE 0) (varE 2) mulO) (varE 1) modO) (cE (.int 1)) eqO)) (retS (varE 2)) nilS))
  noS)
def invF (p a : Int) : Option Nat := (List.range (p - 1).toNat).find? fun c => decide (a * (1 + (c : Int)) % p = 1)
def Finverse : List Dt → Fo
  | [.int a, .int p] => if okP p = true then (match invF p a with | some c => .ok (.int (1 + (c : Int))) | none => .no) else .no
  | _ => .no
theorem forL_find {α : Type} {k : Dt → Ms → Option Ms} {body : Ms → O} (enc : α → Dt) (b : α → Bool) (res : α → Dt) (I : Ms → Prop) : ∀ (xs : List α) (S : Ms), I S →
    (∀ x ∈ xs, ∀ S, I S → ∃ S1, k (enc x) S = some S1 ∧ (b x = true → ∃ S2, body S1 = .rt (res x) S2) ∧ (b x = false → ∃ S2, body S1 = .nx S2 ∧ I S2)) → ∀ y, xs.find? b = some y → ∃ S', forL k body (xs.map enc) S = .rt (res y) S'
  | [], _, _, _, y, h => by simp at h
  | x :: xs, S, hI, hs, y, h => by
    obtain ⟨S1, h1, h2, h3⟩ := hs x List.mem_cons_self S hI
    rw [List.map_cons]
    unfold forL
    rw [h1]
    dsimp only
    cases hb : b x with
    | true =>
      rw [List.find?_cons, hb] at h
      cases h
      obtain ⟨S2, e⟩ := h2 hb
      rw [e]
      exact ⟨S2, rfl⟩
    | false =>
      rw [List.find?_cons, hb] at h
      obtain ⟨S2, e, hI2⟩ := h3 hb
      rw [e]
      exact forL_find enc b res I xs S2 hI2 (fun z hz => hs z (List.mem_cons_of_mem _ hz)) y h
theorem itR2_run {fs : Ms → R (List Dt)} {S S1 : Ms} {i j : Int} (h : fs S = .ok [.int i, .int j] S1) (hi : -1000000 ≤ i ∧ i ≤ 1000000) (hj : -1000000 ≤ j ∧ j ≤ 1000000) : itR2 fs S = .ok ((List.range (j - i).toNat).map fun (k : Nat) => Dt.int (i + (k : Int))) S1 := by
  unfold itR2
  rw [h, R.bind_ok]
  dsimp only
  have e1 : (1000000 : Int) < 2 ^ 62 := by decide
  have e2 : -(2 : Int) ^ 62 < -1000000 := Int.neg_lt_neg e1
  rw [if_pos ⟨Int.le_of_lt (Int.lt_of_lt_of_le e2 hi.1), Int.lt_of_le_of_lt hi.2 e1, Int.le_of_lt (Int.lt_of_lt_of_le e2 hj.1), Int.lt_of_le_of_lt hj.2 e1⟩]
theorem run_inverse (ds : List Dt) (h : Finverse ds ≠ .no) : runD 3 m_inverse ds = Finverse ds := by
  unfold Finverse at h
  split at h
  · rename_i a p
    split at h
    · rename_i hp
      obtain ⟨hp1, hp2⟩ := okP_iff.mp hp
      cases hc : invF p a with
      | none => rw [hc] at h; exact absurd rfl h
      | some c =>
        have e : Finverse [.int a, .int p] = .ok (.int (1 + (c : Int))) := by
          unfold Finverse
          dsimp only
          rw [if_pos hp, hc]
        rw [e]
        have hit : itR2 (aCons (cE (.int 1)) (aCons (varE 1) aNil)) (st0 3 [.int a, .int p]) = .ok ((List.range (p - 1).toNat).map fun (k : Nat) => Dt.int (1 + (k : Int))) (st0 3 [.int a, .int p]) := itR2_run (by simp [st0]) (by omega) (by omega)
        obtain ⟨S', hS'⟩ := forL_find (k := (Tk.nm 2).k) (body := ifS (tst (op2 (op2 (op2 (varE 0) (varE 2) mulO) (varE 1) modO) (cE (.int 1)) eqO)) (retS (varE 2)) nilS) (fun (k : Nat) => Dt.int (1 + (k : Int))) (fun c => decide (a * (1 + (c : Int)) % p = 1)) (fun c : Nat => .int (1 + (c : Int)))
          (fun S => ∃ x, S = { sl := [.im (.int a), .im (.int p), x], mo := [] }) (List.range (p - 1).toNat) (st0 3 [.int a, .int p]) ⟨.no, rfl⟩ (fun x hx S hI => by
            obtain ⟨y, rfl⟩ := hI
            have hx' := List.mem_range.mp hx
            have hcm : CMul a (1 + (x : Int)) := cmul_r (by omega) (by omega)
            refine ⟨_, kNm _ _ _, fun hb => ?_, fun hb => ?_⟩
            · have hb' := of_decide_eq_true hb
              simp [hcm, hp1, hb']
            · have hb' := of_decide_eq_false hb
              refine ⟨{ sl := [.im (.int a), .im (.int p), .im (.int (1 + (x : Int)))], mo := [] }, ?_, _, rfl⟩
              simp [hcm, hp1, hb']) c hc
        unfold runD m_inverse
        rw [seqS_run, forS_run, hit, R.stmt_ok, hS', seq_rt]
        rfl
    · exact absurd rfl h
  · exact absurd rfl h
def m__cleared : Ms → O := (retS (funE 3 (aCons (varE 0) (aCons (funE 3 (aCons (varE 1) (aCons (op1 (op2 (varE 0) (varE 2) ixO) negO) (aCons (varE 3) aNil))) FscW) (aCons (varE 3) aNil))) FaddW))
def clr (p : Int) (h : List Int) (at_ : Nat) (r : List Int) : List Int := addW p r (scW p (-(r.getD at_ 0)) h)
theorem okW_scW {p a : Int} {v : List Int} (hp : okP p = true) (hv : okW p v = true) : okW p (scW p a v) = true := by
  obtain ⟨hp1, hp2⟩ := okP_iff.mp hp
  obtain ⟨hv1, hv2⟩ := okW_iff.mp hv
  refine okW_iff.mpr ⟨by simpa [scW] using hv1, fun x hx => ?_⟩
  obtain ⟨y, _, rfl⟩ := List.mem_map.mp hx
  exact ⟨Int.emod_nonneg _ (by omega), Int.emod_lt_of_pos _ hp1⟩
theorem mem_zipWith {α β γ : Type} {f : α → β → γ} : ∀ {xs : List α} {ys : List β} {z : γ}, z ∈ List.zipWith f xs ys → ∃ a b, z = f a b
  | [], _, _, h => by simp at h
  | _ :: _, [], _, h => by simp at h
  | a :: xs, b :: ys, z, h => by
    rw [List.zipWith_cons_cons, List.mem_cons] at h
    rcases h with h | h
    · exact ⟨a, b, h⟩
    · exact mem_zipWith h
theorem okW_addW {p : Int} {v w : List Int} (hp : okP p = true) (hv : okW p v = true) : okW p (addW p v w) = true := by
  obtain ⟨hp1, hp2⟩ := okP_iff.mp hp
  obtain ⟨hv1, hv2⟩ := okW_iff.mp hv
  refine okW_iff.mpr ⟨by simp [addW]; omega, fun x hx => ?_⟩
  obtain ⟨a, b, rfl⟩ := mem_zipWith hx
  exact ⟨Int.emod_nonneg _ (by omega), Int.emod_lt_of_pos _ hp1⟩
theorem scW_len (p a : Int) (v : List Int) : (scW p a v).length = v.length := by simp [scW]
theorem addW_len (p : Int) (v w : List Int) (h : v.length = w.length) : (addW p v w).length = v.length := by simp [addW, h]
theorem clr_len (p : Int) (h : List Int) (at_ : Nat) (r : List Int) (e : h.length = r.length) : (clr p h at_ r).length = r.length := addW_len _ _ _ (by rw [scW_len, e])
theorem okW_clr {p : Int} {h : List Int} {at_ : Nat} {r : List Int} (hp : okP p = true) (hr : okW p r = true) : okW p (clr p h at_ r) = true := okW_addW hp hr
def Fcleared : List Dt → Fo
  | [d, e, .int at_, .int p] => match wordOf d, wordOf e with
    | some r, some h => if (okP p && okW p r && okW p h && decide (r.length = h.length) && decide (0 ≤ at_ ∧ at_ < r.length)) = true then .ok (Wd (clr p h at_.toNat r)) else .no
    | _, _ => .no
  | _ => .no
theorem Fcleared_run {p : Int} {r h : List Int} {at_ : Nat} (hp : okP p = true) (hr : okW p r = true) (hh : okW p h = true) (e : r.length = h.length) (ha : at_ < r.length) : Fcleared [Wd r, Wd h, .int at_, .int p] = .ok (Wd (clr p h at_ r)) := by
  unfold Fcleared
  simp only [wordOf_Wd]
  rw [if_pos (by simp [hp, hr, hh, e]; omega), Int.toNat_natCast]
theorem FscW_run {p a : Int} {v : List Int} (hp : okP p = true) (hv : okW p v = true) : FscW [Wd v, .int a, .int p] = .ok (Wd (scW p a v)) := by
  unfold FscW
  simp only [wordOf_Wd]
  rw [if_pos (by simp [hp, hv])]
theorem FaddW_run {p : Int} {v w : List Int} (hp : okP p = true) (hv : okW p v = true) (hw : okW p w = true) (e : v.length = w.length) : FaddW [Wd v, Wd w, .int p] = .ok (Wd (addW p v w)) := by
  unfold FaddW
  simp only [wordOf_Wd]
  rw [if_pos (by simp [hp, hv, hw, e])]
theorem run__cleared (ds : List Dt) (h : Fcleared ds ≠ .no) : runD 4 m__cleared ds = Fcleared ds := by
  unfold Fcleared at h
  split at h
  · rename_i d e at_ p
    split at h
    · rename_i r hd h1 h2
      split at h
      · rename_i hc
        have := wordOf_eq h1
        have := wordOf_eq h2
        subst_vars
        simp only [Bool.and_eq_true, decide_eq_true_eq] at hc
        obtain ⟨⟨⟨⟨hp, hr⟩, hh⟩, hl⟩, ha⟩ := hc
        obtain ⟨at_, rfl⟩ : ∃ k : Nat, at_ = (k : Int) := ⟨at_.toNat, by omega⟩
        have ha' : at_ < r.length := by omega
        rw [Fcleared_run hp hr hh hl ha']
        have e1 := FscW_run (a := -(r.getD at_ 0)) hp hh
        have e2 := FaddW_run (w := scW p (-(r.getD at_ 0)) hd) hp hr (okW_scW hp hh) (by rw [scW_len, hl])
        have e3 : atI (r.map Dt.int) (at_ : Int) = some (.int (r.getD at_ 0)) := by
          rw [atI_ofNat, List.getElem?_map, List.getElem?_eq_getElem ha', List.getD_eq_getElem?_getD, List.getElem?_eq_getElem ha']
          rfl
        have w1 : ixO (Wd r) (.int (at_ : Int)) = some (.int (r.getD at_ 0)) := e3
        unfold runD m__cleared
        have hst : st0 4 [Wd r, Wd hd, .int at_, .int p] = { sl := [.im (Wd r), .im (Wd hd), .im (.int at_), .im (.int p)], mo := [] } := rfl
        rw [hst]
        unfold clr
        generalize r.getD at_ 0 = z at *
        simp [w1, e1, e2, O.fo]
      · exact absurd rfl h
    · exact absurd rfl h
  · exact absurd rfl h

def m_reduced : Ms → O := (seqS (asgS 3 (frz (lstE aNil)))
  (seqS (asgN 4 (lstE aNil))
  (seqS (moveS 5 0)
  (seqS (forS (itR1 (aCons (varE 1) aNil)) (Tk.nm 6).k (seqS (asgS 7 (frz (lcE (itS (varE 5)) (Tk.nm 9).k (tst (op2 (op2 (varE 9) (varE 6) ixO) (cE (.int 0)) neO)) (varE 9) [9])))
  (ifS (truT (varE 7)) (seqS (asgS 8 (funE 3 (aCons (op2 (varE 7) (cE (.int 0)) ixO) (aCons (funE 2 (aCons (op2 (op2 (varE 7) (cE (.int 0)) ixO) (varE 6) ixO) (aCons (varE 2) aNil)) Finverse) (aCons (varE 2) aNil))) FscW))
  (seqS (asgS 3 (frz (opN (frz (lcE (itS (varE 3)) (Tk.nm 9).k yesT (funE 4 (aCons (varE 9) (aCons (varE 8) (aCons (varE 6) (aCons (varE 2) aNil)))) Fcleared) [9])) (frz (lstE (aCons (varE 8) aNil))) catL)))
  (seqS (asgS 5 (frz (lcE (itS (varE 5)) (Tk.nm 9).k yesT (funE 4 (aCons (varE 9) (aCons (varE 8) (aCons (varE 6) (aCons (varE 2) aNil)))) Fcleared) [9])))
  (appS 4 (varE 6))))) nilS)))
  (retS (tupE (aCons (calE (aCons (varE 3) aNil) tupO) (aCons (calE (aCons (varE 4) aNil) tupO) aNil))))))))
structure Red where
  T : List (List Int)
  P : List Nat
  L : List (List Int)
def invP (p a : Int) : Int := match invF p a with | some c => 1 + (c : Int) | none => 0
def redHead (p : Int) (at_ : Nat) (r : List Int) : List Int := scW p (invP p (r.getD at_ 0)) r
def redStep (p : Int) (s : Red) (at_ : Nat) : Red := match s.L.filter fun r => decide (r.getD at_ 0 ≠ 0) with
  | [] => s
  | r :: _ => ⟨s.T.map (clr p (redHead p at_ r) at_) ++ [redHead p at_ r], s.P ++ [at_], s.L.map (clr p (redHead p at_ r) at_)⟩
def redN (p : Int) (rows : List (List Int)) : Nat → Red
  | 0 => ⟨[], [], rows⟩
  | k + 1 => redStep p (redN p rows k) k
def isP (p : Int) : Bool := decide (p = 2 ∨ p = 3 ∨ p = 5 ∨ p = 7)
theorem isP_okP {p : Int} (h : isP p = true) : okP p = true := by
  have := of_decide_eq_true h
  exact okP_iff.mpr (by omega)
theorem invF_some {p : Int} (h : isP p = true) {a : Int} (ha : a % p ≠ 0) : ∃ c, invF p a = some c ∧ a * (1 + (c : Int)) % p = 1 ∧ (c : Int) < p - 1 := by
  have hp := of_decide_eq_true h
  have ex : ∃ c ∈ List.range (p - 1).toNat, decide (a * (1 + (c : Int)) % p = 1) = true := by
    have hm : ∀ c : Int, a * c % p = ((a % p) * c) % p := fun c => by
      conv => lhs; rw [Int.mul_emod]
      conv => rhs; rw [Int.mul_emod, Int.emod_emod]
    have h0 : 0 ≤ a % p := Int.emod_nonneg _ (by omega)
    have h1 : a % p < p := Int.emod_lt_of_pos _ (by omega)
    generalize a % p = b at *
    rcases hp with rfl | rfl | rfl | rfl
    · refine ⟨0, by decide, decide_eq_true ?_⟩
      rw [hm]
      have : b = 1 := by omega
      subst this; decide
    · have : b = 1 ∨ b = 2 := by omega
      rcases this with rfl | rfl
      · exact ⟨0, by decide, decide_eq_true (by rw [hm]; decide)⟩
      · exact ⟨1, by decide, decide_eq_true (by rw [hm]; decide)⟩
    · have : b = 1 ∨ b = 2 ∨ b = 3 ∨ b = 4 := by omega
      rcases this with rfl | rfl | rfl | rfl
      · exact ⟨0, by decide, decide_eq_true (by rw [hm]; decide)⟩
      · exact ⟨2, by decide, decide_eq_true (by rw [hm]; decide)⟩
      · exact ⟨1, by decide, decide_eq_true (by rw [hm]; decide)⟩
      · exact ⟨3, by decide, decide_eq_true (by rw [hm]; decide)⟩
    · have : b = 1 ∨ b = 2 ∨ b = 3 ∨ b = 4 ∨ b = 5 ∨ b = 6 := by omega
      rcases this with rfl | rfl | rfl | rfl | rfl | rfl
      · exact ⟨0, by decide, decide_eq_true (by rw [hm]; decide)⟩
      · exact ⟨3, by decide, decide_eq_true (by rw [hm]; decide)⟩
      · exact ⟨4, by decide, decide_eq_true (by rw [hm]; decide)⟩
      · exact ⟨1, by decide, decide_eq_true (by rw [hm]; decide)⟩
      · exact ⟨2, by decide, decide_eq_true (by rw [hm]; decide)⟩
      · exact ⟨5, by decide, decide_eq_true (by rw [hm]; decide)⟩
  have hs : (invF p a).isSome = true := by
    unfold invF
    rw [List.find?_isSome]
    obtain ⟨c, hc, hd⟩ := ex
    exact ⟨c, hc, hd⟩
  obtain ⟨c, hc⟩ := Option.isSome_iff_exists.mp hs
  have hc' : (List.range (p - 1).toNat).find? (fun c : Nat => decide (a * (1 + (c : Int)) % p = 1)) = some c := hc
  have h2 := List.find?_some hc'
  refine ⟨c, hc, of_decide_eq_true h2, ?_⟩
  have := List.mem_range.mp (List.mem_of_find?_eq_some hc')
  omega
theorem invP_mul {p : Int} (h : isP p = true) {a : Int} (ha : a % p ≠ 0) : a * invP p a % p = 1 := by
  obtain ⟨c, h1, h2, _⟩ := invF_some h ha
  unfold invP
  rw [h1]
  exact h2
theorem Finverse_run {p : Int} (h : isP p = true) {a : Int} (ha : a % p ≠ 0) : Finverse [.int a, .int p] = .ok (.int (invP p a)) := by
  obtain ⟨c, h1, h2, _⟩ := invF_some h ha
  unfold Finverse invP
  dsimp only
  rw [if_pos (isP_okP h), h1]
def okR (p : Int) (n : Nat) (rows : List (List Int)) : Prop := ∀ r ∈ rows, okW p r = true ∧ r.length = n
theorem okR_map {p : Int} {n : Nat} {rows : List (List Int)} {h : List Int} {at_ : Nat} (hp : okP p = true) (hr : okR p n rows) (hh : h.length = n) : okR p n (rows.map (clr p h at_)) := fun r hm => by
  obtain ⟨q, hq, rfl⟩ := List.mem_map.mp hm
  obtain ⟨h1, h2⟩ := hr q hq
  exact ⟨okW_clr hp h1, by rw [clr_len _ _ _ _ (by rw [hh, h2])]; exact h2⟩
theorem okR_head {p : Int} {n at_ : Nat} {r : List Int} (hp : okP p = true) (hr : okW p r = true ∧ r.length = n) : okW p (redHead p at_ r) = true ∧ (redHead p at_ r).length = n := ⟨okW_scW hp hr.1, by unfold redHead; rw [scW_len]; exact hr.2⟩
theorem redStep_ok {p : Int} {n at_ : Nat} {s : Red} (hp : okP p = true) (hT : okR p n s.T) (hL : okR p n s.L) : okR p n (redStep p s at_).T ∧ okR p n (redStep p s at_).L := by
  unfold redStep
  split
  · exact ⟨hT, hL⟩
  · rename_i r rs hf
    have hr : r ∈ s.L := (List.mem_filter.mp (by rw [hf]; exact List.mem_cons_self)).1
    have hh := okR_head (at_ := at_) hp (hL r hr)
    refine ⟨fun q hq => ?_, okR_map hp hL hh.2⟩
    rcases List.mem_append.mp hq with hq | hq
    · exact okR_map hp hT hh.2 q hq
    · rw [List.mem_singleton] at hq
      subst hq
      exact hh
theorem redN_ok {p : Int} {n : Nat} {rows : List (List Int)} (hp : okP p = true) (h : okR p n rows) : ∀ k, okR p n (redN p rows k).T ∧ okR p n (redN p rows k).L
  | 0 => ⟨fun r hr => absurd hr (List.not_mem_nil), h⟩
  | k + 1 => redStep_ok hp (redN_ok hp h k).1 (redN_ok hp h k).2
theorem redN_lens {p : Int} {rows : List (List Int)} : ∀ k, (redN p rows k).T.length = (redN p rows k).P.length ∧ (redN p rows k).P.length ≤ k ∧ (redN p rows k).L.length = rows.length
  | 0 => ⟨rfl, Nat.le_refl _, rfl⟩
  | k + 1 => by
    obtain ⟨h1, h2, h3⟩ := redN_lens (p := p) (rows := rows) k
    show ((redStep p (redN p rows k) k).T.length = (redStep p (redN p rows k) k).P.length ∧ (redStep p (redN p rows k) k).P.length ≤ k + 1 ∧ (redStep p (redN p rows k) k).L.length = rows.length)
    unfold redStep
    split
    · exact ⟨h1, by omega, h3⟩
    · simp [h1, h3]
      omega
end Lq

namespace Lq
open PySem PySem.Spec PyProof.Rows L2
def redD (s : Red) : Dt := .tup [.tup (s.T.map Wd), .tup (s.P.map fun (c : Nat) => Dt.int (c : Int))]
def okRb (p : Int) (n : Nat) (rows : List (List Int)) : Bool := rows.all fun r => okW p r && decide (r.length = n)
theorem okRb_iff {p : Int} {n : Nat} {rows : List (List Int)} : okRb p n rows = true ↔ okR p n rows := by simp [okRb, okR]
def Freduced : List Dt → Fo
  | [d, .int w, .int p] => match (seqOf d).bind wordsOf with
    | some rows => if (isP p && decide (0 ≤ w ∧ w ≤ 1000) && decide (rows.length ≤ 1000) && okRb p w.toNat rows) = true then .ok (redD (redN p rows w.toNat)) else .no
    | none => .no
  | _ => .no
theorem Freduced_run {p : Int} {n : Nat} {rows : List (List Int)} {d : Dt} (hd : seqOf d = some (rows.map Wd)) (hp : isP p = true) (hn : n ≤ 1000) (hl : rows.length ≤ 1000) (h : okR p n rows) : Freduced [d, .int n, .int p] = .ok (redD (redN p rows n)) := by
  unfold Freduced
  dsimp only
  rw [hd]
  simp only [Option.bind, wordsOf_map, Int.toNat_natCast]
  rw [if_pos]
  simp [hp, okRb_iff.mpr h, hl]
  omega
def redSt (d : Dt) (n : Nat) (p : Int) (s : Red) (ld : Dt) (x6 x7 x8 x9 : Sv) : Ms :=
  { sl := [.im d, .im (.int n), .im (.int p), .im (.lst (s.T.map Wd)), .mu 0, .im ld, x6, x7, x8, x9], mo := [.ob (.ls (s.P.map fun (c : Nat) => Dt.int (c : Int)))] }
theorem wd_ix {r : List Int} {k : Nat} (h : k < r.length) : ixO (Wd r) (.int (k : Int)) = some (.int (r.getD k 0)) := by
  show atI (r.map Dt.int) (k : Int) = _
  rw [atI_ofNat, List.getElem?_map, List.getElem?_eq_getElem h, List.getD_eq_getElem?_getD, List.getElem?_eq_getElem h]
  rfl
def redBody : Ms → O := (seqS (asgS 7 (frz (lcE (itS (varE 5)) (Tk.nm 9).k (tst (op2 (op2 (varE 9) (varE 6) ixO) (cE (.int 0)) neO)) (varE 9) [9])))
  (ifS (truT (varE 7)) (seqS (asgS 8 (funE 3 (aCons (op2 (varE 7) (cE (.int 0)) ixO) (aCons (funE 2 (aCons (op2 (op2 (varE 7) (cE (.int 0)) ixO) (varE 6) ixO) (aCons (varE 2) aNil)) Finverse) (aCons (varE 2) aNil))) FscW))
  (seqS (asgS 3 (frz (opN (frz (lcE (itS (varE 3)) (Tk.nm 9).k yesT (funE 4 (aCons (varE 9) (aCons (varE 8) (aCons (varE 6) (aCons (varE 2) aNil)))) Fcleared) [9])) (frz (lstE (aCons (varE 8) aNil))) catL)))
  (seqS (asgS 5 (frz (lcE (itS (varE 5)) (Tk.nm 9).k yesT (funE 4 (aCons (varE 9) (aCons (varE 8) (aCons (varE 6) (aCons (varE 2) aNil)))) Fcleared) [9])))
  (appS 4 (varE 6))))) nilS))
theorem lcF_clr {d td ld x7 : Dt} {n : Nat} {p : Int} {mo : List Mo} {h : List Int} {at_ : Nat} {rows : List (List Int)} (hp : okP p = true) (hr : okR p n rows) (hh : okW p h = true ∧ h.length = n) (ha : at_ < n) (hl : rows.length ≤ 100000) (src : Nat) {x9 : Sv}
    {S : Ms} (hS : S = { sl := [.im d, .im (.int n), .im (.int p), .im td, .mu 0, .im ld, .im (.int at_), .im x7, .im (Wd h), x9], mo := mo }) (hsrc : itS (varE src) S = .ok (rows.map Wd) S) :
    lcE (itS (varE src)) (Tk.nm 9).k yesT (funE 4 (aCons (varE 9) (aCons (varE 8) (aCons (varE 6) (aCons (varE 2) aNil)))) Fcleared) [9] S = .ok ((rows.map (clr p h at_)).map Wd) S := by
  rw [List.map_map]
  refine lcE_map Wd _ rows hsrc (fun r hr' => ?_) (fun d T T' => Tk.mo) hl
  obtain ⟨h1, h2⟩ := hr r hr'
  have e := Fcleared_run (at_ := at_) hp h1 hh.1 (by rw [h2, hh.2]) (by rw [h2]; exact ha)
  subst hS
  refine ⟨_, kNm _ _ _, ?_⟩
  simp [wipeL, e]
theorem redBody_run {d ld : Dt} {n : Nat} {p : Int} {s : Red} {y7 y8 y9 : Sv} {i : Nat} (hp : isP p = true) (hn : n ≤ 1000) (hi : i < n) (hT : okR p n s.T) (hL : okR p n s.L) (hTl : s.T.length ≤ 1000) (hLl : s.L.length ≤ 1000) (hPl : s.P.length ≤ 1000) (hd : seqOf ld = some (s.L.map Wd)) :
    ∃ ld' x7 x8 x9, redBody (redSt d n p s ld (.im (.int i)) y7 y8 y9) = .nx (redSt d n p (redStep p s i) ld' (.im (.int i)) x7 x8 x9) ∧ seqOf ld' = some ((redStep p s i).L.map Wd) := by
  have hp' := isP_okP hp
  obtain ⟨hp1, hp2⟩ := okP_iff.mp hp'
  -- found
  have h1 : lcE (itS (varE 5)) (Tk.nm 9).k (tst (op2 (op2 (varE 9) (varE 6) ixO) (cE (.int 0)) neO)) (varE 9) [9] (redSt d n p s ld (.im (.int i)) y7 y8 y9) = .ok ((s.L.filter fun r => decide (r.getD i 0 ≠ 0)).map Wd) (redSt d n p s ld (.im (.int i)) y7 y8 y9) := by
    refine lcE_flt Wd (fun r => decide (r.getD i 0 ≠ 0)) Wd s.L (by simp [redSt, hd]) (fun r hr => ?_) (by omega)
    obtain ⟨_, h2⟩ := hL r hr
    have e := wd_ix (r := r) (k := i) (by rw [h2]; exact hi)
    have key : ∃ T2, (tst (op2 (op2 (varE 9) (varE 6) ixO) (cE (.int 0)) neO)) { sl := [.im d, .im (.int n), .im (.int p), .im (.lst (s.T.map Wd)), .mu 0, .im ld, .im (.int i), y7, y8, .im (Wd r)], mo := [.ob (.ls (s.P.map fun (c : Nat) => Dt.int (c : Int)))] } = .ok (decide (r.getD i 0 ≠ 0)) T2 ∧ T2 = { sl := [.im d, .im (.int n), .im (.int p), .im (.lst (s.T.map Wd)), .mu 0, .im ld, .im (.int i), y7, y8, .im (Wd r)], mo := [.ob (.ls (s.P.map fun (c : Nat) => Dt.int (c : Int)))] } := by
      refine ⟨_, ?_, rfl⟩
      generalize r.getD i 0 = z at *
      simp [e]
    obtain ⟨T2, k1, k2⟩ := key
    refine ⟨_, T2, kNm _ _ _, k1, by rw [k2]; rfl, fun _ => ⟨T2, ?_, by rw [k2]; rfl⟩⟩
    rw [k2]
    simp
  unfold redBody
  rw [seqS_run, asgS_run', frz_run', h1, R.bind_ok, R.stmt_ok, seq_nx, ifS_run, truT_run]
  have hS1 : ({ sl := (redSt d n p s ld (.im (.int i)) y7 y8 y9).sl.set 7 (.im (.lst ((s.L.filter fun r => decide (r.getD i 0 ≠ 0)).map Wd))), mo := (redSt d n p s ld (.im (.int i)) y7 y8 y9).mo } : Ms) = redSt d n p s ld (.im (.int i)) (.im (.lst ((s.L.filter fun r => decide (r.getD i 0 ≠ 0)).map Wd))) y8 y9 := rfl
  rw [hS1]
  have hv7 : varE 7 (redSt d n p s ld (.im (.int i)) (.im (.lst ((s.L.filter fun r => decide (r.getD i 0 ≠ 0)).map Wd))) y8 y9) = .ok (.lst ((s.L.filter fun r => decide (r.getD i 0 ≠ 0)).map Wd)) (redSt d n p s ld (.im (.int i)) (.im (.lst ((s.L.filter fun r => decide (r.getD i 0 ≠ 0)).map Wd))) y8 y9) := varE_im rfl
  rw [hv7, R.bind_ok]
  unfold redStep
  cases hf : s.L.filter fun r => decide (r.getD i 0 ≠ 0) with
  | nil =>
    refine ⟨ld, .im (.lst []), y8, y9, ?_, hd⟩
    simp only [List.map_nil, truO, List.isEmpty_nil, Bool.not_true]
    rw [R.of_some, R.stmt_ok]
    rfl
  | cons r rs =>
    have hr : r ∈ s.L := (List.mem_filter.mp (by rw [hf]; exact List.mem_cons_self)).1
    have hr0 : r.getD i 0 ≠ 0 := of_decide_eq_true (List.mem_filter.mp (show r ∈ s.L.filter (fun r => decide (r.getD i 0 ≠ 0)) by rw [hf]; exact List.mem_cons_self)).2
    obtain ⟨hr1, hr2⟩ := hL r hr
    have hm : r.getD i 0 % p ≠ 0 := by
      have hx : r.getD i 0 ∈ r := by
        rw [List.getD_eq_getElem?_getD, List.getElem?_eq_getElem (by rw [hr2]; exact hi)]
        exact List.getElem_mem _
      obtain ⟨a, b⟩ := (okW_iff.mp hr1).2 _ hx
      rw [Int.emod_eq_of_lt a b]
      exact hr0
    have hh := okR_head (at_ := i) hp' ⟨hr1, hr2⟩
    have e1 := Finverse_run hp hm
    have e2 := FscW_run (a := invP p (r.getD i 0)) hp' hr1
    have e3 := wd_ix (r := r) (k := i) (by rw [hr2]; exact hi)
    have tr : truO (.lst ((r :: rs).map Wd)) = some true := rfl
    rw [tr, R.of_some, R.stmt_ok, if_pos rfl]
    -- head
    have e4 : (funE 3 (aCons (op2 (varE 7) (cE (.int 0)) ixO) (aCons (funE 2 (aCons (op2 (op2 (varE 7) (cE (.int 0)) ixO) (varE 6) ixO) (aCons (varE 2) aNil)) Finverse) (aCons (varE 2) aNil))) FscW) (redSt d n p s ld (.im (.int i)) (.im (.lst ((r :: rs).map Wd))) y8 y9) = .ok (Wd (redHead p i r)) (redSt d n p s ld (.im (.int i)) (.im (.lst ((r :: rs).map Wd))) y8 y9) := by
      unfold redHead
      have a0 : atI (Wd r :: rs.map Wd) 0 = some (Wd r) := atI_ofNat (Wd r :: rs.map Wd) 0
      generalize r.getD i 0 = z at *
      simp [redSt, a0, e3, e1, e2]
    rw [seqS_run, asgS_run', e4, R.stmt_ok, seq_nx]
    have hS2 : ({ sl := (redSt d n p s ld (.im (.int i)) (.im (.lst ((r :: rs).map Wd))) y8 y9).sl.set 8 (.im (Wd (redHead p i r))), mo := (redSt d n p s ld (.im (.int i)) (.im (.lst ((r :: rs).map Wd))) y8 y9).mo } : Ms) = { sl := [.im d, .im (.int n), .im (.int p), .im (.lst (s.T.map Wd)), .mu 0, .im ld, .im (.int i), .im (.lst ((r :: rs).map Wd)), .im (Wd (redHead p i r)), y9], mo := [.ob (.ls (s.P.map fun (c : Nat) => Dt.int (c : Int)))] } := rfl
    rw [hS2]
    -- table
    have e5 := lcF_clr (d := d) (td := .lst (s.T.map Wd)) (ld := ld) (x7 := .lst ((r :: rs).map Wd)) (mo := [.ob (.ls (s.P.map fun (c : Nat) => Dt.int (c : Int)))]) (x9 := y9) hp' hT hh hi (by omega) 3 rfl (by simp)
    rw [seqS_run, asgS_run', frz_run', opN_run, frz_run', e5, R.bind_ok, R.bind_ok, frz_run', lstE_run, aCons_run, varE_im (i := 8) rfl, R.bind_ok, aNil_run, R.bind_ok, R.bind_ok]
    have hl1 : ([Wd (redHead p i r)] : List Dt).length ≤ 100000 := by simp
    rw [if_pos hl1, R.bind_ok, R.bind_ok]
    have hcat : catL (.lst ((s.T.map (clr p (redHead p i r) i)).map Wd)) (.lst [Wd (redHead p i r)]) = some ((s.T.map (clr p (redHead p i r) i) ++ [redHead p i r]).map Wd) := by
      have hl2 : ((s.T.map (clr p (redHead p i r) i)).map Wd).length + ([Wd (redHead p i r)] : List Dt).length ≤ 100000 := by simp; omega
      show (if _ then _ else _) = _
      rw [if_pos hl2]
      simp
    rw [hcat, R.of_some, R.bind_ok, R.stmt_ok, seq_nx]
    -- left
    have e6 := lcF_clr (d := d) (td := .lst ((s.T.map (clr p (redHead p i r) i) ++ [redHead p i r]).map Wd)) (ld := ld) (x7 := .lst ((r :: rs).map Wd)) (mo := [.ob (.ls (s.P.map fun (c : Nat) => Dt.int (c : Int)))]) (x9 := y9) hp' hL hh hi (by omega) 5 rfl (by simp [hd])
    have hS3 : ({ sl := ([.im d, .im (.int n), .im (.int p), .im (.lst (s.T.map Wd)), .mu 0, .im ld, .im (.int i), .im (.lst ((r :: rs).map Wd)), .im (Wd (redHead p i r)), y9] : List Sv).set 3 (.im (.lst ((s.T.map (clr p (redHead p i r) i) ++ [redHead p i r]).map Wd))), mo := [.ob (.ls (s.P.map fun (c : Nat) => Dt.int (c : Int)))] } : Ms) =
      { sl := [.im d, .im (.int n), .im (.int p), .im (.lst ((s.T.map (clr p (redHead p i r) i) ++ [redHead p i r]).map Wd)), .mu 0, .im ld, .im (.int i), .im (.lst ((r :: rs).map Wd)), .im (Wd (redHead p i r)), y9], mo := [.ob (.ls (s.P.map fun (c : Nat) => Dt.int (c : Int)))] } := rfl
    rw [hS3, seqS_run, asgS_run', frz_run', e6, R.bind_ok, R.stmt_ok, seq_nx]
    -- pivots
    refine ⟨.lst ((s.L.map (clr p (redHead p i r) i)).map Wd), .im (.lst ((r :: rs).map Wd)), .im (Wd (redHead p i r)), y9, ?_, rfl⟩
    rw [appS_run]
    rw [muAt_run (k := 0) (xs := s.P.map fun (c : Nat) => Dt.int (c : Int)) rfl rfl]
    dsimp only
    rw [varE_im (i := 6) (d := .int i) rfl, R.stmt_ok, muAt_run (k := 0) (xs := s.P.map fun (c : Nat) => Dt.int (c : Int)) rfl rfl]
    dsimp only
    rw [if_pos (by simp; omega)]
    simp [redSt]
theorem run_reduced (ds : List Dt) (h : Freduced ds ≠ .no) : runD 10 m_reduced ds = Freduced ds := by
  unfold Freduced at h
  split at h
  · rename_i d w p
    split at h
    · rename_i rows hrows
      split at h
      · rename_i hc
        simp only [Bool.and_eq_true, decide_eq_true_eq] at hc
        obtain ⟨⟨⟨hp, hw⟩, hl⟩, hk⟩ := hc
        obtain ⟨n, rfl⟩ : ∃ k : Nat, w = (k : Int) := ⟨w.toNat, by omega⟩
        rw [Int.toNat_natCast] at hk
        have hok := okRb_iff.mp hk
        obtain ⟨xs, hx1, hx2⟩ := Option.bind_eq_some_iff.mp hrows
        have hx3 := wordsOf_eq hx2
        subst hx3
        have hn : n ≤ 1000 := by omega
        rw [Freduced_run hx1 hp hn hl hok]
        have hp' := isP_okP hp
        have hlen := fun k => redN_lens (p := p) (rows := rows) k
        have hoks := fun k => redN_ok (n := n) hp' hok k
        have hit : itR1 (aCons (varE 1) aNil) (redSt d n p ⟨[], [], rows⟩ d .no .no .no .no) = .ok ((List.range n).map fun (k : Nat) => Dt.int (k : Int)) (redSt d n p ⟨[], [], rows⟩ d .no .no .no .no) := by
          have := itR1_run (fs := aCons (varE 1) aNil) (S := redSt d n p ⟨[], [], rows⟩ d .no .no .no .no) (S1 := redSt d n p ⟨[], [], rows⟩ d .no .no .no .no) (n := n) (by simp [redSt]) (by omega)
          simpa using this
        obtain ⟨S', hS', ld', x6, x7, x8, x9, hI, hseq⟩ := forL_inv (k := (Tk.nm 6).k) (body := redBody) ((List.range n).map fun (k : Nat) => Dt.int (k : Int))
          (fun i S => ∃ ld x6 x7 x8 x9, S = redSt d n p (redN p rows i) ld x6 x7 x8 x9 ∧ seqOf ld = some ((redN p rows i).L.map Wd)) (redSt d n p ⟨[], [], rows⟩ d .no .no .no .no) ⟨d, .no, .no, .no, .no, rfl, hx1⟩
          (fun i e S hi hI => by
            obtain ⟨ld, x6, x7, x8, x9, rfl, hseq⟩ := hI
            rw [List.getElem?_map] at hi
            have hin : i < n := by
              rcases Nat.lt_or_ge i n with h | h
              · exact h
              · rw [List.getElem?_eq_none (by simpa using h)] at hi
                cases hi
            rw [List.getElem?_range hin] at hi
            cases hi
            have l1 := hlen i
            obtain ⟨ld', y7, y8, y9, r1, r2⟩ := redBody_run (d := d) (s := redN p rows i) (y7 := x7) (y8 := x8) (y9 := x9) hp hn hin (hoks i).1 (hoks i).2 (by omega) (by omega) (by omega) hseq
            exact ⟨_, _, kNm _ _ _, Or.inl r1, ld', .im (.int i), y7, y8, y9, rfl, r2⟩)
        rw [List.length_map, List.length_range] at hI hseq
        have l1 := hlen n
        have hS0 : st0 10 [d, .int (n : Int), .int p] = { sl := [.im d, .im (.int n), .im (.int p), .no, .no, .no, .no, .no, .no, .no], mo := [] } := rfl
        unfold runD
        rw [hS0]
        have hm : m_reduced = seqS (asgS 3 (frz (lstE aNil))) (seqS (asgN 4 (lstE aNil)) (seqS (moveS 5 0) (seqS (forS (itR1 (aCons (varE 1) aNil)) (Tk.nm 6).k redBody) (retS (tupE (aCons (calE (aCons (varE 3) aNil) tupO) (aCons (calE (aCons (varE 4) aNil) tupO) aNil))))))) := rfl
        have hpre : ∀ k, seqS (asgS 3 (frz (lstE aNil))) (seqS (asgN 4 (lstE aNil)) (seqS (moveS 5 0) k)) { sl := [.im d, .im (.int n), .im (.int p), .no, .no, .no, .no, .no, .no, .no], mo := [] } = k (redSt d n p ⟨[], [], rows⟩ d .no .no .no .no) := fun k => by
          simp [redSt]
          rfl
        rw [hm, hpre, seqS_run, forS_run, hit, R.stmt_ok, hS', seq_nx, hI]
        simp [redSt, redD]
        rfl
      · exact absurd rfl h
    · exact absurd rfl h
  · exact absurd rfl h
end Lq

namespace Lq
open PySem PySem.Spec PyProof.Rows L2
theorem forL_fold {α σ : Type} {k : Dt → Ms → Option Ms} {body : Ms → O} (enc : α → Dt) (I : Nat → σ → Ms → Prop) (g : σ → α → σ) : ∀ (xs : List α) (i : Nat) (q : σ) (S : Ms), I i q S →
    (∀ j q x S, x ∈ xs → j < i + xs.length → I j q S → ∃ S1 S2, k (enc x) S = some S1 ∧ (body S1 = .nx S2 ∨ body S1 = .ct S2) ∧ I (j + 1) (g q x) S2) → ∃ S', forL k body (xs.map enc) S = .nx S' ∧ I (i + xs.length) (xs.foldl g q) S'
  | [], i, q, S, h, _ => ⟨S, rfl, h⟩
  | x :: xs, i, q, S, h, hs => by
    have hl : (x :: xs).length = xs.length + 1 := rfl
    obtain ⟨S1, S2, h1, h2, h3⟩ := hs i q x S List.mem_cons_self (by omega) h
    obtain ⟨S', e1, e2⟩ := forL_fold enc I g xs (i + 1) (g q x) S2 h3 (fun j q y S hy hj hI => hs j q y S (List.mem_cons_of_mem _ hy) (by omega) hI)
    refine ⟨S', ?_, ?_⟩
    · rw [List.map_cons]
      unfold forL
      rw [h1]
      dsimp only
      rcases h2 with h2 | h2 <;> rw [h2] <;> exact e1
    · rw [hl, Nat.add_comm xs.length 1, ← Nat.add_assoc]
      exact e2
def insW (ws : List (List Int)) (w : List Int) : List (List Int) := if w ∈ ws then ws else ws ++ [w]
def dcv (ws : List (List Int)) : List (List Int × Dt) := ws.map fun w => (w, .bl true)
theorem putD_dcv (ws : List (List Int)) (w : List Int) : putD (dcv ws) w (.bl true) = dcv (insW ws w) := by
  unfold putD insW
  by_cases h : w ∈ ws
  · have e : ((dcv ws).any fun kv => decide (kv.1 = w)) = true := by
      rw [List.any_eq_true]
      exact ⟨(w, .bl true), List.mem_map.mpr ⟨w, h, rfl⟩, decide_eq_true rfl⟩
    rw [if_pos e, if_pos h]
    unfold dcv
    rw [List.map_map]
    refine List.map_congr_left fun x _ => ?_
    by_cases q : x = w <;> simp [q]
  · have e : ¬ ((dcv ws).any fun kv => decide (kv.1 = w)) = true := by
      rw [List.any_eq_true]
      rintro ⟨q, hq, hd⟩
      obtain ⟨x, hx, rfl⟩ := List.mem_map.mp hq
      exact h (of_decide_eq_true hd ▸ hx)
    rw [if_neg e, if_neg h]
    simp [dcv]
theorem dcv_keys (ws : List (List Int)) : ((dcv ws).map fun q => Wd q.1) = ws.map Wd := by simp [dcv]
theorem dcv_len (ws : List (List Int)) : (dcv ws).length = ws.length := by simp [dcv]
theorem insW_len (ws : List (List Int)) (w : List Int) : (insW ws w).length ≤ ws.length + 1 := by
  unfold insW
  split
  · omega
  · simp
theorem insW_mem {ws : List (List Int)} {w x : List Int} : x ∈ insW ws w ↔ x ∈ ws ∨ x = w := by
  unfold insW
  split
  · rename_i h
    exact ⟨.inl, fun q => q.elim id fun e => e ▸ h⟩
  · simp
theorem insW_nd {ws : List (List Int)} {w : List Int} (h : ws.Nodup) : (insW ws w).Nodup := by
  unfold insW
  split
  · exact h
  · rename_i hw
    rw [List.nodup_append]
    refine ⟨h, List.nodup_cons.mpr ⟨List.not_mem_nil, List.nodup_nil⟩, fun a ha b hb => ?_⟩
    rw [List.mem_singleton] at hb
    rintro rfl
    exact hw (hb ▸ ha)
def inn (p : Int) (r w : List Int) (acc : List (List Int)) : List (List Int) := (List.range p.toNat).foldl (fun acc (a : Nat) => insW acc (addW p w (scW p (a : Int) r))) acc
def widen (p : Int) (r : List Int) (ws : List (List Int)) : List (List Int) := ws.foldl (fun acc w => inn p r w acc) []
def spanL (p : Int) (n : Nat) (rows : List (List Int)) : List (List Int) := rows.foldl (fun ws r => widen p r ws) [List.replicate n 0]
theorem foldl_insW_len {α : Type} (f : α → List Int) : ∀ (xs : List α) (acc : List (List Int)), (xs.foldl (fun acc a => insW acc (f a)) acc).length ≤ acc.length + xs.length
  | [], acc => Nat.le_refl _
  | x :: xs, acc => by
    have h1 := foldl_insW_len f xs (insW acc (f x))
    have h2 := insW_len acc (f x)
    have h3 : (x :: xs).length = xs.length + 1 := rfl
    rw [List.foldl_cons]
    omega
theorem foldl_insW_mem {α : Type} (f : α → List Int) {y : List Int} : ∀ (xs : List α) (acc : List (List Int)), y ∈ xs.foldl (fun acc a => insW acc (f a)) acc ↔ y ∈ acc ∨ ∃ a ∈ xs, y = f a
  | [], acc => by simp
  | x :: xs, acc => by
    rw [List.foldl_cons, foldl_insW_mem f xs, insW_mem]
    simp only [List.mem_cons, exists_eq_or_imp, or_assoc]
theorem foldl_insW_nd {α : Type} (f : α → List Int) : ∀ (xs : List α) (acc : List (List Int)), acc.Nodup → (xs.foldl (fun acc a => insW acc (f a)) acc).Nodup
  | [], acc, h => h
  | x :: xs, acc, h => by
    rw [List.foldl_cons]
    exact foldl_insW_nd f xs _ (insW_nd h)
theorem inn_len (p : Int) (r w : List Int) (acc : List (List Int)) : (inn p r w acc).length ≤ acc.length + p.toNat := by
  have := foldl_insW_len (fun (a : Nat) => addW p w (scW p (a : Int) r)) (List.range p.toNat) acc
  rwa [List.length_range] at this
theorem inn_mem {p : Int} {r w y : List Int} {acc : List (List Int)} : y ∈ inn p r w acc ↔ y ∈ acc ∨ ∃ a : Nat, a < p.toNat ∧ y = addW p w (scW p (a : Int) r) := by
  unfold inn
  rw [foldl_insW_mem (fun (a : Nat) => addW p w (scW p (a : Int) r))]
  simp [List.mem_range]
theorem widen_aux_len (p : Int) (r : List Int) : ∀ (ws acc : List (List Int)), (ws.foldl (fun acc w => inn p r w acc) acc).length ≤ acc.length + ws.length * p.toNat
  | [], acc => by simp
  | w :: ws, acc => by
    have h1 := widen_aux_len p r ws (inn p r w acc)
    have h2 := inn_len p r w acc
    have h3 : (w :: ws).length * p.toNat = ws.length * p.toNat + p.toNat := by rw [List.length_cons, Nat.succ_mul]
    rw [List.foldl_cons, h3]
    omega
theorem widen_aux_mem {p : Int} {r y : List Int} : ∀ (ws acc : List (List Int)), y ∈ ws.foldl (fun acc w => inn p r w acc) acc ↔ y ∈ acc ∨ ∃ w ∈ ws, ∃ a : Nat, a < p.toNat ∧ y = addW p w (scW p (a : Int) r)
  | [], acc => by simp
  | w :: ws, acc => by
    rw [List.foldl_cons, widen_aux_mem ws, inn_mem]
    simp only [List.mem_cons, exists_eq_or_imp, or_assoc]
theorem widen_mem {p : Int} {r y : List Int} {ws : List (List Int)} : y ∈ widen p r ws ↔ ∃ w ∈ ws, ∃ a : Nat, a < p.toNat ∧ y = addW p w (scW p (a : Int) r) := by
  unfold widen
  rw [widen_aux_mem]
  simp
theorem widen_aux_nd {p : Int} {r : List Int} : ∀ (ws acc : List (List Int)), acc.Nodup → (ws.foldl (fun acc w => inn p r w acc) acc).Nodup
  | [], acc, h => h
  | w :: ws, acc, h => by
    rw [List.foldl_cons]
    exact widen_aux_nd ws _ (foldl_insW_nd _ _ _ h)
theorem widen_nd {p : Int} {r : List Int} {ws : List (List Int)} : (widen p r ws).Nodup := widen_aux_nd ws [] List.nodup_nil
theorem widen_len (p : Int) (r : List Int) (ws : List (List Int)) : (widen p r ws).length ≤ ws.length * p.toNat := by
  have := widen_aux_len p r ws []
  simpa [widen] using this
theorem okR_widen {p : Int} {n : Nat} {r : List Int} {ws : List (List Int)} (hp : okP p = true) (hr : okW p r = true ∧ r.length = n) (h : okR p n ws) : okR p n (widen p r ws) := fun y hy => by
  obtain ⟨w, hw, a, ha, rfl⟩ := widen_mem.mp hy
  obtain ⟨h1, h2⟩ := h w hw
  exact ⟨okW_addW hp h1, by rw [addW_len _ _ _ (by rw [scW_len, h2, hr.2]), h2]⟩

def m__law_span : Ms → O := (seqS (asgM 3 (dct1 (calE (aCons (frz (lcE (itR1 (aCons (varE 1) aNil)) (Tk.nm 8).k yesT (cE (.int 0)) [8])) aNil) tupO) (cE (.bl true))))
  (seqS (forS (itS (varE 0)) (Tk.nm 4).k (seqS (asgM 5 dct0)
  (seqS (forS (itS (frz (keysL 3))) (Tk.nm 6).k (forS (itR1 (aCons (varE 2) aNil)) (Tk.nm 7).k (setD 5 (cE (.bl true)) (funE 3 (aCons (varE 6) (aCons (funE 3 (aCons (varE 4) (aCons (varE 7) (aCons (varE 2) aNil))) FscW) (aCons (varE 2) aNil))) FaddW))))
  (moveS 3 5))))
  (retS (frz (calN (aCons (frz (keysL 3)) aNil) sortO)))))
def spSt (d : Dt) (n : Nat) (p : Int) (a : Nat) (x4 x5 x6 x7 : Sv) (mo : List Mo) : Ms := { sl := [.im d, .im (.int n), .im (.int p), .mu a, x4, x5, x6, x7, .no], mo := mo }
def spIn : Ms → O := setD 5 (cE (.bl true)) (funE 3 (aCons (varE 6) (aCons (funE 3 (aCons (varE 4) (aCons (varE 7) (aCons (varE 2) aNil))) FscW) (aCons (varE 2) aNil))) FaddW)
theorem setD_run {i k : Nat} {f g : Ms → R Dt} {S : Ms} {kvs : List (List Int × Dt)} {e : Dt} {ns : List Int} (h1 : f S = .ok e S) (h2 : dcAt S i = some (k, kvs)) (h3 : g S = .ok (Wd ns) S) (hl : kvs.length < 100000) : setD i f g S = .nx { S with mo := S.mo.set k (.ob (.dc (putD kvs ns e))) } := by
  unfold setD
  rw [h1, R.stmt_ok, h2]
  dsimp only
  rw [h3, R.stmt_ok, h2, wordOf_Wd]
  dsimp only
  rw [if_pos hl]
theorem spIn_run {d : Dt} {n : Nat} {p : Int} {a at_ : Nat} {r w : List Int} {ms : List Mo} {acc : List (List Int)} (hp : okP p = true) (hr : okW p r = true ∧ r.length = n) (hw : okW p w = true ∧ w.length = n) (hl : acc.length < 100000) :
    spIn (spSt d n p a (.im (Wd r)) (.mu ms.length) (.im (Wd w)) (.im (.int (at_ : Int))) (ms ++ [.ob (.dc (dcv acc))])) = .nx (spSt d n p a (.im (Wd r)) (.mu ms.length) (.im (Wd w)) (.im (.int (at_ : Int))) (ms ++ [.ob (.dc (dcv (insW acc (addW p w (scW p (at_ : Int) r)))))])) := by
  have e1 := FscW_run (a := (at_ : Int)) hp hr.1
  have e2 := FaddW_run (w := scW p (at_ : Int) r) hp hw.1 (okW_scW hp hr.1) (by rw [scW_len, hw.2, hr.2])
  unfold spIn
  refine (setD_run (k := ms.length) (kvs := dcv acc) (e := .bl true) (ns := addW p w (scW p (at_ : Int) r)) rfl (dcAt_run rfl (by simp [spSt])) (by simp [spSt, e1, e2]) (by rw [dcv_len]; exact hl)).trans ?_
  rw [putD_dcv]
  simp [spSt]
def spMid : Ms → O := forS (itR1 (aCons (varE 2) aNil)) (Tk.nm 7).k spIn
theorem spMid_run {d : Dt} {n : Nat} {p : Int} {a : Nat} {r w : List Int} {ms : List Mo} {acc : List (List Int)} {x7 : Sv} (hp : okP p = true) (hr : okW p r = true ∧ r.length = n) (hw : okW p w = true ∧ w.length = n) (hl : acc.length + p.toNat ≤ 100000) :
    ∃ y7, spMid (spSt d n p a (.im (Wd r)) (.mu ms.length) (.im (Wd w)) x7 (ms ++ [.ob (.dc (dcv acc))])) = .nx (spSt d n p a (.im (Wd r)) (.mu ms.length) (.im (Wd w)) y7 (ms ++ [.ob (.dc (dcv (inn p r w acc)))])) := by
  obtain ⟨hp1, hp2⟩ := okP_iff.mp hp
  obtain ⟨k, rfl⟩ : ∃ k : Nat, p = (k : Int) := ⟨p.toNat, by omega⟩
  have hit : itR1 (aCons (varE 2) aNil) (spSt d n k a (.im (Wd r)) (.mu ms.length) (.im (Wd w)) x7 (ms ++ [.ob (.dc (dcv acc))])) = .ok ((List.range k).map fun (i : Nat) => Dt.int (i : Int)) (spSt d n k a (.im (Wd r)) (.mu ms.length) (.im (Wd w)) x7 (ms ++ [.ob (.dc (dcv acc))])) := itR1_run (by simp [spSt]) (by omega)
  obtain ⟨S', e1, e2, y7, e3⟩ := forL_fold (k := (Tk.nm 7).k) (body := spIn) (fun (i : Nat) => Dt.int (i : Int)) (fun j (q : List (List Int)) S => q.length ≤ acc.length + j ∧ ∃ y7, S = spSt d n k a (.im (Wd r)) (.mu ms.length) (.im (Wd w)) y7 (ms ++ [.ob (.dc (dcv q))]))
    (fun q (x : Nat) => insW q (addW k w (scW k (x : Int) r))) (List.range k) 0 acc _ ⟨Nat.le_refl _, x7, rfl⟩ (fun j q x S hx hj hI => by
      obtain ⟨hq, y7, rfl⟩ := hI
      rw [List.length_range] at hj
      have := insW_len q (addW k w (scW k (x : Int) r))
      exact ⟨_, _, kNm _ _ _, .inl (spIn_run (at_ := x) hp hr hw (by omega)), by omega, _, rfl⟩)
  refine ⟨y7, ?_⟩
  unfold spMid
  rw [forS_run, hit, R.stmt_ok, e1, e3]
  rfl
def spBody : Ms → O := (seqS (asgM 5 dct0) (seqS (forS (itS (frz (keysL 3))) (Tk.nm 6).k spMid) (moveS 3 5)))
theorem spBody_run {d : Dt} {n : Nat} {p : Int} {a : Nat} {r : List Int} {ms : List Mo} {ws : List (List Int)} {x5 x6 x7 : Sv} (hp : okP p = true) (hr : okW p r = true ∧ r.length = n) (hws : okR p n ws) (ha : ms[a]? = some (.ob (.dc (dcv ws)))) (hl : ws.length * p.toNat ≤ 100000) :
    ∃ b ms' y5 y6 y7, spBody (spSt d n p a (.im (Wd r)) x5 x6 x7 ms) = .nx (spSt d n p b (.im (Wd r)) y5 y6 y7 ms') ∧ ms'[b]? = some (.ob (.dc (dcv (widen p r ws)))) := by
  have hd : dcAt (spSt d n p a (.im (Wd r)) (.mu ms.length) x6 x7 (ms ++ [.ob (.dc (dcv []))])) 3 = some (a, dcv ws) := dcAt_run rfl (by
    show (ms ++ [.ob (.dc (dcv []))])[a]? = _
    rw [List.getElem?_append_left ((List.getElem?_eq_some_iff.mp ha).1), ha])
  have hit : itS (frz (keysL 3)) (spSt d n p a (.im (Wd r)) (.mu ms.length) x6 x7 (ms ++ [.ob (.dc (dcv []))])) = .ok (ws.map Wd) (spSt d n p a (.im (Wd r)) (.mu ms.length) x6 x7 (ms ++ [.ob (.dc (dcv []))])) := by
    rw [itS_run, frz_run']
    unfold keysL
    rw [hd]
    dsimp only
    rw [R.bind_ok, R.bind_ok, seqOf_lst, R.of_some, dcv_keys]
  obtain ⟨S', e1, e2, y6, y7, e3⟩ := forL_fold (k := (Tk.nm 6).k) (body := spMid) Wd (fun j (q : List (List Int)) S => q.length ≤ j * p.toNat ∧ ∃ y6 y7, S = spSt d n p a (.im (Wd r)) (.mu ms.length) y6 y7 (ms ++ [.ob (.dc (dcv q))]))
    (fun q w => inn p r w q) ws 0 [] _ ⟨Nat.zero_le _, x6, x7, rfl⟩ (fun j q w S hw hj hI => by
      obtain ⟨hq, y6, y7, rfl⟩ := hI
      have h1 := inn_len p r w q
      have h2 : (j + 1) * p.toNat ≤ ws.length * p.toNat := Nat.mul_le_mul_right _ (by omega)
      rw [Nat.succ_mul] at h2
      obtain ⟨z7, h3⟩ := spMid_run (d := d) (a := a) (ms := ms) (acc := q) (x7 := y7) hp hr (hws w hw) (by omega)
      exact ⟨_, _, kNm _ _ _, .inl h3, by rw [Nat.succ_mul]; omega, _, _, rfl⟩)
  refine ⟨ms.length, ms ++ [.ob (.dc (dcv (widen p r ws)))], .mu ms.length, y6, y7, ?_, ?_⟩
  · unfold spBody
    have h0 : asgM 5 dct0 (spSt d n p a (.im (Wd r)) x5 x6 x7 ms) = .nx (spSt d n p a (.im (Wd r)) (.mu ms.length) x6 x7 (ms ++ [.ob (.dc (dcv []))])) := rfl
    rw [seqS_run, h0, seq_nx, seqS_run, forS_run, hit, R.stmt_ok, e1, seq_nx, e3]
    exact moveS_mu rfl
  · simp
theorem spanL_ok {p : Int} {n : Nat} {rows : List (List Int)} (hp : okP p = true) (hn : n ≤ 1000) (h : okR p n rows) : okR p n (spanL p n rows) := by
  have h0 : okR p n [List.replicate n 0] := fun r hr => by
    rw [List.mem_singleton] at hr
    subst hr
    refine ⟨okW_iff.mpr ⟨by simpa using hn, fun x hx => ?_⟩, by simp⟩
    have := (List.mem_replicate.mp hx).2
    have := (okP_iff.mp hp).1
    omega
  have : ∀ (rows ws : List (List Int)), okR p n rows → okR p n ws → okR p n (rows.foldl (fun ws r => widen p r ws) ws) := by
    intro rows
    induction rows with
    | nil => exact fun ws _ h => h
    | cons r rows ih => exact fun ws h1 h2 => ih _ (fun x hx => h1 x (List.mem_cons_of_mem _ hx)) (okR_widen hp (h1 r List.mem_cons_self) h2)
  exact this rows _ h h0
theorem spanL_nd {p : Int} {n : Nat} {rows : List (List Int)} : (spanL p n rows).Nodup := by
  have : ∀ (rows ws : List (List Int)), ws.Nodup → (rows.foldl (fun ws r => widen p r ws) ws).Nodup := by
    intro rows
    induction rows with
    | nil => exact fun ws h => h
    | cons r rows ih => exact fun ws h => ih _ widen_nd
  exact this rows _ (by simp)
def Fspan : List Dt → Fo
  | [d, .int w, .int p] => match (seqOf d).bind wordsOf with
    | some rows => if (okP p && decide (0 ≤ w ∧ w ≤ 1000) && decide (p.toNat ^ rows.length ≤ 100000) && okRb p w.toNat rows) = true then .ok (.lst ((sortW (spanL p w.toNat rows)).map Wd)) else .no
    | none => .no
  | _ => .no
theorem Fspan_run {p : Int} {n : Nat} {rows : List (List Int)} {d : Dt} (hd : seqOf d = some (rows.map Wd)) (hp : okP p = true) (hn : n ≤ 1000) (hl : p.toNat ^ rows.length ≤ 100000) (h : okR p n rows) : Fspan [d, .int n, .int p] = .ok (.lst ((sortW (spanL p n rows)).map Wd)) := by
  unfold Fspan
  dsimp only
  rw [hd]
  simp only [Option.bind, wordsOf_map, Int.toNat_natCast]
  rw [if_pos]
  simp [hp, okRb_iff.mpr h, hl]
  omega
theorem run__law_span (ds : List Dt) (h : Fspan ds ≠ .no) : runD 9 m__law_span ds = Fspan ds := by
  unfold Fspan at h
  split at h
  · rename_i d w p
    split at h
    · rename_i rows hrows
      split at h
      · rename_i hc
        simp only [Bool.and_eq_true, decide_eq_true_eq] at hc
        obtain ⟨⟨⟨hp, hw⟩, hl⟩, hk⟩ := hc
        obtain ⟨n, rfl⟩ : ∃ k : Nat, w = (k : Int) := ⟨w.toNat, by omega⟩
        rw [Int.toNat_natCast] at hk
        have hok := okRb_iff.mp hk
        obtain ⟨xs, hx1, hx2⟩ := Option.bind_eq_some_iff.mp hrows
        have hx3 := wordsOf_eq hx2
        subst hx3
        have hn : n ≤ 1000 := by omega
        rw [Fspan_run hx1 hp hn hl hok]
        obtain ⟨hp1, hp2⟩ := okP_iff.mp hp
        have hp3 : 1 ≤ p.toNat := by omega
        have hst : st0 9 [d, .int (n : Int), .int p] = { sl := [.im d, .im (.int n), .im (.int p), .no, .no, .no, .no, .no, .no], mo := [] } := rfl
        have hz : lcE (itR1 (aCons (varE 1) aNil)) (Tk.nm 8).k yesT (cE (.int 0)) [8] { sl := [.im d, .im (.int n), .im (.int p), .no, .no, .no, .no, .no, .no], mo := [] } = .ok ((List.range n).map fun _ => Dt.int 0) { sl := [.im d, .im (.int n), .im (.int p), .no, .no, .no, .no, .no, .no], mo := [] } := by
          refine lcE_map (fun (i : Nat) => Dt.int (i : Int)) _ (List.range n) (itR1_run (by simp) (by omega)) (fun x hx => ⟨_, kNm _ _ _, _, rfl, rfl⟩) (fun d T T' => Tk.mo) (by simp; omega)
        have hz2 : ((List.range n).map fun _ => Dt.int 0) = (List.replicate n (0 : Int)).map Dt.int := by
          rw [List.map_const', List.length_range, List.map_replicate]
        have hpre : asgM 3 (dct1 (calE (aCons (frz (lcE (itR1 (aCons (varE 1) aNil)) (Tk.nm 8).k yesT (cE (.int 0)) [8])) aNil) tupO) (cE (.bl true))) { sl := [.im d, .im (.int n), .im (.int p), .no, .no, .no, .no, .no, .no], mo := [] } = .nx (spSt d n p 0 .no .no .no .no [.ob (.dc (dcv [List.replicate n 0]))]) := by
          rw [asgM_run']
          unfold dct1
          rw [calE_run, aCons_run, frz_run', hz, R.bind_ok, R.bind_ok, aNil_run, R.bind_ok, R.bind_ok, tupO_lst, R.of_some, R.bind_ok, cE_run, R.bind_ok, hz2]
          have : wordOf (.tup ((List.replicate n (0 : Int)).map Dt.int)) = some (List.replicate n 0) := wordOf_Wd _
          rw [this]
          rfl
        have hit : itS (varE 0) (spSt d n p 0 .no .no .no .no [.ob (.dc (dcv [List.replicate n 0]))]) = .ok (rows.map Wd) (spSt d n p 0 .no .no .no .no [.ob (.dc (dcv [List.replicate n 0]))]) := by
          rw [itS_run, varE_im rfl, R.bind_ok, hx1, R.of_some]
        obtain ⟨S', e1, e2, e3, b, ms, x4, x5, x6, x7, e4, e5⟩ := forL_fold (k := (Tk.nm 4).k) (body := spBody) Wd (fun j (q : List (List Int)) S => q.length ≤ p.toNat ^ j ∧ okR p n q ∧ ∃ b ms x4 x5 x6 x7, S = spSt d n p b x4 x5 x6 x7 ms ∧ ms[b]? = some (.ob (.dc (dcv q))))
          (fun q r => widen p r q) rows 0 [List.replicate n 0] (spSt d n p 0 .no .no .no .no [.ob (.dc (dcv [List.replicate n 0]))]) ⟨by simp, by simpa [spanL] using spanL_ok (rows := []) hp hn (fun r hr => absurd hr List.not_mem_nil), 0, _, _, _, _, _, rfl, rfl⟩ (fun j q r S hr hj hI => by
            obtain ⟨hq, hq2, b, ms, x4, x5, x6, x7, rfl, hb⟩ := hI
            have h1 := widen_len p r q
            have h2 : q.length * p.toNat ≤ p.toNat ^ (j + 1) := by rw [Nat.pow_succ]; exact Nat.mul_le_mul_right _ hq
            have h3 : p.toNat ^ (j + 1) ≤ p.toNat ^ rows.length := Nat.pow_le_pow_right hp3 (by omega)
            obtain ⟨b', ms', y5, y6, y7, r1, r2⟩ := spBody_run (d := d) (x5 := x5) (x6 := x6) (x7 := x7) hp (hok r hr) hq2 hb (by omega)
            exact ⟨_, _, kNm _ _ _, .inl r1, by omega, okR_widen hp (hok r hr) hq2, b', ms', _, _, _, _, rfl, r2⟩)
        have e6 : rows.foldl (fun q r => widen p r q) [List.replicate n 0] = spanL p n rows := rfl
        rw [e6] at e2 e3 e5
        have hm : m__law_span = seqS (asgM 3 (dct1 (calE (aCons (frz (lcE (itR1 (aCons (varE 1) aNil)) (Tk.nm 8).k yesT (cE (.int 0)) [8])) aNil) tupO) (cE (.bl true)))) (seqS (forS (itS (varE 0)) (Tk.nm 4).k spBody) (retS (frz (calN (aCons (frz (keysL 3)) aNil) sortO)))) := rfl
        unfold runD
        rw [hst, hm, seqS_run, hpre, seq_nx, seqS_run, forS_run, hit, R.stmt_ok, e1, seq_nx, e4, retS_run, frz_run', calN_run, aCons_run, frz_run']
        have hk3 : keysL 3 (spSt d n p b x4 x5 x6 x7 ms) = .ok ((spanL p n rows).map Wd) (spSt d n p b x4 x5 x6 x7 ms) := by
          unfold keysL
          rw [dcAt_run (k := b) (xs := dcv (spanL p n rows)) rfl e5]
          dsimp only
          rw [dcv_keys]
        rw [hk3, R.bind_ok, R.bind_ok, aNil_run, R.bind_ok, R.bind_ok]
        have hso : sortO [.lst ((spanL p n rows).map Wd)] = some ((sortW (spanL p n rows)).map Wd) := by
          unfold sortO
          dsimp only
          rw [wordsOf_map]
          dsimp only [Option.bind]
          rw [if_pos]
          have hnd := spanL_nd (p := p) (n := n) (rows := rows)
          generalize spanL p n rows = ws at *
          match ws, e3, hnd with
          | [], _, _ => exact .inl (Nat.zero_le _)
          | [w], _, _ => exact .inl (Nat.le_refl _)
          | w :: v :: ws, h, hnd =>
            refine .inr fun x hx => ?_
            have h1 := (h w List.mem_cons_self).2
            have h2 := (h x hx).2
            refine ⟨h2.trans h1.symm, ?_⟩
            rcases Nat.eq_zero_or_pos n with h0 | h0
            · exfalso
              have h3 := (h v (List.mem_cons_of_mem _ List.mem_cons_self)).2
              have e7 := List.eq_nil_of_length_eq_zero (h1.trans h0)
              have e8 := List.eq_nil_of_length_eq_zero (h3.trans h0)
              subst e7 e8
              exact (List.nodup_cons.mp hnd).1 List.mem_cons_self
            · omega
        rw [hso, R.of_some, R.bind_ok, R.stmt_ok]
        rfl
      · exact absurd rfl h
    · exact absurd rfl h
  · exact absurd rfl h
end Lq

namespace Lq
open PySem PySem.Spec PyProof.Rows L2
def g (v : List Int) (j : Nat) : Int := v.getD j 0
def ok1 (p : Int) (n : Nat) (v : List Int) : Prop := okW p v = true ∧ v.length = n
theorem g_lt {p : Int} {n : Nat} {v : List Int} (h : ok1 p n v) {j : Nat} (hj : j < n) : 0 ≤ g v j ∧ g v j < p := by
  have hl := h.2
  have hj' : j < v.length := by omega
  unfold g
  rw [List.getD_eq_getElem?_getD, List.getElem?_eq_getElem hj']
  exact (okW_iff.mp h.1).2 _ (List.getElem_mem _)
theorem g_mod {p : Int} {n : Nat} {v : List Int} (h : ok1 p n v) {j : Nat} (hj : j < n) : g v j % p = g v j := Int.emod_eq_of_lt (g_lt h hj).1 (g_lt h hj).2
theorem g_ext {n : Nat} {v w : List Int} (hv : v.length = n) (hw : w.length = n) (h : ∀ j < n, g v j = g w j) : v = w := by
  apply List.ext_getElem (by omega)
  intro j h1 h2
  have := h j (by omega)
  unfold g at this
  rw [List.getD_eq_getElem?_getD, List.getD_eq_getElem?_getD, List.getElem?_eq_getElem h1, List.getElem?_eq_getElem h2] at this
  exact this
theorem g_zero {n j : Nat} : g (List.replicate n 0) j = 0 := by
  unfold g
  rw [List.getD_eq_getElem?_getD, List.getElem?_replicate]
  split <;> rfl
theorem g_sc {p a : Int} {v : List Int} {n j : Nat} (hv : v.length = n) (hj : j < n) : g (scW p a v) j = g v j * a % p := by
  unfold g scW
  have hj' : j < v.length := by omega
  rw [List.getD_eq_getElem?_getD, List.getD_eq_getElem?_getD, List.getElem?_map, List.getElem?_eq_getElem hj']
  rfl
def lin (p : Int) (v w : List Int) (a : Int) : List Int := addW p v (scW p a w)
theorem lin_len {p a : Int} {v w : List Int} {n : Nat} (hv : v.length = n) (hw : w.length = n) : (lin p v w a).length = n := by
  unfold lin
  rw [addW_len _ _ _ (by rw [scW_len, hv, hw]), hv]
theorem emod_lin (p x y a : Int) : (x + y * a % p) % p = (x + y * a) % p := Int.add_emod_emod _ _ _
theorem g_lin {p a : Int} {v w : List Int} {n j : Nat} (hv : v.length = n) (hw : w.length = n) (hj : j < n) : g (lin p v w a) j = (g v j + g w j * a) % p := by
  have h2 := g_sc (p := p) (a := a) hw hj
  unfold lin
  rw [← emod_lin, ← h2]
  unfold g addW
  have h1 : j < v.length := by omega
  have h3 : j < (scW p a w).length := by rw [scW_len]; omega
  rw [List.getD_eq_getElem?_getD, List.getD_eq_getElem?_getD, List.getD_eq_getElem?_getD, List.getElem?_zipWith, List.getElem?_eq_getElem h1, List.getElem?_eq_getElem h3]
  rfl
theorem ok_lin {p a : Int} {v w : List Int} {n : Nat} (hp : okP p = true) (hv : ok1 p n v) (hw : ok1 p n w) : ok1 p n (lin p v w a) := ⟨okW_addW hp hv.1, lin_len hv.2 hw.2⟩
theorem ok_sc {p a : Int} {v : List Int} {n : Nat} (hp : okP p = true) (hv : ok1 p n v) : ok1 p n (scW p a v) := ⟨okW_scW hp hv.1, by rw [scW_len]; exact hv.2⟩
theorem ok_zero {p : Int} {n : Nat} (hp : okP p = true) (hn : n ≤ 1000) : ok1 p n (List.replicate n 0) := by
  refine ⟨okW_iff.mpr ⟨by simpa using hn, fun x hx => ?_⟩, by simp⟩
  have := (List.mem_replicate.mp hx).2
  have := (okP_iff.mp hp).1
  omega
theorem clr_lin (p : Int) (h : List Int) (at_ : Nat) (r : List Int) : clr p h at_ r = lin p r h (-(g r at_)) := rfl
theorem m1 (p u x a : Int) : (u + x % p * a) % p = (u + x * a) % p := by
  rw [Int.add_emod, Int.mul_emod, Int.emod_emod, ← Int.mul_emod, ← Int.add_emod]
inductive Sp (p : Int) (n : Nat) (rows : List (List Int)) : List Int → Prop
  | zero : Sp p n rows (List.replicate n 0)
  | step {w r : List Int} (a : Int) : Sp p n rows w → r ∈ rows → Sp p n rows (lin p w r a)
section
variable {p : Int} {n : Nat} {rows : List (List Int)}
theorem Sp_ok (hp : okP p = true) (hn : n ≤ 1000) (h : okR p n rows) {y : List Int} (q : Sp p n rows y) : ok1 p n y := by
  induction q with
  | zero => exact ok_zero hp hn
  | step a _ hr ih => exact ok_lin hp ih (h _ hr)
theorem lin_zero {u : List Int} {a : Int} (hu : ok1 p n u) : lin p u (List.replicate n 0) a = u := by
  refine g_ext (lin_len hu.2 (by simp)) hu.2 fun j hj => ?_
  rw [g_lin hu.2 (by simp) hj, g_zero, Int.zero_mul, Int.add_zero, g_mod hu hj]
theorem lin_none {u w : List Int} (hu : ok1 p n u) (hw : w.length = n) : lin p u w 0 = u := by
  refine g_ext (lin_len hu.2 hw) hu.2 fun j hj => ?_
  rw [g_lin hu.2 hw hj, Int.mul_zero, Int.add_zero, g_mod hu hj]
theorem zero_lin {u : List Int} (hu : ok1 p n u) : lin p (List.replicate n 0) u 1 = u := by
  refine g_ext (lin_len (by simp) hu.2) hu.2 fun j hj => ?_
  rw [g_lin (by simp) hu.2 hj, g_zero, Int.mul_one, Int.zero_add, g_mod hu hj]
theorem lin_lin {u v r : List Int} {a b : Int} (hu : u.length = n) (hv : v.length = n) (hr : r.length = n) : lin p u (lin p v r b) a = lin p (lin p u v a) r (b * a) := by
  refine g_ext (lin_len hu (lin_len hv hr)) (lin_len (lin_len hu hv) hr) fun j hj => ?_
  rw [g_lin hu (lin_len hv hr) hj, g_lin hv hr hj, g_lin (lin_len hu hv) hr hj, g_lin hu hv hj, m1, Int.emod_add_emod, Int.add_mul, Int.mul_assoc, Int.add_assoc]
theorem lin_swap {u v r : List Int} {a b : Int} (hu : u.length = n) (hv : v.length = n) (hr : r.length = n) : lin p (lin p u v a) r b = lin p (lin p u r b) v a := by
  refine g_ext (lin_len (lin_len hu hv) hr) (lin_len (lin_len hu hr) hv) fun j hj => ?_
  rw [g_lin (lin_len hu hv) hr hj, g_lin hu hv hj, g_lin (lin_len hu hr) hv hj, g_lin hu hr hj, Int.emod_add_emod, Int.emod_add_emod]
  congr 1
  omega
theorem lin_twice {u v : List Int} {a b : Int} (hu : u.length = n) (hv : v.length = n) : lin p (lin p u v b) v a = lin p u v (b + a) := by
  refine g_ext (lin_len (lin_len hu hv) hv) (lin_len hu hv) fun j hj => ?_
  rw [g_lin (lin_len hu hv) hv hj, g_lin hu hv hj, g_lin hu hv hj, Int.emod_add_emod, Int.mul_add, Int.add_assoc]
theorem lin_emod {u v : List Int} {a : Int} (hu : u.length = n) (hv : v.length = n) : lin p u v (a % p) = lin p u v a := by
  refine g_ext (lin_len hu hv) (lin_len hu hv) fun j hj => ?_
  rw [g_lin hu hv hj, g_lin hu hv hj, Int.add_emod, Int.mul_emod, Int.emod_emod, ← Int.mul_emod, ← Int.add_emod]
theorem Sp_row (hp : okP p = true) (h : okR p n rows) {r : List Int} (hr : r ∈ rows) : Sp p n rows r := by
  have := Sp.step (p := p) (n := n) (rows := rows) 1 .zero hr
  rwa [zero_lin (h r hr)] at this
theorem Sp_lin (hp : okP p = true) (hn : n ≤ 1000) (h : okR p n rows) {u v : List Int} {a : Int} (hu : Sp p n rows u) (hv : Sp p n rows v) : Sp p n rows (lin p u v a) := by
  induction hv with
  | zero => rw [lin_zero (Sp_ok hp hn h hu)]; exact hu
  | @step w r b hw hr ih =>
    rw [lin_lin (Sp_ok hp hn h hu).2 (Sp_ok hp hn h hw).2 (h r hr).2]
    exact .step _ ih hr
theorem Sp_of (hp : okP p = true) (hn : n ≤ 1000) {rows' : List (List Int)} (h : okR p n rows') (hs : ∀ r ∈ rows, Sp p n rows' r) {y : List Int} (q : Sp p n rows y) : Sp p n rows' y := by
  induction q with
  | zero => exact .zero
  | step a _ hr ih => exact Sp_lin hp hn h ih (hs _ hr)
theorem spanL_snoc (p : Int) (n : Nat) (rows : List (List Int)) (r : List Int) : spanL p n (rows ++ [r]) = widen p r (spanL p n rows) := by
  unfold spanL
  rw [List.foldl_append]
  rfl
theorem spanL_Sp {R : List (List Int)} : ∀ rows : List (List Int), (∀ r ∈ rows, r ∈ R) → ∀ ws : List (List Int), (∀ w ∈ ws, Sp p n R w) → ∀ w ∈ rows.foldl (fun ws r => widen p r ws) ws, Sp p n R w
  | [], _, ws, hw => hw
  | r :: rows, hr, ws, hw => by
    rw [List.foldl_cons]
    refine spanL_Sp rows (fun x hx => hr x (List.mem_cons_of_mem _ hx)) _ fun y hy => ?_
    obtain ⟨w, h1, a, _, rfl⟩ := widen_mem.mp hy
    exact .step _ (hw w h1) (hr r List.mem_cons_self)
theorem spanL_cl (hp : okP p = true) (hn : n ≤ 1000) : ∀ R : List (List Int), okR p n R → List.replicate n 0 ∈ spanL p n R.reverse ∧ ∀ w ∈ spanL p n R.reverse, ∀ r ∈ R, ∀ a : Int, lin p w r a ∈ spanL p n R.reverse
  | [], _ => ⟨by simp [spanL], fun w _ r hr => absurd hr List.not_mem_nil⟩
  | r' :: R, h => by
    have hp1 := (okP_iff.mp hp).1
    have hR : okR p n R := fun x hx => h x (List.mem_cons_of_mem _ hx)
    have hr' := h r' List.mem_cons_self
    obtain ⟨i1, i2⟩ := spanL_cl hp hn R hR
    have hok := spanL_ok (rows := R.reverse) hp hn (fun x hx => hR x (List.mem_reverse.mp hx))
    rw [List.reverse_cons, spanL_snoc]
    constructor
    · refine widen_mem.mpr ⟨_, i1, 0, by omega, ?_⟩
      exact (lin_none (ok_zero hp hn) hr'.2).symm
    · intro w hw r hr a
      obtain ⟨w', hw', b, hb, rfl⟩ := widen_mem.mp hw
      have hok' := hok w' hw'
      show lin p (lin p w' r' (b : Int)) r a ∈ _
      rcases List.mem_cons.mp hr with rfl | hr
      · rw [lin_twice hok'.2 hr'.2, ← lin_emod hok'.2 hr'.2]
        have h1 : 0 ≤ ((b : Int) + a) % p := Int.emod_nonneg _ (by omega)
        have h2 : ((b : Int) + a) % p < p := Int.emod_lt_of_pos _ hp1
        refine widen_mem.mpr ⟨w', hw', (((b : Int) + a) % p).toNat, by omega, ?_⟩
        rw [Int.toNat_of_nonneg h1]
        rfl
      · rw [lin_swap hok'.2 hr'.2 (hR r hr).2]
        exact widen_mem.mpr ⟨_, i2 w' hw' r hr a, b, hb, rfl⟩
theorem spanL_iff (hp : okP p = true) (hn : n ≤ 1000) (h : okR p n rows) {y : List Int} : y ∈ spanL p n rows ↔ Sp p n rows y := by
  constructor
  · exact spanL_Sp rows (fun _ h => h) _ (fun w hw => by rw [List.mem_singleton] at hw; subst hw; exact .zero) y
  · intro q
    obtain ⟨h1, h2⟩ := spanL_cl hp hn rows.reverse (fun x hx => h x (List.mem_reverse.mp hx))
    rw [List.reverse_reverse] at h1 h2
    induction q with
    | zero => exact h1
    | step a _ hr ih => exact h2 _ ih _ (List.mem_reverse.mpr hr) a
theorem sort_eq {a b : List (List Int)} (ha : a.Nodup) (hb : b.Nodup) (h : ∀ x, x ∈ a ↔ x ∈ b) : sortW a = sortW b := by
  have hp : (sortW a).Perm (sortW b) := ((List.mergeSort_perm _ _).trans ((List.perm_ext_iff_of_nodup ha hb).mpr h)).trans (List.mergeSort_perm _ _).symm
  have st : ∀ l : List (List Int), List.Pairwise (fun a b => decide (a ≤ b) = true) (sortW l) := fun l => List.pairwise_mergeSort (le := fun a b => decide (a ≤ b)) (fun a b c h1 h2 => decide_eq_true (List.le_trans (of_decide_eq_true h1) (of_decide_eq_true h2))) (fun a b => by
    rcases List.le_total a b with h | h
    · simp [h]
    · simp [h]) l
  exact hp.eq_of_pairwise (fun a b _ _ h1 h2 => List.le_antisymm (of_decide_eq_true h1) (of_decide_eq_true h2)) (st a) (st b)
theorem nodup_map_on {α β : Type} {f : α → β} {l : List α} (h : l.Nodup) (hf : ∀ a ∈ l, ∀ b ∈ l, f a = f b → a = b) : (l.map f).Nodup := by
  induction l with
  | nil => exact List.nodup_nil
  | cons a l ih =>
    rw [List.map_cons, List.nodup_cons]
    obtain ⟨h1, h2⟩ := List.nodup_cons.mp h
    refine ⟨fun hm => ?_, ih h2 fun x hx y hy => hf x (List.mem_cons_of_mem _ hx) y (List.mem_cons_of_mem _ hy)⟩
    obtain ⟨b, hb, e⟩ := List.mem_map.mp hm
    have := hf b (List.mem_cons_of_mem _ hb) a List.mem_cons_self e
    exact h1 (this ▸ hb)
end
end Lq

namespace Lq
open PySem PySem.Spec PyProof.Rows L2
def tk (T : List (List Int)) (k : Nat) : List Int := T.getD k []
def pk (P : List Nat) (k : Nat) : Nat := P.getD k 0
structure Rr (at_ : Nat) (T : List (List Int)) (P : List Nat) : Prop where
  len : T.length = P.length
  lt : ∀ k < P.length, pk P k < at_
  asc : ∀ i k, i < k → k < P.length → pk P i < pk P k
  one : ∀ k < P.length, g (tk T k) (pk P k) = 1
  zro : ∀ j k, j < P.length → k < P.length → j ≠ k → g (tk T j) (pk P k) = 0
  low : ∀ k < P.length, ∀ c < pk P k, g (tk T k) c = 0
theorem tk_mem {T : List (List Int)} {k : Nat} (h : k < T.length) : tk T k ∈ T := by
  unfold tk
  rw [List.getD_eq_getElem?_getD, List.getElem?_eq_getElem h]
  exact List.getElem_mem _
theorem mem_tk {T : List (List Int)} {r : List Int} (h : r ∈ T) : ∃ k < T.length, tk T k = r := by
  obtain ⟨k, hk, e⟩ := List.getElem_of_mem h
  refine ⟨k, hk, ?_⟩
  unfold tk
  rw [List.getD_eq_getElem?_getD, List.getElem?_eq_getElem hk]
  exact e
theorem tk_map {T : List (List Int)} {f : List Int → List Int} {h : List Int} {k : Nat} (hk : k < T.length) : tk (T.map f ++ [h]) k = f (tk T k) := by
  unfold tk
  rw [List.getD_eq_getElem?_getD, List.getD_eq_getElem?_getD, List.getElem?_append_left (by simpa using hk), List.getElem?_map, List.getElem?_eq_getElem hk]
  rfl
theorem tk_last {T : List (List Int)} {h : List Int} : tk (T ++ [h]) T.length = h := by
  unfold tk
  rw [List.getD_eq_getElem?_getD, List.getElem?_concat_length]
  rfl
theorem pk_app {P : List Nat} {a k : Nat} (hk : k < P.length) : pk (P ++ [a]) k = pk P k := by
  unfold pk
  rw [List.getD_eq_getElem?_getD, List.getD_eq_getElem?_getD, List.getElem?_append_left hk]
theorem pk_last {P : List Nat} {a : Nat} : pk (P ++ [a]) P.length = a := by
  unfold pk
  rw [List.getD_eq_getElem?_getD, List.getElem?_concat_length]
  rfl
structure RI (p : Int) (n at_ : Nat) (rows : List (List Int)) (s : Red) : Prop where
  rr : Rr at_ s.T s.P
  zl : ∀ r ∈ s.L, ∀ c < at_, g r c = 0
  sp : ∀ y, Sp p n (s.T ++ s.L) y ↔ Sp p n rows y
section
variable {p : Int} {n at_ : Nat} {rows : List (List Int)} {s : Red}
theorem g_clr {h q : List Int} {c : Nat} (hh : ok1 p n h) (hq : ok1 p n q) (hc : c < n) : g (clr p h at_ q) c = (g q c + g h c * -(g q at_)) % p := by
  rw [clr_lin, g_lin hq.2 hh.2 hc]
theorem okR_app {A B : List (List Int)} (h1 : okR p n A) (h2 : okR p n B) : okR p n (A ++ B) := fun r hr => by
  rcases List.mem_append.mp hr with h | h
  · exact h1 r h
  · exact h2 r h
theorem RI_step (hp : isP p = true) (hn : n ≤ 1000) (hT : okR p n s.T) (hL : okR p n s.L) (hat : at_ < n) (h : RI p n at_ rows s) : RI p n (at_ + 1) rows (redStep p s at_) := by
  have hp' := isP_okP hp
  have hp1 := (okP_iff.mp hp').1
  have hst := redStep_ok (at_ := at_) hp' hT hL
  revert hst
  unfold redStep
  cases hf : s.L.filter fun r => decide (r.getD at_ 0 ≠ 0) with
  | nil =>
    intro _
    refine ⟨⟨h.rr.len, fun k hk => Nat.lt_succ_of_lt (h.rr.lt k hk), h.rr.asc, h.rr.one, h.rr.zro, h.rr.low⟩, fun r hr c hc => ?_, h.sp⟩
    rcases Nat.lt_or_ge c at_ with h1 | h1
    · exact h.zl r hr c h1
    · have hca : c = at_ := by omega
      subst hca
      rw [List.filter_eq_nil_iff] at hf
      have := hf r hr
      simpa [g] using this
  | cons r rs =>
    intro hst
    dsimp only at hst ⊢
    have hr : r ∈ s.L := (List.mem_filter.mp (by rw [hf]; exact List.mem_cons_self)).1
    have hr0 : g r at_ ≠ 0 := of_decide_eq_true (List.mem_filter.mp (show r ∈ s.L.filter (fun r => decide (r.getD at_ 0 ≠ 0)) by rw [hf]; exact List.mem_cons_self)).2
    have hrk := hL r hr
    have hm : g r at_ % p ≠ 0 := by rw [g_mod hrk hat]; exact hr0
    have hh : ok1 p n (redHead p at_ r) := okR_head hp' hrk
    have gh : ∀ c < n, g (redHead p at_ r) c = g r c * invP p (g r at_) % p := fun c hc => g_sc hrk.2 hc
    have gh0 : ∀ c < at_, g (redHead p at_ r) c = 0 := fun c hc => by rw [gh c (by omega), h.zl r hr c hc, Int.zero_mul]; exact Int.zero_emod _
    have gh1 : g (redHead p at_ r) at_ = 1 := by rw [gh at_ hat]; exact invP_mul hp hm
    have gl : ∀ q, ok1 p n q → ∀ c < at_, g (clr p (redHead p at_ r) at_ q) c = g q c := fun q hq c hc => by
      rw [g_clr hh hq (by omega), gh0 c hc, Int.zero_mul, Int.add_zero, g_mod hq (by omega)]
    have ga : ∀ q, ok1 p n q → g (clr p (redHead p at_ r) at_ q) at_ = 0 := fun q hq => by
      rw [g_clr hh hq hat, gh1, Int.one_mul, Int.add_right_neg]
      exact Int.zero_emod _
    have hlen : s.T.length = s.P.length := h.rr.len
    have tkT : ∀ k, k < s.P.length → tk (s.T.map (clr p (redHead p at_ r) at_) ++ [redHead p at_ r]) k = clr p (redHead p at_ r) at_ (tk s.T k) := fun k hk => tk_map (by omega)
    have tkL : tk (s.T.map (clr p (redHead p at_ r) at_) ++ [redHead p at_ r]) s.P.length = redHead p at_ r := by
      have e : s.P.length = (s.T.map (clr p (redHead p at_ r) at_)).length := by rw [List.length_map]; exact hlen.symm
      rw [e]
      exact tk_last
    have okT : ∀ k, k < s.P.length → ok1 p n (tk s.T k) := fun k hk => hT _ (tk_mem (by omega))
    have pl : (s.P ++ [at_]).length = s.P.length + 1 := by simp
    refine ⟨⟨by simp [hlen], ?_, ?_, ?_, ?_, ?_⟩, ?_, ?_⟩
    · intro k hk
      rw [pl] at hk
      rcases Nat.lt_or_ge k s.P.length with h1 | h1
      · rw [pk_app h1]; exact Nat.lt_succ_of_lt (h.rr.lt k h1)
      · have : k = s.P.length := by omega
        subst this
        rw [pk_last]; exact Nat.lt_succ_self _
    · intro i k hik hk
      rw [pl] at hk
      rw [pk_app (show i < s.P.length by omega)]
      rcases Nat.lt_or_ge k s.P.length with h1 | h1
      · rw [pk_app h1]; exact h.rr.asc i k hik h1
      · have : k = s.P.length := by omega
        subst this
        rw [pk_last]; exact h.rr.lt i hik
    · intro k hk
      rw [pl] at hk
      rcases Nat.lt_or_ge k s.P.length with h1 | h1
      · rw [pk_app h1, tkT k h1, gl _ (okT k h1) _ (h.rr.lt k h1)]; exact h.rr.one k h1
      · have : k = s.P.length := by omega
        subst this
        rw [pk_last, tkL]; exact gh1
    · intro j k hj hk hjk
      rw [pl] at hj hk
      rcases Nat.lt_or_ge k s.P.length with h1 | h1
      · rw [pk_app h1]
        rcases Nat.lt_or_ge j s.P.length with h2 | h2
        · rw [tkT j h2, gl _ (okT j h2) _ (h.rr.lt k h1)]; exact h.rr.zro j k h2 h1 hjk
        · have : j = s.P.length := by omega
          subst this
          rw [tkL]; exact gh0 _ (h.rr.lt k h1)
      · have : k = s.P.length := by omega
        subst this
        rw [pk_last, tkT j (by omega)]; exact ga _ (okT j (by omega))
    · intro k hk c hc
      rw [pl] at hk
      rcases Nat.lt_or_ge k s.P.length with h1 | h1
      · rw [pk_app h1] at hc
        have := h.rr.lt k h1
        rw [tkT k h1, gl _ (okT k h1) _ (by omega)]; exact h.rr.low k h1 c hc
      · have : k = s.P.length := by omega
        subst this
        rw [pk_last] at hc
        rw [tkL]; exact gh0 c hc
    · intro q hq c hc
      obtain ⟨q0, hq0, rfl⟩ := List.mem_map.mp hq
      rcases Nat.lt_or_ge c at_ with h1 | h1
      · rw [gl _ (hL q0 hq0) c h1]; exact h.zl q0 hq0 c h1
      · have hca : c = at_ := by omega
        subst hca
        exact ga _ (hL q0 hq0)
    · intro y
      rw [← h.sp y]
      have ok0 := okR_app hT hL
      have ok2 := okR_app hst.1 hst.2
      have spH0 : Sp p n (s.T ++ s.L) (redHead p at_ r) := by
        have e : redHead p at_ r = lin p (List.replicate n 0) r (invP p (g r at_)) := by
          refine g_ext hh.2 (lin_len (by simp) hrk.2) fun j hj => ?_
          rw [gh j hj, g_lin (by simp) hrk.2 hj, g_zero, Int.zero_add]
        rw [e]
        exact .step _ .zero (List.mem_append_right _ hr)
      have spH2 : Sp p n ((s.T.map (clr p (redHead p at_ r) at_) ++ [redHead p at_ r]) ++ s.L.map (clr p (redHead p at_ r) at_)) (redHead p at_ r) := Sp_row hp' ok2 (List.mem_append_left _ (List.mem_append_right _ List.mem_cons_self))
      constructor
      · refine fun q => Sp_of hp' hn ok0 (fun x hx => ?_) q
        have cl : ∀ q0 ∈ s.T ++ s.L, Sp p n (s.T ++ s.L) (clr p (redHead p at_ r) at_ q0) := fun q0 h0 => Sp_lin hp' hn ok0 (Sp_row hp' ok0 h0) spH0
        rcases List.mem_append.mp hx with hx | hx
        · rcases List.mem_append.mp hx with hx | hx
          · obtain ⟨q0, h0, rfl⟩ := List.mem_map.mp hx
            exact cl q0 (List.mem_append_left _ h0)
          · rw [List.mem_singleton] at hx
            subst hx
            exact spH0
        · obtain ⟨q0, h0, rfl⟩ := List.mem_map.mp hx
          exact cl q0 (List.mem_append_right _ h0)
      · refine fun q => Sp_of hp' hn ok2 (fun x hx => ?_) q
        have hxk : ok1 p n x := ok0 x hx
        have e : x = lin p (clr p (redHead p at_ r) at_ x) (redHead p at_ r) (g x at_) := by
          rw [clr_lin, lin_twice hxk.2 hh.2, Int.add_left_neg, lin_none hxk hh.2]
        rw [e]
        refine Sp_lin hp' hn ok2 (Sp_row hp' ok2 ?_) spH2
        rcases List.mem_append.mp hx with hx | hx
        · exact List.mem_append_left _ (List.mem_append_left _ (List.mem_map_of_mem hx))
        · exact List.mem_append_right _ (List.mem_map_of_mem hx)
theorem RI_N (hp : isP p = true) (hn : n ≤ 1000) (h : okR p n rows) : ∀ k, k ≤ n → RI p n k rows (redN p rows k)
  | 0, _ => ⟨⟨rfl, fun k hk => absurd hk (Nat.not_lt_zero _), fun _ k _ hk => absurd hk (Nat.not_lt_zero _), fun k hk => absurd hk (Nat.not_lt_zero _), fun _ k _ hk => absurd hk (Nat.not_lt_zero _), fun k hk => absurd hk (Nat.not_lt_zero _)⟩, fun _ _ c hc => absurd hc (Nat.not_lt_zero _), fun y => Iff.rfl⟩
  | k + 1, hk => RI_step hp hn (redN_ok (isP_okP hp) h k).1 (redN_ok (isP_okP hp) h k).2 (by omega) (RI_N hp hn h k (by omega))
theorem red_Sp (hp : isP p = true) (hn : n ≤ 1000) (h : okR p n rows) (y : List Int) : Sp p n (redN p rows n).T y ↔ Sp p n rows y := by
  have hI := RI_N hp hn h n (Nat.le_refl _)
  obtain ⟨h1, h2⟩ := redN_ok (isP_okP hp) h n
  rw [← hI.sp y]
  constructor
  · exact Sp_of (isP_okP hp) hn (okR_app h1 h2) fun r hr => Sp_row (isP_okP hp) (okR_app h1 h2) (List.mem_append_left _ hr)
  · refine Sp_of (isP_okP hp) hn h1 fun r hr => ?_
    rcases List.mem_append.mp hr with hr | hr
    · exact Sp_row (isP_okP hp) h1 hr
    · have : r = List.replicate n 0 := g_ext (h2 r hr).2 (by simp) fun j hj => by rw [hI.zl r hr j hj, g_zero]
      subst this
      exact .zero
theorem red_span (hp : isP p = true) (hn : n ≤ 1000) (h : okR p n rows) : sortW (spanL p n (redN p rows n).T) = sortW (spanL p n rows) := by
  refine sort_eq spanL_nd spanL_nd fun y => ?_
  rw [spanL_iff (isP_okP hp) hn (redN_ok (isP_okP hp) h n).1, spanL_iff (isP_okP hp) hn h]
  exact red_Sp hp hn h y
structure RJ (p : Int) (n at_ j : Nat) (T : List (List Int)) (P : List Nat) (s : Red) : Prop where
  t : s.T = T.take j
  p : s.P = P.take j
  lo : ∀ k < j, pk P k < at_
  hi : ∀ k, j ≤ k → k < P.length → at_ ≤ pk P k
  le : j ≤ P.length
  l1 : ∀ r ∈ s.L, r = List.replicate n 0 ∨ ∃ k, j ≤ k ∧ k < P.length ∧ r = tk T k
  l2 : ∀ k, j ≤ k → k < P.length → tk T k ∈ s.L
end
end Lq

namespace Lq
open PySem PySem.Spec PyProof.Rows L2
def TD (T : List (List Int)) : Dt := .tup (T.map Wd)
def PD (P : List Nat) : Dt := .tup (P.map fun (c : Nat) => Dt.int (c : Int))
theorem wg_ix {r : List Int} {k : Nat} (h : k < r.length) : ixO (Wd r) (.int (k : Int)) = some (.int (g r k)) := wd_ix h
theorem len_td (T : List (List Int)) : lenO [TD T] = some (.int (T.length : Int)) := by
  unfold TD
  rw [lenO_tup, List.length_map]
end Lq

namespace Lq
open PySem PySem.Spec PyProof.Rows L2
theorem isP_cases {p : Int} (h : isP p = true) : p = 2 ∨ p = 3 ∨ p = 5 ∨ p = 7 := of_decide_eq_true h
end Lq

namespace Lq
open PySem PySem.Spec PyProof.Rows L2
theorem isi_tup (xs : List Dt) : isiO "tuple" (.tup xs) = some (.bl true) := by
  unfold isiO tyN
  rfl
theorem tru_bl (b : Bool) : truO (.bl b) = some b := rfl
end Lq

namespace Lq
open PySem PySem.Spec PyProof.Rows L2
def m_is_integer : Ms → O := (retS (andV (op1 (varE 0) (isiO "int")) (op1 (op1 (varE 0) (isiO "bool")) notO)))
def noObj : Dt → Bool | .obj _ _ _ => false | .scr _ _ => false | _ => true
def isI : Dt → Bool | .int _ => true | _ => false
def Fisint : List Dt → Fo | [d] => if noObj d = true then .ok (.bl (isI d)) else .no | _ => .no
theorem ii_non : isiO "int" .non = some (.bl false) := by unfold isiO tyN; rfl
theorem ii_bl (b : Bool) : isiO "int" (.bl b) = some (.bl true) := by unfold isiO tyN; rfl
theorem ii_int (i : Int) : isiO "int" (.int i) = some (.bl true) := by unfold isiO tyN; rfl
theorem ii_str (x : Str) : isiO "int" (.str x) = some (.bl false) := by unfold isiO tyN; rfl
theorem ii_lst (x : List Dt) : isiO "int" (.lst x) = some (.bl false) := by unfold isiO tyN; rfl
theorem ii_tup (x : List Dt) : isiO "int" (.tup x) = some (.bl false) := by unfold isiO tyN; rfl
theorem ib_bl (b : Bool) : isiO "bool" (.bl b) = some (.bl true) := by unfold isiO tyN; rfl
theorem ib_int (i : Int) : isiO "bool" (.int i) = some (.bl false) := by unfold isiO tyN; rfl
theorem it_non : isiO "tuple" .non = some (.bl false) := by unfold isiO tyN; rfl
theorem it_bl (b : Bool) : isiO "tuple" (.bl b) = some (.bl false) := by unfold isiO tyN; rfl
theorem it_int (i : Int) : isiO "tuple" (.int i) = some (.bl false) := by unfold isiO tyN; rfl
theorem it_str (x : Str) : isiO "tuple" (.str x) = some (.bl false) := by unfold isiO tyN; rfl
theorem it_lst (x : List Dt) : isiO "tuple" (.lst x) = some (.bl false) := by unfold isiO tyN; rfl
theorem notO_bl (b : Bool) : notO (.bl b) = some (.bl (!b)) := rfl
theorem run_is_integer (ds : List Dt) (h : Fisint ds ≠ .no) : runD 1 m_is_integer ds = Fisint ds := by
  unfold Fisint at h
  split at h
  · rename_i d
    have hst : st0 1 [d] = { sl := [.im d], mo := [] } := rfl
    unfold runD m_is_integer
    rw [hst]
    cases d with
    | obj => exact absurd rfl h
    | scr => exact absurd rfl h
    | non => simp [ii_non, Fisint, noObj, isI]; rfl
    | bl b => simp [ii_bl, ib_bl, notO_bl, Fisint, noObj, isI]; rfl
    | int i => simp [ii_int, ib_int, notO_bl, Fisint, noObj, isI]; rfl
    | str x => simp [ii_str, Fisint, noObj, isI]; rfl
    | lst x => simp [ii_lst, Fisint, noObj, isI]; rfl
    | tup x => simp [ii_tup, Fisint, noObj, isI]; rfl
  · exact absurd rfl h
def m_is_word : Ms → O := (seqS (ifS (orT (notT (truT (op1 (varE 0) (isiO "tuple")))) (tst (op2 (calE (aCons (varE 0) aNil) lenO) (varE 2) neO))) (retS (cE (.bl false))) nilS)
  (retS (calE (aCons (frz (lcE (itS (varE 0)) (Tk.nm 3).k yesT (andV (funE 1 (aCons (varE 3) aNil) Fisint) (chT (cE (.int 0)) (varE 3) (varE 1) leO ltO)) [3])) aNil) allO)))
def itB (p : Int) : Dt → Bool | .int i => decide (0 ≤ i) && decide (i < p) | _ => false
def wordB (p n : Int) : Dt → Bool | .tup xs => decide ((xs.length : Int) = n) && xs.all (itB p) | _ => false
def okV : Dt → Bool | .obj _ _ _ => false | .scr _ _ => false | .tup xs => decide (xs.length ≤ 1000) && xs.all noObj | _ => true
def Fisword : List Dt → Fo | [d, .int p, .int n] => if okV d = true then .ok (.bl (wordB p n d)) else .no | _ => .no
theorem Fisint_run {d : Dt} (h : noObj d = true) : Fisint [d] = .ok (.bl (isI d)) := by unfold Fisint; dsimp only; rw [if_pos h]
theorem chT_run (f g h : Ms → R Dt) (o o' : Dt → Dt → Option Dt) (S : Ms) : chT f g h o o' S = (f S).bind fun d S1 => (g S1).bind fun e S2 => (R.of (o d e) S2).bind fun k S3 => match k with
  | .bl true => (h S3).bind fun z S4 => R.of (o' e z) S4
  | .bl false => .ok (.bl false) S3
  | _ => .no := rfl
theorem run_is_word (ds : List Dt) (h : Fisword ds ≠ .no) : runD 4 m_is_word ds = Fisword ds := by
  unfold Fisword at h
  split at h
  · rename_i d p n
    have hst : st0 4 [d, .int p, .int n] = { sl := [.im d, .im (.int p), .im (.int n), .no], mo := [] } := rfl
    cases hv : okV d with
    | false => rw [hv] at h; exact absurd rfl h
    | true =>
    have e : Fisword [d, .int p, .int n] = .ok (.bl (wordB p n d)) := by unfold Fisword; dsimp only; rw [if_pos hv]
    rw [e]
    unfold runD m_is_word
    rw [hst]
    cases d with
    | obj => cases hv
    | scr => cases hv
    | non => simp [it_non, tru_bl, wordB]; rfl
    | bl b => simp [it_bl, tru_bl, wordB]; rfl
    | int i => simp [it_int, tru_bl, wordB]; rfl
    | str x => simp [it_str, tru_bl, wordB]; rfl
    | lst x => simp [it_lst, tru_bl, wordB]; rfl
    | tup xs =>
      unfold okV at hv
      simp only [Bool.and_eq_true, decide_eq_true_eq, List.all_eq_true] at hv
      obtain ⟨hl, hno⟩ := hv
      by_cases hn : (xs.length : Int) = n
      · have key : lcE (itS (varE 0)) (Tk.nm 3).k yesT (andV (funE 1 (aCons (varE 3) aNil) Fisint) (chT (cE (.int 0)) (varE 3) (varE 1) leO ltO)) [3] { sl := [.im (.tup xs), .im (.int p), .im (.int n), .no], mo := [] } = .ok (xs.map fun x => Dt.bl (itB p x)) { sl := [.im (.tup xs), .im (.int p), .im (.int n), .no], mo := [] } := by
          have := lcE_map (it := itS (varE 0)) (k := (Tk.nm 3).k) (e := andV (funE 1 (aCons (varE 3) aNil) Fisint) (chT (cE (.int 0)) (varE 3) (varE 1) leO ltO)) (own := [3]) (S := { sl := [.im (.tup xs), .im (.int p), .im (.int n), .no], mo := [] }) (S1 := { sl := [.im (.tup xs), .im (.int p), .im (.int n), .no], mo := [] }) id (fun x => Dt.bl (itB p x)) xs (by simp) (fun x hx => by
            have hi := Fisint_run (hno x hx)
            refine ⟨_, kNm _ _ _, { sl := [.im (.tup xs), .im (.int p), .im (.int n), .im x], mo := [] }, ?_, rfl⟩
            cases x with
            | int i =>
              by_cases h0 : 0 ≤ i
              · simp [wipeL, hi, isI, itB, chT_run, h0]
              · simp [wipeL, hi, isI, itB, chT_run, h0]
            | _ => simp [wipeL, hi, isI, itB]) (fun d T T' => Tk.mo) (by omega)
          exact this
        have e2 : (xs.map fun x => Dt.bl (itB p x)) = (xs.map (itB p)).map Dt.bl := by rw [List.map_map]; rfl
        rw [e2] at key
        have hif : ifS (orT (notT (truT (op1 (varE 0) (isiO "tuple")))) (tst (op2 (calE (aCons (varE 0) aNil) lenO) (varE 2) neO))) (retS (cE (.bl false))) nilS { sl := [.im (.tup xs), .im (.int p), .im (.int n), .no], mo := [] } = .nx { sl := [.im (.tup xs), .im (.int p), .im (.int n), .no], mo := [] } := by
          simp [isi_tup, tru_bl, hn]
        rw [seqS_run, hif, seq_nx, retS_run, calE_run, aCons_run, frz_run', key, R.bind_ok, R.bind_ok, aNil_run, R.bind_ok, R.bind_ok, allO_run, R.of_some, R.stmt_ok]
        show Fo.ok _ = _
        congr 2
        unfold wordB
        dsimp only
        rw [decide_eq_true hn, Bool.true_and, List.all_map]
        rfl
      · simp [isi_tup, tru_bl, hn, wordB]
        rfl
  · exact absurd rfl h
def m_dot : Ms → O := (retS (op2 (calE (aCons (frz (lcE (itZ (aCons (varE 0) (aCons (varE 1) aNil))) (Tk.tp [3, 4]).k yesT (op2 (varE 3) (varE 4) mulO) [3, 4])) aNil) sumO) (varE 2) modO))
def sm (v w : List Int) : Int := (List.zipWith (fun a b => a * b) v w).sum
def Fdot : List Dt → Fo
  | [d, e, .int p] => match wordOf d, wordOf e with
    | some v, some w => if (okP p && okW p v && okW p w && decide (v.length = w.length)) = true then .ok (.int (sm v w % p)) else .no
    | _, _ => .no
  | _ => .no
theorem Fdot_run {p : Int} {v w : List Int} (hp : okP p = true) (hv : okW p v = true) (hw : okW p w = true) (e : v.length = w.length) : Fdot [Wd v, Wd w, .int p] = .ok (.int (sm v w % p)) := by
  unfold Fdot
  simp only [wordOf_Wd]
  rw [if_pos (by simp [hp, hv, hw, e])]
theorem Fdot_inv {ds : List Dt} (h : Fdot ds ≠ .no) : ∃ v w p, ds = [Wd v, Wd w, .int p] ∧ okP p = true ∧ okW p v = true ∧ okW p w = true ∧ v.length = w.length := by
  unfold Fdot at h
  split at h
  · rename_i d e p
    split at h
    · rename_i v w h1 h2
      split at h
      · rename_i hc
        have := wordOf_eq h1
        have := wordOf_eq h2
        subst_vars
        simp only [Bool.and_eq_true, decide_eq_true_eq] at hc
        exact ⟨v, w, p, rfl, hc.1.1.1, hc.1.1.2, hc.1.2, hc.2⟩
      · exact absurd rfl h
    · exact absurd rfl h
  · exact absurd rfl h
theorem sumO_ints (ns : List Int) : sumO [.lst (ns.map Dt.int)] = some (.int ns.sum) := by unfold sumO; dsimp only; rw [intsOf_map]; rfl
theorem run_dot (ds : List Dt) (h : Fdot ds ≠ .no) : runD 5 m_dot ds = Fdot ds := by
  obtain ⟨v, w, p, rfl, hp, hv, hw, hl⟩ := Fdot_inv h
  rw [Fdot_run hp hv hw hl]
  obtain ⟨hp1, hp2⟩ := okP_iff.mp hp
  obtain ⟨hv1, hv2⟩ := okW_iff.mp hv
  have key : (lcE (itZ (aCons (varE 0) (aCons (varE 1) aNil))) (Tk.tp [3, 4]).k yesT (op2 (varE 3) (varE 4) mulO) [3, 4]) (st0 5 [Wd v, Wd w, .int p]) = .ok ((v.zip w).map fun q => Dt.int (q.1 * q.2)) (st0 5 [Wd v, Wd w, .int p]) := by
    refine lcE_map (fun q : Int × Int => Dt.tup [.int q.1, .int q.2]) _ (v.zip w) ?_ (fun q hq => ?_) (fun d T T' => Tk.mo) (by simp; omega)
    · simp [st0, Wd, zipD_ints]
    · have := cmul_w (a := q.2) hp2 (hv2 q.1 (List.of_mem_zip hq).1)
      simp [st0, wipeL, kNames, this]
  have e2 : ((v.zip w).map fun q => Dt.int (q.1 * q.2)) = (List.zipWith (fun a b => a * b) v w).map Dt.int := by rw [List.map_zipWith, List.zip, List.map_zipWith]
  rw [e2] at key
  have hst : st0 5 [Wd v, Wd w, .int p] = { sl := [.im (Wd v), .im (Wd w), .im (.int p), .no, .no], mo := [] } := rfl
  unfold runD m_dot
  rw [retS_run, op2_run, calE_run, aCons_run, frz_run', key, R.bind_ok, R.bind_ok, aNil_run, R.bind_ok, R.bind_ok, sumO_ints, R.of_some, R.bind_ok, hst]
  simp [hp1, sm]
  rfl
end Lq

namespace Lq
open PySem PySem.Spec PyProof.Rows L2
theorem rep_int (n : Nat) : (List.replicate n [Dt.int 0]).flatten = (List.replicate n (0 : Int)).map Dt.int := by
  rw [List.flatten_replicate_singleton, List.map_replicate]
theorem repT_run {n : Nat} (hn : n ≤ 1000) : repT (.tup [.int 0]) (.int (n : Int)) = some (Wd (List.replicate n 0)) := by
  unfold repT
  dsimp only
  rw [if_pos ⟨by simp, by simp, by omega, by omega⟩, Int.toNat_natCast, rep_int]
  rfl
def m__law_all : Ms → O := (seqS (asgS 2 (frz (lstE (aCons (tupE aNil) aNil))))
  (seqS (forS (itR1 (aCons (varE 0) aNil)) (Tk.nm 3).k (seqS (asgS 4 (frz (lstE aNil)))
  (seqS (forS (itS (frz (calN (aCons (varE 2) aNil) lstO))) (Tk.nm 5).k (asgS 4 (frz (opN (varE 4) (frz (lcE (itR1 (aCons (varE 1) aNil)) (Tk.nm 6).k yesT (op2 (varE 5) (tupE (aCons (varE 6) aNil)) catT) [6])) catL))))
  (moveS 2 4))))
  (retS (varE 2))))
def extW (p : Int) (w : List Int) : List (List Int) := (List.range p.toNat).map fun (a : Nat) => w ++ [(a : Int)]
def allN (p : Int) : Nat → List (List Int)
  | 0 => [[]]
  | k + 1 => (allN p k).foldl (fun acc w => acc ++ extW p w) []
def Fall : List Dt → Fo
  | [.int n, .int p] => if (okP p && decide (0 ≤ n ∧ n ≤ 100) && decide (p.toNat ^ n.toNat ≤ 10000)) = true then .ok (.lst ((allN p n.toNat).map Wd)) else .no
  | _ => .no
theorem Fall_run {n : Nat} {p : Int} (hp : okP p = true) (hn : n ≤ 100) (hl : p.toNat ^ n ≤ 10000) : Fall [.int n, .int p] = .ok (.lst ((allN p n).map Wd)) := by
  unfold Fall
  dsimp only
  rw [Int.toNat_natCast, if_pos (by simp [hp, hl]; omega)]
theorem extW_len (p : Int) (w : List Int) : (extW p w).length = p.toNat := by simp [extW]
theorem fold_ext (p : Int) : ∀ (ws acc : List (List Int)), (ws.foldl (fun acc w => acc ++ extW p w) acc) = acc ++ ws.flatMap (extW p)
  | [], acc => by simp
  | w :: ws, acc => by rw [List.foldl_cons, fold_ext p ws]; simp
theorem allN_succ (p : Int) (k : Nat) : allN p (k + 1) = (allN p k).flatMap (extW p) := by
  show (allN p k).foldl _ [] = _
  rw [fold_ext, List.nil_append]
theorem allN_len (p : Int) : ∀ k, (allN p k).length = p.toNat ^ k
  | 0 => rfl
  | k + 1 => by
    rw [allN_succ, List.length_flatMap]
    simp only [extW_len, List.map_const', List.sum_replicate_nat, allN_len p k]
    rw [Nat.pow_succ]
theorem allN_wlen (p : Int) : ∀ k, ∀ w ∈ allN p k, w.length = k
  | 0, w, h => by
    have : w = [] := by simpa [allN] using h
    rw [this]
    rfl
  | k + 1, w, h => by
    rw [allN_succ, List.mem_flatMap] at h
    obtain ⟨v, hv, hw⟩ := h
    obtain ⟨a, _, rfl⟩ := List.mem_map.mp hw
    rw [List.length_append, allN_wlen p k v hv]
    rfl
theorem allN_mem {p : Int} : ∀ {k : Nat} {w : List Int}, w ∈ allN p k ↔ w.length = k ∧ ∀ x ∈ w, 0 ≤ x ∧ x < p
  | 0, w => by
    show w ∈ [[]] ↔ _
    rw [List.mem_singleton]
    constructor
    · rintro rfl
      exact ⟨rfl, fun x h => absurd h List.not_mem_nil⟩
    · exact fun h => List.eq_nil_of_length_eq_zero h.1
  | k + 1, w => by
    rw [allN_succ, List.mem_flatMap]
    constructor
    · rintro ⟨v, hv, hw⟩
      obtain ⟨a, ha, rfl⟩ := List.mem_map.mp hw
      obtain ⟨h1, h2⟩ := allN_mem.mp hv
      have := List.mem_range.mp ha
      refine ⟨by rw [List.length_append, h1]; rfl, fun x hx => ?_⟩
      rcases List.mem_append.mp hx with hx | hx
      · exact h2 x hx
      · rw [List.mem_singleton] at hx
        omega
    · rintro ⟨h1, h2⟩
      have hne : w ≠ [] := by
        rintro rfl
        cases h1
      have hd := List.dropLast_concat_getLast hne
      have hl := h2 _ (List.getLast_mem hne)
      refine ⟨w.dropLast, allN_mem.mpr ⟨by rw [List.length_dropLast, h1]; rfl, fun x hx => h2 x (List.dropLast_subset _ hx)⟩, List.mem_map.mpr ⟨(w.getLast hne).toNat, List.mem_range.mpr (by omega), ?_⟩⟩
      rw [Int.toNat_of_nonneg hl.1]
      exact hd
theorem allN_nd (p : Int) : ∀ k, (allN p k).Nodup
  | 0 => by simp [allN]
  | k + 1 => by
    rw [allN_succ]
    refine List.pairwise_flatMap.mpr ⟨fun w hw => ?_, List.Pairwise.imp (R := (· ≠ ·)) (fun {w v} hne x hx y hy e => ?_) (allN_nd p k)⟩
    · refine nodup_map_on List.nodup_range fun a _ b _ e => ?_
      have := List.append_cancel_left e
      simp at this
      omega
    · obtain ⟨a, _, rfl⟩ := List.mem_map.mp hx
      obtain ⟨b, _, rfl⟩ := List.mem_map.mp hy
      exact hne (List.append_inj_left' e rfl)
def alSt (n : Nat) (p : Int) (out : List (List Int)) (x3 x4 x5 : Sv) : Ms := { sl := [.im (.int n), .im (.int p), .im (.lst (out.map Wd)), x3, x4, x5, .no], mo := [] }
def alIn : Ms → O := asgS 4 (frz (opN (varE 4) (frz (lcE (itR1 (aCons (varE 1) aNil)) (Tk.nm 6).k yesT (op2 (varE 5) (tupE (aCons (varE 6) aNil)) catT) [6])) catL))
def alBody : Ms → O := seqS (asgS 4 (frz (lstE aNil))) (seqS (forS (itS (frz (calN (aCons (varE 2) aNil) lstO))) (Tk.nm 5).k alIn) (moveS 2 4))
theorem catL_run {xs ys : List Dt} (h : xs.length + ys.length ≤ 100000) : catL (.lst xs) (.lst ys) = some (xs ++ ys) := by
  show (if _ then _ else _) = _
  rw [if_pos h]
theorem catT_run {xs ys : List Dt} (h : xs.length + ys.length ≤ 100000) : catT (.tup xs) (.tup ys) = some (.tup (xs ++ ys)) := by
  show (if _ then _ else _) = _
  rw [if_pos h]
theorem alBody_run {n k : Nat} {p : Int} {out : List (List Int)} {x3 x4 x5 : Sv} (hp : okP p = true) (hk : k ≤ 100) (ho : ∀ w ∈ out, w.length = k) (hl : out.length * p.toNat ≤ 10000) :
    ∃ x4' x5', alBody (alSt n p out x3 x4 x5) = .nx (alSt n p (out.flatMap (extW p)) x3 x4' x5') := by
  obtain ⟨hp1, hp2⟩ := okP_iff.mp hp
  obtain ⟨m, rfl⟩ : ∃ m : Nat, p = (m : Int) := ⟨p.toNat, by omega⟩
  have h0 : asgS 4 (frz (lstE aNil)) (alSt n m out x3 x4 x5) = .nx (alSt n m out x3 (.im (.lst (([] : List (List Int)).map Wd))) x5) := by simp [alSt]
  have hit : itS (frz (calN (aCons (varE 2) aNil) lstO)) (alSt n m out x3 (.im (.lst (([] : List (List Int)).map Wd))) x5) = .ok (out.map Wd) (alSt n m out x3 (.im (.lst (([] : List (List Int)).map Wd))) x5) := by simp [alSt]
  obtain ⟨S', f1, hI, y5, f2⟩ := forL_fold (k := (Tk.nm 5).k) (body := alIn) Wd (fun j (acc : List (List Int)) S => acc.length ≤ j * m ∧ ∃ y5, S = alSt n m out x3 (.im (.lst (acc.map Wd))) y5) (fun acc w => acc ++ extW m w) out 0 [] _ ⟨Nat.zero_le _, x5, rfl⟩ (fun j acc w S hw hj hI => by
    obtain ⟨ha, y5, rfl⟩ := hI
    have hb : (j + 1) * m ≤ out.length * m := Nat.mul_le_mul_right _ (by omega)
    rw [Int.toNat_natCast] at hl
    rw [Nat.succ_mul] at hb
    have hwl := ho w hw
    refine ⟨_, alSt n m out x3 (.im (.lst ((acc ++ extW m w).map Wd))) (.im (Wd w)), kNm _ _ _, .inl ?_, ?_, _, rfl⟩
    · have key : lcE (itR1 (aCons (varE 1) aNil)) (Tk.nm 6).k yesT (op2 (varE 5) (tupE (aCons (varE 6) aNil)) catT) [6] (alSt n m out x3 (.im (.lst (acc.map Wd))) (.im (Wd w))) = .ok ((List.range m).map fun (a : Nat) => Wd (w ++ [(a : Int)])) (alSt n m out x3 (.im (.lst (acc.map Wd))) (.im (Wd w))) := by
        refine lcE_map (fun (a : Nat) => Dt.int (a : Int)) _ (List.range m) (itR1_run (by simp [alSt]) (by omega)) (fun a _ => ?_) (fun d T T' => Tk.mo) (by simp; omega)
        have hc : catT (Wd w) (.tup [.int (a : Int)]) = some (Wd (w ++ [(a : Int)])) := by
          have := catT_run (xs := w.map Dt.int) (ys := [.int (a : Int)]) (by rw [List.length_map, hwl]; simp; omega)
          unfold Wd
          rw [this, List.map_append]
          rfl
        refine ⟨_, kNm _ _ _, ?_⟩
        simp [alSt, wipeL, hc]
      have e2 : ((List.range m).map fun (a : Nat) => Wd (w ++ [(a : Int)])) = (extW m w).map Wd := by
        unfold extW
        rw [List.map_map, Int.toNat_natCast]
        rfl
      rw [e2] at key
      have hcl := catL_run (xs := acc.map Wd) (ys := (extW m w).map Wd) (by rw [List.length_map, List.length_map, extW_len, Int.toNat_natCast]; omega)
      rw [← List.map_append] at hcl
      unfold alIn
      have hS : ({ sl := (alSt n m out x3 (.im (.lst (acc.map Wd))) y5).sl.set 5 (.im (Wd w)), mo := (alSt n m out x3 (.im (.lst (acc.map Wd))) y5).mo } : Ms) = alSt n m out x3 (.im (.lst (acc.map Wd))) (.im (Wd w)) := rfl
      rw [hS, asgS_run', frz_run', opN_run, varE_im (i := 4) (d := .lst (acc.map Wd)) rfl, R.bind_ok, frz_run', key, R.bind_ok, R.bind_ok, hcl, R.of_some, R.bind_ok, R.stmt_ok]
      rfl
    · rw [List.length_append, extW_len, Int.toNat_natCast, Nat.succ_mul]
      omega)
  refine ⟨.im (.lst ((out.flatMap (extW m)).map Wd)), y5, ?_⟩
  have ef := fold_ext (m : Int) out []
  rw [List.nil_append] at ef
  rw [ef] at f2
  unfold alBody
  rw [seqS_run, h0, seq_nx, seqS_run, forS_run, hit, R.stmt_ok, f1, seq_nx, f2]
  exact moveS_im rfl
theorem run__law_all (ds : List Dt) (h : Fall ds ≠ .no) : runD 7 m__law_all ds = Fall ds := by
  unfold Fall at h
  split at h
  · rename_i n p
    split at h
    · rename_i hc
      simp only [Bool.and_eq_true, decide_eq_true_eq] at hc
      obtain ⟨⟨hp, hn⟩, hl⟩ := hc
      obtain ⟨n, rfl⟩ : ∃ k : Nat, n = (k : Int) := ⟨n.toNat, by omega⟩
      rw [Int.toNat_natCast] at hl
      have hn1 : n ≤ 100 := by omega
      rw [Fall_run hp hn1 hl]
      have hp3 : 1 ≤ p.toNat := by have := (okP_iff.mp hp).1; omega
      have hst : st0 7 [.int (n : Int), .int p] = { sl := [.im (.int n), .im (.int p), .no, .no, .no, .no, .no], mo := [] } := rfl
      have h0 : asgS 2 (frz (lstE (aCons (tupE aNil) aNil))) { sl := [.im (.int n), .im (.int p), .no, .no, .no, .no, .no], mo := [] } = .nx (alSt n p (allN p 0) .no .no .no) := by
        simp [alSt, allN]
        rfl
      have hit : itR1 (aCons (varE 0) aNil) (alSt n p (allN p 0) .no .no .no) = .ok ((List.range n).map fun (i : Nat) => Dt.int (i : Int)) (alSt n p (allN p 0) .no .no .no) := itR1_run (by simp [alSt]) (by omega)
      obtain ⟨S', f1, x3, x4, x5, f2⟩ := forL_inv (k := (Tk.nm 3).k) (body := alBody) ((List.range n).map fun (i : Nat) => Dt.int (i : Int)) (fun i S => ∃ x3 x4 x5, S = alSt n p (allN p i) x3 x4 x5) (alSt n p (allN p 0) .no .no .no) ⟨_, _, _, rfl⟩ (fun i d S hi hI => by
        obtain ⟨x3, x4, x5, rfl⟩ := hI
        rw [List.getElem?_map] at hi
        have hin : i < n := by
          rcases Nat.lt_or_ge i n with h | h
          · exact h
          · rw [List.getElem?_eq_none (by simpa using h)] at hi
            cases hi
        rw [List.getElem?_range hin] at hi
        cases hi
        have hb : p.toNat ^ (i + 1) ≤ p.toNat ^ n := Nat.pow_le_pow_right hp3 (by omega)
        obtain ⟨y4, y5, r⟩ := alBody_run (n := n) (k := i) (x3 := .im (.int (i : Int))) (x4 := x4) (x5 := x5) hp (by omega) (allN_wlen p i) (by rw [allN_len, ← Nat.pow_succ]; exact Nat.le_trans hb hl)
        rw [← allN_succ] at r
        exact ⟨_, _, kNm _ _ _, .inl r, _, _, _, rfl⟩)
      rw [List.length_map, List.length_range] at f2
      have hm : m__law_all = seqS (asgS 2 (frz (lstE (aCons (tupE aNil) aNil)))) (seqS (forS (itR1 (aCons (varE 0) aNil)) (Tk.nm 3).k alBody) (retS (varE 2))) := rfl
      unfold runD
      rw [hst, hm, seqS_run, h0, seq_nx, seqS_run, forS_run, hit, R.stmt_ok, f1, seq_nx, f2, retS_run, varE_im rfl, R.stmt_ok]
      rfl
    · exact absurd rfl h
  · exact absurd rfl h
end Lq

namespace Lq
open PySem PySem.Spec PyProof.Rows L2
def binF (n k : Int) : Int := if k < 0 then 0 else PySem.W.mcComb n k
def pwB : Ms → O := (seqS (ifS (tst (op2 (op2 (varE 4) (cE (.int 2)) modO) (cE (.int 1)) eqO)) (asgS 2 (op2 (varE 2) (varE 3) mulO)) nilS)
  (seqS (asgS 3 (op2 (varE 3) (varE 3) mulO))
  (asgS 4 (op2 (varE 4) (cE (.int 2)) divO))))
def m_power : Ms → O := (seqS (asgS 2 (cE (.int 1)))
  (seqS (moveS 3 0)
  (seqS (moveS 4 1)
  (seqS (whileS (fun _ => 64) (tst (op2 (varE 4) (cE (.int 0)) gtO)) pwB)
  (retS (varE 2))))))
def Fpow : List Dt → Fo
  | [.int a, .int k] => if (-100 ≤ a ∧ a ≤ 100) ∧ 0 ≤ k ∧ k ≤ 12 then .ok (.int (a ^ k.toNat)) else .no
  | _ => .no
def pwS (a k r f l : Int) : Ms := { sl := [.im (.int a), .im (.int k), .im (.int r), .im (.int f), .im (.int l)], mo := [] }
theorem small_pow {a : Int} (ha : -100 ≤ a ∧ a ≤ 100) {e : Nat} (he : e ≤ 8) : -(2 : Int) ^ 64 < a ^ e ∧ a ^ e < 2 ^ 64 := by
  have h1 : (a ^ e).natAbs ≤ 100 ^ 8 := by
    rw [Int.natAbs_pow]
    exact Nat.le_trans (Nat.pow_le_pow_left (show a.natAbs ≤ 100 by omega) e) (Nat.pow_le_pow_right (by decide) he)
  have h2 : (100 : Nat) ^ 8 < 2 ^ 63 := by decide
  have h3 : (a ^ e).natAbs < 2 ^ 63 := Nat.lt_of_le_of_lt h1 h2
  generalize a ^ e = z at *
  omega
theorem pw_step {a k : Int} {r e l : Nat} (ha : -100 ≤ a ∧ a ≤ 100) (he : e ≤ 8) (hl : 0 < l) : pwB (pwS a k (a ^ r) (a ^ e) (l : Int)) = .nx (pwS a k (if l % 2 = 1 then a ^ (r + e) else a ^ r) (a ^ (e + e)) ((l / 2 : Nat) : Int)) := by
  have hs := small_pow ha he
  have c1 : CMul (a ^ r) (a ^ e) := .inr hs
  have c2 : CMul (a ^ e) (a ^ e) := .inr hs
  have c3 : CDiv (l : Int) 2 := ⟨by decide, by decide⟩
  have e2 : a ^ e * a ^ e = a ^ (e + e) := (Int.pow_add a e e).symm
  have e1 : a ^ r * a ^ e = a ^ (r + e) := (Int.pow_add a r e).symm
  have e3 : ((l / 2 : Nat) : Int) = (l : Int) / 2 := by omega
  rw [← e1, ← e2, e3]
  generalize a ^ r = x at *
  generalize a ^ e = y at *
  by_cases h : l % 2 = 1
  · have h' : (l : Int) % 2 = 1 := by omega
    rw [if_pos h]
    simp [pwB, pwS, h', c1, c2, c3]
  · have h' : ¬ (l : Int) % 2 = 1 := by omega
    rw [if_neg h]
    simp [pwB, pwS, h', c2, c3]
theorem pw_loop {a k : Int} (ha : -100 ≤ a ∧ a ≤ 100) : ∀ (fuel r e l : Nat), l < fuel → (e = 1 ∧ l ≤ 12 ∨ e = 2 ∧ l ≤ 6 ∨ e = 4 ∧ l ≤ 3 ∨ e = 8 ∧ l ≤ 1 ∨ l = 0) →
    ∃ f, whl (tst (op2 (varE 4) (cE (.int 0)) gtO)) pwB fuel (pwS a k (a ^ r) (a ^ e) (l : Int)) = .nx (pwS a k (a ^ (r + e * l)) f 0)
  | 0, _, _, _, h, _ => absurd h (Nat.not_lt_zero _)
  | fuel + 1, r, e, l, h, hc => by
    have ht : tst (op2 (varE 4) (cE (.int 0)) gtO) (pwS a k (a ^ r) (a ^ e) (l : Int)) = .ok (decide (0 < (l : Int))) (pwS a k (a ^ r) (a ^ e) (l : Int)) := by
      generalize a ^ r = x
      generalize a ^ e = y
      simp [pwS]
    unfold whl
    rw [ht, R.stmt_ok]
    by_cases h0 : 0 < l
    · rw [decide_eq_true (by omega : 0 < (l : Int))]
      rw [if_pos rfl, pw_step ha (by omega) h0]
      dsimp only
      have e1 : (if l % 2 = 1 then a ^ (r + e) else a ^ r) = a ^ (if l % 2 = 1 then r + e else r) := by split <;> rfl
      rw [e1]
      obtain ⟨f, ih⟩ := pw_loop ha fuel (if l % 2 = 1 then r + e else r) (e + e) (l / 2) (by omega) (by omega)
      refine ⟨f, ih.trans ?_⟩
      have e2 : (if l % 2 = 1 then r + e else r) + (e + e) * (l / 2) = r + e * l := by
        rw [← Nat.two_mul e, Nat.mul_comm 2 e, Nat.mul_assoc]
        by_cases h2 : l % 2 = 1
        · have h3 : l = 2 * (l / 2) + 1 := by omega
          rw [if_pos h2]
          generalize l / 2 = m at *
          subst h3
          rw [Nat.mul_add, Nat.mul_one]
          omega
        · have h3 : l = 2 * (l / 2) := by omega
          rw [if_neg h2]
          generalize l / 2 = m at *
          subst h3
          rfl
      rw [e2]
    · have hl0 : l = 0 := by omega
      subst hl0
      refine ⟨a ^ e, ?_⟩
      rw [decide_eq_false (by omega : ¬ 0 < ((0 : Nat) : Int))]
      rfl
theorem run_power (ds : List Dt) (h : Fpow ds ≠ .no) : runD 5 m_power ds = Fpow ds := by
  unfold Fpow at h
  split at h
  · rename_i a k
    split at h
    · rename_i hc
      have e : Fpow [.int a, .int k] = .ok (.int (a ^ k.toNat)) := if_pos hc
      obtain ⟨ha, hk⟩ := hc
      obtain ⟨k, rfl⟩ : ∃ j : Nat, k = (j : Int) := ⟨k.toNat, by omega⟩
      rw [e, Int.toNat_natCast]
      have hst : st0 5 [.int a, .int (k : Int)] = { sl := [.im (.int a), .im (.int k), .no, .no, .no], mo := [] } := rfl
      obtain ⟨f, hl⟩ := pw_loop (k := (k : Int)) ha 64 0 1 k (by omega) (.inl ⟨rfl, by omega⟩)
      have hp : ∀ K : Ms → O, seqS (asgS 2 (cE (.int 1))) (seqS (moveS 3 0) (seqS (moveS 4 1) K)) { sl := [.im (.int a), .im (.int k), .no, .no, .no], mo := [] } = K (pwS a k (a ^ 0) (a ^ 1) k) := fun K => by
        rw [Int.pow_zero, Int.pow_succ, Int.pow_zero, Int.one_mul]
        rfl
      unfold runD m_power
      rw [hst, hp, seqS_run]
      show ((whl _ pwB 64 _).seq _).fo = _
      rw [hl, seq_nx, Nat.zero_add, Nat.one_mul]
      rfl
    · exact absurd rfl h
  · exact absurd rfl h
end Lq

namespace Lq
open PySem PySem.Spec PyProof.Rows L2
def wtW (v : List Int) : Nat := (v.filter fun x => decide (x ≠ 0)).length
theorem v_inj : ∀ a b : List Int, [Wd a] = [Wd b] → a = b := fun a b h => by
  simp only [List.cons.injEq, and_true] at h
  exact Wd_inj h
def krawI (p n j i : Int) : Int := ((List.range (j + 1).toNat).map fun s : Nat => (-1) ^ s * (p - 1) ^ (j - (s : Int)).toNat * binF i (s : Int) * binF (n - i) (j - (s : Int))).sum
theorem Fpow_run {a k : Int} (ha : -100 ≤ a ∧ a ≤ 100) (hk : 0 ≤ k ∧ k ≤ 12) : Fpow [.int a, .int k] = .ok (.int (a ^ k.toNat)) := if_pos ⟨ha, hk⟩
def ballI (p n t : Int) : Int := ((List.range ((if n < t then n else t) + 1).toNat).map fun i : Nat => binF n (i : Int) * (p - 1) ^ i).sum
end Lq

namespace Lq
open PySem PySem.Spec PyProof.Rows L2
def okX (n : Nat) (xs : List Int) : Prop := xs.length ≤ n ∧ ∀ x ∈ xs, 0 ≤ x ∧ x < 1009
end Lq

namespace Lq
open PySem PySem.Spec PyProof.Rows L2
end Lq

namespace Lq
open PySem PySem.Spec PyProof.Rows L2
def dgS (i : Int) : Str := (toString i : Str)
def wrS (v : List Int) : Str := if v = [] then "-" else Txt.join "" (v.map dgS)
def okD (v : List Int) : Prop := v.length ≤ 1000 ∧ ∀ x ∈ v, 0 ≤ x ∧ x < 7
theorem dg_eq : ∀ n : Nat, n < 7 → dgS (n : Int) = ⟨#[48 + n]⟩ := by
  have : ∀ n : Nat, n < 7 → decide (dgS (n : Int) = ⟨#[48 + n]⟩) = true := by decide +kernel
  exact fun n h => of_decide_eq_true (this n h)
theorem dg_len {x : Int} (h : 0 ≤ x ∧ x < 7) : (dgS x).length = 1 := by
  obtain ⟨n, rfl⟩ : ∃ n : Nat, x = (n : Int) := ⟨x.toNat, by omega⟩
  rw [dg_eq n (by omega)]
  rfl
theorem tl_app (a b : Str) : (a ++ b).cps.toList = a.cps.toList ++ b.cps.toList := by
  show (a.cps ++ b.cps).toList = _
  exact Array.toList_append
theorem tl_emp : ("" : Str).cps.toList = [] := by decide +kernel
theorem join_tl : ∀ ys : List Str, (Str.join "" ys).cps.toList = (ys.map fun y => y.cps.toList).flatten
  | [] => rfl
  | [y] => by simp [Str.join]
  | x :: z :: r => by
    show (x ++ "" ++ Str.join "" (z :: r)).cps.toList = _
    rw [tl_app, tl_app, tl_emp, join_tl (z :: r)]
    simp
theorem dgs_tl {v : List Int} (h : okD v) : (Txt.join "" (v.map dgS)).cps.toList = v.map fun x => 48 + x.toNat := by
  rw [TL.join_eq, join_tl]
  have : ∀ l : List Int, (∀ x ∈ l, 0 ≤ x ∧ x < 7) → ((l.map dgS).map fun y => y.cps.toList).flatten = l.map fun x => 48 + x.toNat := by
    intro l
    induction l with
    | nil => intro _; rfl
    | cons x l ih =>
      intro hl
      obtain ⟨n, rfl⟩ : ∃ n : Nat, x = (n : Int) := ⟨x.toNat, by have := hl x List.mem_cons_self; omega⟩
      have hn := hl (n : Int) List.mem_cons_self
      rw [List.map_cons, List.map_cons, List.flatten_cons, ih fun y hy => hl y (List.mem_cons_of_mem _ hy), dg_eq n (by omega)]
      simp
  exact this v h.2
def m_written : Ms → O := (seqS (ifS (tst (op2 (calE (aCons (varE 0) aNil) lenO) (cE (.int 0)) eqO)) (retS (cE (.str "-"))) nilS)
  (retS (op1 (frz (lcE (itS (varE 0)) (Tk.nm 1).k yesT (calE (aCons (varE 1) aNil) strO) [1])) (joinO (.str "")))))
noncomputable def Fwritten : List Dt → Fo := mkF (fun v : List Int => [Wd v]) okD fun v => .ok (.str (wrS v))
theorem Fwritten_run {v : List Int} (h : okD v) : Fwritten [Wd v] = .ok (.str (wrS v)) := mkF_run v_inj v h
theorem strs_sum : ∀ {l : List Int}, (∀ x ∈ l, 0 ≤ x ∧ x < 7) → ((l.map dgS).map (·.length)).sum = l.length
  | [], _ => rfl
  | x :: l, h => by
    rw [List.map_cons, List.map_cons, List.sum_cons, strs_sum fun y hy => h y (List.mem_cons_of_mem _ hy), dg_len (h x List.mem_cons_self), List.length_cons, Nat.add_comm]
theorem join_run {v : List Int} (h : okD v) : joinO (.str "") (.lst (v.map fun x => Dt.str (dgS x))) = some (.str (Txt.join "" (v.map dgS))) := by
  unfold joinO
  dsimp only
  have e : (v.map fun x => Dt.str (dgS x)) = (v.map dgS).map Dt.str := by rw [List.map_map]; rfl
  have e0 : ("" : Str).length = 0 := by decide +kernel
  rw [e, strsOf_map]
  dsimp only [Option.bind]
  rw [if_pos]
  rw [strs_sum h.2, e0, Nat.mul_zero]
  have := h.1
  omega
theorem strs_run {S : Ms} {a i : Nat} {v : List Int} (h : okD v) (ha : S.sl[a]? = some (.im (Wd v))) (hil : i < S.sl.length) :
    lcE (itS (varE a)) (Tk.nm i).k yesT (calE (aCons (varE i) aNil) strO) [i] S = .ok (v.map fun x => Dt.str (dgS x)) S := by
  refine lcE_map Dt.int (fun x => Dt.str (dgS x)) v ?_ (fun x hx => ?_) (fun d T T' => Tk.mo) (by have := h.1; omega)
  · rw [itS_run, varE_im ha, R.bind_ok]
    rfl
  · have e1 : ((wipeL S.sl [i]).set i (.im (.int x)))[i]? = some (.im (.int x)) := by
      rw [List.getElem?_set, if_pos rfl, if_pos]
      simpa [wipeL] using hil
    have hx' := h.2 x hx
    refine ⟨_, kNm _ _ _, { sl := (wipeL S.sl [i]).set i (.im (.int x)), mo := S.mo }, ?_, rfl⟩
    rw [calE_run, aCons_run, varE_im (S := { sl := (wipeL S.sl [i]).set i (.im (.int x)), mo := S.mo }) e1, R.bind_ok, aNil_run, R.bind_ok, R.bind_ok]
    unfold strO
    dsimp only
    rw [if_pos (by omega)]
    rfl
theorem run_written (ds : List Dt) (h : Fwritten ds ≠ .no) : runD 2 m_written ds = Fwritten ds := by
  obtain ⟨v, hv, rfl, e⟩ := mkF_inv h
  unfold Fwritten
  rw [e]
  unfold runD m_written wrS
  cases v with
  | nil => simp [st0, Wd, O.fo]
  | cons x r =>
    have hne : ¬ (((x :: r).length : Int) = 0) := by simp; omega
    have key := strs_run (S := st0 2 [Wd (x :: r)]) (a := 0) (i := 1) hv rfl (show 1 < 2 by decide)
    have hj := join_run hv
    have e1 : ∀ m : Ms → O, seqS (ifS (tst (op2 (calE (aCons (varE 0) aNil) lenO) (cE (.int 0)) eqO)) (retS (cE (.str "-"))) nilS) m (st0 2 [Wd (x :: r)]) = m (st0 2 [Wd (x :: r)]) := fun m => by
      have hl : lenO [Wd (x :: r)] = some (.int ((x :: r).length : Int)) := by
        show some (Dt.int (((x :: r).map Dt.int).length : Int)) = _
        rw [List.length_map]
      have hne2 : ¬ ((r.length : Int) + 1 = 0) := by omega
      simp [st0, hl, hne2]
    rw [e1, retS_run, op1_run, frz_run', key, R.bind_ok, R.bind_ok, hj, R.of_some, R.stmt_ok]
    simp [O.fo]
def findD (c : Nat) : Int := Txt.find "0123456" ⟨#[c]⟩
def inP (p : Int) (x : Int) : Bool := decide (0 ≤ x) && decide (x < p)
def readF (p : Int) (x : Str) : Option (List Int) := if x = "" then none else if x = "-" then some [] else if ((x.cps.toList.map findD).all (inP p)) = true then some (x.cps.toList.map findD) else none
def erT (CT : Addr) : Er := ⟨CT, ["at"], [.int 0]⟩
def readR (CT : Addr) (p : Int) : Dt → Fo | .str x => (match readF p x with | some w => .ok (Wd w) | none => .er (erT CT)) | _ => .er (erT CT)
def okT : Dt → Bool | .non => true | .bl _ => true | .int _ => true | .lst _ => true | .tup _ => true | .str x => decide (x.length ≤ 1000) && PyData.strOk x | _ => false
def m_read_word (CT : Addr) : Ms → O := (seqS (ifS (orT (notT (truT (op1 (varE 0) (isiO "str")))) (tst (op2 (varE 0) (cE (.str "")) eqO))) (raiseS ⟨CT, ["at"], [.int 0]⟩) nilS)
  (seqS (ifS (tst (op2 (varE 0) (cE (.str "-")) eqO)) (retS (tupE aNil)) nilS)
  (seqS (asgS 2 (frz (lcE (itC (varE 0)) (Tk.nm 3).k yesT (findE (cE (.str "0123456")) (varE 3)) [3])))
  (seqS (ifS (notT (truT (calE (aCons (frz (lcE (itS (varE 2)) (Tk.nm 4).k yesT (chT (cE (.int 0)) (varE 4) (varE 1) leO ltO) [4])) aNil) allO))) (raiseS ⟨CT, ["at"], [.int 0]⟩) nilS)
  (retS (calE (aCons (varE 2) aNil) tupO))))))
noncomputable def Fread (CT : Addr) : List Dt → Fo := mkF (fun q : Dt × Int => [q.1, .int q.2]) (fun q => okT q.1 = true) fun q => readR CT q.2 q.1
theorem di_inj : ∀ a b : Dt × Int, [a.1, .int a.2] = [b.1, .int b.2] → a = b := fun a b h => by
  simp only [List.cons.injEq, Dt.int.injEq, and_true] at h
  exact Prod.ext h.1 h.2
theorem Fread_run (CT : Addr) {d : Dt} {p : Int} (h : okT d = true) : Fread CT [d, .int p] = readR CT p d := mkF_run di_inj (d, p) h
theorem is_non : isiO "str" .non = some (.bl false) := by unfold isiO tyN; rfl
theorem is_bl (b : Bool) : isiO "str" (.bl b) = some (.bl false) := by unfold isiO tyN; rfl
theorem is_int (i : Int) : isiO "str" (.int i) = some (.bl false) := by unfold isiO tyN; rfl
theorem is_str (x : Str) : isiO "str" (.str x) = some (.bl true) := by unfold isiO tyN; rfl
theorem is_lst (x : List Dt) : isiO "str" (.lst x) = some (.bl false) := by unfold isiO tyN; rfl
theorem is_tup (x : List Dt) : isiO "str" (.tup x) = some (.bl false) := by unfold isiO tyN; rfl
theorem tru_b (b : Bool) : truO (.bl b) = some b := rfl
theorem seq_er (e : Er) (s : Ms) (f : Ms → O) : (O.er e s).seq f = .er e s := rfl
theorem run_read_word (CT : Addr) (ds : List Dt) (h : Fread CT ds ≠ .no) : runD 5 (m_read_word CT) ds = Fread CT ds := by
  obtain ⟨⟨d, p⟩, hd, rfl, e⟩ := mkF_inv h
  dsimp only at hd e ⊢
  unfold Fread
  rw [e]
  have hst : st0 5 [d, .int p] = { sl := [.im d, .im (.int p), .no, .no, .no], mo := [] } := rfl
  unfold runD m_read_word
  rw [hst]
  have eE : ("" : Str) = ("" : Str) := rfl
  have oE : PyData.strOk ("" : Str) = true := by decide +kernel
  have oM : PyData.strOk ("-" : Str) = true := by decide +kernel
  cases d with
  | non => simp [is_non, tru_b, raiseS, seq_er, O.fo, readR, erT]
  | bl b => simp [is_bl, tru_b, raiseS, seq_er, O.fo, readR, erT]
  | int i => simp [is_int, tru_b, raiseS, seq_er, O.fo, readR, erT]
  | lst x => simp [is_lst, tru_b, raiseS, seq_er, O.fo, readR, erT]
  | tup x => simp [is_tup, tru_b, raiseS, seq_er, O.fo, readR, erT]
  | obj C ks xs => cases hd
  | scr t xs => cases hd
  | str x =>
    unfold okT at hd
    simp only [Bool.and_eq_true, decide_eq_true_eq] at hd
    obtain ⟨hl, hx⟩ := hd
    have q1 := eqO_str hx oE
    have q2 := eqO_str hx oM
    unfold readR readF
    dsimp only
    by_cases h1 : x = ""
    · rw [if_pos h1]
      rw [decide_eq_true h1] at q1
      simp [is_str, tru_b, q1, raiseS, seq_er, O.fo, erT]
    · rw [if_neg h1]
      rw [decide_eq_false h1] at q1
      have s1 : ∀ m : Ms → O, seqS (ifS (orT (notT (truT (op1 (varE 0) (isiO "str")))) (tst (op2 (varE 0) (cE (.str "")) eqO))) (raiseS ⟨CT, ["at"], [.int 0]⟩) nilS) m { sl := [.im (.str x), .im (.int p), .no, .no, .no], mo := [] } = m { sl := [.im (.str x), .im (.int p), .no, .no, .no], mo := [] } := fun m => by
        simp [is_str, tru_b, q1]
      rw [s1]
      by_cases h2 : x = "-"
      · rw [if_pos h2]
        rw [decide_eq_true h2] at q2
        simp [q2, O.fo, Wd]
      · rw [if_neg h2]
        rw [decide_eq_false h2] at q2
        have s2 : ∀ m : Ms → O, seqS (ifS (tst (op2 (varE 0) (cE (.str "-")) eqO)) (retS (tupE aNil)) nilS) m { sl := [.im (.str x), .im (.int p), .no, .no, .no], mo := [] } = m { sl := [.im (.str x), .im (.int p), .no, .no, .no], mo := [] } := fun m => by
          simp [q2]
        rw [s2]
        have hlen : x.cps.toList.length ≤ 1000 := by rw [Array.length_toList]; exact hl
        have k1 : lcE (itC (varE 0)) (Tk.nm 3).k yesT (findE (cE (.str "0123456")) (varE 3)) [3] { sl := [.im (.str x), .im (.int p), .no, .no, .no], mo := [] } = .ok ((x.cps.toList.map findD).map Dt.int) { sl := [.im (.str x), .im (.int p), .no, .no, .no], mo := [] } := by
          rw [lcE_map (S1 := { sl := [.im (.str x), .im (.int p), .no, .no, .no], mo := [] }) (fun c : Nat => Dt.str ⟨#[c]⟩) (fun c => Dt.int (findD c)) x.cps.toList (by rfl) (fun c hc => ?_) (fun d T T' => Tk.mo) (by omega)]
          · rw [List.map_map]; rfl
          · exact ⟨_, rfl, { sl := [.im (.str x), .im (.int p), .no, .im (.str ⟨#[c]⟩), .no], mo := [] }, rfl, rfl⟩
        have s3 : ∀ m : Ms → O, seqS (asgS 2 (frz (lcE (itC (varE 0)) (Tk.nm 3).k yesT (findE (cE (.str "0123456")) (varE 3)) [3]))) m { sl := [.im (.str x), .im (.int p), .no, .no, .no], mo := [] } = m { sl := [.im (.str x), .im (.int p), .im (.lst ((x.cps.toList.map findD).map Dt.int)), .no, .no], mo := [] } := fun m => by
          rw [seqS_run, asgS_run', frz_run', k1]
          rfl
        rw [s3]
        have hl2 : (x.cps.toList.map findD).length ≤ 1000 := by rw [List.length_map]; exact hlen
        generalize x.cps.toList.map findD = w at *
        have k2 : lcE (itS (varE 2)) (Tk.nm 4).k yesT (chT (cE (.int 0)) (varE 4) (varE 1) leO ltO) [4] { sl := [.im (.str x), .im (.int p), .im (.lst (w.map Dt.int)), .no, .no], mo := [] } = .ok ((w.map (inP p)).map Dt.bl) { sl := [.im (.str x), .im (.int p), .im (.lst (w.map Dt.int)), .no, .no], mo := [] } := by
          rw [lcE_map (S1 := { sl := [.im (.str x), .im (.int p), .im (.lst (w.map Dt.int)), .no, .no], mo := [] }) Dt.int (fun c => Dt.bl (inP p c)) w (by rfl) (fun c hc => ?_) (fun d T T' => Tk.mo) (by omega)]
          · rw [List.map_map]; rfl
          · refine ⟨_, rfl, { sl := [.im (.str x), .im (.int p), .im (.lst (w.map Dt.int)), .no, .im (.int c)], mo := [] }, ?_, rfl⟩
            rw [chT_run]
            unfold inP
            by_cases hc : 0 ≤ c
            · simp [wipeL, hc]
            · simp [wipeL, hc]
        have ha : (w.map (inP p)).all id = w.all (inP p) := by rw [List.all_map]; rfl
        have s4 : ∀ m : Ms → O, seqS (ifS (notT (truT (calE (aCons (frz (lcE (itS (varE 2)) (Tk.nm 4).k yesT (chT (cE (.int 0)) (varE 4) (varE 1) leO ltO) [4])) aNil) allO))) (raiseS ⟨CT, ["at"], [.int 0]⟩) nilS) m { sl := [.im (.str x), .im (.int p), .im (.lst (w.map Dt.int)), .no, .no], mo := [] } = if w.all (inP p) = true then m { sl := [.im (.str x), .im (.int p), .im (.lst (w.map Dt.int)), .no, .no], mo := [] } else .er (erT CT) { sl := [.im (.str x), .im (.int p), .im (.lst (w.map Dt.int)), .no, .no], mo := [] } := fun m => by
          rw [seqS_run, ifS_run, notT_run, truT_run, calE_run, aCons_run, frz_run', k2]
          simp only [R.bind_ok, aNil_run, allO_run, R.of_some, tru_b, ha, R.stmt_ok]
          cases w.all (inP p) with
          | true => simp
          | false => simp [raiseS, seq_er, erT]
        rw [s4]
        by_cases hw : w.all (inP p) = true
        · rw [if_pos hw, if_pos hw]
          simp [O.fo, Wd]
        · rw [if_neg hw, if_neg hw]
          simp [O.fo]
end Lq

namespace Lq
open PySem PySem.Spec PyProof.Rows L2
theorem find_ok : ∀ n : Nat, n < 7 → findD (48 + n) = (n : Int) := by
  have : ∀ n : Nat, n < 7 → decide (findD (48 + n) = (n : Int)) = true := by decide +kernel
  exact fun n h => of_decide_eq_true (this n h)
theorem str_ext {a b : Str} (h : a.cps.toList = b.cps.toList) : a = b := by
  obtain ⟨a⟩ := a
  obtain ⟨b⟩ := b
  exact congrArg Str.mk (Array.toList_inj.mp h)
theorem wr_tl {v : List Int} (h : okD v) (hne : v ≠ []) : (wrS v).cps.toList = v.map fun x => 48 + x.toNat := by
  unfold wrS
  rw [if_neg hne]
  exact dgs_tl h
theorem wr_nil : wrS [] = "-" := if_pos rfl
theorem min_tl : ("-" : Str).cps.toList = [45] := by decide +kernel
theorem read_wr {p : Int} {v : List Int} (h : okD v) (hp : ∀ x ∈ v, x < p) : readF p (wrS v) = some v := by
  unfold readF
  cases v with
  | nil =>
    rw [wr_nil]
    have h1 : ¬ (("-" : Str) = "") := by decide +kernel
    rw [if_neg h1, if_pos rfl]
  | cons x r =>
    have ht := wr_tl h (by simp)
    have hx := h.2 x List.mem_cons_self
    have h1 : ¬ (wrS (x :: r) = "") := fun z => by
      rw [z, tl_emp] at ht
      simp at ht
    have h2 : ¬ (wrS (x :: r) = "-") := fun z => by
      rw [z, min_tl] at ht
      simp at ht
      omega
    have e : (wrS (x :: r)).cps.toList.map findD = x :: r := by
      rw [ht, List.map_map]
      conv => rhs; rw [← List.map_id (x :: r)]
      apply List.map_congr_left
      intro y hy
      have hy' := h.2 y hy
      obtain ⟨n, rfl⟩ : ∃ n : Nat, y = (n : Int) := ⟨y.toNat, by omega⟩
      show findD (48 + ((n : Int)).toNat) = _
      rw [Int.toNat_natCast, find_ok n (by omega)]
      rfl
    rw [if_neg h1, if_neg h2, e, if_pos]
    rw [List.all_eq_true]
    intro y hy
    have := h.2 y hy
    have := hp y hy
    unfold inP
    simp
    omega
theorem wr_len {v : List Int} (h : okD v) : (wrS v).length ≤ 1000 ∧ 1 ≤ (wrS v).length := by
  have e : (wrS v).length = (wrS v).cps.toList.length := by rw [Array.length_toList]; rfl
  cases v with
  | nil =>
    rw [wr_nil]
    decide +kernel
  | cons x r =>
    rw [e, wr_tl h (by simp), List.length_map]
    exact ⟨h.1, by simp⟩
theorem strOk_of {x : Str} (h : ∀ c ∈ x.cps.toList, c < 0x110000) : PyData.strOk x = true := by
  unfold PyData.strOk
  rw [← Array.all_toList, List.all_eq_true]
  intro c hc
  exact decide_eq_true (h c hc)
theorem wr_cs {v : List Int} (h : okD v) : ∀ c ∈ (wrS v).cps.toList, c < 128 := by
  intro c hc
  cases v with
  | nil =>
    rw [wr_nil, min_tl] at hc
    simp at hc
    omega
  | cons x r =>
    rw [wr_tl h (by simp)] at hc
    obtain ⟨y, hy, rfl⟩ := List.mem_map.mp hc
    have := h.2 y hy
    omega
theorem wr_ok {v : List Int} (h : okD v) : PyData.strOk (wrS v) = true := strOk_of fun c hc => by have := wr_cs h c hc; omega
def stL (ns : List Int) : Int × Int := ns.foldl (fun q c => (q.1 * 1000003 + (if c < 0 then -c else c), (q.2 * 48271 + c) % 2147483647)) (0, 1)
def stB : Ms → O := (seqS (asgS 1 (op2 (op2 (varE 1) (cE (.int 1000003)) mulO) (calE (aCons (varE 3) aNil) absO) addO))
  (asgS 2 (op2 (calE (aCons (op2 (op2 (varE 2) (cE (.int 48271)) mulO) (varE 3) addO) aNil) intO) (cE (.int 2147483647)) modO)))
def m__law_state : Ms → ON := (seqN (asgS 1 (cE (.int 0)))
  (seqN (asgS 2 (cE (.int 1)))
  (seqN (forS (itS (frz (slL (varE 0) oNone (oSome (cE (.int 63)))))) (Tk.nm 3).k stB)
  (retNL (lstE (aCons (varE 1) (aCons (varE 2) aNil)))))))
noncomputable def Fstate : List Dt → FoN := runN 4 m__law_state
theorem cut_all {α : Type} {xs : List α} (h : xs.length ≤ 63) : cut xs none (some 63) = xs := by
  unfold cut
  rw [show HT.sIx xs.length xs.length (some 63) = min 63 xs.length from HT.sIx_nat _ _ 63, HT.sIx_none, Nat.min_eq_right h]
  simp
theorem Fstate_run {ns : List Int} (h : ns.length ≤ 63) : Fstate [scrD ns] = .ok (stD (stL ns)) := by
  have hst : st0 4 [scrD ns] = { sl := [.im (scrD ns), .no, .no, .no], mo := [] } := rfl
  have hit : itS (frz (slL (varE 0) oNone (oSome (cE (.int 63))))) { sl := [.im (scrD ns), .im (.int 0), .im (.int 1), .no], mo := [] } = .ok (ns.map Dt.int) { sl := [.im (scrD ns), .im (.int 0), .im (.int 1), .no], mo := [] } := by
    rw [itS_run, frz_run']
    unfold slL oNone oSome
    rw [varE_im (d := scrD ns) (by rfl)]
    simp only [R.bind_ok, cE_run]
    unfold scrD
    simp only [R.bind_ok]
    rw [cut_all (by rw [List.length_map]; exact h)]
    rfl
  obtain ⟨S', f1, f2⟩ := forL_fold (k := (Tk.nm 3).k) (body := stB) Dt.int (fun _ (q : Int × Int) S => ∃ x, S = { sl := [.im (scrD ns), .im (.int q.1), .im (.int q.2), x], mo := [] }) (fun q c => (q.1 * 1000003 + (if c < 0 then -c else c), (q.2 * 48271 + c) % 2147483647)) ns 0 (0, 1) { sl := [.im (scrD ns), .im (.int 0), .im (.int 1), .no], mo := [] } ⟨.no, rfl⟩ (fun j q c S hc _ hI => by
    obtain ⟨x, rfl⟩ := hI
    have c1 : CMul q.1 1000003 := .inr (by decide)
    have c2 : CMul q.2 48271 := .inr (by decide)
    refine ⟨_, { sl := [.im (scrD ns), .im (.int (q.1 * 1000003 + (if c < 0 then -c else c))), .im (.int ((q.2 * 48271 + c) % 2147483647)), .im (.int c)], mo := [] }, kNm _ _ _, .inl ?_, _, rfl⟩
    simp [stB, c1, c2])
  obtain ⟨x, rfl⟩ := f2
  have hfor : forS (itS (frz (slL (varE 0) oNone (oSome (cE (.int 63)))))) (Tk.nm 3).k stB { sl := [.im (scrD ns), .im (.int 0), .im (.int 1), .no], mo := [] } = .nx { sl := [.im (scrD ns), .im (.int (stL ns).1), .im (.int (stL ns).2), x], mo := [] } := by
    rw [forS_run, hit, R.stmt_ok, f1]
    rfl
  unfold Fstate runN m__law_state
  rw [hst]
  simp only [seqN, asgS_run', cE_run, R.stmt_ok]
  show ((match forS (itS (frz (slL (varE 0) oNone (oSome (cE (.int 63)))))) (Tk.nm 3).k stB { sl := [.im (scrD ns), .im (.int 0), .im (.int 1), .no], mo := [] } with | .nx S1 => _ | .er e S1 => _ | _ => _ : ON)).fo = _
  rw [hfor]
  simp [retNL, ON.fo, stD]
end Lq

namespace Lq
open PySem PySem.Spec PyProof.Rows L2
open PySem.StrLaws PySem.Builtin PySem.Builtin.Str
def posL (c : Nat) : Nat → List Nat → List Nat
  | _, [] => []
  | a, t :: r => if t = c then a :: posL c (a + 1) r else posL c (a + 1) r
def cutsW : Nat → List Nat → List (List Nat) → List Nat
  | _, _, [] => []
  | a, w0, w1 :: r => (a + w0.length) :: cutsW (a + w0.length + 1) w1 r
theorem posL_skip {c : Nat} : ∀ (w r : List Nat) (a : Nat), c ∉ w → posL c a (w ++ r) = posL c (a + w.length) r
  | [], r, a, _ => rfl
  | t :: w, r, a, h => by
    have ht : ¬ t = c := fun e => h (by rw [e]; exact List.mem_cons_self ..)
    rw [List.cons_append, posL, if_neg ht, posL_skip w r (a + 1) (fun z => h (List.mem_cons_of_mem _ z)), List.length_cons]
    congr 1
    omega
theorem posL_cuts {c : Nat} : ∀ (ws : List (List Nat)) (w0 : List Nat) (a : Nat), c ∉ w0 → (∀ w ∈ ws, c ∉ w) → posL c a (w0 ++ (ws.map (c :: ·)).flatten) = cutsW a w0 ws
  | [], w0, a, h0, _ => by
    rw [List.map_nil, List.flatten_nil, posL_skip w0 [] a h0]
    rfl
  | w1 :: r, w0, a, h0, h => by
    rw [posL_skip w0 _ a h0, List.map_cons, List.flatten_cons, List.cons_append, posL, if_pos rfl, posL_cuts r w1 _ (h _ (List.mem_cons_self ..)) (fun w hw => h w (List.mem_cons_of_mem _ hw))]
    rfl
theorem one_len (c : Nat) : (⟨#[c]⟩ : Str).length = 1 := rfl
theorem occ_loop (x : Str) (c limit : Nat) : ∀ (n a : Nat) (arr : Array Nat) (free : Nat), free ≤ a → arr.size + n ≤ limit → a + n = x.length + 1 →
    (forIn (List.range' a n) (arr, free) (occBody x ⟨#[c]⟩ x.length limit)).run.fst.toList = arr.toList ++ posL c a (x.cps.toList.drop a)
  | 0, a, arr, free, hf, hs, hn => by
    have e : x.cps.toList.drop a = [] := List.drop_eq_nil_of_le (by
      have : x.cps.toList.length = x.length := by simp [Str.length]
      omega)
    rw [e]
    simp [posL]
  | n + 1, a, arr, free, hf, hs, hn => by
    have hL : x.cps.toList.length = x.length := by simp [Str.length]
    rw [List.range'_succ, List.forIn_cons]
    unfold occBody
    have h1 := subAt_one x c a
    by_cases hc : x.cps.toList[a]? = some c
    · have h2 := h1.mpr hc
      rw [if_pos ⟨⟨⟨by show arr.size < limit; omega, hf⟩, h2.1⟩, h2.2⟩]
      obtain ⟨hlt, e⟩ := List.getElem?_eq_some_iff.mp hc
      have ed : x.cps.toList.drop a = c :: x.cps.toList.drop (a + 1) := by rw [List.drop_eq_getElem_cons hlt, e]
      have ih := occ_loop x c limit n (a + 1) (arr.push a) (a + 1) (Nat.le_refl _) (by rw [Array.size_push]; omega) (by omega)
      rw [ed, posL, if_pos rfl]
      refine Eq.trans ih ?_
      rw [Array.toList_push, List.append_assoc]
      rfl
    · have h2 : ¬ ((((arr, free).fst.size < limit ∧ (arr, free).snd ≤ a) ∧ a + (⟨#[c]⟩ : Str).length ≤ x.length) ∧ subAt x ⟨#[c]⟩ a = true) := fun z => hc (h1.mp ⟨z.1.2, z.2⟩)
      rw [if_neg h2]
      have ih := occ_loop x c limit n (a + 1) arr free (by omega) (by omega) (by omega)
      refine Eq.trans ih ?_
      congr 1
      cases hg : x.cps.toList[a]? with
      | none =>
        have e1 : x.cps.toList.drop a = [] := List.drop_eq_nil_of_le (List.getElem?_eq_none_iff.mp hg)
        have e2 : x.cps.toList.drop (a + 1) = [] := List.drop_eq_nil_of_le (Nat.le_trans (List.getElem?_eq_none_iff.mp hg) (Nat.le_succ _))
        rw [e1, e2]
        rfl
      | some t =>
        obtain ⟨hlt, e⟩ := List.getElem?_eq_some_iff.mp hg
        have ht : ¬ t = c := fun z => hc (by rw [hg, z])
        rw [List.drop_eq_getElem_cons hlt, e, posL, if_neg ht]
theorem occ_all (x : Str) (c : Nat) : occurrences x ⟨#[c]⟩ 0 x.length (x.length + 1) = posL c 0 x.cps.toList := by
  rw [occ_eq]
  have := occ_loop x c (x.length + 1) (x.length + 1 - 0) 0 #[] 0 (Nat.le_refl _) (by simp) (by omega)
  rw [this]
  simp
theorem parts_cuts (x : Str) (c : Nat) : ∀ (ws : List (List Nat)) (w0 : List Nat) (a : Nat), x.cps.toList.drop a = w0 ++ (ws.map (c :: ·)).flatten → a ≤ x.length →
    (partsFrom x 1 a (cutsW a w0 ws)).map (fun y => y.cps.toList) = w0 :: ws
  | [], w0, a, h, ha => by
    have hL : x.cps.toList.length = x.length := by simp [Str.length]
    show [(strSub x a x.length).cps.toList] = [w0]
    rw [strSub_toList, List.take_of_length_le (by rw [List.length_drop, hL]; omega), h]
    simp
  | w1 :: r, w0, a, h, ha => by
    have hL : x.cps.toList.length = x.length := by simp [Str.length]
    rw [List.map_cons, List.flatten_cons, List.cons_append] at h
    have hlen : a + w0.length + 1 ≤ x.length := by
      have := congrArg List.length h
      rw [List.length_drop, List.length_append, List.length_cons] at this
      omega
    have hd : x.cps.toList.drop (a + w0.length + 1) = w1 ++ (r.map (c :: ·)).flatten := by
      rw [← List.drop_drop, ← List.drop_drop, h, List.drop_left]
      rfl
    show (strSub x a (a + w0.length)).cps.toList :: (partsFrom x 1 (a + w0.length + 1) (cutsW (a + w0.length + 1) w1 r)).map (fun y => y.cps.toList) = _
    rw [parts_cuts x c r w1 _ hd hlen, strSub_toList, h]
    congr 1
    rw [Nat.add_sub_cancel_left, List.take_left]
theorem map_tl_inj : ∀ {xs ys : List Str}, xs.map (fun y => y.cps.toList) = ys.map (fun y => y.cps.toList) → xs = ys
  | [], [], _ => rfl
  | [], _ :: _, h => by cases h
  | _ :: _, [], h => by cases h
  | x :: xs, y :: ys, h => by
    rw [List.map_cons, List.map_cons, List.cons.injEq] at h
    rw [str_ext h.1, map_tl_inj h.2]
theorem split_one {x : Str} {c : Nat} (hc : c < 256) {y0 : Str} {ys : List Str} (h : x.cps.toList = y0.cps.toList ++ (ys.map fun y => c :: y.cps.toList).flatten) (h0 : c ∉ y0.cps.toList) (hs : ∀ y ∈ ys, c ∉ y.cps.toList) :
    Txt.split x ⟨#[c]⟩ = y0 :: ys := by
  have hm : (ys.map fun y => c :: y.cps.toList) = (ys.map fun y => y.cps.toList).map (c :: ·) := by rw [List.map_map]; rfl
  rw [hm] at h
  have ho : occurrences x ⟨#[c]⟩ 0 x.length (x.length + 1) = cutsW 0 y0.cps.toList (ys.map fun y => y.cps.toList) := by
    rw [occ_all, h]
    exact posL_cuts _ _ 0 h0 (fun w hw => by
      obtain ⟨y, hy, rfl⟩ := List.mem_map.mp hw
      exact hs y hy)
  have hp : partsFrom x 1 0 (cutsW 0 y0.cps.toList (ys.map fun y => y.cps.toList)) = y0 :: ys := map_tl_inj (by
    rw [parts_cuts x c _ _ 0 (by rw [List.drop_zero]; exact h) (Nat.zero_le _), List.map_cons])
  unfold Txt.split
  have hk : decide (PySem.Builtin.Str.strKind x < PySem.Builtin.Str.strKind ⟨#[c]⟩) = false := by
    have e : PySem.Builtin.Str.strKind ⟨#[c]⟩ = 1 := by
      unfold PySem.Builtin.Str.strKind
      rw [if_pos (by simp [hc])]
    rw [e]
    refine decide_eq_false fun z => ?_
    unfold PySem.Builtin.Str.strKind at z
    split at z
    · omega
    · split at z <;> omega
  have one : ∀ z : List Str, cutsW 0 y0.cps.toList (ys.map fun y => y.cps.toList) = [] → [x] = y0 :: ys := fun _ e => by
    rw [e] at hp
    rw [← hp]
    show [x] = [strSub x 0 x.length]
    rw [sub_whole]
  rw [hk, Bool.or_false, ho]
  by_cases hl : x.length < (⟨#[c]⟩ : Str).length
  · rw [if_pos (decide_eq_true hl)]
    have hx : x.cps.toList = [] := List.eq_nil_of_length_eq_zero (by
      have : x.cps.toList.length = x.length := by simp [Str.length]
      rw [one_len] at hl
      omega)
    refine one [] ?_
    cases ys with
    | nil => rfl
    | cons y r =>
      rw [hx, List.map_cons, List.map_cons, List.flatten_cons, List.cons_append] at h
      have := congrArg List.length h
      simp at this
  · rw [if_neg (fun z => hl (of_decide_eq_true z))]
    by_cases he : (cutsW 0 y0.cps.toList (ys.map fun y => y.cps.toList)).isEmpty = true
    · rw [if_pos he]
      exact one [] (List.isEmpty_iff.mp he)
    · rw [if_neg he, partsBetween_eq, one_len, hp]
theorem part_one {x a b : Str} {c : Nat} (h : x.cps.toList = a.cps.toList ++ c :: b.cps.toList) (ha : c ∉ a.cps.toList) : Txt.partition x ⟨#[c]⟩ = (a, ⟨#[c]⟩, b) := by
  have hL : x.cps.toList.length = x.length := by simp [Str.length]
  have hat : x.cps.toList[a.cps.toList.length]? = some c := by rw [h, List.getElem?_append_right (Nat.le_refl _), Nat.sub_self]; rfl
  have hno : ∀ i, i < a.cps.toList.length → x.cps.toList[i]? ≠ some c := fun i hi z => by
    rw [h, List.getElem?_append_left hi] at z
    exact ha (List.mem_of_getElem? z)
  unfold Txt.partition
  rcases occ_head x ⟨#[c]⟩ 1 (Nat.le_refl _) with ⟨e, hn⟩ | ⟨i, r, e, hi, hk⟩
  · exact absurd ((subAt_one x c _).mpr hat) (hn _)
  · rw [e]
    have h1 := (subAt_one x c i).mp hi
    have hia : i = a.cps.toList.length := by
      rcases Nat.lt_trichotomy i a.cps.toList.length with z | z | z
      · exact absurd h1 (hno i z)
      · exact z
      · exact absurd ((subAt_one x c _).mpr hat) (hk _ z)
    have ea : strSub x 0 i = a := str_ext (by
      rw [strSub_toList, List.drop_zero, Nat.sub_zero, h, hia, List.take_left])
    have eb : strSub x (i + (⟨#[c]⟩ : Str).length) x.length = b := str_ext (by
      rw [strSub_toList, one_len, List.take_of_length_le (by rw [List.length_drop, hL]; omega), h, hia, ← List.drop_drop, List.drop_left]
      rfl)
    dsimp only
    rw [ea, eb]
end Lq

namespace Lq
open PySem PySem.Spec PyProof.Rows L2
def dotN (n : Nat) (x y : List Int) : Int := ((List.range n).map fun k => x.getD k 0 * y.getD k 0).sum
def stepC (p : Int) (n : Nat) (x : List Int) (j : Int) (cs : List Int) (y : List Int) : List Int :=
  if (wtW y : Int) = j then cs.set (dotN n x y % p).toNat (cs.getD (dotN n x y % p).toNat 0 + 1) else cs
def cntL (p : Int) (n : Nat) (x : List Int) (j : Int) : List Int := (allN p n).foldl (stepC p n x j) (List.replicate p.toNat 0)
def subW (p : Int) (n : Nat) (x y : List Int) : List Int := (List.range n).map fun k => (x.getD k 0 - y.getD k 0) % p
def nearL (p : Int) (n : Nat) (x : List Int) (t : Int) : List (List Int) := (allN p n).filter fun y => decide ((wtW (subW p n x y) : Int) ≤ t)
def chk1 (p : Int) (n : Nat) (x : List Int) (j : Nat) : Bool :=
  let cs := cntL p n x (j : Int)
  ((List.range (p - 2).toNat).all fun k => decide (cs.getD (k + 2) 0 = cs.getD 1 0)) && decide (krawI p (n : Int) (j : Int) (wtW x : Int) = cs.getD 0 0 - cs.getD 1 0)
def chk2 (p : Int) (n : Nat) (x : List Int) (t : Nat) : Bool := decide (ballI p (n : Int) (t : Int) = ((nearL p n x (t : Int)).length : Int))
def chkX (p : Int) (n : Nat) (x : List Int) : Bool := ((List.range (n + 1)).all (chk1 p n x)) && ((List.range (n + 2)).all (chk2 p n x))
def part (p : Int) (n k i : Nat) : Bool := (((allN p n).drop (k * i)).take k).all (chkX p n)
end Lq

namespace Lq
open PySem PySem.Spec PyProof.Rows L2
def natsOf (ds : List Dt) : Option (List Nat) := (intsOf ds).bind fun ns => if (ns.all fun i => decide (0 ≤ i)) = true then some (ns.map Int.toNat) else none
theorem natsOf_map (P : List Nat) : natsOf (P.map fun (c : Nat) => Dt.int (c : Int)) = some P := by
  have e : (P.map fun (c : Nat) => Dt.int (c : Int)) = (P.map fun (c : Nat) => (c : Int)).map Dt.int := by rw [List.map_map]; rfl
  unfold natsOf
  rw [e, intsOf_map]
  dsimp only [Option.bind]
  rw [if_pos (by rw [List.all_eq_true]; intro x hx; obtain ⟨c, _, rfl⟩ := List.mem_map.mp hx; exact decide_eq_true (by omega)), List.map_map]
  congr 1
  exact (List.map_congr_left fun x _ => by simp).trans (List.map_id _)
theorem natsOf_eq {ds : List Dt} {P : List Nat} (h : natsOf ds = some P) : ds = P.map fun (c : Nat) => Dt.int (c : Int) := by
  unfold natsOf at h
  obtain ⟨ns, h1, h2⟩ := Option.bind_eq_some_iff.mp h
  split at h2
  · rename_i hc
    cases h2
    rw [intsOf_eq h1, List.map_map]
    rw [List.all_eq_true] at hc
    refine List.map_congr_left fun x hx => ?_
    have := of_decide_eq_true (hc x hx)
    simp only [Function.comp]
    rw [Int.toNat_of_nonneg this]
  · cases h2
theorem ixN_nat {n k : Nat} (h : k < n) : ixN n (k : Int) = some k := by
  unfold ixN
  rw [if_pos (by omega), if_pos (by omega), Int.toNat_natCast]
theorem setS_run {i k j : Nat} {f g : Ms → R Dt} {S : Ms} {xs : List Dt} {d : Dt} {z : Int} (h1 : f S = .ok d S) (hm : muAt S i = some (k, xs)) (h2 : g S = .ok (.int z) S) (hj : ixN xs.length z = some j) : setS i f g S = .nx { S with mo := S.mo.set k (.ob (.ls (xs.set j d))) } := by
  unfold setS
  rw [h1, R.stmt_ok, hm]
  dsimp only
  rw [h2, R.stmt_ok, hm]
  dsimp only
  rw [hj]
def m__kernel_word : Ms → O := (seqS (asgN 5 (opN (frz (lstE (aCons (cE (.int 0)) aNil))) (varE 3) repL))
  (seqS (setS 5 (cE (.int 1)) (varE 2))
  (seqS (forS (itZ (aCons (varE 0) (aCons (varE 1) aNil))) (Tk.tp [6, 7]).k (setS 5 (op2 (op1 (op2 (varE 6) (varE 2) ixO) negO) (varE 4) modO) (varE 7)))
  (retS (calE (aCons (varE 5) aNil) tupO)))))
def kwL (p : Int) (n f : Nat) (qs : List (List Int × Nat)) : List Int := qs.foldl (fun w q => w.set q.2 (-(g q.1 f) % p)) ((List.replicate n 0).set f 1)
def Fkword : List Dt → Fo
  | [.tup ds, .tup es, .int f, .int n, .int p] => match wordsOf ds, natsOf es with
    | some T, some P => if (okP p && okRb p n.toNat T && decide (0 ≤ n ∧ n ≤ 1000) && decide (T.length ≤ 1000) && decide (0 ≤ f ∧ f < n) && P.all fun c => decide (c < n.toNat)) = true then .ok (Wd (kwL p n.toNat f.toNat (T.zip P))) else .no
    | _, _ => .no
  | _ => .no
theorem Fkword_run {p : Int} {n f : Nat} {T : List (List Int)} {P : List Nat} (hp : okP p = true) (hT : okR p n T) (hn : n ≤ 1000) (hl : T.length ≤ 1000) (hf : f < n) (hP : ∀ c ∈ P, c < n) : Fkword [TD T, PD P, .int f, .int n, .int p] = .ok (Wd (kwL p n f (T.zip P))) := by
  unfold Fkword TD PD
  simp only [wordsOf_map, natsOf_map, Int.toNat_natCast]
  rw [if_pos]
  simp [hp, okRb_iff.mpr hT, hl]
  first | exact hP | exact ⟨hn, hP⟩ | exact ⟨by omega, hP⟩ | exact ⟨by omega, by omega, hP⟩ | exact ⟨⟨by omega, by omega⟩, hP⟩
theorem zipD_wn : ∀ (rows : List (List Int)) (ws : List Nat), zipD (rows.map Wd) (ws.map fun (c : Nat) => Dt.int (c : Int)) = (rows.zip ws).map fun q => Dt.tup [Wd q.1, .int (q.2 : Int)]
  | [], _ => by simp [zipD]
  | _ :: _, [] => by simp [zipD]
  | a :: v, b :: w => by
    have := zipD_wn v w
    unfold zipD at this ⊢
    simp [this]
theorem repL_run {n : Nat} (hn : n ≤ 1000) : repL (.lst [.int 0]) (.int (n : Int)) = some ((List.replicate n (0 : Int)).map Dt.int) := by
  show (if _ then _ else _) = _
  have : ([Dt.int 0] : List Dt).length ≤ 100 ∧ (0 : Int) ≤ (n : Int) ∧ (n : Int) ≤ 1000 := ⟨by simp, by omega, by omega⟩
  rw [if_pos this, Int.toNat_natCast, rep_int]
theorem setl (w : List Int) (k : Nat) (x : Int) : (w.map Dt.int).set k (.int x) = (w.set k x).map Dt.int := by rw [List.map_set]
def kwS (T : List (List Int)) (P : List Nat) (f n : Nat) (p : Int) (w : List Int) (x6 x7 : Sv) : Ms := { sl := [.im (TD T), .im (PD P), .im (.int f), .im (.int n), .im (.int p), .mu 0, x6, x7], mo := [.ob (.ls (w.map Dt.int))] }
theorem run__kernel_word (ds : List Dt) (h : Fkword ds ≠ .no) : runD 8 m__kernel_word ds = Fkword ds := by
  unfold Fkword at h
  split at h
  · rename_i ds es f n p
    split at h
    · rename_i T P h1 h2
      split at h
      · rename_i hc
        have := wordsOf_eq h1
        have := natsOf_eq h2
        subst_vars
        simp only [Bool.and_eq_true, decide_eq_true_eq, List.all_eq_true] at hc
        obtain ⟨⟨⟨⟨⟨hp, hT⟩, hn⟩, hl⟩, hf⟩, hP⟩ := hc
        obtain ⟨n, rfl⟩ : ∃ k : Nat, n = (k : Int) := ⟨n.toNat, by omega⟩
        obtain ⟨f, rfl⟩ : ∃ k : Nat, f = (k : Int) := ⟨f.toNat, by omega⟩
        rw [Int.toNat_natCast] at hT hP
        have hT := okRb_iff.mp hT
        have hn1 : n ≤ 1000 := by omega
        have hf1 : f < n := by omega
        have hp1 := (okP_iff.mp hp).1
        have e0 : Fkword [.tup (T.map Wd), .tup (P.map fun (c : Nat) => Dt.int (c : Int)), .int (f : Int), .int (n : Int), .int p] = _ := Fkword_run hp hT hn1 hl hf1 hP
        rw [e0]
        have hst : st0 8 [.tup (T.map Wd), .tup (P.map fun (c : Nat) => Dt.int (c : Int)), .int (f : Int), .int (n : Int), .int p] = { sl := [.im (TD T), .im (PD P), .im (.int f), .im (.int n), .im (.int p), .no, .no, .no], mo := [] } := rfl
        have e1 : asgN 5 (opN (frz (lstE (aCons (cE (.int 0)) aNil))) (varE 3) repL) { sl := [.im (TD T), .im (PD P), .im (.int f), .im (.int n), .im (.int p), .no, .no, .no], mo := [] } = .nx (kwS T P f n p (List.replicate n 0) .no .no) := by
          have := repL_run hn1
          simp [this, kwS]
        have e2 : setS 5 (cE (.int 1)) (varE 2) (kwS T P f n p (List.replicate n 0) .no .no) = .nx (kwS T P f n p ((List.replicate n 0).set f 1) .no .no) := by
          refine (setS_run (k := 0) (j := f) (d := .int 1) (z := (f : Int)) rfl (muAt_run rfl rfl) (varE_im rfl) (ixN_nat (by simp; omega))).trans ?_
          rw [setl]
          rfl
        have hit : itZ (aCons (varE 0) (aCons (varE 1) aNil)) (kwS T P f n p ((List.replicate n 0).set f 1) .no .no) = .ok ((T.zip P).map fun q => Dt.tup [Wd q.1, .int (q.2 : Int)]) (kwS T P f n p ((List.replicate n 0).set f 1) .no .no) := by
          simp [kwS, TD, PD, zipD_wn]
        obtain ⟨S', f1, hok, y6, y7, f2⟩ := forL_fold (k := (Tk.tp [6, 7]).k) (body := setS 5 (op2 (op1 (op2 (varE 6) (varE 2) ixO) negO) (varE 4) modO) (varE 7)) (fun q : List Int × Nat => Dt.tup [Wd q.1, .int (q.2 : Int)])
          (fun _ (w : List Int) S => w.length = n ∧ ∃ y6 y7, S = kwS T P f n p w y6 y7) (fun w q => w.set q.2 (-(g q.1 f) % p)) (T.zip P) 0 ((List.replicate n 0).set f 1) _ ⟨by simp, .no, .no, rfl⟩ (fun _ w q S hq _ hI => by
            obtain ⟨hw, y6, y7, rfl⟩ := hI
            have hq1 := hT _ (List.of_mem_zip hq).1
            have hq2 := hP _ (List.of_mem_zip hq).2
            have e3 := wg_ix (r := q.1) (k := f) (by rw [hq1.2]; exact hf1)
            have hs1 : op2 (op1 (op2 (varE 6) (varE 2) ixO) negO) (varE 4) modO (kwS T P f n p w (.im (Wd q.1)) (.im (.int (q.2 : Int)))) = .ok (.int (-(g q.1 f) % p)) (kwS T P f n p w (.im (Wd q.1)) (.im (.int (q.2 : Int)))) := by simp [kwS, e3, hp1]
            have hs2 := setS_run (i := 5) (k := 0) (xs := w.map Dt.int) (j := q.2) (z := (q.2 : Int)) (g := varE 7) hs1 (muAt_run rfl rfl) (varE_im rfl) (ixN_nat (by rw [List.length_map, hw]; exact hq2))
            rw [setl] at hs2
            exact ⟨kwS T P f n p w (.im (Wd q.1)) (.im (.int (q.2 : Int))), kwS T P f n p (w.set q.2 (-(g q.1 f) % p)) (.im (Wd q.1)) (.im (.int (q.2 : Int))), by simp [kNames, kwS], .inl hs2, by rw [List.length_set]; exact hw, _, _, rfl⟩)
        unfold runD m__kernel_word
        rw [hst, seqS_run, e1, seq_nx, seqS_run, e2, seq_nx, seqS_run, forS_run, hit, R.stmt_ok, f1, seq_nx, f2]
        simp [kwS]
        rfl
      · exact absurd rfl h
    · exact absurd rfl h
  · exact absurd rfl h
def m_kernel : Ms → O := (seqS (asgT (Tk.tp [3, 4]) (funE 3 (aCons (varE 0) (aCons (varE 1) (aCons (varE 2) aNil))) Freduced))
  (retS (calE (aCons (frz (lcE (itR1 (aCons (varE 1) aNil)) (Tk.nm 5).k (tst (op2 (varE 5) (varE 4) (inI true))) (funE 5 (aCons (varE 3) (aCons (varE 4) (aCons (varE 5) (aCons (varE 1) (aCons (varE 2) aNil))))) Fkword) [5])) aNil) tupO)))
theorem contains_nat (P : List Nat) (c : Nat) : (P.map fun (c : Nat) => (c : Int)).contains (c : Int) = decide (c ∈ P) := by
  rw [Bool.eq_iff_iff, List.contains_iff_mem, decide_eq_true_eq, List.mem_map]
  constructor
  · rintro ⟨a, ha, e⟩
    have : a = c := by omega
    exact this ▸ ha
  · exact fun h => ⟨c, h, rfl⟩
theorem intsOf_pd (P : List Nat) : intsOf (P.map fun (c : Nat) => Dt.int (c : Int)) = some (P.map fun (c : Nat) => (c : Int)) := by
  have e : (P.map fun (c : Nat) => Dt.int (c : Int)) = (P.map fun (c : Nat) => (c : Int)).map Dt.int := by rw [List.map_map]; rfl
  rw [e, intsOf_map]
theorem nin_pd (P : List Nat) (c : Nat) : inI true (.int (c : Int)) (PD P) = some (.bl (decide (c ∉ P))) := by
  unfold inI PD
  dsimp only
  rw [seqOf_tup]
  dsimp only [Option.bind]
  rw [intsOf_pd]
  dsimp only [Option.map]
  rw [contains_nat, if_pos rfl, decide_not]
def frees (n : Nat) (P : List Nat) : List Nat := (List.range n).filter fun c => decide (c ∉ P)
def kerL (p : Int) (n : Nat) (s : Red) : List (List Int) := (frees n s.P).map fun f => kwL p n f (s.T.zip s.P)
def Fkernel : List Dt → Fo
  | [d, .int w, .int p] => match (seqOf d).bind wordsOf with
    | some rows => if (isP p && decide (0 ≤ w ∧ w ≤ 1000) && decide (rows.length ≤ 1000) && okRb p w.toNat rows) = true then .ok (TD (kerL p w.toNat (redN p rows w.toNat))) else .no
    | none => .no
  | _ => .no
theorem Fkernel_run {p : Int} {n : Nat} {rows : List (List Int)} {d : Dt} (hd : seqOf d = some (rows.map Wd)) (hp : isP p = true) (hn : n ≤ 1000) (hl : rows.length ≤ 1000) (h : okR p n rows) : Fkernel [d, .int n, .int p] = .ok (TD (kerL p n (redN p rows n))) := by
  unfold Fkernel
  dsimp only
  rw [hd]
  simp only [Option.bind, wordsOf_map, Int.toNat_natCast]
  rw [if_pos]
  simp [hp, okRb_iff.mpr h, hl]
  omega
theorem pk_mem {P : List Nat} {n at_ : Nat} {T : List (List Int)} (h : Rr at_ T P) {c : Nat} (hc : c ∈ P) : c < at_ := by
  obtain ⟨k, hk, e⟩ := List.getElem_of_mem hc
  have := h.lt k hk
  unfold pk at this
  rw [List.getD_eq_getElem?_getD, List.getElem?_eq_getElem hk] at this
  rw [← e]
  exact this
theorem asgT_two {i j : Nat} {f : Ms → R Dt} {S S1 : Ms} {d e : Dt} (h : f S = .ok (.tup [d, e]) S1) : asgT (Tk.tp [i, j]) f S = .nx { S1 with sl := (S1.sl.set i (.im d)).set j (.im e) } := by
  rw [asgT_run', h, R.stmt_ok]
  rfl
theorem run_kernel (ds : List Dt) (h : Fkernel ds ≠ .no) : runD 6 m_kernel ds = Fkernel ds := by
  unfold Fkernel at h
  split at h
  · rename_i d w p
    split at h
    · rename_i rows hrows
      split at h
      · rename_i hc
        simp only [Bool.and_eq_true, decide_eq_true_eq] at hc
        obtain ⟨⟨⟨hp, hw⟩, hl⟩, hk⟩ := hc
        obtain ⟨n, rfl⟩ : ∃ k : Nat, w = (k : Int) := ⟨w.toNat, by omega⟩
        rw [Int.toNat_natCast] at hk
        have hok := okRb_iff.mp hk
        obtain ⟨xs, hx1, hx2⟩ := Option.bind_eq_some_iff.mp hrows
        have hx3 := wordsOf_eq hx2
        subst hx3
        have hn : n ≤ 1000 := by omega
        rw [Fkernel_run hx1 hp hn hl hok]
        have hp' := isP_okP hp
        have e1 := Freduced_run hx1 hp hn hl hok
        have hI := RI_N hp hn hok n (Nat.le_refl _)
        have hT := redN_ok hp' hok n
        have hlen := redN_lens (p := p) (rows := rows) n
        generalize redN p rows n = s at *
        have hst : st0 6 [d, .int (n : Int), .int p] = { sl := [.im d, .im (.int n), .im (.int p), .no, .no, .no], mo := [] } := rfl
        have e2 : asgT (Tk.tp [3, 4]) (funE 3 (aCons (varE 0) (aCons (varE 1) (aCons (varE 2) aNil))) Freduced) { sl := [.im d, .im (.int n), .im (.int p), .no, .no, .no], mo := [] } = .nx { sl := [.im d, .im (.int n), .im (.int p), .im (TD s.T), .im (PD s.P), .no], mo := [] } := by
          refine (asgT_two (d := TD s.T) (e := PD s.P) (S1 := { sl := [.im d, .im (.int n), .im (.int p), .no, .no, .no], mo := [] }) ?_).trans rfl
          simp [e1]
          rfl
        have key : lcE (itR1 (aCons (varE 1) aNil)) (Tk.nm 5).k (tst (op2 (varE 5) (varE 4) (inI true))) (funE 5 (aCons (varE 3) (aCons (varE 4) (aCons (varE 5) (aCons (varE 1) (aCons (varE 2) aNil))))) Fkword) [5] { sl := [.im d, .im (.int n), .im (.int p), .im (TD s.T), .im (PD s.P), .no], mo := [] } = .ok ((frees n s.P).map fun f => Wd (kwL p n f (s.T.zip s.P))) { sl := [.im d, .im (.int n), .im (.int p), .im (TD s.T), .im (PD s.P), .no], mo := [] } := by
          refine lcE_flt (fun (c : Nat) => Dt.int (c : Int)) (fun c => decide (c ∉ s.P)) (fun f => Wd (kwL p n f (s.T.zip s.P))) (List.range n) (itR1_run (by simp) (by omega)) (fun c hc => ?_) (by simp; omega)
          have hc' := List.mem_range.mp hc
          have e3 := nin_pd s.P c
          have e4 := Fkword_run (f := c) hp' hT.1 hn (by omega) hc' (fun x hx => pk_mem (n := n) hI.rr hx)
          refine ⟨_, { sl := [.im d, .im (.int n), .im (.int p), .im (TD s.T), .im (PD s.P), .im (.int (c : Int))], mo := [] }, kNm _ _ _, by simp [wipeL, e3], rfl, fun _ => ⟨{ sl := [.im d, .im (.int n), .im (.int p), .im (TD s.T), .im (PD s.P), .im (.int (c : Int))], mo := [] }, by simp [e4], rfl⟩⟩
        unfold runD m_kernel
        rw [hst, seqS_run, e2, seq_nx, retS_run, calE_run, aCons_run, frz_run', key, R.bind_ok, R.bind_ok, aNil_run, R.bind_ok, R.bind_ok, tupO_lst, R.of_some, R.stmt_ok]
        show Fo.ok _ = Fo.ok _
        unfold TD kerL
        rw [List.map_map]
        rfl
      · exact absurd rfl h
    · exact absurd rfl h
  · exact absurd rfl h
end Lq

namespace Lq
open PySem PySem.Spec PyProof.Rows L2
end Lq

namespace Lq
open PySem PySem.Spec PyProof.Rows L2
theorem sm_cons (x y : Int) (v w : List Int) : sm (x :: v) (y :: w) = x * y + sm v w := by
  unfold sm
  rw [List.zipWith_cons_cons, List.sum_cons]
theorem sm_comm : ∀ v w : List Int, sm v w = sm w v
  | [], [] => rfl
  | [], _ :: _ => rfl
  | _ :: _, [] => rfl
  | x :: v, y :: w => by rw [sm_cons, sm_cons, sm_comm v w, Int.mul_comm]
theorem sm_lin (p a : Int) : ∀ (r u v : List Int), r.length = u.length → v.length = u.length → sm r (lin p u v a) % p = (sm r u + sm r v * a) % p
  | [], u, v, h1, h2 => by
    have hu : u = [] := List.eq_nil_of_length_eq_zero h1.symm
    subst hu
    have hv : v = [] := List.eq_nil_of_length_eq_zero h2
    subst hv
    show (0 : Int) % p = (0 + 0 * a) % p
    rw [Int.zero_mul, Int.add_zero]
  | c :: r, [], v, h1, h2 => by cases h1
  | c :: r, x :: u, [], h1, h2 => by cases h2
  | c :: r, x :: u, y :: v, h1, h2 => by
    have ih := sm_lin p a r u v (Nat.succ.inj h1) (Nat.succ.inj h2)
    have e : lin p (x :: u) (y :: v) a = ((x + y * a % p) % p) :: lin p u v a := rfl
    have h : c * ((x + y * a % p) % p) % p = (c * x + c * y * a) % p := by
      rw [Int.mul_emod, Int.emod_emod, emod_lin, ← Int.mul_emod, Int.mul_add, ← Int.mul_assoc]
    rw [e, sm_cons, sm_cons, sm_cons, Int.add_emod, h, ih, ← Int.add_emod, Int.add_mul]
    congr 1
    omega
theorem sm_zero : ∀ v w : List Int, (∀ j, g v j * g w j = 0) → sm v w = 0
  | [], _, _ => by simp [sm]
  | _ :: _, [], _ => by simp [sm]
  | x :: v, y :: w, h => by
    have h0 : x * y = 0 := h 0
    rw [sm_cons, h0, sm_zero v w fun j => h (j + 1)]
    rfl
theorem sm_one : ∀ (v w : List Int) (c : Nat), c < v.length → c < w.length → (∀ j, j ≠ c → g v j * g w j = 0) → sm v w = g v c * g w c
  | [], _, _, h, _, _ => by cases h
  | _ :: _, [], _, _, h, _ => by cases h
  | x :: v, y :: w, 0, _, _, h => by
    rw [sm_cons, sm_zero v w fun j => h (j + 1) (by omega)]
    exact Int.add_zero _
  | x :: v, y :: w, c + 1, h1, h2, h => by
    have h0 : x * y = 0 := h 0 (by omega)
    rw [sm_cons, h0, Int.zero_add]
    exact sm_one v w c (Nat.lt_of_succ_lt_succ h1) (Nat.lt_of_succ_lt_succ h2) fun j hj => h (j + 1) (by omega)
theorem sm_two : ∀ (v w : List Int) (c d : Nat), c ≠ d → c < v.length → c < w.length → d < v.length → d < w.length → (∀ j, j ≠ c → j ≠ d → g v j * g w j = 0) → sm v w = g v c * g w c + g v d * g w d
  | [], _, _, _, _, h, _, _, _, _ => by cases h
  | _ :: _, [], _, _, _, _, h, _, _, _ => by cases h
  | x :: v, y :: w, 0, 0, hcd, _, _, _, _, _ => absurd rfl hcd
  | x :: v, y :: w, 0, d + 1, _, _, _, h3, h4, h => by
    rw [sm_cons, sm_one v w d (Nat.lt_of_succ_lt_succ h3) (Nat.lt_of_succ_lt_succ h4) fun j hj => h (j + 1) (by omega) (by omega)]
    rfl
  | x :: v, y :: w, c + 1, 0, _, h1, h2, _, _, h => by
    rw [sm_cons, sm_one v w c (Nat.lt_of_succ_lt_succ h1) (Nat.lt_of_succ_lt_succ h2) fun j hj => h (j + 1) (by omega) (by omega), Int.add_comm]
    rfl
  | x :: v, y :: w, c + 1, d + 1, hcd, h1, h2, h3, h4, h => by
    have h0 : x * y = 0 := h 0 (by omega) (by omega)
    rw [sm_cons, h0, Int.zero_add]
    exact sm_two v w c d (by omega) (Nat.lt_of_succ_lt_succ h1) (Nat.lt_of_succ_lt_succ h2) (Nat.lt_of_succ_lt_succ h3) (Nat.lt_of_succ_lt_succ h4) fun j hj hk => h (j + 1) (by omega) (by omega)
theorem g_far {v : List Int} {c : Nat} (h : v.length ≤ c) : g v c = 0 := by
  unfold g
  rw [List.getD_eq_getElem?_getD, List.getElem?_eq_none h]
  rfl
def Zr (p : Int) (n : Nat) (rows : List (List Int)) (y : List Int) : Prop := ok1 p n y ∧ ∀ r ∈ rows, sm r y % p = 0
section
variable {p : Int} {n : Nat} {rows T : List (List Int)} {P : List Nat}
theorem sm_zw (p : Int) (n : Nat) (y : List Int) : sm (List.replicate n 0) y % p = 0 := by
  rw [sm_zero _ _ fun j => by rw [g_zero, Int.zero_mul]]
  exact Int.zero_emod _
theorem Zr_Sp (hp : okP p = true) (hn : n ≤ 1000) (h : okR p n rows) {y u : List Int} (hy : Zr p n rows y) (q : Sp p n rows u) : sm u y % p = 0 := by
  induction q with
  | zero => exact sm_zw _ _ _
  | @step w r a hw hr ih =>
    have hw' := Sp_ok hp hn h hw
    have hr' := h r hr
    rw [sm_comm, sm_lin p a y w r (by rw [hy.1.2, hw'.2]) (by rw [hr'.2, hw'.2]), sm_comm y w, sm_comm y r, Int.add_emod, Int.mul_emod, ih, hy.2 r hr, Int.zero_mul, Int.zero_emod, Int.add_zero, Int.zero_emod]
theorem Zr_red (hp : isP p = true) (hn : n ≤ 1000) (h : okR p n rows) (y : List Int) : Zr p n (redN p rows n).T y ↔ Zr p n rows y := by
  have hp' := isP_okP hp
  have hT := (redN_ok hp' h n).1
  exact ⟨fun q => ⟨q.1, fun r hr => Zr_Sp hp' hn hT q ((red_Sp hp hn h r).mpr (Sp_row hp' h hr))⟩, fun q => ⟨q.1, fun r hr => Zr_Sp hp' hn h q ((red_Sp hp hn h r).mp (Sp_row hp' hT hr))⟩⟩
theorem Zr_lin (hp : okP p = true) (h : okR p n rows) {u v : List Int} {a : Int} (hu : Zr p n rows u) (hv : Zr p n rows v) : Zr p n rows (lin p u v a) := by
  refine ⟨ok_lin hp hu.1 hv.1, fun r hr => ?_⟩
  rw [sm_lin p a r u v (by rw [(h r hr).2, hu.1.2]) (by rw [hv.1.2, hu.1.2]), Int.add_emod, Int.mul_emod, hu.2 r hr, hv.2 r hr, Int.zero_mul, Int.zero_emod, Int.add_zero, Int.zero_emod]
theorem Zr_zero (hp : okP p = true) (hn : n ≤ 1000) : Zr p n rows (List.replicate n 0) := ⟨ok_zero hp hn, fun r _ => by rw [sm_comm]; exact sm_zw _ _ _⟩
theorem g_set_ne {w : List Int} {i c : Nat} {x : Int} (h : c ≠ i) : g (w.set i x) c = g w c := by
  unfold g
  rw [List.getD_eq_getElem?_getD, List.getD_eq_getElem?_getD, List.getElem?_set_ne (Ne.symm h)]
theorem g_set {w : List Int} {i : Nat} {x : Int} (h : i < w.length) : g (w.set i x) i = x := by
  unfold g
  rw [List.getD_eq_getElem?_getD, List.getElem?_set_self h]
  rfl
def setL {α : Type} (h : α × Nat → Int) (qs : List (α × Nat)) (w : List Int) : List Int := qs.foldl (fun w q => w.set q.2 (h q)) w
theorem setL_ne {α : Type} {h : α × Nat → Int} {c : Nat} : ∀ (qs : List (α × Nat)) (w : List Int), (∀ q ∈ qs, q.2 ≠ c) → g (setL h qs w) c = g w c
  | [], _, _ => rfl
  | q :: qs, w, hq => (setL_ne qs _ fun x hx => hq x (List.mem_cons_of_mem _ hx)).trans (g_set_ne (Ne.symm (hq q List.mem_cons_self)))
theorem setL_at {α : Type} {h : α × Nat → Int} : ∀ (qs : List (α × Nat)) (w : List Int), (qs.map (·.2)).Nodup → (∀ q ∈ qs, q.2 < w.length) → ∀ q ∈ qs, g (setL h qs w) q.2 = h q
  | [], _, _, _, q, hq => absurd hq List.not_mem_nil
  | q0 :: qs, w, hnd, hl, q, hq => by
    rw [List.map_cons, List.nodup_cons] at hnd
    rcases List.mem_cons.mp hq with rfl | hq
    · exact (setL_ne qs _ fun x hx e => hnd.1 (List.mem_map.mpr ⟨x, hx, e⟩)).trans (g_set (hl _ List.mem_cons_self))
    · exact setL_at qs _ hnd.2 (fun x hx => by rw [List.length_set]; exact hl x (List.mem_cons_of_mem _ hx)) q hq
theorem setL_ok {α : Type} {h : α × Nat → Int} : ∀ (qs : List (α × Nat)) (w : List Int), ok1 p n w → (∀ q ∈ qs, 0 ≤ h q ∧ h q < p) → ok1 p n (setL h qs w)
  | [], _, hw, _ => hw
  | q :: qs, w, hw, hq => by
    refine setL_ok qs _ ⟨?_, by rw [List.length_set]; exact hw.2⟩ fun x hx => hq x (List.mem_cons_of_mem _ hx)
    obtain ⟨h1, h2⟩ := okW_iff.mp hw.1
    refine okW_iff.mpr ⟨by rw [List.length_set]; exact h1, fun x hx => ?_⟩
    rcases List.mem_or_eq_of_mem_set hx with hx | rfl
    · exact h2 x hx
    · exact hq q List.mem_cons_self
theorem zip_at (hl : T.length = P.length) {k : Nat} (hk : k < P.length) : (tk T k, pk P k) ∈ T.zip P := by
  have h1 : k < (T.zip P).length := by rw [List.length_zip]; omega
  have e : (T.zip P)[k] = (tk T k, pk P k) := by
    rw [List.getElem_zip]
    unfold tk pk
    rw [List.getD_eq_getElem?_getD, List.getD_eq_getElem?_getD, List.getElem?_eq_getElem (show k < T.length by omega), List.getElem?_eq_getElem hk]
    rfl
  rw [← e]
  exact List.getElem_mem _
theorem zip_snd (hl : T.length = P.length) : (T.zip P).map (·.2) = P := List.map_snd_zip (by omega)
theorem pk_get {k : Nat} (hk : k < P.length) : pk P k = P[k] := by
  unfold pk
  rw [List.getD_eq_getElem?_getD, List.getElem?_eq_getElem hk]
  rfl
theorem Rr_nd {at_ : Nat} (h : Rr at_ T P) : P.Nodup := by
  rw [List.Nodup, List.pairwise_iff_getElem]
  intro i j hi hj hij
  have := h.asc i j hij hj
  rw [pk_get hi, pk_get hj] at this
  omega
theorem mem_pk {c : Nat} (h : c ∈ P) : ∃ k < P.length, pk P k = c := by
  obtain ⟨k, hk, e⟩ := List.getElem_of_mem h
  exact ⟨k, hk, by rw [pk_get hk]; exact e⟩
theorem kw_ok (hp : isP p = true) (hn : n ≤ 1000) {f : Nat} : ok1 p n (kwL p n f (T.zip P)) := by
  have hp' := isP_okP hp
  have hp1 := (okP_iff.mp hp').1
  have hp2 := of_decide_eq_true hp
  refine setL_ok (h := fun q : List Int × Nat => -(g q.1 f) % p) _ _ ⟨okW_iff.mpr ⟨by simpa using hn, fun x hx => ?_⟩, by simp⟩ fun q _ => ⟨Int.emod_nonneg _ (by omega), Int.emod_lt_of_pos _ hp1⟩
  rcases List.mem_or_eq_of_mem_set hx with hx | rfl
  · have := (List.mem_replicate.mp hx).2
    omega
  · omega
theorem kw_self {f : Nat} (hf : f < n) (hfP : f ∉ P) : g (kwL p n f (T.zip P)) f = 1 := by
  refine (setL_ne (h := fun q : List Int × Nat => -(g q.1 f) % p) (c := f) _ _ fun q hq e => hfP (e ▸ (List.of_mem_zip hq).2)).trans (g_set (by simpa using hf))
theorem kw_free {f c : Nat} (hc : c ∉ P) (hcf : c ≠ f) : g (kwL p n f (T.zip P)) c = 0 := by
  refine (setL_ne (h := fun q : List Int × Nat => -(g q.1 f) % p) (c := c) _ _ fun q hq e => hc (e ▸ (List.of_mem_zip hq).2)).trans ((g_set_ne hcf).trans g_zero)
theorem kw_pk (h : Rr n T P) {f k : Nat} (hk : k < P.length) : g (kwL p n f (T.zip P)) (pk P k) = -(g (tk T k) f) % p :=
  setL_at (h := fun q : List Int × Nat => -(g q.1 f) % p) _ _ (by rw [zip_snd h.len]; exact Rr_nd h) (fun q hq => by
    have := pk_mem (n := 0) h (List.of_mem_zip hq).2
    simpa using this) _ (zip_at h.len hk)
theorem col {c : Nat} (h : Rr n T P) {y : List Int} (hy : ∀ c < n, c ∉ P → g y c = 0) {k : Nat} (hk : k < P.length) (hT : okR p n T) (hyl : y.length = n) (hck : c ≠ pk P k) : g (tk T k) c * g y c = 0 := by
  by_cases hcn : c < n
  · by_cases hcP : c ∈ P
    · obtain ⟨j, hj, rfl⟩ := mem_pk hcP
      rw [h.zro k j hk hj (fun e => hck (by rw [e])), Int.zero_mul]
    · rw [hy c hcn hcP, Int.mul_zero]
  · rw [g_far (v := y) (by omega), Int.mul_zero]
theorem kw_Zr (hp : isP p = true) (hn : n ≤ 1000) (hT : okR p n T) (h : Rr n T P) {f : Nat} (hf : f < n) (hfP : f ∉ P) : Zr p n T (kwL p n f (T.zip P)) := by
  refine ⟨kw_ok hp hn, fun r hr => ?_⟩
  obtain ⟨k, hk, rfl⟩ := mem_tk hr
  have hk' : k < P.length := by have := h.len; omega
  have hl := (hT _ hr).2
  have hkl := (kw_ok (T := T) (P := P) (f := f) hp hn).2
  have hpk := h.lt k hk'
  have hne : f ≠ pk P k := fun e => hfP (by rw [e, pk_get hk']; exact List.getElem_mem _)
  rw [sm_two _ _ f (pk P k) hne (by omega) (by omega) (by omega) (by omega) (fun j h1 h2 => ?_), kw_self hf hfP, kw_pk h hk', h.one k hk', Int.mul_one, Int.one_mul, Int.add_emod_emod, Int.add_right_neg]
  · exact Int.zero_emod _
  · by_cases hjn : j < n
    · by_cases hjP : j ∈ P
      · obtain ⟨i, hi, rfl⟩ := mem_pk hjP
        rw [h.zro k i hk' hi (fun e => h2 (by rw [e])), Int.zero_mul]
      · rw [kw_free hjP h1, Int.mul_zero]
    · rw [g_far (v := kwL p n f (T.zip P)) (by omega), Int.mul_zero]
theorem mem_frees {f : Nat} : f ∈ frees n P ↔ f < n ∧ f ∉ P := by
  unfold frees
  rw [List.mem_filter, List.mem_range, decide_eq_true_eq]
theorem ker_sp (hp : isP p = true) (hn : n ≤ 1000) (hT : okR p n T) (h : Rr n T P) : ∀ (fs : List Nat), (∀ f ∈ fs, f ∈ frees n P) → ∀ y, Zr p n T y → (∀ c < n, c ∉ P → c ∉ fs → g y c = 0) → Sp p n ((frees n P).map fun f => kwL p n f (T.zip P)) y
  | [], _, y, hy, h0 => by
    have h1 : ∀ c < n, c ∉ P → g y c = 0 := fun c h1 h2 => h0 c h1 h2 List.not_mem_nil
    have e : y = List.replicate n 0 := by
      refine g_ext hy.1.2 (by simp) fun c hc => ?_
      rw [g_zero]
      by_cases hcP : c ∈ P
      · obtain ⟨k, hk, rfl⟩ := mem_pk hcP
        have hkT : k < T.length := by have := h.len; omega
        have h2 := hy.2 _ (tk_mem hkT)
        have hl := (hT _ (tk_mem hkT)).2
        rw [sm_one _ _ (pk P k) (by omega) (by rw [hy.1.2]; exact hc) (fun j hj => col h h1 hk hT hy.1.2 hj), h.one k hk, Int.one_mul, g_mod hy.1 hc] at h2
        exact h2
      · exact h1 c hc hcP
    rw [e]
    exact .zero
  | f :: fs, hfs, y, hy, h0 => by
    have hp' := isP_okP hp
    have hf := hfs f List.mem_cons_self
    obtain ⟨hf1, hf2⟩ := mem_frees.mp hf
    have hK := kw_Zr hp hn hT h hf1 hf2
    have hy' := Zr_lin (a := -(g y f)) hp' hT hy hK
    have ih := ker_sp hp hn hT h fs (fun x hx => hfs x (List.mem_cons_of_mem _ hx)) _ hy' fun c hc hcP hcf => by
      rw [g_lin hy.1.2 hK.1.2 hc]
      by_cases e : c = f
      · subst e
        rw [kw_self hc hcP, Int.one_mul, Int.add_right_neg]
        exact Int.zero_emod _
      · rw [h0 c hc hcP (fun z => (List.mem_cons.mp z).elim e hcf), kw_free hcP e, Int.zero_mul]
        exact Int.zero_emod _
    have e : y = lin p (lin p y (kwL p n f (T.zip P)) (-(g y f))) (kwL p n f (T.zip P)) (g y f) := by rw [lin_twice hy.1.2 hK.1.2, Int.add_left_neg, lin_none hy.1 hK.1.2]
    rw [e]
    exact .step _ ih (List.mem_map.mpr ⟨f, hf, rfl⟩)
theorem ker_ok (hp : isP p = true) (hn : n ≤ 1000) : okR p n ((frees n P).map fun f => kwL p n f (T.zip P)) := fun r hr => by
  obtain ⟨f, _, rfl⟩ := List.mem_map.mp hr
  exact kw_ok hp hn
theorem ker_iff (hp : isP p = true) (hn : n ≤ 1000) (h : okR p n rows) (y : List Int) : Sp p n (kerL p n (redN p rows n)) y ↔ Zr p n rows y := by
  have hp' := isP_okP hp
  have hI := RI_N hp hn h n (Nat.le_refl _)
  have hT := (redN_ok hp' h n).1
  rw [← Zr_red hp hn h]
  constructor
  · intro q
    induction q with
    | zero => exact Zr_zero hp' hn
    | step a _ hr ih =>
      obtain ⟨f, hf, rfl⟩ := List.mem_map.mp hr
      obtain ⟨hf1, hf2⟩ := mem_frees.mp hf
      exact Zr_lin hp' hT ih (kw_Zr hp hn hT hI.rr hf1 hf2)
  · exact fun q => ker_sp hp hn hT hI.rr (frees n (redN p rows n).P) (fun _ h => h) y q fun c hc hcP hcf => absurd (mem_frees.mpr ⟨hc, hcP⟩) hcf
end
end Lq

namespace Lq
open PySem PySem.Spec PyProof.Rows L2
def sI {α : Type} (l : List α) (h : α → Int) : Int := (l.map h).sum
theorem sI_nil {α : Type} (h : α → Int) : sI ([] : List α) h = 0 := rfl
theorem sI_cons {α : Type} (x : α) (l : List α) (h : α → Int) : sI (x :: l) h = h x + sI l h := by simp [sI]
theorem sI_add {α : Type} (l : List α) (h k : α → Int) : sI l (fun x => h x + k x) = sI l h + sI l k := by
  induction l with
  | nil => rfl
  | cons x l ih => rw [sI_cons, sI_cons, sI_cons, ih]; omega
theorem sI_zero {α : Type} (l : List α) : sI l (fun _ => (0 : Int)) = 0 := by
  induction l with
  | nil => rfl
  | cons x l ih => rw [sI_cons, ih]; rfl
theorem sI_one {α : Type} (l : List α) : sI l (fun _ => (1 : Int)) = (l.length : Int) := by
  induction l with
  | nil => rfl
  | cons x l ih => rw [sI_cons, ih, List.length_cons]; omega
theorem sI_mul {α : Type} (l : List α) (c : Int) (h : α → Int) : sI l (fun x => c * h x) = c * sI l h := by
  induction l with
  | nil => simp [sI]
  | cons x l ih => rw [sI_cons, sI_cons, ih, Int.mul_add]
theorem sI_congr {α : Type} {l : List α} {h k : α → Int} (e : ∀ x ∈ l, h x = k x) : sI l h = sI l k := by
  unfold sI
  rw [List.map_congr_left e]
theorem sI_swap {α β : Type} (l : List α) (m : List β) (h : α → β → Int) : sI l (fun x => sI m (h x)) = sI m (fun y => sI l fun x => h x y) := by
  induction l with
  | nil => rw [sI_nil]; simp only [sI_nil]; rw [sI_zero]
  | cons x l ih =>
    rw [sI_cons, ih, ← sI_add]
    exact sI_congr fun y _ => (sI_cons x l fun x => h x y).symm
theorem sI_perm {α : Type} {l m : List α} (p : l.Perm m) (h : α → Int) : sI l h = sI m h := by
  induction p with
  | nil => rfl
  | cons x _ ih => rw [sI_cons, sI_cons, ih]
  | swap x y l => rw [sI_cons, sI_cons, sI_cons, sI_cons]; omega
  | trans _ _ ih1 ih2 => exact ih1.trans ih2
theorem sI_map {α β : Type} (f : α → β) (l : List α) (h : β → Int) : sI (l.map f) h = sI l fun x => h (f x) := by
  unfold sI
  rw [List.map_map]
  rfl
theorem sI_filter {α : Type} (l : List α) (b : α → Bool) (h : α → Int) : sI (l.filter b) h = sI l fun x => if b x then h x else 0 := by
  induction l with
  | nil => rfl
  | cons x l ih =>
    rw [sI_cons, ← ih]
    cases hb : b x with
    | true => rw [List.filter_cons_of_pos hb, sI_cons, if_pos rfl]
    | false => rw [List.filter_cons_of_neg (by simp [hb]), if_neg (by simp)]; omega
def chi (p c : Int) : Int := (if c % p = 0 then 1 else 0) - if c % p = 1 then 1 else 0
structure Sub (p : Int) (n : Nat) (W : List (List Int)) : Prop where
  nd : W.Nodup
  ok : ∀ w ∈ W, ok1 p n w
  zero : List.replicate n 0 ∈ W
  lin : ∀ u ∈ W, ∀ v ∈ W, ∀ a : Int, lin p u v a ∈ W
theorem inv_ex {p c : Int} (hp : isP p = true) (hc : c % p ≠ 0) : ∃ a, (c * a) % p = 1 := by
  have h1 : 0 ≤ c % p := Int.emod_nonneg _ (by have := isP_okP hp; have := (okP_iff.mp this).1; omega)
  have h2 : c % p < p := Int.emod_lt_of_pos _ (okP_iff.mp (isP_okP hp)).1
  have key : ∀ a, (c * a) % p = (c % p * a) % p := fun a => by rw [Int.mul_emod c a p, Int.mul_emod (c % p) a p, Int.emod_emod]
  simp only [key]
  generalize c % p = d at *
  have hp' : p = 2 ∨ p = 3 ∨ p = 5 ∨ p = 7 := of_decide_eq_true hp
  rcases hp' with rfl | rfl | rfl | rfl
  · have : d = 1 := by omega
    subst this; exact ⟨1, by decide⟩
  · have : d = 1 ∨ d = 2 := by omega
    rcases this with rfl | rfl
    · exact ⟨1, by decide⟩
    · exact ⟨2, by decide⟩
  · have : d = 1 ∨ d = 2 ∨ d = 3 ∨ d = 4 := by omega
    rcases this with rfl | rfl | rfl | rfl
    · exact ⟨1, by decide⟩
    · exact ⟨3, by decide⟩
    · exact ⟨2, by decide⟩
    · exact ⟨4, by decide⟩
  · have : d = 1 ∨ d = 2 ∨ d = 3 ∨ d = 4 ∨ d = 5 ∨ d = 6 := by omega
    rcases this with rfl | rfl | rfl | rfl | rfl | rfl
    · exact ⟨1, by decide⟩
    · exact ⟨4, by decide⟩
    · exact ⟨5, by decide⟩
    · exact ⟨2, by decide⟩
    · exact ⟨3, by decide⟩
    · exact ⟨6, by decide⟩
theorem Sub_shift {p : Int} {n : Nat} {W : List (List Int)} (hp : okP p = true) (h : Sub p n W) {v : List Int} (hv : v ∈ W) : (W.map fun u => lin p u v 1).Perm W := by
  have hv1 := h.ok v hv
  have back : ∀ u ∈ W, lin p (lin p u v 1) v (-1) = u := fun u hu => by
    rw [lin_twice (h.ok u hu).2 hv1.2]
    exact lin_none (h.ok u hu) hv1.2
  have forth : ∀ u ∈ W, lin p (lin p u v (-1)) v 1 = u := fun u hu => by
    rw [lin_twice (h.ok u hu).2 hv1.2]
    exact lin_none (h.ok u hu) hv1.2
  refine (List.perm_ext_iff_of_nodup (nodup_map_on h.nd fun a ha b hb e => ?_) h.nd).mpr fun y => ⟨fun hy => ?_, fun hy => ?_⟩
  · rw [← back a ha, ← back b hb, e]
  · obtain ⟨u, hu, rfl⟩ := List.mem_map.mp hy
    exact h.lin u hu v hv 1
  · exact List.mem_map.mpr ⟨lin p y v (-1), h.lin y hy v hv (-1), forth y hy⟩
theorem chi_sum {p : Int} {n : Nat} {W : List (List Int)} {y : List Int} (hp : isP p = true) (h : Sub p n W) (hy : y.length = n) : sI W (fun x => chi p (sm y x)) = if (W.all fun x => decide (sm y x % p = 0)) = true then (W.length : Int) else 0 := by
  have hp' := isP_okP hp
  have hp2 : 1 < p := by have : p = 2 ∨ p = 3 ∨ p = 5 ∨ p = 7 := of_decide_eq_true hp; omega
  split
  · rename_i hc
    rw [← sI_one]
    refine sI_congr fun x hx => ?_
    have := of_decide_eq_true (List.all_eq_true.mp hc x hx)
    unfold chi
    rw [if_pos this, if_neg (by omega)]
    rfl
  · rename_i hc
    obtain ⟨x0, hx0, hn⟩ : ∃ x ∈ W, sm y x % p ≠ 0 := by
      apply Classical.byContradiction
      intro hne
      exact hc (List.all_eq_true.mpr fun x hx => decide_eq_true (Classical.byContradiction fun z => hne ⟨x, hx, z⟩))
    obtain ⟨a, ha⟩ := inv_ex hp hn
    have hx1 := h.lin _ h.zero x0 hx0 a
    have hs1 : sm y (lin p (List.replicate n 0) x0 a) % p = 1 := by
      rw [sm_lin p a y _ _ (by simp [hy]) (by simp [(h.ok x0 hx0).2])]
      have : sm y (List.replicate n 0) % p = 0 := by rw [sm_comm]; exact sm_zw p n y
      rw [Int.add_emod, this, Int.zero_add, Int.emod_emod]
      exact ha
    generalize lin p (List.replicate n 0) x0 a = v at *
    have hperm := Sub_shift hp' h hx1
    have hsh : ∀ x ∈ W, sm y (lin p x v 1) % p = (sm y x % p + 1) % p := fun x hx => by
      rw [sm_lin p 1 y _ _ (by rw [hy, (h.ok x hx).2]) (by rw [(h.ok v hx1).2, (h.ok x hx).2]), Int.mul_one, Int.add_emod, hs1]
    have e1 := sI_perm hperm fun x => if sm y x % p = 1 then 1 else 0
    rw [sI_map] at e1
    have e2 : sI W (fun x => if sm y (lin p x v 1) % p = 1 then (1 : Int) else 0) = sI W fun x => if sm y x % p = 0 then 1 else 0 := by
      refine sI_congr fun x hx => ?_
      rw [hsh x hx]
      have h1 : 0 ≤ sm y x % p := Int.emod_nonneg _ (by omega)
      have h2 : sm y x % p < p := Int.emod_lt_of_pos _ (by omega)
      by_cases q : sm y x % p = 0
      · rw [if_pos q, if_pos]
        rw [q, Int.zero_add]
        exact Int.emod_eq_of_lt (by omega) (by omega)
      · rw [if_neg q, if_neg]
        intro z
        by_cases q2 : sm y x % p + 1 = p
        · rw [q2, Int.emod_self] at z; omega
        · rw [Int.emod_eq_of_lt (by omega) (by omega)] at z; omega
    rw [e2] at e1
    have e3 : sI W (fun x => chi p (sm y x)) + sI W (fun x => if sm y x % p = 1 then (1 : Int) else 0) = sI W fun x => if sm y x % p = 0 then 1 else 0 := by
      rw [← sI_add]
      refine sI_congr fun x _ => ?_
      unfold chi
      omega
    omega

theorem dotN_sm : ∀ {n : Nat} {x y : List Int}, x.length = n → y.length = n → dotN n x y = sm x y
  | 0, x, y, hx, hy => by
    have e1 := List.eq_nil_of_length_eq_zero hx
    subst e1
    simp [dotN, sm]
  | n + 1, [], y, hx, hy => by simp at hx
  | n + 1, a :: x, [], hx, hy => by simp at hy
  | n + 1, a :: x, b :: y, hx, hy => by
    have ih := dotN_sm (n := n) (x := x) (y := y) (by simpa using hx) (by simpa using hy)
    rw [sm_cons, ← ih]
    unfold dotN
    rw [List.range_succ_eq_map, List.map_cons, List.sum_cons, List.map_map]
    simp [Function.comp_def]
def dualL (p : Int) (n : Nat) (W : List (List Int)) : List (List Int) := (allN p n).filter fun y => W.all fun x => decide (dotN n x y % p = 0)
theorem allN_ok {p : Int} {n : Nat} (hn : n ≤ 1000) {w : List Int} : w ∈ allN p n ↔ ok1 p n w := by
  rw [allN_mem]
  exact ⟨fun ⟨h1, h2⟩ => ⟨okW_iff.mpr ⟨by omega, h2⟩, h1⟩, fun ⟨h1, h2⟩ => ⟨h2, (okW_iff.mp h1).2⟩⟩
theorem Sub_all {p : Int} {n : Nat} (hp : okP p = true) (hn : n ≤ 1000) : Sub p n (allN p n) :=
  ⟨allN_nd p n, fun w hw => (allN_ok hn).mp hw, (allN_ok hn).mpr (ok_zero hp hn), fun u hu v hv a => (allN_ok hn).mpr (ok_lin hp ((allN_ok hn).mp hu) ((allN_ok hn).mp hv))⟩
theorem dual_mem {p : Int} {n : Nat} (hn : n ≤ 1000) {W : List (List Int)} (hW : ∀ w ∈ W, ok1 p n w) {y : List Int} : y ∈ dualL p n W ↔ ok1 p n y ∧ ∀ x ∈ W, sm y x % p = 0 := by
  unfold dualL
  rw [List.mem_filter, allN_ok hn, List.all_eq_true]
  refine ⟨fun ⟨h1, h2⟩ => ⟨h1, fun x hx => ?_⟩, fun ⟨h1, h2⟩ => ⟨h1, fun x hx => ?_⟩⟩
  · have := of_decide_eq_true (h2 x hx)
    rw [dotN_sm (hW x hx).2 h1.2, sm_comm] at this
    exact this
  · rw [dotN_sm (hW x hx).2 h1.2, sm_comm]
    exact decide_eq_true (h2 x hx)
theorem Sub_dual {p : Int} {n : Nat} (hp : okP p = true) (hn : n ≤ 1000) {W : List (List Int)} (hW : ∀ w ∈ W, ok1 p n w) : Sub p n (dualL p n W) := by
  refine ⟨(allN_nd p n).filter _, fun w hw => ((dual_mem hn hW).mp hw).1, (dual_mem hn hW).mpr ⟨ok_zero hp hn, fun x hx => sm_zw p n x⟩, fun u hu v hv a => ?_⟩
  obtain ⟨u1, u2⟩ := (dual_mem hn hW).mp hu
  obtain ⟨v1, v2⟩ := (dual_mem hn hW).mp hv
  refine (dual_mem hn hW).mpr ⟨ok_lin hp u1 v1, fun x hx => ?_⟩
  rw [sm_comm, sm_lin p a x u v (by rw [(hW x hx).2, u1.2]) (by rw [v1.2, u1.2]), Int.add_emod, Int.mul_emod, sm_comm x u, sm_comm x v, u2 x hx, v2 x hx]
  simp
theorem chi_dual {p : Int} {n : Nat} (hp : isP p = true) (hn : n ≤ 1000) {W : List (List Int)} (h : Sub p n W) {y : List Int} (hy : ok1 p n y) : sI W (fun x => chi p (sm y x)) = if y ∈ dualL p n W then (W.length : Int) else 0 := by
  rw [chi_sum hp h hy.2]
  by_cases q : y ∈ dualL p n W
  · rw [if_pos q, if_pos]
    exact List.all_eq_true.mpr fun x hx => decide_eq_true (((dual_mem hn h.ok).mp q).2 x hx)
  · rw [if_neg q, if_neg]
    intro z
    exact q ((dual_mem hn h.ok).mpr ⟨hy, fun x hx => of_decide_eq_true (List.all_eq_true.mp z x hx)⟩)
theorem dual_all {p : Int} {n : Nat} (hp : isP p = true) (hn : n ≤ 1000) {y : List Int} (hy : ok1 p n y) : y ∈ dualL p n (allN p n) ↔ y = List.replicate n 0 := by
  have hp' := isP_okP hp
  have hp2 : 1 < p := by have : p = 2 ∨ p = 3 ∨ p = 5 ∨ p = 7 := of_decide_eq_true hp; omega
  rw [dual_mem hn fun w hw => (allN_ok hn).mp hw]
  refine ⟨fun ⟨_, h⟩ => ?_, fun e => ⟨hy, fun x _ => by rw [e]; exact sm_zw p n x⟩⟩
  refine g_ext hy.2 (by simp) fun j hj => ?_
  rw [g_zero]
  have hu : ok1 p n ((List.replicate n (0 : Int)).set j 1) := by
    refine ⟨okW_iff.mpr ⟨by simpa using hn, fun x hx => ?_⟩, by simp⟩
    rcases List.mem_or_eq_of_mem_set hx with hx | rfl
    · rw [(List.mem_replicate.mp hx).2]; omega
    · omega
  have h1 := h _ ((allN_ok hn).mpr hu)
  rw [sm_one y _ j (by rw [hy.2]; exact hj) (by simpa using hj) (fun k hk => by rw [g_set_ne hk, g_zero, Int.mul_zero]), g_set (by simpa using hj), Int.mul_one, g_mod hy hj] at h1
  exact h1
theorem dual_card {p : Int} {n : Nat} (hp : isP p = true) (hn : n ≤ 1000) {W : List (List Int)} (h : Sub p n W) : (W.length : Int) * ((dualL p n W).length : Int) = ((allN p n).length : Int) := by
  have hp' := isP_okP hp
  have e1 : sI (allN p n) (fun y => sI W fun x => chi p (sm y x)) = (W.length : Int) * ((dualL p n W).length : Int) := by
    rw [← sI_one (dualL p n W), ← sI_mul]
    have e : dualL p n W = (allN p n).filter fun y => decide (y ∈ dualL p n W) := by
      have : ∀ y ∈ allN p n, (W.all fun x => decide (dotN n x y % p = 0)) = decide (y ∈ dualL p n W) := fun y hy => by
        rw [Bool.eq_iff_iff]
        simp [dualL, List.mem_filter, hy]
      exact List.filter_congr this
    conv => rhs; rw [e]
    rw [sI_filter]
    refine sI_congr fun y hy => ?_
    rw [chi_dual hp hn h ((allN_ok hn).mp hy)]
    simp
  have e2 : sI (allN p n) (fun y => sI W fun x => chi p (sm y x)) = ((allN p n).length : Int) := by
    rw [sI_swap]
    have e3 : ∀ x ∈ W, sI (allN p n) (fun y => chi p (sm y x)) = if x = List.replicate n 0 then ((allN p n).length : Int) else 0 := fun x hx => by
      have := chi_dual hp hn (Sub_all hp' hn) (h.ok x hx)
      rw [sI_congr (k := fun y => chi p (sm x y)) (fun y _ => by rw [sm_comm]), this]
      by_cases q : x = List.replicate n 0
      · rw [if_pos q, if_pos ((dual_all hp hn (h.ok x hx)).mpr q)]
      · rw [if_neg q, if_neg (fun z => q ((dual_all hp hn (h.ok x hx)).mp z))]
    rw [sI_congr e3]
    have h0 := h.zero
    have hnd := h.nd
    clear e3 e1 h
    induction W with
    | nil => cases h0
    | cons x W ih =>
      rw [sI_cons]
      obtain ⟨n1, n2⟩ := List.nodup_cons.mp hnd
      by_cases q : x = List.replicate n 0
      · subst q
        rw [if_pos rfl, sI_congr (k := fun _ => 0) (fun y hy => if_neg (fun (z : y = List.replicate n 0) => n1 (by rw [← z]; exact hy))), sI_zero]
        omega
      · rw [if_neg q, ih ((List.mem_cons.mp h0).resolve_left fun z => q z.symm) n2]
        omega
  rw [← e1, e2]
theorem filter_eq {α : Type} {P Q : α → Bool} : ∀ {l : List α}, (∀ x ∈ l, P x = true → Q x = true) → (l.filter P).length ≤ (l.filter Q).length ∧ ((l.filter P).length = (l.filter Q).length → l.filter P = l.filter Q)
  | [], _ => ⟨Nat.le_refl _, fun _ => rfl⟩
  | x :: l, h => by
    obtain ⟨i1, i2⟩ := filter_eq (l := l) fun y hy => h y (List.mem_cons_of_mem _ hy)
    have hx := h x List.mem_cons_self
    cases hP : P x with
    | true =>
      have hQ := hx hP
      rw [List.filter_cons_of_pos hP, List.filter_cons_of_pos hQ, List.length_cons, List.length_cons]
      exact ⟨by omega, fun e => by rw [i2 (by omega)]⟩
    | false =>
      rw [List.filter_cons_of_neg (by simp [hP])]
      cases hQ : Q x with
      | true =>
        rw [List.filter_cons_of_pos hQ, List.length_cons]
        exact ⟨by omega, fun e => by omega⟩
      | false =>
        rw [List.filter_cons_of_neg (by simp [hQ])]
        exact ⟨i1, i2⟩
theorem dual_dual {p : Int} {n : Nat} (hp : isP p = true) (hn : n ≤ 1000) {W : List (List Int)} (h : Sub p n W) : (dualL p n (dualL p n W)).Perm W := by
  have hp' := isP_okP hp
  have hD := Sub_dual hp' hn h.ok
  have c1 := dual_card hp hn h
  have c2 := dual_card hp hn hD
  have hpos : 0 < ((dualL p n W).length : Int) := by
    have := List.length_pos_of_mem hD.zero
    omega
  have hlen : (dualL p n (dualL p n W)).length = W.length := by
    have : ((dualL p n W).length : Int) * ((dualL p n (dualL p n W)).length : Int) = ((dualL p n W).length : Int) * (W.length : Int) := by rw [c2, ← c1, Int.mul_comm]
    have := Int.eq_of_mul_eq_mul_left (by omega) this
    omega
  have hsub : ∀ x ∈ W, x ∈ dualL p n (dualL p n W) := fun x hx => (dual_mem hn hD.ok).mpr ⟨h.ok x hx, fun y hy => by rw [sm_comm]; exact ((dual_mem hn h.ok).mp hy).2 x hx⟩
  have e1 : ((allN p n).filter fun x => decide (x ∈ W)).Perm W := (List.perm_ext_iff_of_nodup ((allN_nd p n).filter _) h.nd).mpr fun x => by
    rw [List.mem_filter, decide_eq_true_eq, allN_ok hn]
    exact ⟨fun z => z.2, fun z => ⟨h.ok x z, z⟩⟩
  have e2 : dualL p n (dualL p n W) = (allN p n).filter fun x => decide (x ∈ W) := by
    have := filter_eq (l := allN p n) (P := fun x => decide (x ∈ W)) (Q := fun y => (dualL p n W).all fun x => decide (dotN n x y % p = 0)) fun x hx hx2 => (List.mem_filter.mp (hsub x (of_decide_eq_true hx2))).2
    refine (this.2 ?_).symm
    rw [e1.length_eq]
    exact hlen.symm
  rw [e2]
  exact e1
end Lq

namespace Lq
open PySem PySem.Spec PyProof.Rows L2
end Lq

namespace Lq
open PySem PySem.Spec PyProof.Rows L2
end Lq

namespace Lq
open PySem PySem.Spec PyProof.Rows L2

end Lq

namespace Lq
open PySem PySem.Spec PyProof.Rows L2
end Lq

namespace Lq
open PySem PySem.Spec PyProof.Rows L2
def bump (cs : List Int) (i : Nat) : List Int := cs.set i (cs.getD i 0 + 1)
end Lq

namespace Lq
open PySem PySem.Spec PyProof.Rows L2
end Lq

namespace Lq
open PySem PySem.Spec PyProof.Rows L2
end Lq

namespace Lq
open PySem PySem.Spec PyProof.Rows L2
def krow (p : Int) (n i : Nat) : List Int := (List.range (n + 1)).map fun j : Nat => krawI p (n : Int) (j : Int) (i : Int)
def q0 (p : Int) (n : Nat) (tb : List Dt) (x4 x5 x6 x7 x8 : Sv) (M : List Mo) : Ms := { sl := [.im (.int p), .im (.int (n : Int)), .im (.lst ((allN p n).map Wd)), .mu 0, x4, x5, x6, x7, x8, .no, .no], mo := .ob (.ls tb) :: M }
def kTab (p : Int) (n : Nat) : List Dt := (List.range (n + 1)).map fun i => Dt.lst ((krow p n i).map Dt.int)
def eS (p : Int) (n : Nat) (v acc : List Int) (x5 x6 x7 : Sv) : Ms := { sl := [.im (.int p), .im (.int (n : Int)), .im (Wd v), .im (.lst (kTab p n)), .mu 0, x5, x6, x7], mo := [.ob (.ls (acc.map Dt.int))] }
end Lq

namespace Lq
open PySem PySem.Spec PyProof.Rows L2
theorem Sub_words {p : Int} {n : Nat} {rows : List (List Int)} (hp : okP p = true) (hn : n ≤ 1000) (hok : okR p n rows) : Sub p n (sortW (spanL p n rows)) := by
  have hperm : (sortW (spanL p n rows)).Perm (spanL p n rows) := List.mergeSort_perm _ _
  have hm : ∀ w, w ∈ sortW (spanL p n rows) ↔ Sp p n rows w := fun w => by rw [hperm.mem_iff, spanL_iff hp hn hok]
  exact ⟨hperm.nodup_iff.mpr spanL_nd, fun w hw => Sp_ok hp hn hok ((hm w).mp hw), (hm _).mpr .zero, fun u hu v hv a => (hm _).mpr (Sp_lin hp hn hok ((hm u).mp hu) ((hm v).mp hv))⟩
end Lq

namespace Lq
open PySem PySem.Spec PyProof.Rows L2
end Lq

namespace Lq
open PySem PySem.Spec PyProof.Rows L2
section
variable {p : Int} {n : Nat}
def ext (p : Int) (w : List Int) : List Int := w ++ [p - 1]
variable {rows : List (List Int)} {right : List Int}
end
end Lq

namespace Lq
open PySem PySem.Spec PyProof.Rows L2
theorem ok_all {p : Int} {n : Nat} (hn : n ≤ 1000) {w : List Int} : w ∈ allN p n ↔ ok1 p n w := by
  rw [allN_mem]
  constructor
  · rintro ⟨h1, h2⟩
    exact ⟨okW_iff.mpr ⟨by omega, h2⟩, h1⟩
  · rintro ⟨h1, h2⟩
    exact ⟨h2, (okW_iff.mp h1).2⟩
section
variable {p : Int} {n : Nat} {rows : List (List Int)} {q : Int × Int} {s : Red}

end
end Lq

namespace Lq
open PySem PySem.Spec PyProof.Rows L2
section
variable {p : Int} {n : Nat} {rows : List (List Int)} {q : Int × Int} {s : Red} {x10 x21 x22 : Sv}
end
end Lq

namespace Lq
open PySem PySem.Spec PyProof.Rows L2
section
variable {p : Int} {n : Nat} {rows : List (List Int)} {q : Int × Int} {s : Red} {x10 x11 x12 x13 x16 x18 x19 x20 x21 x22 : Sv} {v w : List Int} {a : Int} {ws : List Int}

theorem Fisword_run {d : Dt} {m : Int} (h : okV d = true) : Fisword [d, .int p, .int m] = .ok (.bl (wordB p m d)) := by
  unfold Fisword
  dsimp only
  rw [if_pos h]
end
end Lq

namespace Lq
open PySem PySem.Spec PyProof.Rows L2
section
variable {p : Int} {n : Nat} {rows : List (List Int)} {q : Int × Int} {s : Red} {x10 x11 x12 x13 x15 x16 x17 x18 x20 x21 x22 : Sv} {v w : List Int}
end
end Lq

namespace Lq
open PySem PySem.Spec PyProof.Rows L2
section
variable {p : Int} {n : Nat} {rows : List (List Int)} {s : Red}
end
end Lq

namespace Lq
open PySem PySem.Spec PyProof.Rows L2
def wstep (p : Int) (ws : List (List Int)) (r : List Int) : List (List Int) := ws.flatMap fun w => (List.range p.toNat).map fun (a : Nat) => addW p w (scW p (a : Int) r)
def wordsF (p : Int) (n : Nat) (T : List (List Int)) : List (List Int) := T.foldl (wstep p) [List.replicate n 0]
def LtAt (b : Nat) (w v : List Int) : Prop := ∃ d < b, (∀ j < d, g w j = g v j) ∧ g w d < g v d
theorem ltAt_lt : ∀ {w v : List Int} {b : Nat}, w.length = v.length → b ≤ w.length → LtAt b w v → w < v
  | [], [], b, _, hb, ⟨d, hd, _⟩ => by simp at hb; omega
  | x :: w, y :: v, b, hl, hb, ⟨0, hd, _, h2⟩ => by
    have h2 : x < y := h2
    exact List.cons_lt_cons_iff.mpr (.inl h2)
  | x :: w, y :: v, b, hl, hb, ⟨d + 1, hd, h1, h2⟩ => by
    have e : x = y := h1 0 (by omega)
    have hl' : w.length = v.length := by simpa using hl
    refine List.cons_lt_cons_iff.mpr (.inr ⟨e, ltAt_lt (b := b - 1) hl' (by simp at hb; omega) ⟨d, by omega, fun j hj => ?_, ?_⟩⟩)
    · exact h1 (j + 1) (by omega)
    · exact h2
theorem LtAt.mono {b c : Nat} {w v : List Int} (h : LtAt b w v) (e : b ≤ c) : LtAt c w v := let ⟨d, h1, h2⟩ := h; ⟨d, by omega, h2⟩
theorem g_addsc {p : Int} {n : Nat} {w r : List Int} {a : Int} (hw : w.length = n) (hr : r.length = n) {j : Nat} (hj : j < n) : g (addW p w (scW p a r)) j = (g w j + g r j * a) % p := g_lin hw hr hj
theorem wstep_asc {p : Int} {n b c : Nat} {ws : List (List Int)} {r : List Int} (hp : isP p = true) (hr : ok1 p n r) (hws : ∀ w ∈ ws, ok1 p n w) (hbc : b ≤ c) (hc : c < n) (h1 : g r c = 1) (h0 : ∀ j < c, g r j = 0) (hz : ∀ w ∈ ws, g w c = 0) (h : ws.Pairwise (LtAt b)) :
    (wstep p ws r).Pairwise (LtAt (c + 1)) := by
  have hpp := isP_okP hp
  have hp0 : 0 < p := (okP_iff.mp hpp).1
  unfold wstep
  induction ws with
  | nil => exact List.Pairwise.nil
  | cons w ws ih =>
    rw [List.flatMap_cons, List.pairwise_append]
    have hw := hws w List.mem_cons_self
    rw [List.pairwise_cons] at h
    have low : ∀ {u : List Int} {a : Nat}, ok1 p n u → ∀ j < c, g (addW p u (scW p (a : Int) r)) j = g u j := fun {u a} hu j hj => by
      rw [g_addsc hu.2 hr.2 (by omega), h0 j hj, Int.zero_mul, Int.add_zero, g_mod hu (by omega)]
    refine ⟨?_, ih (fun u hu => hws u (List.mem_cons_of_mem _ hu)) (fun u hu => hz u (List.mem_cons_of_mem _ hu)) h.2, fun x hx y hy => ?_⟩
    · rw [List.pairwise_map]
      refine List.Pairwise.imp_of_mem (fun {a a'} ha ha' hlt => ?_) List.pairwise_lt_range
      have ha := List.mem_range.mp ha
      have ha' := List.mem_range.mp ha'
      refine ⟨c, by omega, fun j hj => by rw [low hw j hj, low hw j hj], ?_⟩
      rw [g_addsc hw.2 hr.2 hc, g_addsc hw.2 hr.2 hc, hz w List.mem_cons_self, h1]
      rw [Int.zero_add, Int.one_mul, Int.zero_add, Int.one_mul, Int.emod_eq_of_lt (by omega) (by omega), Int.emod_eq_of_lt (by omega) (by omega)]
      omega
    · obtain ⟨a, _, rfl⟩ := List.mem_map.mp hx
      obtain ⟨u, hu, hy⟩ := List.mem_flatMap.mp hy
      obtain ⟨a', _, rfl⟩ := List.mem_map.mp hy
      obtain ⟨d, hd, e1, e2⟩ := h.1 u hu
      have hu' := hws u (List.mem_cons_of_mem _ hu)
      exact ⟨d, by omega, fun j hj => by rw [low hw j (by omega), low hu' j (by omega)]; exact e1 j hj, by rw [low hw d (by omega), low hu' d (by omega)]; exact e2⟩
theorem wstep_ok {p : Int} {n : Nat} {ws : List (List Int)} {r : List Int} (hp : okP p = true) (hr : ok1 p n r) (hws : ∀ w ∈ ws, ok1 p n w) : ∀ w ∈ wstep p ws r, ok1 p n w := fun y hy => by
  obtain ⟨w, hw, hy⟩ := List.mem_flatMap.mp hy
  obtain ⟨a, _, rfl⟩ := List.mem_map.mp hy
  exact ok_lin hp (hws w hw) hr
theorem wstep_len {p : Int} (ws : List (List Int)) (r : List Int) : (wstep p ws r).length = ws.length * p.toNat := by
  unfold wstep
  induction ws with
  | nil => simp
  | cons w ws ih => rw [List.flatMap_cons, List.length_append, ih]; simp [Nat.succ_mul, Nat.add_comm]
theorem wstep_mem {p : Int} {ws : List (List Int)} {r y : List Int} : y ∈ wstep p ws r ↔ ∃ w ∈ ws, ∃ a : Nat, a < p.toNat ∧ y = addW p w (scW p (a : Int) r) := by
  unfold wstep
  simp only [List.mem_flatMap, List.mem_map, List.mem_range]
  exact ⟨fun ⟨w, h, a, h1, e⟩ => ⟨w, h, a, h1, e.symm⟩, fun ⟨w, h, a, h1, e⟩ => ⟨w, h, a, h1, e.symm⟩⟩
theorem wordsF_take {p : Int} {n : Nat} {T : List (List Int)} {P : List Nat} (hp : isP p = true) (hn : n ≤ 1000) (hT : okR p n T) (h : Rr n T P) : ∀ k, k ≤ T.length → ∃ b, (wordsF p n (T.take k)).Pairwise (LtAt b) ∧ b ≤ n ∧ (∀ i, k ≤ i → i < P.length → b ≤ pk P i) ∧ (∀ w ∈ wordsF p n (T.take k), ok1 p n w) ∧
    (∀ w ∈ wordsF p n (T.take k), ∀ i, k ≤ i → i < P.length → g w (pk P i) = 0) ∧ (∀ y, y ∈ wordsF p n (T.take k) ↔ y ∈ spanL p n (T.take k)) ∧ (wordsF p n (T.take k)).length = p.toNat ^ k
  | 0, _ => by
    have hpp := isP_okP hp
    refine ⟨0, ?_, Nat.zero_le _, fun _ _ _ => Nat.zero_le _, ?_, ?_, ?_, ?_⟩
    · simp [wordsF]
    · intro w hw
      have : w = List.replicate n 0 := by simpa [wordsF] using hw
      rw [this]; exact ok_zero hpp hn
    · intro w hw i _ _
      have : w = List.replicate n 0 := by simpa [wordsF] using hw
      rw [this]; exact g_zero
    · intro y; simp [wordsF, spanL]
    · simp [wordsF]
  | k + 1, hk => by
    have hpp := isP_okP hp
    obtain ⟨b, h1, h2, h3, h4, h5, h6, h7⟩ := wordsF_take hp hn hT h k (by omega)
    have hkP : k < P.length := by rw [← h.len]; omega
    have hkT : k < T.length := by omega
    have hrow : ok1 p n (tk T k) := hT _ (tk_mem hkT)
    have et : T.take (k + 1) = T.take k ++ [tk T k] := by
      rw [List.take_add_one, List.getElem?_eq_getElem hkT]
      unfold tk
      rw [List.getD_eq_getElem?_getD, List.getElem?_eq_getElem hkT]; rfl
    have ew : wordsF p n (T.take (k + 1)) = wstep p (wordsF p n (T.take k)) (tk T k) := by
      rw [et]; unfold wordsF; rw [List.foldl_append]; rfl
    have hc := h.lt k hkP
    rw [ew]
    refine ⟨pk P k + 1, wstep_asc hp hrow h4 (h3 k (Nat.le_refl _) hkP) hc (h.one k hkP) (h.low k hkP) (fun w hw => h5 w hw k (Nat.le_refl _) hkP) h1, hc, fun i hi hi' => h.asc k i (by omega) hi', wstep_ok hpp hrow h4, ?_, ?_, ?_⟩
    · intro w hw i hi hi'
      obtain ⟨u, hu, a, _, rfl⟩ := wstep_mem.mp hw
      have hi2 := h.lt i hi'
      rw [g_addsc (h4 u hu).2 hrow.2 hi2, h5 u hu i (by omega) hi', h.zro k i hkP hi' (by omega)]
      simp
    · intro y
      rw [et, spanL_snoc, widen_mem, wstep_mem]
      simp only [h6]
    · rw [wstep_len, h7, Nat.pow_succ]
theorem wordsF_sort {p : Int} {n : Nat} {T : List (List Int)} {P : List Nat} (hp : isP p = true) (hn : n ≤ 1000) (hT : okR p n T) (h : Rr n T P) : wordsF p n T = sortW (spanL p n T) ∧ (wordsF p n T).length = p.toNat ^ T.length ∧ ∀ w ∈ wordsF p n T, ok1 p n w := by
  obtain ⟨b, h1, h2, h3, h4, h5, h6, h7⟩ := wordsF_take hp hn hT h T.length (Nat.le_refl _)
  rw [List.take_length] at h1 h4 h5 h6 h7
  have hlt : (wordsF p n T).Pairwise (· < ·) := List.Pairwise.imp_of_mem (fun {a c} ha hc q => ltAt_lt (by rw [(h4 a ha).2, (h4 c hc).2]) (by rw [(h4 a ha).2]; exact h2) q) h1
  have hnd : (wordsF p n T).Nodup := hlt.imp fun {a c} q e => by subst e; exact List.lt_irrefl _ q
  refine ⟨?_, h7, h4⟩
  have e1 : sortW (wordsF p n T) = wordsF p n T := by
    unfold sortW
    exact List.mergeSort_of_pairwise (hlt.imp fun {a c} q => by simpa using List.le_of_lt q)
  rw [← e1]
  exact sort_eq hnd spanL_nd h6
end Lq

namespace Lq
open PySem PySem.Spec PyProof.Rows L2

noncomputable def m14_is_prime : Ms → O := (retS (andV (funE 1 (aCons (varE 0) aNil) Fisint) (op2 (varE 0) (cE (.scr true [.int 2, .int 3, .int 5, .int 7])) (inI false))))
noncomputable def Fisprime : List Dt → Fo := runD 1 (m14_is_prime)
noncomputable def m14_check_rows (CM CR : Addr) : Ms → O := (seqS (ifS (orT (notT (truT (funE 1 (aCons (varE 0) aNil) Fisprime))) (orT (notT (truT (funE 1 (aCons (varE 1) aNil) Fisint))) (tst (op2 (varE 1) (cE (.int 0)) ltO)))) (raiseS ⟨CM, [], []⟩) nilS)
  (seqS (ifS (tst (op2 (varE 1) (cE (.int 12)) gtO)) (raiseS ⟨CR, ["reason"], [.str "length"]⟩) nilS)
  (seqS (ifS (notT (truT (op1 (varE 2) (isi2O "list" "tuple")))) (raiseS ⟨CM, [], []⟩) nilS)
  (ifS (notT (truT (calE (aCons (frz (lcE (itS (varE 2)) (Tk.nm 3).k yesT (funE 3 (aCons (varE 3) (aCons (varE 0) (aCons (varE 1) aNil))) Fisword) [3])) aNil) allO))) (raiseS ⟨CM, [], []⟩) nilS))))
noncomputable def Fchk (CM CR : Addr) : List Dt → Fo := runD 4 (m14_check_rows CM CR)
noncomputable def m14_Code___init__ (CC CM CR : Addr) : Ms → O := (seqS (dropS (funE 3 (aCons (varE 1) (aCons (varE 2) (aCons (varE 3) aNil))) (Fchk CM CR)))
  (seqS (asgT (Tk.tp [4, 5]) (funE 3 (aCons (varE 3) (aCons (varE 2) (aCons (varE 1) aNil))) Freduced))
  (seqS (ifS (tst (op2 (funE 2 (aCons (varE 1) (aCons (calE (aCons (varE 4) aNil) lenO) aNil)) Fpow) (cE (.int 4096)) gtO)) (raiseS ⟨CR, ["reason"], [.str "large"]⟩) nilS)
  (seqS (fldS CC "p" 0 (varE 1))
  (seqS (fldS CC "n" 0 (varE 2))
  (seqS (fldS CC "rows" 0 (varE 4))
  (seqS (fldS CC "k" 0 (calE (aCons (varE 4) aNil) lenO))
  (fldS CC "_checks" 0 (funE 3 (aCons (varE 4) (aCons (varE 2) (aCons (varE 1) aNil))) Fkernel)))))))))
noncomputable def Finit (CC CM CR : Addr) : List Dt → Fo := runI CC 6 (m14_Code___init__ CC CM CR)
noncomputable def m14_Code_words (CC : Addr) : Ms → O := (seqS (asgN 1 (lstE (aCons (op2 (tupE (aCons (cE (.int 0)) aNil)) (fldE CC "n" (varE 0)) repT) aNil)))
  (forS (itS (fldE CC "rows" (varE 0))) (Tk.nm 2).k (seqS (asgS 3 (frz (lcE (itR1 (aCons (fldE CC "p" (varE 0)) aNil)) (Tk.nm 4).k yesT (funE 3 (aCons (varE 2) (aCons (varE 4) (aCons (fldE CC "p" (varE 0)) aNil))) FscW) [4])))
  (asgN 1 (lcE2 (itS (varE 1)) (Tk.nm 5).k yesT (itS (varE 3)) (Tk.nm 6).k yesT (funE 3 (aCons (varE 5) (aCons (varE 6) (aCons (fldE CC "p" (varE 0)) aNil))) FaddW) [5, 6] [6])))))
noncomputable def Fwords (CC : Addr) : List Dt → FoN := runN 7 (seqN (m14_Code_words CC) (retNV 1))
end Lq

namespace Lq
open PySem PySem.Spec PyProof.Rows L2
theorem isi2_of {T U : String} {d : Dt} {n : String} {b c : Bool} (h : tyN d = some n) (h1 : kitB n T = some b) (h2 : kitB n U = some c) : isi2O T U d = some (.bl (b || c)) := by unfold isi2O; rw [h, Option.bind_some, h1, Option.bind_some, h2]; rfl
theorem isi2_lst (xs : List Dt) : isi2O "list" "tuple" (.lst xs) = some (.bl true) := isi2_of (n := "list") (b := true) (c := false) rfl (by decide +kernel) (by decide +kernel)
theorem isi2_tup (xs : List Dt) : isi2O "list" "tuple" (.tup xs) = some (.bl true) := isi2_of (n := "tuple") (b := false) (c := true) rfl (by decide +kernel) (by decide +kernel)
theorem Fisprime_run {p : Int} : Fisprime [.int p] = .ok (.bl (isP p)) := by
  have hi := Fisint_run (d := .int p) rfl
  have hm : inI false (.int p) (.scr true [.int 2, .int 3, .int 5, .int 7]) = some (.bl (isP p)) := by
    have h2 : seqOf (.scr true [.int 2, .int 3, .int 5, .int 7]) = some ([2, 3, 5, 7].map Dt.int) := rfl
    unfold inI
    dsimp only
    rw [h2, Option.bind_some, intsOf_map]
    unfold isP
    simp
  unfold Fisprime runD m14_is_prime
  simp [st0, hi, isI, hm, O.fo]
theorem wordB_ok {p : Int} {n : Nat} {v : List Int} : wordB p (n : Int) (Wd v) = decide (v.length = n ∧ ∀ x ∈ v, 0 ≤ x ∧ x < p) := by
  unfold wordB Wd
  dsimp only
  rw [List.all_map, Bool.eq_iff_iff, Bool.and_eq_true, decide_eq_true_eq, List.all_eq_true, decide_eq_true_eq]
  have e : ((v.map Dt.int).length : Int) = (n : Int) ↔ v.length = n := by rw [List.length_map]; omega
  rw [e]
  simp [itB]
theorem wordB_ok1 {p : Int} {n : Nat} {v : List Int} (h : ok1 p n v) : wordB p (n : Int) (Wd v) = true := by
  rw [wordB_ok, decide_eq_true_eq]
  refine ⟨h.2, fun x hx => ?_⟩
  have := h.1
  unfold okW at this
  rw [Bool.and_eq_true, List.all_eq_true] at this
  exact of_decide_eq_true (this.2 x hx)
theorem okV_wd {v : List Int} (h : v.length ≤ 1000) : okV (Wd v) = true := by
  unfold okV Wd
  simp [h, noObj]
theorem Fchk_run (CM CR : Addr) {p : Int} {n : Nat} {rows : List (List Int)} {d : Dt} (hd : d = .lst (rows.map Wd) ∨ d = .tup (rows.map Wd)) (hp : isP p = true) (hn : n ≤ 12) (hl : rows.length ≤ 1000) (h : okR p n rows) : Fchk CM CR [.int p, .int (n : Int), d] = .ok .non := by
  have hi := Fisint_run (d := .int (n : Int)) rfl
  have hpr := Fisprime_run (p := p)
  have hs : seqOf d = some (rows.map Wd) := by rcases hd with rfl | rfl <;> simp
  have ht : isi2O "list" "tuple" d = some (.bl true) := by
    rcases hd with rfl | rfl
    · exact isi2_lst _
    · exact isi2_tup _
  have key : lcE (itS (varE 2)) (Tk.nm 3).k yesT (funE 3 (aCons (varE 3) (aCons (varE 0) (aCons (varE 1) aNil))) Fisword) [3] { sl := [.im (.int p), .im (.int (n : Int)), .im d, .no], mo := [] } = .ok (rows.map fun _ => Dt.bl true) { sl := [.im (.int p), .im (.int (n : Int)), .im d, .no], mo := [] } := by
    refine lcE_map Wd (fun _ => Dt.bl true) rows (by simp [hs]) (fun r hr => ?_) (fun d T T' => Tk.mo) (by omega)
    have hw := Fisword_run (p := p) (m := (n : Int)) (okV_wd (v := r) (by have := (h r hr).2; omega))
    rw [wordB_ok1 (h r hr)] at hw
    refine ⟨_, kNm _ _ _, { sl := [.im (.int p), .im (.int (n : Int)), .im d, .im (Wd r)], mo := [] }, ?_, rfl⟩
    simp [wipeL, hw]
  have hall : allO [.lst (rows.map fun _ => Dt.bl true)] = some (.bl true) := by
    have := allO_run (rows.map fun _ => true)
    rw [List.map_map] at this
    rw [show (Dt.bl ∘ fun (_ : List Int) => true) = fun _ => Dt.bl true from rfl] at this
    rw [this]
    simp
  unfold Fchk runD m14_check_rows
  have hst : st0 4 [.int p, .int (n : Int), d] = { sl := [.im (.int p), .im (.int (n : Int)), .im d, .no], mo := [] } := rfl
  rw [hst]
  have hn2 : ¬ (12 : Int) < (n : Int) := by omega
  have hn3 : ¬ (n : Int) < 0 := by omega
  simp [hpr, hp, hi, isI, hn2, hn3, ht, key, hall, tru_bl, O.fo]
def codeD (CC : Addr) (p : Int) (n : Nat) (T : List (List Int)) : Dt := .obj CC ["p", "n", "rows", "k", "_checks"] [.int p, .int (n : Int), TD T, .int (T.length : Int), TD (kerL p n (redN p T n))]
theorem code_p (CC : Addr) (p : Int) (n : Nat) (T : List (List Int)) : fldO CC "p" (codeD CC p n T) = some (.int p) := by unfold codeD; rw [fldO_self]; rfl
theorem code_n (CC : Addr) (p : Int) (n : Nat) (T : List (List Int)) : fldO CC "n" (codeD CC p n T) = some (.int (n : Int)) := by unfold codeD; rw [fldO_self]; rfl
theorem code_rows (CC : Addr) (p : Int) (n : Nat) (T : List (List Int)) : fldO CC "rows" (codeD CC p n T) = some (TD T) := by unfold codeD; rw [fldO_self]; rfl
theorem code_k (CC : Addr) (p : Int) (n : Nat) (T : List (List Int)) : fldO CC "k" (codeD CC p n T) = some (.int (T.length : Int)) := by unfold codeD; rw [fldO_self]; rfl
theorem code_checks (CC : Addr) (p : Int) (n : Nat) (T : List (List Int)) : fldO CC "_checks" (codeD CC p n T) = some (TD (kerL p n (redN p T n))) := by unfold codeD; rw [fldO_self]; rfl
theorem seqOf_td (T : List (List Int)) : seqOf (TD T) = some (T.map Wd) := rfl
theorem okR_red {p : Int} {n : Nat} {rows : List (List Int)} (hp : isP p = true) (hn : n ≤ 1000) (h : okR p n rows) : okR p n (redN p rows n).T ∧ Rr n (redN p rows n).T (redN p rows n).P ∧ (redN p rows n).T.length ≤ n :=
  ⟨(redN_ok (isP_okP hp) h n).1, (RI_N hp hn h n (Nat.le_refl n)).rr, by have := redN_lens (p := p) (rows := rows) n; omega⟩
def ioS (CC : Addr) (p : Int) (n : Nat) (d : Dt) (T : List (List Int)) (P : List Nat) (ks : List Str) (ds : List Dt) : Ms := { sl := [.mu 0, .im (.int p), .im (.int (n : Int)), .im d, .im (TD T), .im (PD P)], mo := [.ob (.io CC ks ds)] }
theorem ioS_f {CC : Addr} {p : Int} {n : Nat} {d e : Dt} {T : List (List Int)} {P : List Nat} {ks : List Str} {ds : List Dt} {f : Str} {m : Ms → R Dt} (h : m (ioS CC p n d T P ks ds) = .ok e (ioS CC p n d T P ks ds)) (hf : f ∉ ks) (hl : ks.length < 100) : fldS CC f 0 m (ioS CC p n d T P ks ds) = .nx (ioS CC p n d T P (ks ++ [f]) (ds ++ [e])) := by
  rw [fldS_run (k := 0) (ds := ds) h (by rfl) hf hl]
  rfl
theorem Finit_run (CC CM CR : Addr) {p : Int} {n : Nat} {rows : List (List Int)} {d : Dt} (hd : d = .lst (rows.map Wd) ∨ d = .tup (rows.map Wd)) (hp : isP p = true) (hn : n ≤ 12) (hl : rows.length ≤ 1000) (h : okR p n rows) (hk : p ^ (redN p rows n).T.length ≤ 4096) : Finit CC CM CR [.int p, .int (n : Int), d] = .ok (codeD CC p n (redN p rows n).T) := by
  have hs : seqOf d = some (rows.map Wd) := by rcases hd with rfl | rfl <;> simp
  have hc := Fchk_run CM CR hd hp hn hl h
  have hr := Freduced_run (n := n) hs hp (by omega) hl h
  obtain ⟨k1, k2, hT⟩ := okR_red hp (by omega : n ≤ 1000) h
  have hf := Fpow_run (a := p) (k := ((redN p rows n).T.length : Int)) (by have := isP_cases hp; omega) (by omega)
  rw [Int.toNat_natCast] at hf
  have hker := Fkernel_run (seqOf_td (redN p rows n).T) hp (by omega : n ≤ 1000) (by omega) k1
  have hlen := len_td (redN p rows n).T
  unfold redD at hr
  have hr' : Freduced [d, .int (n : Int), .int p] = .ok (.tup [TD (redN p rows n).T, PD (redN p rows n).P]) := hr
  generalize redN p rows n = s at *
  have hk2 : ¬ (4096 : Int) < p ^ s.T.length := by omega
  have e0 : dropS (funE 3 (aCons (varE 1) (aCons (varE 2) (aCons (varE 3) aNil))) (Fchk CM CR)) (stI CC 6 [.int p, .int (n : Int), d]) = .nx { sl := [.mu 0, .im (.int p), .im (.int (n : Int)), .im d, .no, .no], mo := [.ob (.io CC [] [])] } := by
    have hst : stI CC 6 [.int p, .int (n : Int), d] = { sl := [.mu 0, .im (.int p), .im (.int (n : Int)), .im d, .no, .no], mo := [.ob (.io CC [] [])] } := rfl
    rw [hst]
    simp [hc]
  have e1 : asgT (Tk.tp [4, 5]) (funE 3 (aCons (varE 3) (aCons (varE 2) (aCons (varE 1) aNil))) Freduced) { sl := [.mu 0, .im (.int p), .im (.int (n : Int)), .im d, .no, .no], mo := [.ob (.io CC [] [])] } = .nx (ioS CC p n d s.T s.P [] []) := by
    simp [hr', kNames, ioS]
  have e2 : ifS (tst (op2 (funE 2 (aCons (varE 1) (aCons (calE (aCons (varE 4) aNil) lenO) aNil)) Fpow) (cE (.int 4096)) gtO)) (raiseS ⟨CR, ["reason"], [.str "large"]⟩) nilS (ioS CC p n d s.T s.P [] []) = .nx (ioS CC p n d s.T s.P [] []) := by
    simp [ioS, hlen, hf, hk2]
  have e7 : ∀ ks ds, (funE 3 (aCons (varE 4) (aCons (varE 2) (aCons (varE 1) aNil))) Fkernel) (ioS CC p n d s.T s.P ks ds) = .ok (TD (kerL p n (redN p s.T n))) (ioS CC p n d s.T s.P ks ds) := by
    intro ks ds
    simp [ioS, hker]
  have e8 : ∀ ks ds, (calE (aCons (varE 4) aNil) lenO) (ioS CC p n d s.T s.P ks ds) = .ok (.int (s.T.length : Int)) (ioS CC p n d s.T s.P ks ds) := by
    intro ks ds
    simp [ioS, hlen]
  unfold Finit runI m14_Code___init__
  rw [seqS_run, e0, seq_nx, seqS_run, e1, seq_nx, seqS_run, e2, seq_nx, seqS_run, ioS_f (m := varE 1) (e := .int p) rfl (by decide +kernel) (by decide), seq_nx, seqS_run, ioS_f (m := varE 2) (e := .int (n : Int)) rfl (by decide +kernel) (by decide), seq_nx, seqS_run, ioS_f (m := varE 4) (e := TD s.T) rfl (by decide +kernel) (by decide), seq_nx, seqS_run, ioS_f (e8 _ _) (by decide +kernel) (by decide), seq_nx, ioS_f (e7 _ _) (by decide +kernel) (by decide)]
  rfl
end Lq

namespace Lq
open PySem PySem.Spec PyProof.Rows L2
def wcS (C : Dt) (a : Nat) (x2 x3 x4 x5 x6 : Sv) (mo : List Mo) : Ms := { sl := [.im C, .mu a, x2, x3, x4, x5, x6], mo := mo }
noncomputable def wcM (CC : Addr) : Ms → O := asgS 3 (frz (lcE (itR1 (aCons (fldE CC "p" (varE 0)) aNil)) (Tk.nm 4).k yesT (funE 3 (aCons (varE 2) (aCons (varE 4) (aCons (fldE CC "p" (varE 0)) aNil))) FscW) [4]))
noncomputable def wcF (CC : Addr) : Ms → O := asgN 1 (lcE2 (itS (varE 1)) (Tk.nm 5).k yesT (itS (varE 3)) (Tk.nm 6).k yesT (funE 3 (aCons (varE 5) (aCons (varE 6) (aCons (fldE CC "p" (varE 0)) aNil))) FaddW) [5, 6] [6])
def mulW (p : Int) (r : List Int) : List (List Int) := (List.range p.toNat).map fun (a : Nat) => scW p (a : Int) r
theorem wcM_run {CC : Addr} {p : Int} {n a : Nat} {r : List Int} {T : List (List Int)} {x3 x4 x5 x6 : Sv} {mo : List Mo} (hp : isP p = true) (hr : ok1 p n r) : wcM CC (wcS (codeD CC p n T) a (.im (Wd r)) x3 x4 x5 x6 mo) = .nx (wcS (codeD CC p n T) a (.im (Wd r)) (.im (.lst ((mulW p r).map Wd))) x4 x5 x6 mo) := by
  have hc := isP_cases hp
  have hfp := code_p CC p n T
  generalize codeD CC p n T = C at *
  have key : lcE (itR1 (aCons (fldE CC "p" (varE 0)) aNil)) (Tk.nm 4).k yesT (funE 3 (aCons (varE 2) (aCons (varE 4) (aCons (fldE CC "p" (varE 0)) aNil))) FscW) [4] (wcS C a (.im (Wd r)) x3 x4 x5 x6 mo) = .ok ((List.range p.toNat).map fun (k : Nat) => Wd (scW p (k : Int) r)) (wcS C a (.im (Wd r)) x3 x4 x5 x6 mo) := by
    have hp3 : p = (p.toNat : Int) := by omega
    refine lcE_map (fun k : Nat => Dt.int (k : Int)) _ (List.range p.toNat) (itR1_run ?_ (by omega)) (fun k hk => ?_) (fun d T T' => Tk.mo) (by simp; omega)
    · rw [← hp3]
      simp [wcS, hfp]
    · have hs := FscW_run (a := (k : Int)) (isP_okP hp) hr.1
      exact ⟨_, kNm _ _ _, { sl := [.im C, .mu a, .im (Wd r), x3, .im (.int (k : Int)), x5, x6], mo := mo }, by simp [wcS, wipeL, hfp, hs], rfl⟩
  unfold wcM
  rw [asgS_run', frz_run', key, R.bind_ok, R.stmt_ok]
  unfold mulW
  rw [List.map_map]
  rfl
theorem varE_fz {i k : Nat} {S : Ms} {xs : List Dt} (h : S.sl[i]? = some (.mu k)) (h2 : S.mo[k]? = some (.ob (.ls xs))) : varE i S = .ok (.lst xs) { S with mo := S.mo.set k (.fz (.lst xs)) } := by
  unfold varE
  rw [h]
  dsimp only
  rw [h2]
theorem wcF_run {CC : Addr} {p : Int} {n a : Nat} {r : List Int} {T ws : List (List Int)} {x2 x4 x5 x6 : Sv} {mo : List Mo} (hp : isP p = true) (hn : n ≤ 1000) (hr : ok1 p n r) (hws : okR p n ws) (ha : mo[a]? = some (.ob (.ls (ws.map Wd)))) (hl : ws.length * p.toNat ≤ 100000) :
    ∃ b mo', wcF CC (wcS (codeD CC p n T) a x2 (.im (.lst ((mulW p r).map Wd))) x4 x5 x6 mo) = .nx (wcS (codeD CC p n T) b x2 (.im (.lst ((mulW p r).map Wd))) x4 x5 x6 mo') ∧ mo'[b]? = some (.ob (.ls ((wstep p ws r).map Wd))) := by
  have hfp := code_p CC p n T
  generalize codeD CC p n T = C at *
  have hv : varE 1 (wcS C a x2 (.im (.lst ((mulW p r).map Wd))) x4 x5 x6 mo) = .ok (.lst (ws.map Wd)) (wcS C a x2 (.im (.lst ((mulW p r).map Wd))) x4 x5 x6 (mo.set a (.fz (.lst (ws.map Wd))))) := varE_fz rfl ha
  generalize hm2 : mo.set a (.fz (.lst (ws.map Wd))) = mo2 at *
  have key : lcE2 (itS (varE 1)) (Tk.nm 5).k yesT (itS (varE 3)) (Tk.nm 6).k yesT (funE 3 (aCons (varE 5) (aCons (varE 6) (aCons (fldE CC "p" (varE 0)) aNil))) FaddW) [5, 6] [6] (wcS C a x2 (.im (.lst ((mulW p r).map Wd))) x4 x5 x6 mo) = .ok (ws.flatMap fun w => (mulW p r).map fun m => Wd (addW p w m)) (wcS C a x2 (.im (.lst ((mulW p r).map Wd))) x4 x5 x6 mo2) := by
    refine lcE2_map Wd Wd (fun w m => Wd (addW p w m)) ws (mulW p r) (by rw [itS_run, hv, R.bind_ok, seqOf_lst, R.of_some]) (fun w hw => ?_) (by simpa [mulW] using hl)
    refine ⟨_, kNm _ _ _, { sl := [.im C, .mu a, x2, .im (.lst ((mulW p r).map Wd)), x4, .im (Wd w), .no], mo := mo2 }, ?_, rfl, fun m hm => ?_⟩
    · simp [wcS, wipeL]
    · have hm' : ok1 p n m := by
        obtain ⟨k, _, rfl⟩ := List.mem_map.mp hm
        exact ok_sc (isP_okP hp) hr
      have hs := FaddW_run (isP_okP hp) (hws w hw).1 hm'.1 ((hws w hw).2.trans hm'.2.symm)
      refine ⟨_, kNm _ _ _, rfl, { sl := [.im C, .mu a, x2, .im (.lst ((mulW p r).map Wd)), x4, .im (Wd w), .im (Wd m)], mo := mo2 }, ?_, rfl⟩
      simp [wipeL, hfp, hs, wcS]
  have e : (ws.flatMap fun w => (mulW p r).map fun m => Wd (addW p w m)) = (wstep p ws r).map Wd := by
    unfold wstep mulW
    simp [List.map_flatMap, Function.comp_def]
  refine ⟨mo2.length, mo2 ++ [.ob (.ls ((wstep p ws r).map Wd))], ?_, by simp⟩
  unfold wcF
  rw [asgN_run', key, R.stmt_ok, e]
  rfl
theorem okR_wstep {p : Int} {n : Nat} {ws : List (List Int)} {r : List Int} (hp : okP p = true) (hr : ok1 p n r) (hws : okR p n ws) : okR p n (wstep p ws r) := wstep_ok hp hr hws
theorem Fwords_run {CC : Addr} {p : Int} {n : Nat} {T : List (List Int)} (hp : isP p = true) (hn : n ≤ 1000) (hT : okR p n T) (hl : p.toNat ^ T.length ≤ 100000) : Fwords CC [codeD CC p n T] = .ok ((wordsF p n T).map Wd) := by
  have hc := isP_cases hp
  have hp1 := (okP_iff.mp (isP_okP hp)).1
  have hp3 : 1 ≤ p.toNat := by omega
  have hz : ok1 p n (List.replicate n 0) := ok_zero (isP_okP hp) hn
  have hrep := repT_run hn
  have hfn := code_n CC p n T
  have hfr := code_rows CC p n T
  have e0 : asgN 1 (lstE (aCons (op2 (tupE (aCons (cE (.int 0)) aNil)) (fldE CC "n" (varE 0)) repT) aNil)) (st0 7 [codeD CC p n T]) = .nx (wcS (codeD CC p n T) 0 .no .no .no .no .no [.ob (.ls ([List.replicate n 0].map Wd))]) := by
    have hst : st0 7 [codeD CC p n T] = { sl := [.im (codeD CC p n T), .no, .no, .no, .no, .no, .no], mo := [] } := rfl
    rw [hst]
    generalize codeD CC p n T = C at *
    simp [hfn, hrep, wcS]
  have hit : itS (fldE CC "rows" (varE 0)) (wcS (codeD CC p n T) 0 .no .no .no .no .no [.ob (.ls ([List.replicate n 0].map Wd))]) = .ok (T.map Wd) (wcS (codeD CC p n T) 0 .no .no .no .no .no [.ob (.ls ([List.replicate n 0].map Wd))]) := by
    generalize codeD CC p n T = C at *
    simp [hfr, seqOf_td, wcS]
  obtain ⟨S', e1, e2, e3, b, ms, x2, x3, x4, x5, x6, e4, e5⟩ := forL_fold (k := (Tk.nm 2).k) (body := seqS (wcM CC) (wcF CC)) Wd (fun j (q : List (List Int)) S => q.length = p.toNat ^ j ∧ okR p n q ∧ ∃ b ms x2 x3 x4 x5 x6, S = wcS (codeD CC p n T) b x2 x3 x4 x5 x6 ms ∧ ms[b]? = some (.ob (.ls (q.map Wd))))
    (fun q r => wstep p q r) T 0 [List.replicate n 0] _ ⟨by simp, fun r hr => by rw [List.mem_singleton.mp hr]; exact hz, 0, [.ob (.ls ([List.replicate n 0].map Wd))], .no, .no, .no, .no, .no, rfl, rfl⟩ (fun j q r S hr hj hI => by
      obtain ⟨hq, hq2, b, ms, x2, x3, x4, x5, x6, rfl, hb⟩ := hI
      have h1 := wstep_len (p := p) q r
      have h2 : q.length * p.toNat = p.toNat ^ (j + 1) := by rw [Nat.pow_succ, hq]
      have h3 : p.toNat ^ (j + 1) ≤ p.toNat ^ T.length := Nat.pow_le_pow_right hp3 (by omega)
      have f1 := wcM_run (CC := CC) (T := T) (a := b) (x3 := x3) (x4 := x4) (x5 := x5) (x6 := x6) (mo := ms) hp (hT r hr)
      obtain ⟨b', ms', r1, r2⟩ := wcF_run (CC := CC) (T := T) (x2 := .im (Wd r)) (x4 := x4) (x5 := x5) (x6 := x6) hp hn (hT r hr) hq2 hb (by omega)
      refine ⟨_, _, kNm _ _ _, .inl ?_, by omega, okR_wstep (isP_okP hp) (hT r hr) hq2, b', ms', .im (Wd r), .im (.lst ((mulW p r).map Wd)), x4, x5, x6, rfl, r2⟩
      rw [seqS_run]
      show ((wcM CC) (wcS (codeD CC p n T) b (.im (Wd r)) x3 x4 x5 x6 ms)).seq (wcF CC) = _
      rw [f1, seq_nx, r1])
  have e6 : T.foldl (fun q r => wstep p q r) [List.replicate n 0] = wordsF p n T := rfl
  rw [e6] at e2 e3 e5
  unfold Fwords runN
  have hm : m14_Code_words CC = seqS (asgN 1 (lstE (aCons (op2 (tupE (aCons (cE (.int 0)) aNil)) (fldE CC "n" (varE 0)) repT) aNil))) (forS (itS (fldE CC "rows" (varE 0))) (Tk.nm 2).k (seqS (wcM CC) (wcF CC))) := rfl
  have hs : m14_Code_words CC (st0 7 [codeD CC p n T]) = .nx (wcS (codeD CC p n T) b x2 x3 x4 x5 x6 ms) := by
    rw [hm, seqS_run, e0, seq_nx, forS_run, hit, R.stmt_ok, e1, e4]
  have hmu : muAt (wcS (codeD CC p n T) b x2 x3 x4 x5 x6 ms) 1 = some (b, (wordsF p n T).map Wd) := by
    unfold muAt wcS
    simp only [List.getElem?_cons_succ, List.getElem?_cons_zero]
    rw [e5]
  unfold seqN
  rw [hs]
  dsimp only
  unfold retNV
  rw [hmu]
  rfl
end Lq

namespace Lq
open PySem PySem.Spec PyProof.Rows L2
def SlIm (S : Ms) (i : Nat) (d : Dt) : Prop := S.sl[i]? = some (.im d)
theorem SlIm.var {S : Ms} {i : Nat} {d : Dt} (h : SlIm S i d) : varE i S = .ok d S := varE_im h
theorem wipe1 (sl : List Sv) (k : Nat) : wipeL sl [k] = sl.set k .no := by simp [wipeL]
theorem SlIm.at {S : Ms} {i k : Nat} {d : Dt} {x : Sv} {mo : List Mo} (h : SlIm S i d) (hk : k ≠ i) : SlIm { sl := (wipeL S.sl [k]).set k x, mo := mo } i d := by
  unfold SlIm at *
  rw [wipe1]
  show ((S.sl.set k .no).set k x)[i]? = _
  rw [List.getElem?_set_ne hk, List.getElem?_set_ne hk, h]
theorem at_own {S : Ms} {k : Nat} {d : Dt} {mo : List Mo} (h : k < S.sl.length) : SlIm { sl := (wipeL S.sl [k]).set k (.im d), mo := mo } k d := by
  unfold SlIm
  rw [wipe1]
  show ((S.sl.set k .no).set k (.im d))[k]? = _
  rw [List.getElem?_set_self (by simpa using h)]
end Lq

namespace Lq
open PySem PySem.Spec PyProof.Rows L2
structure CodeOf (p : Int) (n : Nat) (rows T W : List (List Int)) : Prop where
  okT : okR p n T
  len : T.length ≤ n
  eqT : T = (redN p rows n).T
  eqW : W = sortW (spanL p n rows)
  wds : wordsF p n T = W
  okW : ∀ w ∈ W, ok1 p n w
  crd : W.length = p.toNat ^ T.length
  sub : Sub p n W
theorem codeOf {p : Int} {n : Nat} {rows : List (List Int)} (hp : isP p = true) (hn : n ≤ 1000) (h : okR p n rows) : CodeOf p n rows (redN p rows n).T (sortW (spanL p n rows)) := by
  obtain ⟨k1, k2, k3⟩ := okR_red hp hn h
  obtain ⟨w1, w2, w3⟩ := wordsF_sort hp hn k1 k2
  rw [red_span hp hn h] at w1
  rw [w1] at w2 w3
  exact ⟨k1, k3, rfl, rfl, w1, w3, w2, Sub_words (isP_okP hp) hn h⟩
end Lq

namespace Lq
open PySem PySem.Spec PyProof.Rows L2

end Lq


namespace Lq
open PySem PySem.Spec PyProof.Rows L2
theorem g_zero0 (n j : Nat) : g (List.replicate n 0) j = 0 := by
  unfold g
  rw [List.getD_eq_getElem?_getD, List.getElem?_replicate]
  split <;> rfl
theorem add_zero_sc {p : Int} {n : Nat} {r : List Int} (hr : r.length = n) : addW p (List.replicate n 0) (scW p 0 r) = List.replicate n 0 := by
  have h1 : (scW p 0 r).length = n := by rw [scW_len]; exact hr
  refine g_ext (n := n) (by rw [addW_len _ _ _ (by simp [h1])]; simp) (by simp) fun j hj => ?_
  rw [show addW p (List.replicate n 0) (scW p 0 r) = lin p (List.replicate n 0) r 0 from rfl, g_lin (by simp) hr hj, g_zero0]
  simp
theorem wstep_head {p : Int} {n : Nat} {ws : List (List Int)} {r : List Int} (hp : 0 < p) (hr : r.length = n) (h : ws.head? = some (List.replicate n 0)) : (wstep p ws r).head? = some (List.replicate n 0) := by
  cases ws with
  | nil => cases h
  | cons w ws =>
    cases h
    unfold wstep
    obtain ⟨k, hk⟩ : ∃ k, p.toNat = k + 1 := ⟨p.toNat - 1, by omega⟩
    rw [List.flatMap_cons, hk, List.range_succ_eq_map, List.map_cons, List.cons_append, List.head?_cons]
    congr 1
    exact add_zero_sc hr
theorem wordsF_head {p : Int} {n : Nat} (hp : 0 < p) : ∀ (T ws : List (List Int)), (∀ r ∈ T, r.length = n) → ws.head? = some (List.replicate n 0) → (T.foldl (wstep p) ws).head? = some (List.replicate n 0)
  | [], ws, _, h => h
  | r :: T, ws, hT, h => wordsF_head hp T _ (fun x hx => hT x (List.mem_cons_of_mem _ hx)) (wstep_head hp (hT r List.mem_cons_self) h)
theorem words_head {p : Int} {n : Nat} {T : List (List Int)} (hp : 0 < p) (hT : okR p n T) : (wordsF p n T).head? = some (List.replicate n 0) := wordsF_head hp T _ (fun r hr => (hT r hr).2) rfl
end Lq

namespace Lq
open PySem PySem.Spec PyProof.Rows L2
theorem wstep_get {p : Int} {r : List Int} {a : Nat} (ha : a < p.toNat) : ∀ (ws : List (List Int)) (q : Nat), (wstep p ws r)[q * p.toNat + a]? = (ws[q]?).map fun w => addW p w (scW p (a : Int) r)
  | [], q => by simp [wstep]
  | w :: ws, q => by
    have e : wstep p (w :: ws) r = ((List.range p.toNat).map fun (a : Nat) => addW p w (scW p (a : Int) r)) ++ wstep p ws r := by simp [wstep]
    rw [e]
    cases q with
    | zero =>
      rw [List.getElem?_append_left (by simpa using ha)]
      simp [ha]
    | succ q =>
      rw [List.getElem?_append_right (by rw [List.length_map, List.length_range, Nat.succ_mul]; omega), List.length_map, List.length_range]
      have : (q + 1) * p.toNat + a - p.toNat = q * p.toNat + a := by rw [Nat.succ_mul]; omega
      rw [this, wstep_get ha ws q]
      simp
theorem wordsF_snoc (p : Int) (n : Nat) (T : List (List Int)) (r : List Int) : wordsF p n (T ++ [r]) = wstep p (wordsF p n T) r := by simp [wordsF, List.foldl_append]
theorem words_row {p : Int} {n : Nat} (hp : isP p = true) (hn : n ≤ 1000) : ∀ (m : Nat) (T : List (List Int)), T.length = m → okR p n T → ∀ j, j < m → (wordsF p n T)[p.toNat ^ (m - 1 - j)]? = T[j]?
  | 0, _, _, _, j, h => absurd h (Nat.not_lt_zero j)
  | m + 1, T, hl, hT, j, hj => by
    have hc := isP_cases hp
    have hp2 : 2 ≤ p.toNat := by omega
    rcases List.eq_nil_or_concat T with rfl | ⟨T', r, rfl⟩
    · simp at hl
    · rw [List.concat_eq_append] at *
      have hl' : T'.length = m := by simpa using hl
      have hT' : okR p n T' := fun x hx => hT x (List.mem_append_left _ hx)
      have hr := hT r (by simp)
      rw [wordsF_snoc]
      by_cases e : j = m
      · subst e
        have e1 : p.toNat ^ (j + 1 - 1 - j) = 0 * p.toNat + 1 := by simp
        have hh := words_head (p := p) (n := n) (T := T') (by omega) hT'
        rw [e1, wstep_get (by omega), List.getElem?_append_right (by omega), hl', Nat.sub_self]
        have h0 : (wordsF p n T')[0]? = some (List.replicate n 0) := by rw [← List.head?_eq_getElem?]; exact hh
        rw [h0]
        simp only [Option.map_some, List.getElem?_cons_zero]
        congr 1
        exact zero_lin hr
      · have hj' : j < m := by omega
        have ih := words_row hp hn m T' hl' hT' j hj'
        have e1 : p.toNat ^ (m + 1 - 1 - j) = p.toNat ^ (m - 1 - j) * p.toNat + 0 := by
          rw [Nat.add_zero, ← Nat.pow_succ]
          congr 1
          omega
        rw [e1, wstep_get (by omega), ih, List.getElem?_append_left (by omega), List.getElem?_eq_getElem (by omega : j < T'.length), Option.map_some]
        congr 1
        exact lin_none (hT' _ (List.getElem_mem _)) hr.2
theorem wordsF_len {p : Int} {n : Nat} (T : List (List Int)) : (wordsF p n T).length = p.toNat ^ T.length := by
  have : ∀ (T ws : List (List Int)), (T.foldl (wstep p) ws).length = ws.length * p.toNat ^ T.length := fun T => by
    induction T with
    | nil => intro ws; simp
    | cons r T ih =>
      intro ws
      rw [List.foldl_cons, ih, wstep_len, List.length_cons, Nat.pow_succ, Nat.mul_assoc, Nat.mul_comm p.toNat]
  have h := this T [List.replicate n 0]
  unfold wordsF
  rw [h]
  simp
theorem table_of_words {p : Int} {n : Nat} {T T' : List (List Int)} (hp : isP p = true) (hn : n ≤ 1000) (hT : okR p n T) (hT' : okR p n T') (h : wordsF p n T = wordsF p n T') : T = T' := by
  have hc := isP_cases hp
  have hl : T.length = T'.length := by
    have := congrArg List.length h
    rw [wordsF_len, wordsF_len] at this
    rcases Nat.lt_trichotomy T.length T'.length with q | q | q
    · have := Nat.pow_lt_pow_right (by omega : 1 < p.toNat) q
      omega
    · exact q
    · have := Nat.pow_lt_pow_right (by omega : 1 < p.toNat) q
      omega
  refine List.ext_getElem? fun j => ?_
  by_cases hj : j < T.length
  · rw [← words_row hp hn T.length T rfl hT j hj, ← words_row hp hn T'.length T' rfl hT' j (by omega), h, hl]
  · rw [List.getElem?_eq_none (by omega), List.getElem?_eq_none (by omega)]
theorem mem_code {p : Int} {n : Nat} {rows T W : List (List Int)} (hp : isP p = true) (hn : n ≤ 1000) (h : okR p n rows) (hc : CodeOf p n rows T W) {y : List Int} : y ∈ W ↔ Sp p n rows y := by
  rw [hc.eqW]
  unfold sortW
  rw [(List.mergeSort_perm _ _).mem_iff]
  exact spanL_iff (isP_okP hp) hn h
theorem Sp_tab {p : Int} {n : Nat} {rows T W : List (List Int)} (hp : isP p = true) (hn : n ≤ 1000) (h : okR p n rows) (hc : CodeOf p n rows T W) {y : List Int} : Sp p n T y ↔ y ∈ W := by
  rw [mem_code hp hn h hc, hc.eqT]
  exact red_Sp hp hn h y
end Lq

namespace Lq
open PySem PySem.Spec PyProof.Rows L2
theorem kerL_ok {p : Int} {n : Nat} (hp : isP p = true) (hn : n ≤ 1000) (s : Red) : okR p n (kerL p n s) := ker_ok hp hn
theorem checks_iff {p : Int} {n : Nat} {T W : List (List Int)} (hp : isP p = true) (hn : n ≤ 1000) (hT : okR p n T) (hS : Sub p n W) (hW : ∀ y, Sp p n T y ↔ y ∈ W) {y : List Int} : Zr p n (kerL p n (redN p T n)) y ↔ y ∈ W := by
  have hp' := isP_okP hp
  have hK := kerL_ok hp hn (redN p T n)
  have hdual : ∀ u, Zr p n T u ↔ u ∈ dualL p n W := fun u => by
    rw [dual_mem hn hS.ok]
    constructor
    · intro h
      refine ⟨h.1, fun x hx => ?_⟩
      rw [sm_comm]
      exact Zr_Sp hp' hn hT h ((hW x).mpr hx)
    · intro h
      refine ⟨h.1, fun r hr => ?_⟩
      rw [sm_comm]
      exact h.2 r ((hW r).mp (Sp_row hp' hT hr))
  constructor
  · intro h
    have hdd : y ∈ dualL p n (dualL p n W) := (dual_mem hn (Sub_dual hp' hn hS.ok).ok).mpr ⟨h.1, fun u hu => by
      rw [sm_comm]
      exact Zr_Sp hp' hn hK h ((ker_iff hp hn hT u).mpr ((hdual u).mpr hu))⟩
    exact (dual_dual hp hn hS).mem_iff.mp hdd
  · intro h
    refine ⟨hS.ok y h, fun k hk => ?_⟩
    have hz := (ker_iff hp hn hT k).mp (Sp_row hp' hK hk)
    rw [sm_comm]
    exact Zr_Sp hp' hn hT hz ((hW y).mpr h)
end Lq

namespace Lq
open PySem PySem.Spec PyProof.Rows L2

theorem eqO_td (T T' : List (List Int)) : eqO (TD T) (TD T') = some (.bl (decide (T = T'))) := eqO_en (α := List (List Int)) T T'
theorem kerL_len {p : Int} {n : Nat} (s : Red) : (kerL p n s).length ≤ n := by
  unfold kerL frees
  rw [List.length_map]
  have := List.length_filter_le (fun c => decide (c ∉ s.P)) (List.range n)
  rw [List.length_range] at this
  exact this
end Lq


namespace Lq
open PySem PySem.Spec PyProof.Rows L2
theorem prime_isP (q : Int × Int) : isP (primeF q) = true := decide_eq_true (primeF_mem q)
theorem rows_ok9 {p : Int} {n : Nat} {m : Int} (hp : isP p = true) (hn : n ≤ 1000) (hm : 0 ≤ m) (q : Int × Int) : okR p n (rowsF p n m q).1 ∧ (((rowsF p n m q).1.length : Nat) : Int) ≤ m := by
  have hc := isP_cases hp
  have hr := takeF_range (m := m + 1) (by omega) q
  refine ⟨fun r hr => ?_, ?_⟩
  · obtain ⟨h1, h2⟩ := rowsN_mem (p := p) (by omega) n _ _ r hr
    refine ⟨?_, h1⟩
    unfold okW
    rw [Bool.and_eq_true, decide_eq_true_eq, List.all_eq_true]
    exact ⟨by omega, fun x hx => decide_eq_true (h2 x hx)⟩
  · unfold rowsF
    rw [rowsN_len]
    omega
theorem span_run9 {p : Int} {n : Nat} {rows : List (List Int)} (hp : isP p = true) (hn : n ≤ 1000) (hl : rows.length ≤ 4) (h : okR p n rows) : Fspan [.lst (rows.map Wd), .int (n : Int), .int p] = .ok (.lst ((sortW (spanL p n rows)).map Wd)) := by
  have hc := isP_cases hp
  refine Fspan_run (seqOf_lst _) (isP_okP hp) hn ?_ h
  have : p.toNat ^ rows.length ≤ 7 ^ 4 := Nat.le_trans (Nat.pow_le_pow_left (by omega) _) (Nat.pow_le_pow_right (by decide) hl)
  omega
theorem make9 (CC CM CR : Addr) {p : Int} {n : Nat} {rows T W : List (List Int)} {d : Dt} (hd : d = .lst (rows.map Wd) ∨ d = .tup (rows.map Wd)) (hp : isP p = true) (hn : n ≤ 12) (hl : rows.length ≤ 1000) (h : okR p n rows) (hc : CodeOf p n rows T W) (hk : p ^ T.length ≤ 4096) : Finit CC CM CR [.int p, .int (n : Int), d] = .ok (codeD CC p n T) := by
  have hi := Finit_run CC CM CR hd hp hn hl h (by rw [← hc.eqT]; exact hk)
  rw [← hc.eqT] at hi
  exact hi

theorem wlist_run {CC : Addr} {p : Int} {n k i : Nat} {rows T W : List (List Int)} {S : Ms} (hp : isP p = true) (hn : n ≤ 1000) (hc : CodeOf p n rows T W) (hl : p.toNat ^ T.length ≤ 1000) (h : SlIm S i (codeD CC p n T)) (hk : k < S.sl.length) : frz (lcE (itG CC "words" (varE i) (Fwords CC)) (Tk.nm k).k yesT (varE k) [k]) S = .ok (.lst (W.map Wd)) S := by
  have hwd := Fwords_run (CC := CC) hp hn hc.okT (by omega)
  rw [hc.wds] at hwd
  have hit : itG CC "words" (varE i) (Fwords CC) S = .ok (W.map Wd) S := itG_run h.var (by decide +kernel) hwd
  have hcr := hc.crd
  have key := lcE_map (k := (Tk.nm k).k) (e := varE k) (own := [k]) Wd Wd W hit (fun w hw => ⟨{ sl := (wipeL S.sl [k]).set k (.im (Wd w)), mo := S.mo }, rfl, _, (at_own hk).var, rfl⟩) (fun d T T' => Tk.mo) (by omega)
  rw [frz_run', key, R.bind_ok]
theorem neO_lw (A B : List (List Int)) : neO (.lst (A.map Wd)) (.lst (B.map Wd)) = some (.bl (!decide (A = B))) := by
  have := neO_en (α := Ls (List Int)) ⟨A⟩ ⟨B⟩
  have e : decide ((⟨A⟩ : Ls (List Int)) = ⟨B⟩) = decide (A = B) := decide_eq_decide.mpr ⟨fun h => by cases h; rfl, fun h => by rw [h]⟩
  rw [e] at this
  exact this
theorem catL_lw {A B : List (List Int)} (h : A.length + B.length ≤ 1000) : catL (.lst (A.map Wd)) (.lst (B.map Wd)) = some ((A ++ B).map Wd) := by
  rw [catL_run (by simp; omega), List.map_append]
end Lq

namespace Lq
open PySem PySem.Spec PyProof.Rows L2
def synd (p : Int) (H : List (List Int)) (v : List Int) : List Int := H.map fun h => sm h v % p
theorem synd_zero {p : Int} {n : Nat} {H : List (List Int)} {v : List Int} (hv : ok1 p n v) : ((synd p H v).filter fun x => decide (x ≠ 0)).length = 0 ↔ Zr p n H v := by
  rw [List.length_eq_zero_iff, List.filter_eq_nil_iff]
  unfold synd Zr
  constructor
  · intro h
    refine ⟨hv, fun r hr => ?_⟩
    have := h _ (List.mem_map.mpr ⟨r, hr, rfl⟩)
    simpa using this
  · intro h x hx
    obtain ⟨r, hr, rfl⟩ := List.mem_map.mp hx
    simpa using h.2 r hr
end Lq

namespace Lq
open PySem PySem.Spec PyProof.Rows L2

noncomputable def m08_Code_syndrome (CC CM : Addr) : Ms → O := (seqS (ifS (notT (truT (funE 3 (aCons (varE 1) (aCons (fldE CC "p" (varE 0)) (aCons (fldE CC "n" (varE 0)) aNil))) Fisword))) (raiseS ⟨CM, [], []⟩) nilS)
  (retS (calE (aCons (frz (lcE (itS (fldE CC "_checks" (varE 0))) (Tk.nm 2).k yesT (funE 3 (aCons (varE 2) (aCons (varE 1) (aCons (fldE CC "p" (varE 0)) aNil))) Fdot) [2])) aNil) tupO)))
noncomputable def Fsynd (CC CM : Addr) : List Dt → Fo := runD 3 (m08_Code_syndrome CC CM)
theorem Fsynd_run {CC CM : Addr} {p : Int} {n : Nat} {T H : List (List Int)} {v : List Int} (hp : isP p = true) (hn : n ≤ 1000) (hH : H = kerL p n (redN p T n)) (hv : ok1 p n v) : Fsynd CC CM [codeD CC p n T, Wd v] = .ok (Wd (synd p H v)) := by
  have h1 := code_p CC p n T
  have h2 := code_n CC p n T
  have h3 := code_checks CC p n T
  rw [← hH] at h3
  have hl : H.length ≤ n := by rw [hH]; exact kerL_len _
  have hok : okR p n H := by rw [hH]; exact kerL_ok hp hn _
  have hw := Fisword_run (p := p) (m := (n : Int)) (okV_wd (v := v) (by have := hv.2; omega))
  rw [wordB_ok1 hv] at hw
  unfold Fsynd runD m08_Code_syndrome
  have hst : st0 3 [codeD CC p n T, Wd v] = { sl := [.im (codeD CC p n T), .im (Wd v), .no], mo := [] } := rfl
  rw [hst]
  generalize codeD CC p n T = C at *
  have hit : itS (fldE CC "_checks" (varE 0)) { sl := [.im C, .im (Wd v), .no], mo := [] } = .ok (H.map Wd) { sl := [.im C, .im (Wd v), .no], mo := [] } := by
    simp [h3, seqOf_td]
  have key := lcE_map (k := (Tk.nm 2).k) (e := funE 3 (aCons (varE 2) (aCons (varE 1) (aCons (fldE CC "p" (varE 0)) aNil))) Fdot) (own := [2]) Wd (fun h => Dt.int (sm h v % p)) H hit (fun h hh => by
    have hd := Fdot_run (isP_okP hp) (hok h hh).1 hv.1 (by rw [(hok h hh).2, hv.2])
    generalize sm h v % p = z at *
    exact ⟨{ sl := [.im C, .im (Wd v), .im (Wd h)], mo := [] }, rfl, { sl := [.im C, .im (Wd v), .im (Wd h)], mo := [] }, by simp [hd, h1], rfl⟩) (fun d T T' => Tk.mo) (by omega)
  have e0 : ifS (notT (truT (funE 3 (aCons (varE 1) (aCons (fldE CC "p" (varE 0)) (aCons (fldE CC "n" (varE 0)) aNil))) Fisword))) (raiseS ⟨CM, [], []⟩) nilS { sl := [.im C, .im (Wd v), .no], mo := [] } = .nx { sl := [.im C, .im (Wd v), .no], mo := [] } := by
    simp [h1, h2, hw, tru_bl]
  have e1 : (H.map fun h => Dt.int (sm h v % p)) = (synd p H v).map Dt.int := by unfold synd; rw [List.map_map]; rfl
  rw [seqS_run, e0, seq_nx, retS_run, calE_run, aCons_run, frz_run', key, e1]
  simp only [R.bind_ok, aNil_run, tupO_lst, R.of_some, R.stmt_ok]
  rfl
end Lq


namespace Lq
open PySem PySem.Spec PyProof.Rows L2

noncomputable def m40_Code_holds (CC CM : Addr) : Ms → O := (retS (andV (funE 3 (aCons (varE 1) (aCons (fldE CC "p" (varE 0)) (aCons (fldE CC "n" (varE 0)) aNil))) Fisword) (op1 (calE (aCons (metE CC "syndrome" 2 (varE 0) (aCons (varE 1) aNil) (Fsynd CC CM)) aNil) anyT) notO)))
noncomputable def Fholds (CC CM : Addr) : List Dt → Fo := runD 2 (m40_Code_holds CC CM)
structure Kd (d : Dt) (t l b : Bool) : Prop where
  t : isiO "tuple" d = some (.bl t)
  l : isiO "list" d = some (.bl l)
  b : isiO "bool" d = some (.bl b)
theorem Fholds_bad {CC CM : Addr} {p : Int} {n : Nat} {T : List (List Int)} {d : Dt} (hv : okV d = true) (hb : wordB p (n : Int) d = false) : Fholds CC CM [codeD CC p n T, d] = .ok (.bl false) := by
  have hw := Fisword_run (p := p) (m := (n : Int)) hv
  rw [hb] at hw
  have h1 := code_p CC p n T
  have h2 := code_n CC p n T
  have hst : st0 2 [codeD CC p n T, d] = { sl := [.im (codeD CC p n T), .im d], mo := [] } := rfl
  unfold Fholds runD m40_Code_holds
  rw [hst]
  have v0 : varE 0 { sl := [.im (codeD CC p n T), .im d], mo := [] } = .ok (codeD CC p n T) { sl := [.im (codeD CC p n T), .im d], mo := [] } := rfl
  have v1 : varE 1 { sl := [.im (codeD CC p n T), .im d], mo := [] } = .ok d { sl := [.im (codeD CC p n T), .im d], mo := [] } := rfl
  generalize ({ sl := [.im (codeD CC p n T), .im d], mo := [] } : Ms) = U at *
  generalize codeD CC p n T = C at *
  simp only [retS_run, andV_run, funE_run, aCons_run, aNil_run, v0, v1, fldE_run', R.bind_ok, h1, h2, R.of_some, List.length_cons, List.length_nil, Nat.zero_add, Nat.reduceAdd, if_true, hw, truO, Bool.false_eq_true, if_false, R.stmt_ok]
  rfl
theorem Fholds_run {CC CM : Addr} {p : Int} {n : Nat} {T W : List (List Int)} {v : List Int} (hp : isP p = true) (hn : n ≤ 1000) (hv : ok1 p n v) (hS : ∀ y, Zr p n (kerL p n (redN p T n)) y ↔ y ∈ W) : Fholds CC CM [codeD CC p n T, Wd v] = .ok (.bl (decide (v ∈ W))) := by
  have hw := Fisword_run (p := p) (m := (n : Int)) (okV_wd (v := v) (by rw [hv.2]; exact hn))
  rw [wordB_ok1 hv] at hw
  have h1 := code_p CC p n T
  have h2 := code_n CC p n T
  have hs := Fsynd_run (CC := CC) (CM := CM) (T := T) hp hn rfl hv
  have hst : st0 2 [codeD CC p n T, Wd v] = { sl := [.im (codeD CC p n T), .im (Wd v)], mo := [] } := rfl
  have hm : metE CC "syndrome" 2 (varE 0) (aCons (varE 1) aNil) (Fsynd CC CM) { sl := [.im (codeD CC p n T), .im (Wd v)], mo := [] } = .ok (Wd (synd p (kerL p n (redN p T n)) v)) { sl := [.im (codeD CC p n T), .im (Wd v)], mo := [] } := metE_run (varE_im rfl) (by decide +kernel) rfl rfl hs
  have hany : anyT [Wd (synd p (kerL p n (redN p T n)) v)] = some (.bl ((synd p (kerL p n (redN p T n)) v).any fun n => n != 0)) := by
    unfold anyT Wd
    dsimp only
    rw [intsOf_map]
    rfl
  have hz : (!(synd p (kerL p n (redN p T n)) v).any fun n => n != 0) = decide (v ∈ W) := by
    have h3 := synd_zero (p := p) (n := n) (H := kerL p n (redN p T n)) hv
    rw [Bool.eq_iff_iff, decide_eq_true_eq, ← hS v, ← h3, List.length_eq_zero_iff, List.filter_eq_nil_iff]
    simp
  unfold Fholds runD m40_Code_holds
  rw [hst]
  have v0 : varE 0 { sl := [.im (codeD CC p n T), .im (Wd v)], mo := [] } = .ok (codeD CC p n T) { sl := [.im (codeD CC p n T), .im (Wd v)], mo := [] } := rfl
  have v1 : varE 1 { sl := [.im (codeD CC p n T), .im (Wd v)], mo := [] } = .ok (Wd v) { sl := [.im (codeD CC p n T), .im (Wd v)], mo := [] } := rfl
  generalize ({ sl := [.im (codeD CC p n T), .im (Wd v)], mo := [] } : Ms) = U at *
  generalize codeD CC p n T = C at *
  generalize (synd p (kerL p n (redN p T n)) v).any (fun n => n != 0) = z at *
  generalize Wd (synd p (kerL p n (redN p T n)) v) = Y at *
  have hno : notO (.bl z) = some (.bl (!z)) := rfl
  simp only [retS_run, andV_run, funE_run, aCons_run, aNil_run, v0, v1, fldE_run', R.bind_ok, h1, h2, R.of_some, List.length_cons, List.length_nil, Nat.zero_add, Nat.reduceAdd, if_true, hw, truO, op1_run, calE_run, hm, hany, hno, R.stmt_ok, hz]
  rfl
end Lq

namespace Lq
open PySem PySem.Spec PyProof.Rows L2

noncomputable def m07_Code___eq__ (CC : Addr) : Ms → O := (retS (andV (op1 (varE 1) (isCN CC ["NoneType", "str"])) (andV (op2 (fldE CC "p" (varE 0)) (fldE CC "p" (varE 1)) eqO) (andV (op2 (fldE CC "n" (varE 0)) (fldE CC "n" (varE 1)) eqO) (op2 (fldE CC "rows" (varE 0)) (fldE CC "rows" (varE 1)) eqO)))))
noncomputable def Feq07 (CC : Addr) : List Dt → Fo := runD 2 (m07_Code___eq__ CC)
noncomputable def m07_written_rows : Ms → O := (retS (op1 (frz (lcE (itS (varE 0)) (Tk.nm 1).k yesT (jsE [(cE (.str " ")), (fmtE (funE 1 (aCons (varE 1) aNil) Fwritten))]) [1])) (joinO (.str ""))))
noncomputable def Fwrows : List Dt → Fo := runD 2 (m07_written_rows)
noncomputable def m07_Code___str__ (CC : Addr) : Ms → O := (retS (jsE [(fmtE (fldE CC "p" (varE 0))), (cE (.str " ")), (fmtE (fldE CC "n" (varE 0))), (cE (.str ":")), (fmtE (funE 1 (aCons (fldE CC "rows" (varE 0)) aNil) Fwrows))]))
noncomputable def Fstr07 (CC : Addr) : List Dt → Fo := runD 1 (m07_Code___str__ CC)
noncomputable def m07_Code_size (CC : Addr) : Ms → O := (retS (funE 2 (aCons (fldE CC "p" (varE 0)) (aCons (fldE CC "k" (varE 0)) aNil)) Fpow))
noncomputable def Fsize07 (CC : Addr) : List Dt → Fo := runD 1 (m07_Code_size CC)
noncomputable def m07_spanned (CC CM CR CT : Addr) : Ms → O := (seqS (asgT (Tk.tp [2, 3, 4]) (parE (varE 0) (cE (.str ":"))))
  (seqS (asgT (Tk.tp [5, 3, 6]) (parE (varE 2) (cE (.str " "))))
  (seqS (ifS (orT (tst (op2 (varE 5) (frz (lcE (itS (cE (.scr true [.int 2, .int 3, .int 5, .int 7]))) (Tk.nm 8).k yesT (calE (aCons (varE 8) aNil) strO) [8])) (inD true))) (tst (op2 (varE 6) (frz (lcE (itR1 (aCons (op2 (cE (.int 12)) (cE (.int 1)) addO) aNil)) (Tk.nm 9).k yesT (calE (aCons (varE 9) aNil) strO) [9])) (inD true)))) (raiseS ⟨CT, ["at"], [.int 0]⟩) nilS)
  (seqS (asgS 1 (frz (lcE (itS (frz (splN (varE 4) (cE (.str " "))))) (Tk.nm 7).k (tst (op2 (varE 7) (cE (.str "")) neO)) (funE 2 (aCons (varE 7) (aCons (calE (aCons (varE 5) aNil) intSO) aNil)) (Fread CT)) [7])))
  (retS (makE CC 3 (aCons (calE (aCons (varE 5) aNil) intSO) (aCons (calE (aCons (varE 6) aNil) intSO) (aCons (varE 1) aNil))) (Finit CC CM CR)))))))
noncomputable def Fspanned (CC CM CR CT : Addr) : List Dt → Fo := runD 10 (m07_spanned CC CM CR CT)
noncomputable def m07_read_code (CB CC CM CR CT : Addr) : Ms → O := (seqS (ifS (notT (truT (op1 (varE 0) (isiO "str")))) (raiseS ⟨CT, ["at"], [.int 0]⟩) nilS)
  (seqS (tryX [⟨CB, [CB], [], (.st noS)⟩] (asgS 1 (funE 1 (aCons (varE 0) aNil) (Fspanned CC CM CR CT))))
  (seqS (ifS (tst (op2 (calE (aCons (varE 1) aNil) (strC CC (Fstr07 CC))) (varE 0) neO)) (raiseS ⟨CT, ["at"], [.int 0]⟩) nilS)
  (retS (varE 1)))))
noncomputable def Fcread (CB CC CM CR CT : Addr) : List Dt → Fo := runD 2 (m07_read_code CB CC CM CR CT)
def rowS (T : List (List Int)) : Str := Str.join "" (T.map fun r => " " ++ wrS r)
def hdS (p : Int) (n : Nat) : Str := dgS p ++ " " ++ dgS (n : Int)
def txS (p : Int) (n : Nat) (T : List (List Int)) : Str := hdS p n ++ ":" ++ rowS T
theorem e32 : (" " : Str) = ⟨#[32]⟩ := by decide +kernel
theorem e58 : (":" : Str) = ⟨#[58]⟩ := by decide +kernel
theorem t32 : (" " : Str).cps.toList = [32] := by decide +kernel
theorem t58 : (":" : Str).cps.toList = [58] := by decide +kernel
theorem len_tl (x : Str) : x.length = x.cps.toList.length := by rw [Array.length_toList]; rfl
theorem slen_app (a b : Str) : (a ++ b).length = a.length + b.length := by rw [len_tl, tl_app, List.length_append, ← len_tl, ← len_tl]
theorem okD_of {p : Int} {n : Nat} {r : List Int} (hp : isP p = true) (hn : n ≤ 12) (h : ok1 p n r) : okD r := by
  have hc := isP_cases hp
  have h2 := h.2
  exact ⟨by omega, fun x hx => by have := (okW_iff.mp h.1).2 x hx; omega⟩
theorem lt_of1 {p : Int} {n : Nat} {r : List Int} (h : ok1 p n r) : ∀ x ∈ r, x < p := fun x hx => ((okW_iff.mp h.1).2 x hx).2
theorem wr_len12 {v : List Int} (h : okD v) (hl : v.length ≤ 12) : (wrS v).length ≤ 12 := by
  cases v with
  | nil => rw [wr_nil]; decide +kernel
  | cons x r => rw [len_tl, wr_tl h (by simp), List.length_map]; exact hl
theorem row_tl {T : List (List Int)} : (rowS T).cps.toList = (T.map fun r => 32 :: (wrS r).cps.toList).flatten := by
  unfold rowS
  rw [join_tl, List.map_map]
  congr 1
  refine List.map_congr_left fun r _ => ?_
  show (" " ++ wrS r).cps.toList = _
  rw [tl_app, t32]
  rfl
theorem wr_no {v : List Int} (h : okD v) : 32 ∉ (wrS v).cps.toList := fun hm => by
  cases v with
  | nil => rw [wr_nil] at hm; revert hm; decide +kernel
  | cons x r =>
    rw [wr_tl h (by simp)] at hm
    obtain ⟨y, hy, e⟩ := List.mem_map.mp hm
    omega
theorem row_len {p : Int} {n : Nat} {T : List (List Int)} (hp : isP p = true) (hn : n ≤ 12) (hT : okR p n T) : (rowS T).length ≤ 13 * T.length := by
  rw [len_tl, row_tl]
  induction T with
  | nil => simp
  | cons r T ih =>
    have h := hT r (List.mem_cons_self ..)
    have h1 := wr_len12 (okD_of hp hn h) (by rw [h.2]; exact hn)
    rw [len_tl] at h1
    have := ih (fun x hx => hT x (List.mem_cons_of_mem _ hx))
    rw [List.map_cons, List.flatten_cons, List.length_append, List.length_cons, List.length_cons]
    omega
theorem row_cs {p : Int} {n : Nat} {T : List (List Int)} (hp : isP p = true) (hn : n ≤ 12) (hT : okR p n T) : ∀ c ∈ (rowS T).cps.toList, c < 128 := fun c hc => by
  rw [row_tl] at hc
  obtain ⟨l, hl, hm⟩ := List.mem_flatten.mp hc
  obtain ⟨r, hr, rfl⟩ := List.mem_map.mp hl
  rcases List.mem_cons.mp hm with rfl | hm
  · omega
  · exact wr_cs (okD_of hp hn (hT r hr)) c hm
theorem dg13 : ∀ n : Nat, n < 13 → (dgS (n : Int)).length ≤ 2 ∧ 32 ∉ (dgS (n : Int)).cps.toList ∧ 58 ∉ (dgS (n : Int)).cps.toList ∧ (dgS (n : Int)).cps.toList.all (fun c => decide (c < 128)) = true ∧ PySem.intText? (dgS (n : Int)) = some (n : Int) := by decide +kernel
theorem intSO_dg {x : Str} {i : Int} (h : PySem.intText? x = some i) (hl : x.length ≤ 640) : intSO [.str x] = some (.int i) := by
  unfold intSO
  dsimp only
  rw [if_pos hl, h]
  rfl
theorem isP_nat {p : Int} (hp : isP p = true) : ∃ m : Nat, p = (m : Int) ∧ m < 13 := by
  have hc := isP_cases hp
  exact ⟨p.toNat, by omega, by omega⟩
theorem dgP {p : Int} (hp : isP p = true) : (dgS p).length ≤ 2 ∧ 32 ∉ (dgS p).cps.toList ∧ 58 ∉ (dgS p).cps.toList ∧ (dgS p).cps.toList.all (fun c => decide (c < 128)) = true ∧ PySem.intText? (dgS p) = some p := by
  obtain ⟨m, rfl, h⟩ := isP_nat hp
  exact dg13 m h
theorem hd_tl (p : Int) (n : Nat) : (hdS p n).cps.toList = (dgS p).cps.toList ++ 32 :: (dgS (n : Int)).cps.toList := by
  unfold hdS
  rw [tl_app, tl_app, t32, List.append_assoc]
  rfl
theorem tx_tl (p : Int) (n : Nat) (T : List (List Int)) : (txS p n T).cps.toList = (hdS p n).cps.toList ++ 58 :: (rowS T).cps.toList := by
  unfold txS
  rw [tl_app, tl_app, t58, List.append_assoc]
  rfl
theorem part_head {p : Int} {n : Nat} (hp : isP p = true) (hn : n ≤ 12) : Txt.partition (hdS p n) " " = (dgS p, (" " : Str), dgS (n : Int)) := by
  rw [e32]
  exact part_one (hd_tl p n) (dgP hp).2.1
theorem part_text {p : Int} {n : Nat} {T : List (List Int)} (hp : isP p = true) (hn : n ≤ 12) : Txt.partition (txS p n T) ":" = (hdS p n, (":" : Str), rowS T) := by
  rw [e58]
  refine part_one (tx_tl p n T) fun hm => ?_
  rw [hd_tl] at hm
  rcases List.mem_append.mp hm with hm | hm
  · exact (dgP hp).2.2.1 hm
  · rcases List.mem_cons.mp hm with hm | hm
    · cases hm
    · exact (dg13 n (by omega)).2.2.1 hm
theorem split_row {p : Int} {n : Nat} {T : List (List Int)} (hp : isP p = true) (hn : n ≤ 12) (hT : okR p n T) : Txt.split (rowS T) " " = ("" : Str) :: T.map wrS := by
  rw [e32]
  refine split_one (by decide) ?_ (by rw [tl_emp]; simp) fun y hy => ?_
  · rw [row_tl, tl_emp, List.map_map]
    rfl
  · obtain ⟨r, hr, rfl⟩ := List.mem_map.mp hy
    exact wr_no (okD_of hp hn (hT r hr))
theorem hd_len {p : Int} {n : Nat} (hp : isP p = true) (hn : n ≤ 12) : (hdS p n).length ≤ 5 := by
  have h1 := (dgP hp).1
  have h2 := (dg13 n (by omega)).1
  rw [len_tl, hd_tl, List.length_append, List.length_cons, ← len_tl, ← len_tl]
  omega
theorem tx_len {p : Int} {n : Nat} {T : List (List Int)} (hp : isP p = true) (hn : n ≤ 12) (hT : okR p n T) : (txS p n T).length ≤ 6 + 13 * T.length := by
  have h1 := hd_len hp hn
  have h2 := row_len hp hn hT
  rw [len_tl, tx_tl, List.length_append, List.length_cons, ← len_tl, ← len_tl]
  omega
theorem tx_ok {p : Int} {n : Nat} {T : List (List Int)} (hp : isP p = true) (hn : n ≤ 12) (hT : okR p n T) : PyData.strOk (txS p n T) = true := strOk_of fun c hc => by
  rw [tx_tl, hd_tl] at hc
  have a1 := (dgP hp).2.2.2.1
  have a2 := (dg13 n (by omega)).2.2.2.1
  rw [List.all_eq_true] at a1 a2
  have a3 := row_cs hp hn hT
  simp only [List.mem_append, List.mem_cons] at hc
  rcases hc with (hc | rfl | hc) | rfl | hc
  · have := of_decide_eq_true (a1 c hc); omega
  · omega
  · have := of_decide_eq_true (a2 c hc); omega
  · omega
  · have := a3 c hc; omega
theorem jsG_cons {t : Ms → R Dt} {ts : List (Ms → R Dt)} {acc y : Str} {S S' : Ms} (h : t S = .ok (.str y) S') (hl : (acc ++ y).length ≤ 100000) : jsG (t :: ts) acc S = jsG ts (acc ++ y) S' := by
  rw [jsG, h, R.bind_ok]
  dsimp only
  rw [if_pos hl]
theorem fmtE_str {f : Ms → R Dt} {S S' : Ms} {y : Str} (h : f S = .ok (.str y) S') (hl : y.length ≤ 100000) : fmtE f S = .ok (.str y) S' := by
  unfold fmtE
  rw [h, R.bind_ok]
  dsimp only
  rw [if_pos hl]
theorem fmtE_int {f : Ms → R Dt} {S S' : Ms} {i : Int} (h : f S = .ok (.int i) S') (hl : i.natAbs < 1000000) : fmtE f S = .ok (.str (dgS i)) S' := by
  unfold fmtE
  rw [h, R.bind_ok]
  dsimp only
  rw [if_pos hl]
  rfl
theorem emp_app (y : Str) : Str.empty ++ y = y := str_ext (by rw [tl_app]; rfl)
theorem Fwrows_run {p : Int} {n : Nat} {T : List (List Int)} (hp : isP p = true) (hn : n ≤ 12) (hT : okR p n T) (hl : T.length ≤ 100) : Fwrows [TD T] = .ok (.str (rowS T)) := by
  have hst : st0 2 [TD T] = { sl := [.im (TD T), .no], mo := [] } := rfl
  have key : lcE (itS (varE 0)) (Tk.nm 1).k yesT (jsE [(cE (.str " ")), (fmtE (funE 1 (aCons (varE 1) aNil) Fwritten))]) [1] { sl := [.im (TD T), .no], mo := [] } = .ok (T.map fun r => Dt.str (" " ++ wrS r)) { sl := [.im (TD T), .no], mo := [] } := by
    refine lcE_map Wd (fun r => Dt.str (" " ++ wrS r)) T rfl (fun r hr => ?_) (fun d T T' => Tk.mo) (by omega)
    have h1 := okD_of hp hn (hT r hr)
    have h2 := wr_len12 h1 (by rw [(hT r hr).2]; exact hn)
    refine ⟨{ sl := [.im (TD T), .im (Wd r)], mo := [] }, rfl, { sl := [.im (TD T), .im (Wd r)], mo := [] }, ?_, rfl⟩
    have hv : varE 1 { sl := [.im (TD T), .im (Wd r)], mo := [] } = .ok (Wd r) { sl := [.im (TD T), .im (Wd r)], mo := [] } := rfl
    generalize ({ sl := [.im (TD T), .im (Wd r)], mo := [] } : Ms) = U at *
    have hf : funE 1 (aCons (varE 1) aNil) Fwritten U = .ok (.str (wrS r)) U := by
      simp only [funE_run, aCons_run, aNil_run, hv, R.bind_ok, List.length_cons, List.length_nil, Nat.zero_add, if_true, Fwritten_run h1]
    unfold jsE
    rw [jsG_cons (cE_run _ _) (by rw [emp_app]; decide +kernel), jsG_cons (fmtE_str hf (by omega)) (by
      rw [emp_app, slen_app]
      have : (" " : Str).length = 1 := by decide +kernel
      omega), emp_app]
    rfl
  have hj : joinO (.str "") (.lst (T.map fun r => Dt.str (" " ++ wrS r))) = some (.str (rowS T)) := by
    unfold joinO
    dsimp only
    have e : strsOf (T.map fun r => Dt.str (" " ++ wrS r)) = some (T.map fun r => " " ++ wrS r) := by
      have := strsOf_map (T.map fun r => " " ++ wrS r)
      rw [List.map_map] at this
      exact this
    rw [e, Option.bind_some, if_pos]
    · rw [TL.join_eq]
      rfl
    · have hb : ∀ l : List (List Int), (∀ r ∈ l, ok1 p n r) → ((l.map fun r => " " ++ wrS r).map (·.length)).sum ≤ 13 * l.length := by
        intro l
        induction l with
        | nil => intro _; simp
        | cons r l ih =>
          intro h
          have h2 := wr_len12 (okD_of hp hn (h r (List.mem_cons_self ..))) (by rw [(h r (List.mem_cons_self ..)).2]; exact hn)
          have h3 := ih (fun x hx => h x (List.mem_cons_of_mem _ hx))
          have h4 : (" " : Str).length = 1 := by decide +kernel
          rw [List.map_cons, List.map_cons, List.sum_cons, slen_app, List.length_cons]
          omega
      have := hb T hT
      have h0 : ("" : Str).length = 0 := by decide +kernel
      rw [h0]
      omega
  unfold Fwrows runD m07_written_rows
  rw [hst, retS_run, op1_run, frz_run', key, R.bind_ok, R.bind_ok, hj, R.of_some, R.stmt_ok]
  rfl
theorem Fstr07_run {CC : Addr} {p : Int} {n : Nat} {T : List (List Int)} (hp : isP p = true) (hn : n ≤ 12) (hT : okR p n T) (hl : T.length ≤ 100) : Fstr07 CC [codeD CC p n T] = .ok (.str (txS p n T)) := by
  have h1 := code_p CC p n T
  have h2 := code_n CC p n T
  have h3 := code_rows CC p n T
  have h4 := Fwrows_run hp hn hT hl
  have hst : st0 1 [codeD CC p n T] = { sl := [.im (codeD CC p n T)], mo := [] } := rfl
  have v0 : varE 0 { sl := [.im (codeD CC p n T)], mo := [] } = .ok (codeD CC p n T) { sl := [.im (codeD CC p n T)], mo := [] } := rfl
  have hr := row_len hp hn hT
  have hd := hd_len hp hn
  have hpl := (dgP hp).1
  have hc := isP_cases hp
  unfold Fstr07 runD m07_Code___str__
  rw [hst]
  generalize ({ sl := [.im (codeD CC p n T)], mo := [] } : Ms) = U at *
  generalize codeD CC p n T = C at *
  have f1 : fldE CC "p" (varE 0) U = .ok (.int p) U := by rw [fldE_run', v0, R.bind_ok, h1, R.of_some]
  have f2 : fldE CC "n" (varE 0) U = .ok (.int (n : Int)) U := by rw [fldE_run', v0, R.bind_ok, h2, R.of_some]
  have f3 : fldE CC "rows" (varE 0) U = .ok (TD T) U := by rw [fldE_run', v0, R.bind_ok, h3, R.of_some]
  have f4 : funE 1 (aCons (fldE CC "rows" (varE 0)) aNil) Fwrows U = .ok (.str (rowS T)) U := by
    simp only [funE_run, aCons_run, aNil_run, f3, R.bind_ok, List.length_cons, List.length_nil, Nat.zero_add, if_true, h4]
  have l1 : (" " : Str).length = 1 := by decide +kernel
  have l2 : (":" : Str).length = 1 := by decide +kernel
  have key : jsE [(fmtE (fldE CC "p" (varE 0))), (cE (.str " ")), (fmtE (fldE CC "n" (varE 0))), (cE (.str ":")), (fmtE (funE 1 (aCons (fldE CC "rows" (varE 0)) aNil) Fwrows))] U = .ok (.str (txS p n T)) U := by
    have a3 : (dgS p ++ " " ++ dgS (n : Int)).length ≤ 5 := hd
    unfold jsE
    rw [jsG_cons (fmtE_int f1 (by omega)) (by rw [emp_app]; omega), emp_app, jsG_cons (cE_run _ _) (by rw [slen_app]; omega), jsG_cons (fmtE_int f2 (by omega)) (by omega), jsG_cons (cE_run _ _) (by rw [slen_app]; omega), jsG_cons (fmtE_str f4 (by omega)) (by
      rw [slen_app (dgS p ++ " " ++ dgS (n : Int) ++ ":"), slen_app (dgS p ++ " " ++ dgS (n : Int))]
      omega)]
    rfl
  rw [retS_run, key, R.stmt_ok]
  rfl
theorem Fsize07_run {CC : Addr} {p : Int} {n : Nat} {T : List (List Int)} (hp : isP p = true) (hl : T.length ≤ 12) : Fsize07 CC [codeD CC p n T] = .ok (.int (p ^ T.length)) := by
  have h1 := code_p CC p n T
  have h2 := code_k CC p n T
  have hst : st0 1 [codeD CC p n T] = { sl := [.im (codeD CC p n T)], mo := [] } := rfl
  have v0 : varE 0 { sl := [.im (codeD CC p n T)], mo := [] } = .ok (codeD CC p n T) { sl := [.im (codeD CC p n T)], mo := [] } := rfl
  have hc := isP_cases hp
  have hf := Fpow_run (a := p) (k := (T.length : Int)) (by omega) (by omega)
  rw [Int.toNat_natCast] at hf
  unfold Fsize07 runD m07_Code_size
  rw [hst]
  generalize ({ sl := [.im (codeD CC p n T)], mo := [] } : Ms) = U at *
  generalize codeD CC p n T = C at *
  simp only [retS_run, funE_run, aCons_run, aNil_run, fldE_run', v0, R.bind_ok, h1, h2, R.of_some, List.length_cons, List.length_nil, Nat.zero_add, Nat.reduceAdd, if_true, hf, R.stmt_ok]
  rfl
theorem Feq07_run {CC : Addr} {p q : Int} {n m : Nat} {T T' : List (List Int)} : Feq07 CC [codeD CC p n T, codeD CC q m T'] = .ok (.bl (decide (p = q ∧ n = m ∧ T = T'))) := by
  have h1 := code_p CC p n T
  have h2 := code_n CC p n T
  have h3 := code_rows CC p n T
  have g1 := code_p CC q m T'
  have g2 := code_n CC q m T'
  have g3 := code_rows CC q m T'
  have hi : isCN CC ["NoneType", "str"] (codeD CC q m T') = some (.bl true) := isCN_run _ _ _ _
  have e3 := eqO_td T T'
  unfold Feq07 runD m07_Code___eq__
  have hst : st0 2 [codeD CC p n T, codeD CC q m T'] = { sl := [.im (codeD CC p n T), .im (codeD CC q m T')], mo := [] } := rfl
  rw [hst]
  generalize codeD CC p n T = C at *
  generalize codeD CC q m T' = D at *
  generalize TD T = X at *
  generalize TD T' = Y at *
  have hnm : ((n : Int) = (m : Int)) ↔ n = m := by omega
  by_cases q1 : p = q
  · by_cases q2 : n = m
    · have q2' : (n : Int) = (m : Int) := by omega
      simp [hi, h1, h2, h3, g1, g2, g3, q1, q2, e3, O.fo]
    · have q2' : ¬ (n : Int) = (m : Int) := by omega
      generalize (n : Int) = z at *
      generalize (m : Int) = z' at *
      simp [hi, h1, h2, h3, g1, g2, g3, q1, q2, q2', e3, O.fo]
  · simp [hi, h1, h2, h3, g1, g2, g3, q1, e3, O.fo]
theorem Feq07_not {CC : Addr} {C d : Dt} (hd : isCN CC ["NoneType", "str"] d = some (.bl false)) : Feq07 CC [C, d] = .ok (.bl false) := by
  have hst : st0 2 [C, d] = { sl := [.im C, .im d], mo := [] } := rfl
  have v1 : varE 1 { sl := [.im C, .im d], mo := [] } = .ok d { sl := [.im C, .im d], mo := [] } := rfl
  unfold Feq07 runD m07_Code___eq__
  rw [hst]
  generalize ({ sl := [.im C, .im d], mo := [] } : Ms) = U at *
  simp only [retS_run, andV_run, op1_run, v1, R.bind_ok, hd, R.of_some, truO, Bool.false_eq_true, if_false, R.stmt_ok]
  rfl
theorem Feq07_non {CC : Addr} {C : Dt} : Feq07 CC [C, .non] = .ok (.bl false) := Feq07_not (by unfold isCN plainV; simp)
theorem Feq07_str {CC : Addr} {C : Dt} {x : Str} : Feq07 CC [C, .str x] = .ok (.bl false) := Feq07_not (by unfold isCN plainV; simp)
theorem str_i {S : Ms} {k : Nat} {x : Int} (hk : k < S.sl.length) (hx : x.natAbs < 1000000) : calE (aCons (varE k) aNil) strO { sl := (wipeL S.sl [k]).set k (.im (.int x)), mo := S.mo } = .ok (.str (dgS x)) { sl := (wipeL S.sl [k]).set k (.im (.int x)), mo := S.mo } := by
  have e1 : ((wipeL S.sl [k]).set k (.im (.int x)))[k]? = some (.im (.int x)) := by
    rw [List.getElem?_set, if_pos rfl, if_pos]
    simpa [wipeL] using hk
  rw [calE_run, aCons_run, varE_im (S := { sl := (wipeL S.sl [k]).set k (.im (.int x)), mo := S.mo }) e1, R.bind_ok, aNil_run, R.bind_ok, R.bind_ok]
  unfold strO
  dsimp only
  rw [if_pos hx]
  rfl
theorem primes_run {S : Ms} (hk : 8 < S.sl.length) : lcE (itS (cE (.scr true [.int 2, .int 3, .int 5, .int 7]))) (Tk.nm 8).k yesT (calE (aCons (varE 8) aNil) strO) [8] S = .ok ([2, 3, 5, 7].map fun (x : Int) => Dt.str (dgS x)) S :=
  lcE_map Dt.int (fun (x : Int) => Dt.str (dgS x)) [2, 3, 5, 7] rfl (fun x hx => ⟨{ sl := (wipeL S.sl [8]).set 8 (.im (.int x)), mo := S.mo }, rfl, _, str_i hk (by
    simp only [List.mem_cons, List.not_mem_nil, or_false] at hx
    omega), rfl⟩) (fun d T T' => Tk.mo) (by decide)
theorem lens_run {S : Ms} (hk : 9 < S.sl.length) : lcE (itR1 (aCons (op2 (cE (.int 12)) (cE (.int 1)) addO) aNil)) (Tk.nm 9).k yesT (calE (aCons (varE 9) aNil) strO) [9] S = .ok ((List.range 13).map fun (k : Nat) => Dt.str (dgS (k : Int))) S :=
  lcE_map (fun (k : Nat) => Dt.int (k : Int)) (fun (k : Nat) => Dt.str (dgS (k : Int))) (List.range 13) rfl (fun k hx => ⟨{ sl := (wipeL S.sl [9]).set 9 (.im (.int (k : Int))), mo := S.mo }, rfl, _, str_i hk (by
    rw [List.mem_range] at hx
    omega), rfl⟩) (fun d T T' => Tk.mo) (by decide)
theorem in_primes {p : Int} (hp : isP p = true) : inD true (.str (dgS p)) (.lst ([2, 3, 5, 7].map fun (x : Int) => Dt.str (dgS x))) = some (.bl false) := by
  have hc := isP_cases hp
  rcases hc with rfl | rfl | rfl | rfl <;> kernel_rfl
theorem in_lens : ∀ {n : Nat}, n < 13 → inD true (.str (dgS (n : Int))) (.lst ((List.range 13).map fun (k : Nat) => Dt.str (dgS (k : Int)))) = some (.bl false)
  | 0, _ => by kernel_rfl
  | 1, _ => by kernel_rfl
  | 2, _ => by kernel_rfl
  | 3, _ => by kernel_rfl
  | 4, _ => by kernel_rfl
  | 5, _ => by kernel_rfl
  | 6, _ => by kernel_rfl
  | 7, _ => by kernel_rfl
  | 8, _ => by kernel_rfl
  | 9, _ => by kernel_rfl
  | 10, _ => by kernel_rfl
  | 11, _ => by kernel_rfl
  | 12, _ => by kernel_rfl
  | n + 13, h => by omega
def S10 (x h t a b : Dt) (x1 : Sv) : Ms := { sl := [.im x, x1, .im h, .im (.str " "), .im t, .im a, .im b, .no, .no, .no], mo := [] }
theorem parE_run {f g : Ms → R Dt} {S S1 S2 : Ms} {x y a b c : Str} (h1 : f S = .ok (.str x) S1) (h2 : g S1 = .ok (.str y) S2) (hy : (y.length == 0) = false) (hx : x.length ≤ 100000) (hp : Txt.partition x y = (a, b, c)) : parE f g S = .ok (.tup [.str a, .str b, .str c]) S2 := by
  unfold parE
  rw [h1, R.bind_ok]
  dsimp only
  rw [h2, R.bind_ok]
  dsimp only
  rw [if_pos ⟨hy, hx⟩, hp]
theorem splN_run {f g : Ms → R Dt} {S S1 S2 : Ms} {x y : Str} {ys : List Str} (h1 : f S = .ok (.str x) S1) (h2 : g S1 = .ok (.str y) S2) (hy : (y.length == 0) = false) (hx : x.length ≤ 100000) (hp : Txt.split x y = ys) : splN f g S = .ok (ys.map Dt.str) S2 := by
  unfold splN
  rw [h1, R.bind_ok]
  dsimp only
  rw [h2, R.bind_ok]
  dsimp only
  rw [if_pos ⟨hy, hx⟩, hp]
theorem read_one {CT : Addr} {p : Int} {n : Nat} {v : List Int} (hp : isP p = true) (hn : n ≤ 12) (h : ok1 p n v) : Fread CT [.str (wrS v), .int p] = .ok (Wd v) := by
  have hd := okD_of hp hn h
  have hl := wr_len hd
  have ho := wr_ok hd
  rw [Fread_run CT (by unfold okT; simp [hl.1, ho])]
  unfold readR
  dsimp only
  rw [read_wr hd (lt_of1 h)]
def rdS (p : Int) (y : Str) : Dt := match readF p y with | some w => Wd w | none => .non
theorem rows_run {CT : Addr} {p : Int} {n : Nat} {T : List (List Int)} {x h b : Dt} (hp : isP p = true) (hn : n ≤ 12) (hT : okR p n T) (hl : T.length ≤ 100) : lcE (itS (frz (splN (varE 4) (cE (.str " "))))) (Tk.nm 7).k (tst (op2 (varE 7) (cE (.str "")) neO)) (funE 2 (aCons (varE 7) (aCons (calE (aCons (varE 5) aNil) intSO) aNil)) (Fread CT)) [7] (S10 x h (.str (rowS T)) (.str (dgS p)) b .no) = .ok (T.map Wd) (S10 x h (.str (rowS T)) (.str (dgS p)) b .no) := by
  have hr := row_len hp hn hT
  have hs := split_row hp hn hT
  have hi := intSO_dg (dgP hp).2.2.2.2 (by have := (dgP hp).1; omega)
  have hit : itS (frz (splN (varE 4) (cE (.str " ")))) (S10 x h (.str (rowS T)) (.str (dgS p)) b .no) = .ok (((("" : Str) :: T.map wrS)).map Dt.str) (S10 x h (.str (rowS T)) (.str (dgS p)) b .no) := by
    rw [itS_run, frz_run', splN_run (f := varE 4) (S := S10 x h (.str (rowS T)) (.str (dgS p)) b .no) (S1 := S10 x h (.str (rowS T)) (.str (dgS p)) b .no) rfl (cE_run _ _) (by decide +kernel) (by omega) hs, R.bind_ok, R.bind_ok]
    rfl
  have oe : PyData.strOk ("" : Str) = true := by decide +kernel
  have key := lcE_flt (k := (Tk.nm 7).k) (t := (tst (op2 (varE 7) (cE (.str "")) neO))) (e := funE 2 (aCons (varE 7) (aCons (calE (aCons (varE 5) aNil) intSO) aNil)) (Fread CT)) (own := [7]) Dt.str (fun y : Str => !decide (y = "")) (rdS p) (("" : Str) :: T.map wrS) hit (fun y hy => ?_) (by rw [List.length_cons, List.length_map]; omega)
  · rw [key]
    congr 1
    have e1 : ((("" : Str) :: T.map wrS).filter fun y : Str => !decide (y = "")) = T.map wrS := by
      rw [List.filter_cons, if_neg (by simp), List.filter_eq_self]
      intro y hy
      obtain ⟨r, hr', rfl⟩ := List.mem_map.mp hy
      have h1 := (wr_len (okD_of hp hn (hT r hr'))).2
      rw [Bool.not_eq_true', decide_eq_false_iff_not]
      intro z
      rw [z] at h1
      revert h1
      decide +kernel
    rw [e1, List.map_map]
    refine List.map_congr_left fun r hr' => ?_
    show rdS p (wrS r) = Wd r
    unfold rdS
    rw [read_wr (okD_of hp hn (hT r hr')) (lt_of1 (hT r hr'))]
  · let U : Ms := { sl := [.im x, .no, .im h, .im (.str " "), .im (.str (rowS T)), .im (.str (dgS p)), .im b, .im (.str y), .no, .no], mo := [] }
    have hok : PyData.strOk y = true := by
      rcases List.mem_cons.mp hy with rfl | hy
      · exact oe
      · obtain ⟨r, hr', rfl⟩ := List.mem_map.mp hy
        exact wr_ok (okD_of hp hn (hT r hr'))
    have v5 : varE 5 U = .ok (.str (dgS p)) U := rfl
    have v7 : varE 7 U = .ok (.str y) U := rfl
    have hmo : U.mo = [] := rfl
    refine ⟨U, U, rfl, ?_, rfl, fun hb => ⟨U, ?_, rfl⟩⟩
    · clear_value U
      simp only [tst_run', op2_run, v7, cE_run, R.bind_ok, neO_str hok oe, R.of_some, truO]
    · rcases List.mem_cons.mp hy with rfl | hy
      · simp at hb
      · obtain ⟨r, hr', rfl⟩ := List.mem_map.mp hy
        have hf := read_one (CT := CT) hp hn (hT r hr')
        clear_value U
        have e : rdS p (wrS r) = Wd r := by
          unfold rdS
          rw [read_wr (okD_of hp hn (hT r hr')) (lt_of1 (hT r hr'))]
        rw [e]
        simp only [funE_run, aCons_run, aNil_run, calE_run, v7, v5, R.bind_ok, hi, R.of_some, List.length_cons, List.length_nil, Nat.zero_add, Nat.reduceAdd, if_true, hf]
theorem asgT_run {ts : Tk} {m : Ms → R Dt} {S S1 S2 : Ms} {d : Dt} (h : m S = .ok d S1) (hk : ts.k d S1 = some S2) : asgT ts m S = .nx S2 := by
  unfold asgT
  rw [h]
  dsimp only [R.stmt]
  rw [hk]
theorem Fspanned_run {CC CM CR CT : Addr} {p : Int} {n : Nat} {T T' : List (List Int)} (hp : isP p = true) (hn : n ≤ 12) (hT : okR p n T) (hl : T.length ≤ 100) (hT' : T' = (redN p T n).T) (hk : p ^ T'.length ≤ 4096) : Fspanned CC CM CR CT [.str (txS p n T)] = .ok (codeD CC p n T') := by
  have hx := tx_len hp hn hT
  have hh := hd_len hp hn
  have h1 := part_text (n := n) (T := T) hp hn
  have h2 := part_head hp hn
  have hi := intSO_dg (dgP hp).2.2.2.2 (by have := (dgP hp).1; omega)
  have hj := intSO_dg (dg13 n (by omega)).2.2.2.2 (by have := (dg13 n (by omega)).1; omega)
  have hm := Finit_run CC CM CR (d := .lst (T.map Wd)) (.inl rfl) hp hn (by omega) hT (by rw [← hT']; exact hk)
  rw [← hT'] at hm
  have hst : st0 10 [.str (txS p n T)] = { sl := [.im (.str (txS p n T)), .no, .no, .no, .no, .no, .no, .no, .no, .no], mo := [] } := rfl
  have e1 : (asgT (Tk.tp [2, 3, 4]) (parE (varE 0) (cE (.str ":")))) { sl := [.im (.str (txS p n T)), .no, .no, .no, .no, .no, .no, .no, .no, .no], mo := [] } = .nx { sl := [.im (.str (txS p n T)), .no, .im (.str (hdS p n)), .im (.str ":"), .im (.str (rowS T)), .no, .no, .no, .no, .no], mo := [] } :=
    asgT_run (parE_run (S := { sl := [.im (.str (txS p n T)), .no, .no, .no, .no, .no, .no, .no, .no, .no], mo := [] }) rfl (cE_run _ _) (by decide +kernel) (by omega) h1) rfl
  have e2 : (asgT (Tk.tp [5, 3, 6]) (parE (varE 2) (cE (.str " ")))) { sl := [.im (.str (txS p n T)), .no, .im (.str (hdS p n)), .im (.str ":"), .im (.str (rowS T)), .no, .no, .no, .no, .no], mo := [] } = .nx (S10 (.str (txS p n T)) (.str (hdS p n)) (.str (rowS T)) (.str (dgS p)) (.str (dgS (n : Int))) .no) :=
    asgT_run (parE_run (S := { sl := [.im (.str (txS p n T)), .no, .im (.str (hdS p n)), .im (.str ":"), .im (.str (rowS T)), .no, .no, .no, .no, .no], mo := [] }) rfl (cE_run _ _) (by decide +kernel) (by omega) h2) rfl
  have e3 : (ifS (orT (tst (op2 (varE 5) (frz (lcE (itS (cE (.scr true [.int 2, .int 3, .int 5, .int 7]))) (Tk.nm 8).k yesT (calE (aCons (varE 8) aNil) strO) [8])) (inD true))) (tst (op2 (varE 6) (frz (lcE (itR1 (aCons (op2 (cE (.int 12)) (cE (.int 1)) addO) aNil)) (Tk.nm 9).k yesT (calE (aCons (varE 9) aNil) strO) [9])) (inD true)))) (raiseS ⟨CT, ["at"], [.int 0]⟩) nilS) (S10 (.str (txS p n T)) (.str (hdS p n)) (.str (rowS T)) (.str (dgS p)) (.str (dgS (n : Int))) .no) = .nx (S10 (.str (txS p n T)) (.str (hdS p n)) (.str (rowS T)) (.str (dgS p)) (.str (dgS (n : Int))) .no) := by
    have a1 := primes_run (S := S10 (.str (txS p n T)) (.str (hdS p n)) (.str (rowS T)) (.str (dgS p)) (.str (dgS (n : Int))) .no) (by show _ < 10; decide)
    have a2 := lens_run (S := S10 (.str (txS p n T)) (.str (hdS p n)) (.str (rowS T)) (.str (dgS p)) (.str (dgS (n : Int))) .no) (by show _ < 10; decide)
    have a3 := in_primes hp
    have a4 := in_lens (n := n) (by omega)
    have v5 : varE 5 (S10 (.str (txS p n T)) (.str (hdS p n)) (.str (rowS T)) (.str (dgS p)) (.str (dgS (n : Int))) .no) = .ok (.str (dgS p)) (S10 (.str (txS p n T)) (.str (hdS p n)) (.str (rowS T)) (.str (dgS p)) (.str (dgS (n : Int))) .no) := rfl
    have v6 : varE 6 (S10 (.str (txS p n T)) (.str (hdS p n)) (.str (rowS T)) (.str (dgS p)) (.str (dgS (n : Int))) .no) = .ok (.str (dgS (n : Int))) (S10 (.str (txS p n T)) (.str (hdS p n)) (.str (rowS T)) (.str (dgS p)) (.str (dgS (n : Int))) .no) := rfl
    generalize S10 (.str (txS p n T)) (.str (hdS p n)) (.str (rowS T)) (.str (dgS p)) (.str (dgS (n : Int))) .no = U at *
    generalize ([2, 3, 5, 7].map fun (x : Int) => Dt.str (dgS x)) = L1 at *
    generalize ((List.range 13).map fun (k : Nat) => Dt.str (dgS (k : Int))) = L2 at *
    simp only [ifS_run, orT_run, tst_run', op2_run, frz_run', v5, v6, a1, a2, R.bind_ok, a3, a4, R.of_some, truO, Bool.false_eq_true, if_false, R.stmt_ok, nilS_run]
  have e4 : (asgS 1 (frz (lcE (itS (frz (splN (varE 4) (cE (.str " "))))) (Tk.nm 7).k (tst (op2 (varE 7) (cE (.str "")) neO)) (funE 2 (aCons (varE 7) (aCons (calE (aCons (varE 5) aNil) intSO) aNil)) (Fread CT)) [7]))) (S10 (.str (txS p n T)) (.str (hdS p n)) (.str (rowS T)) (.str (dgS p)) (.str (dgS (n : Int))) .no) = .nx (S10 (.str (txS p n T)) (.str (hdS p n)) (.str (rowS T)) (.str (dgS p)) (.str (dgS (n : Int))) (.im (.lst (T.map Wd)))) := by
    rw [asgS_run', frz_run', rows_run hp hn hT hl, R.bind_ok, R.stmt_ok]
    rfl
  have v1 : varE 1 (S10 (.str (txS p n T)) (.str (hdS p n)) (.str (rowS T)) (.str (dgS p)) (.str (dgS (n : Int))) (.im (.lst (T.map Wd)))) = .ok (.lst (T.map Wd)) (S10 (.str (txS p n T)) (.str (hdS p n)) (.str (rowS T)) (.str (dgS p)) (.str (dgS (n : Int))) (.im (.lst (T.map Wd)))) := rfl
  have v5 : varE 5 (S10 (.str (txS p n T)) (.str (hdS p n)) (.str (rowS T)) (.str (dgS p)) (.str (dgS (n : Int))) (.im (.lst (T.map Wd)))) = .ok (.str (dgS p)) (S10 (.str (txS p n T)) (.str (hdS p n)) (.str (rowS T)) (.str (dgS p)) (.str (dgS (n : Int))) (.im (.lst (T.map Wd)))) := rfl
  have v6 : varE 6 (S10 (.str (txS p n T)) (.str (hdS p n)) (.str (rowS T)) (.str (dgS p)) (.str (dgS (n : Int))) (.im (.lst (T.map Wd)))) = .ok (.str (dgS (n : Int))) (S10 (.str (txS p n T)) (.str (hdS p n)) (.str (rowS T)) (.str (dgS p)) (.str (dgS (n : Int))) (.im (.lst (T.map Wd)))) := rfl
  unfold Fspanned runD m07_spanned
  rw [hst, seqS_run, e1]
  dsimp only [O.seq]
  rw [seqS_run, e2]
  dsimp only [O.seq]
  rw [seqS_run, e3]
  dsimp only [O.seq]
  rw [seqS_run, e4]
  dsimp only [O.seq]
  generalize S10 (.str (txS p n T)) (.str (hdS p n)) (.str (rowS T)) (.str (dgS p)) (.str (dgS (n : Int))) (.im (.lst (T.map Wd))) = U at *
  have hmk : makE CC 3 (aCons (calE (aCons (varE 5) aNil) intSO) (aCons (calE (aCons (varE 6) aNil) intSO) (aCons (varE 1) aNil))) (Finit CC CM CR) U = .ok (codeD CC p n T') U := makE_run (by
    simp only [aCons_run, aNil_run, calE_run, v1, v5, v6, R.bind_ok, hi, hj, R.of_some]) rfl hm
  rw [retS_run, hmk, R.stmt_ok]
  rfl
theorem Fcread_run {CB CC CM CR CT : Addr} {p : Int} {n : Nat} {T : List (List Int)} (hp : isP p = true) (hn : n ≤ 12) (hT : okR p n T) (hl : T.length ≤ 100) (hT' : T = (redN p T n).T) (hk : p ^ T.length ≤ 4096) : Fcread CB CC CM CR CT [.str (txS p n T)] = .ok (codeD CC p n T) := by
  have hs := Fspanned_run (CC := CC) (CM := CM) (CR := CR) (CT := CT) hp hn hT hl hT' hk
  have ho := tx_ok hp hn hT
  have hc : strC CC (Fstr07 CC) [codeD CC p n T] = some (.str (txS p n T)) := strC_run (Fstr07_run hp hn hT hl)
  have hn1 : neO (.str (txS p n T)) (.str (txS p n T)) = some (.bl false) := by rw [neO_str ho ho]; simp
  have hi := is_str (txS p n T)
  have hst : st0 2 [.str (txS p n T)] = { sl := [.im (.str (txS p n T)), .no], mo := [] } := rfl
  unfold Fcread runD m07_read_code
  rw [hst]
  generalize txS p n T = X at *
  generalize codeD CC p n T = C at *
  have v0 : varE 0 { sl := [.im (.str X), .no], mo := [] } = .ok (.str X) { sl := [.im (.str X), .no], mo := [] } := rfl
  have e1 : (ifS (notT (truT (op1 (varE 0) (isiO "str")))) (raiseS ⟨CT, ["at"], [.int 0]⟩) nilS) { sl := [.im (.str X), .no], mo := [] } = .nx { sl := [.im (.str X), .no], mo := [] } := by
    generalize ({ sl := [.im (.str X), .no], mo := [] } : Ms) = U at *
    simp only [ifS_run, notT_run, truT_run, op1_run, v0, R.bind_ok, hi, R.of_some, truO, Bool.not_true, Bool.false_eq_true, if_false, R.stmt_ok, nilS_run]
  have e2 : (tryX [⟨CB, [CB], [], (.st noS)⟩] (asgS 1 (funE 1 (aCons (varE 0) aNil) (Fspanned CC CM CR CT)))) { sl := [.im (.str X), .no], mo := [] } = .nx { sl := [.im (.str X), .im C], mo := [] } := by
    have : (asgS 1 (funE 1 (aCons (varE 0) aNil) (Fspanned CC CM CR CT))) { sl := [.im (.str X), .no], mo := [] } = .nx { sl := [.im (.str X), .im C], mo := [] } := by
      rw [asgS_run', funE_run, aCons_run, v0, R.bind_ok, aNil_run, R.bind_ok, R.bind_ok]
      dsimp only [List.length_cons, List.length_nil]
      rw [if_pos rfl, hs]
      rfl
    unfold tryX
    rw [this]
  rw [seqS_run, e1]
  dsimp only [O.seq]
  rw [seqS_run, e2]
  dsimp only [O.seq]
  have v0 : varE 0 { sl := [.im (.str X), .im C], mo := [] } = .ok (.str X) { sl := [.im (.str X), .im C], mo := [] } := rfl
  have v1 : varE 1 { sl := [.im (.str X), .im C], mo := [] } = .ok C { sl := [.im (.str X), .im C], mo := [] } := rfl
  generalize ({ sl := [.im (.str X), .im C], mo := [] } : Ms) = U at *
  simp only [seqS_run, ifS_run, tst_run', op2_run, calE_run, aCons_run, aNil_run, v0, v1, R.bind_ok, hc, hn1, R.of_some, truO, Bool.false_eq_true, if_false, R.stmt_ok, nilS_run, O.seq, retS_run]
  rfl
theorem table_self {p : Int} {n : Nat} {rows T W : List (List Int)} (hp : isP p = true) (hn : n ≤ 1000) (h : okR p n rows) (hc : CodeOf p n rows T W) : T = (redN p T n).T := by
  have c2 := codeOf hp hn hc.okT
  refine table_of_words hp hn hc.okT c2.okT ?_
  rw [hc.wds, c2.wds, hc.eqT, red_span hp hn h, hc.eqW]

end Lq

namespace Lq
open PySem PySem.Spec PyProof.Rows L2
def LX07 (a0 : Sv) (ms : List Mo) (a2 a3 a4 a5 a6 a7 a8 a9 a10 a11 a12 a13 a14 : Sv) : Ms := { sl := [a0, .mu 0, a2, a3, a4, a5, a6, a7, a8, a9, a10, a11, a12, a13, a14], mo := ms }
theorem sqT07 {m n : Ms → O} {S S' : Ms} (h : m S = .nx S') : seqS m n S = n S' := by rw [seqS_run, h]; rfl
theorem neO_b07 (a b : Bool) : neO (.bl a) (.bl b) = some (.bl (!decide (a = b))) := neO_en (α := Bool) a b
theorem eqO_b07 (a b : Bool) : eqO (.bl a) (.bl b) = some (.bl (decide (a = b))) := eqO_en (α := Bool) a b
def shp7 (p : Int) (n : Nat) : Prop := isP p = true ∧ n ≤ 5 ∧ (3 < p → n ≤ 3)
theorem shp7_pow {p : Int} {n k : Nat} (hs : shp7 p n) (hk : k ≤ n) : p.toNat ^ k ≤ 343 ∧ p ^ k ≤ 343 := by
  obtain ⟨h1, h2, h3⟩ := hs
  have hc := isP_cases h1
  have key : p.toNat ^ k ≤ 343 := by
    by_cases h : 3 < p
    · have h4 := h3 h
      have e : p.toNat ^ k ≤ 7 ^ 3 := Nat.le_trans (Nat.pow_le_pow_left (by omega) _) (Nat.pow_le_pow_right (by decide) (by omega))
      omega
    · have e : p.toNat ^ k ≤ 3 ^ 5 := Nat.le_trans (Nat.pow_le_pow_left (by omega) _) (Nat.pow_le_pow_right (by decide) (by omega))
      omega
  refine ⟨key, ?_⟩
  obtain ⟨m, rfl⟩ : ∃ m : Nat, p = (m : Int) := ⟨p.toNat, by omega⟩
  rw [Int.toNat_natCast] at key
  have : ((m : Int) ^ k) = ((m ^ k : Nat) : Int) := by rw [Int.natCast_pow]
  rw [this]
  omega
theorem catT_wd07 {v w : List Int} (h : v.length + w.length ≤ 1000) : catT (Wd v) (Wd w) = some (Wd (v ++ w)) := by
  unfold catT Wd
  dsimp only
  rw [if_pos (by rw [List.length_map, List.length_map]; omega), List.map_append]
theorem ixF {xs : List Dt} {d : Dt} (h : xs[0]? = some d) : ixO (.lst xs) (.int 0) = some d := by
  unfold ixO atI ixN
  obtain ⟨hlt, e⟩ := List.getElem?_eq_some_iff.mp h
  simp [hlt, e]
theorem ixLast {xs : List Dt} {d : Dt} (h0 : 0 < xs.length) (h : xs[xs.length - 1]? = some d) : ixO (.lst xs) (.int (-1)) = some d := by
  unfold ixO atI ixN
  have e : ((xs.length : Int) + -1).toNat = xs.length - 1 := by omega
  have e2 : (-1 + (xs.length : Int)).toNat = xs.length - 1 := by omega
  have e3 : (1 : Int) ≤ (xs.length : Int) := by omega
  have e4 : ((xs.length : Int) - 1).toNat = xs.length - 1 := by omega
  simp [e, e2, e3, e4, h]
def bad7 (p : Int) (v0 v1 : List Int) : List Dt := [.non, .int 0, .str "0", Wd (v0 ++ [0]), .lst (v0.map Dt.int), Wd (v1.dropLast ++ [p]), .tup (v1.dropLast.map Dt.int ++ [.non])]
theorem bad7_ok {p : Int} {n : Nat} {v0 v1 : List Int} (hn : n ≤ 900) (h0 : v0.length = n) (h1 : v1.length = n) : ∀ d ∈ bad7 p v0 v1, okV d = true ∧ wordB p (n : Int) d = false := by
  intro d hd
  simp only [bad7, List.mem_cons, List.not_mem_nil, or_false] at hd
  rcases hd with rfl | rfl | rfl | rfl | rfl | rfl | rfl
  · exact ⟨rfl, rfl⟩
  · exact ⟨rfl, rfl⟩
  · exact ⟨rfl, rfl⟩
  · refine ⟨okV_wd (by simp; omega), ?_⟩
    rw [wordB_ok, decide_eq_false_iff_not]
    simp
    omega
  · exact ⟨rfl, rfl⟩
  · refine ⟨okV_wd (by simp; omega), ?_⟩
    rw [wordB_ok, decide_eq_false_iff_not]
    intro h
    have := h.2 p (by simp)
    omega
  · constructor
    · unfold okV
      rw [Bool.and_eq_true, decide_eq_true_eq, List.all_eq_true]
      refine ⟨by simp; omega, fun d hd => ?_⟩
      rcases List.mem_append.mp hd with hd | hd
      · obtain ⟨y, _, rfl⟩ := List.mem_map.mp hd
        rfl
      · rw [List.mem_singleton.mp hd]
        rfl
    · unfold wordB
      dsimp only
      rw [List.all_append]
      simp [itB]
theorem tx_snoc (p : Int) (n : Nat) (A : List (List Int)) (r : List Int) : txS p n (A ++ [r]) = txS p n A ++ " " ++ wrS r := str_ext (by
  rw [tl_app, tl_app, tx_tl, tx_tl, row_tl, row_tl, t32, List.map_append, List.flatten_append]
  simp)
theorem tx_nil (p : Int) (n : Nat) : txS p n [] = hdS p n ++ ":" := str_ext (by
  rw [tx_tl, tl_app, t58, row_tl]
  rfl)
structure C7 (p : Int) (n : Nat) (ra T W : List (List Int)) : Prop where
  hs : shp7 p n
  ha : okR p n ra
  la : ra.length ≤ 3
  hc : CodeOf p n ra T W
section
variable {p : Int} {n : Nat} {ra T W : List (List Int)}
theorem C7.hp (h : C7 p n ra T W) : isP p = true := h.hs.1
theorem C7.hn (h : C7 p n ra T W) : n ≤ 5 := h.hs.2.1
theorem C7.tl (h : C7 p n ra T W) : T.length ≤ 5 := Nat.le_trans h.hc.len h.hn
theorem C7.w1 (h : C7 p n ra T W) : 1 ≤ W.length ∧ W.length ≤ 343 := by
  have hc := isP_cases h.hp
  rw [h.hc.crd]
  exact ⟨Nat.pow_pos (by omega), (shp7_pow h.hs h.hc.len).1⟩
theorem C7.spT (h : C7 p n ra T W) : sortW (spanL p n T) = W := by
  rw [h.hc.eqT, red_span h.hp (by have := h.hn; omega) h.ha, h.hc.eqW]
theorem C7.sub (h : C7 p n ra T W) : ∀ y, Zr p n (kerL p n (redN p T n)) y ↔ y ∈ W := fun y =>
  checks_iff h.hp (by have := h.hn; omega) h.hc.okT h.hc.sub (fun y => Sp_tab h.hp (by have := h.hn; omega) h.ha h.hc)
end

theorem k07_0 {ss : List Int} (h : ss.length ≤ 63) : (asgN 1 (funN 1 (aCons (varE 0) aNil) Fstate)) (st0 15 [scrD ss]) = .nx (LX07 (.im (scrD ss)) [.ob (.ls (stD (stL ss)))] .no .no .no .no .no .no .no .no .no .no .no .no .no) := by
  have hf := Fstate_run h
  have hst : st0 15 [scrD ss] = { sl := [.im (scrD ss), .no, .no, .no, .no, .no, .no, .no, .no, .no, .no, .no, .no, .no, .no], mo := [] } := rfl
  rw [hst]
  simp [funN, hf, LX07]
theorem k07_1 {ss : List Int} {q : Int × Int} : ∃ p q', isP p = true ∧ (asgS 2 (funM 0 1 aNil Fprime)) (LX07 (.im (scrD ss)) [.ob (.ls (stD q))] .no .no .no .no .no .no .no .no .no .no .no .no .no) = .nx (LX07 (.im (scrD ss)) [.ob (.ls (stD q'))] (.im (.int p)) .no .no .no .no .no .no .no .no .no .no .no .no) := by
  have hf : Fprime (stD q) [] = .ok (.int (primeF q)) (stD (takeF 6 q).2) := rfl
  refine ⟨primeF q, (takeF 6 q).2, prime_isP q, ?_⟩
  simp [LX07, funM, muAt, hf]
theorem k07_2 {ss : List Int} {q : Int × Int} {p : Int} (hp : isP p = true) : ∃ (n : Nat) (q' : Int × Int), shp7 p n ∧ (asgS 3 (funM 1 1 (aCons (op2 (cE (.int 6)) (op2 (cE (.int 2)) (calE (aCons (op2 (varE 2) (cE (.int 3)) gtO) aNil) intO) mulO) subO) aNil) Ftake)) (LX07 (.im (scrD ss)) [.ob (.ls (stD q))] (.im (.int p)) .no .no .no .no .no .no .no .no .no .no .no .no) = .nx (LX07 (.im (scrD ss)) [.ob (.ls (stD q'))] (.im (.int p)) (.im (.int (n : Int))) .no .no .no .no .no .no .no .no .no .no .no) := by
  have hc := isP_cases hp
  by_cases h : 3 < p
  · have hf := Ftake_run (m := 4) q (by decide)
    have hr := takeF_range (m := 4) (by decide) q
    generalize takeF 4 q = u at *
    obtain ⟨v, q'⟩ := u
    dsimp only at hf hr
    obtain ⟨v, rfl⟩ : ∃ k : Nat, v = (k : Int) := ⟨v.toNat, by omega⟩
    refine ⟨v, q', ⟨hp, by omega, fun _ => by omega⟩, ?_⟩
    simp [LX07, funM, muAt, h, hf, (by decide : CMul 2 1)]
  · have hf := Ftake_run (m := 6) q (by decide)
    have hr := takeF_range (m := 6) (by decide) q
    generalize takeF 6 q = u at *
    obtain ⟨v, q'⟩ := u
    dsimp only at hf hr
    obtain ⟨v, rfl⟩ : ∃ k : Nat, v = (k : Int) := ⟨v.toNat, by omega⟩
    refine ⟨v, q', ⟨hp, by omega, fun h2 => absurd h2 h⟩, ?_⟩
    simp [LX07, funM, muAt, h, hf, (by decide : CMul 2 0)]
theorem k07_3 {ss : List Int} {q : Int × Int} {p : Int} {n : Nat} (hs : shp7 p n) : ∃ ra q', okR p n ra ∧ ra.length ≤ 3 ∧ (asgS 4 (funM 3 1 (aCons (varE 3) (aCons (varE 2) (aCons (cE (.int 3)) aNil))) Frows)) (LX07 (.im (scrD ss)) [.ob (.ls (stD q))] (.im (.int p)) (.im (.int (n : Int))) .no .no .no .no .no .no .no .no .no .no .no) = .nx (LX07 (.im (scrD ss)) [.ob (.ls (stD q'))] (.im (.int p)) (.im (.int (n : Int))) (.im (.lst (ra.map Wd))) .no .no .no .no .no .no .no .no .no .no) := by
  obtain ⟨hp, hn, _⟩ := hs
  have hc := isP_cases hp
  have hf := Frows_run (n := n) (p := p) (most := 3) q (by omega) (by omega) (by omega)
  obtain ⟨h1, h2⟩ := rows_ok9 (m := 3) hp (by omega : n ≤ 1000) (by omega) q
  generalize rowsF p n 3 q = u at *
  obtain ⟨rows, q'⟩ := u
  dsimp only at hf h1 h2
  refine ⟨rows, q', h1, by omega, ?_⟩
  simp [LX07, funM, muAt, hf]
theorem k07_4 {CC CM CR : Addr} {ss : List Int} {q : Int × Int} {p : Int} {n : Nat} {ra T W : List (List Int)} (h : C7 p n ra T W) : (asgS 5 (makE CC 3 (aCons (varE 2) (aCons (varE 3) (aCons (varE 4) aNil))) (Finit CC CM CR))) (LX07 (.im (scrD ss)) [.ob (.ls (stD q))] (.im (.int p)) (.im (.int (n : Int))) (.im (.lst (ra.map Wd))) .no .no .no .no .no .no .no .no .no .no) = .nx (LX07 (.im (scrD ss)) [.ob (.ls (stD q))] (.im (.int p)) (.im (.int (n : Int))) (.im (.lst (ra.map Wd))) (.im (codeD CC p n T)) .no .no .no .no .no .no .no .no .no) := by
  have hk := (shp7_pow h.hs h.hc.len).2
  have hn := h.hn
  have la := h.la
  have hi := make9 CC CM CR (.inl rfl) h.hp (by omega : n ≤ 12) (by omega) h.ha h.hc (by omega)
  have hm : makE CC 3 (aCons (varE 2) (aCons (varE 3) (aCons (varE 4) aNil))) (Finit CC CM CR) (LX07 (.im (scrD ss)) [.ob (.ls (stD q))] (.im (.int p)) (.im (.int (n : Int))) (.im (.lst (ra.map Wd))) .no .no .no .no .no .no .no .no .no .no) = .ok (codeD CC p n T) (LX07 (.im (scrD ss)) [.ob (.ls (stD q))] (.im (.int p)) (.im (.int (n : Int))) (.im (.lst (ra.map Wd))) .no .no .no .no .no .no .no .no .no .no) := makE_run (ds := [.int p, .int (n : Int), .lst (ra.map Wd)]) (by simp [LX07]) rfl hi
  rw [asgS_run', hm]
  rfl
theorem k07_5 {CC : Addr} {ss : List Int} {q : Int × Int} {p : Int} {n : Nat} {ra T W : List (List Int)} (h : C7 p n ra T W) : (asgS 6 (funE 3 (aCons (varE 4) (aCons (varE 3) (aCons (varE 2) aNil))) Fspan)) (LX07 (.im (scrD ss)) [.ob (.ls (stD q))] (.im (.int p)) (.im (.int (n : Int))) (.im (.lst (ra.map Wd))) (.im (codeD CC p n T)) .no .no .no .no .no .no .no .no .no) = .nx (LX07 (.im (scrD ss)) [.ob (.ls (stD q))] (.im (.int p)) (.im (.int (n : Int))) (.im (.lst (ra.map Wd))) (.im (codeD CC p n T)) (.im (.lst (W.map Wd))) .no .no .no .no .no .no .no .no) := by
  have hn := h.hn
  have hf := span_run9 (rows := ra) h.hp (by omega : n ≤ 1000) (by have := h.la; omega) h.ha
  rw [← h.hc.eqW] at hf
  have v2 : varE 2 (LX07 (.im (scrD ss)) [.ob (.ls (stD q))] (.im (.int p)) (.im (.int (n : Int))) (.im (.lst (ra.map Wd))) (.im (codeD CC p n T)) .no .no .no .no .no .no .no .no .no) = .ok (.int p) (LX07 (.im (scrD ss)) [.ob (.ls (stD q))] (.im (.int p)) (.im (.int (n : Int))) (.im (.lst (ra.map Wd))) (.im (codeD CC p n T)) .no .no .no .no .no .no .no .no .no) := varE_im rfl
  have v3 : varE 3 (LX07 (.im (scrD ss)) [.ob (.ls (stD q))] (.im (.int p)) (.im (.int (n : Int))) (.im (.lst (ra.map Wd))) (.im (codeD CC p n T)) .no .no .no .no .no .no .no .no .no) = .ok (.int (n : Int)) (LX07 (.im (scrD ss)) [.ob (.ls (stD q))] (.im (.int p)) (.im (.int (n : Int))) (.im (.lst (ra.map Wd))) (.im (codeD CC p n T)) .no .no .no .no .no .no .no .no .no) := varE_im rfl
  have v4 : varE 4 (LX07 (.im (scrD ss)) [.ob (.ls (stD q))] (.im (.int p)) (.im (.int (n : Int))) (.im (.lst (ra.map Wd))) (.im (codeD CC p n T)) .no .no .no .no .no .no .no .no .no) = .ok (.lst (ra.map Wd)) (LX07 (.im (scrD ss)) [.ob (.ls (stD q))] (.im (.int p)) (.im (.int (n : Int))) (.im (.lst (ra.map Wd))) (.im (codeD CC p n T)) .no .no .no .no .no .no .no .no .no) := varE_im rfl
  have key : funE 3 (aCons (varE 4) (aCons (varE 3) (aCons (varE 2) aNil))) Fspan (LX07 (.im (scrD ss)) [.ob (.ls (stD q))] (.im (.int p)) (.im (.int (n : Int))) (.im (.lst (ra.map Wd))) (.im (codeD CC p n T)) .no .no .no .no .no .no .no .no .no) = .ok (.lst (W.map Wd)) (LX07 (.im (scrD ss)) [.ob (.ls (stD q))] (.im (.int p)) (.im (.int (n : Int))) (.im (.lst (ra.map Wd))) (.im (codeD CC p n T)) .no .no .no .no .no .no .no .no .no) := by
    generalize (LX07 (.im (scrD ss)) [.ob (.ls (stD q))] (.im (.int p)) (.im (.int (n : Int))) (.im (.lst (ra.map Wd))) (.im (codeD CC p n T)) .no .no .no .no .no .no .no .no .no) = U at *
    simp only [funE_run, aCons_run, aNil_run, v2, v3, v4, R.bind_ok, List.length_cons, List.length_nil, Nat.zero_add, Nat.reduceAdd, if_true, hf]
  rw [asgS_run', key]
  rfl
theorem len_w7 (W : List (List Int)) : lenO [.lst (W.map Wd)] = some (.int (W.length : Int)) := by
  show some (Dt.int ((W.map Wd).length : Int)) = _
  rw [List.length_map]
theorem len_t7 (T : List (List Int)) : lenO [TD T] = some (.int (T.length : Int)) := by
  show some (Dt.int ((T.map Wd).length : Int)) = _
  rw [List.length_map]
theorem k07_6 {CC : Addr} {ss : List Int} {q : Int × Int} {p : Int} {n : Nat} {ra T W : List (List Int)} (h : C7 p n ra T W) : (ifS (orT (tst (op2 (frz (lcE (itG CC "words" (varE 5) (Fwords CC)) (Tk.nm 7).k yesT (varE 7) [7])) (varE 6) neO)) (orT (tst (op2 (metE CC "size" 1 (varE 5) aNil (Fsize07 CC)) (calE (aCons (varE 6) aNil) lenO) neO)) (orT (tst (op2 (fldE CC "p" (varE 5)) (varE 2) neO)) (tst (op2 (fldE CC "n" (varE 5)) (varE 3) neO))))) (retS (cE (.bl false))) nilS) (LX07 (.im (scrD ss)) [.ob (.ls (stD q))] (.im (.int p)) (.im (.int (n : Int))) (.im (.lst (ra.map Wd))) (.im (codeD CC p n T)) (.im (.lst (W.map Wd))) .no .no .no .no .no .no .no .no) = .nx (LX07 (.im (scrD ss)) [.ob (.ls (stD q))] (.im (.int p)) (.im (.int (n : Int))) (.im (.lst (ra.map Wd))) (.im (codeD CC p n T)) (.im (.lst (W.map Wd))) .no .no .no .no .no .no .no .no) := by
  have hn := h.hn
  have hw : frz (lcE (itG CC "words" (varE 5) (Fwords CC)) (Tk.nm 7).k yesT (varE 7) [7]) (LX07 (.im (scrD ss)) [.ob (.ls (stD q))] (.im (.int p)) (.im (.int (n : Int))) (.im (.lst (ra.map Wd))) (.im (codeD CC p n T)) (.im (.lst (W.map Wd))) .no .no .no .no .no .no .no .no) = .ok (.lst (W.map Wd)) (LX07 (.im (scrD ss)) [.ob (.ls (stD q))] (.im (.int p)) (.im (.int (n : Int))) (.im (.lst (ra.map Wd))) (.im (codeD CC p n T)) (.im (.lst (W.map Wd))) .no .no .no .no .no .no .no .no) := wlist_run h.hp (by omega) h.hc (by have := (shp7_pow h.hs h.hc.len).1; omega) (show SlIm _ 5 _ from rfl) (by show 7 < 15; decide)
  have v2 : varE 2 (LX07 (.im (scrD ss)) [.ob (.ls (stD q))] (.im (.int p)) (.im (.int (n : Int))) (.im (.lst (ra.map Wd))) (.im (codeD CC p n T)) (.im (.lst (W.map Wd))) .no .no .no .no .no .no .no .no) = .ok (.int p) (LX07 (.im (scrD ss)) [.ob (.ls (stD q))] (.im (.int p)) (.im (.int (n : Int))) (.im (.lst (ra.map Wd))) (.im (codeD CC p n T)) (.im (.lst (W.map Wd))) .no .no .no .no .no .no .no .no) := varE_im rfl
  have v3 : varE 3 (LX07 (.im (scrD ss)) [.ob (.ls (stD q))] (.im (.int p)) (.im (.int (n : Int))) (.im (.lst (ra.map Wd))) (.im (codeD CC p n T)) (.im (.lst (W.map Wd))) .no .no .no .no .no .no .no .no) = .ok (.int (n : Int)) (LX07 (.im (scrD ss)) [.ob (.ls (stD q))] (.im (.int p)) (.im (.int (n : Int))) (.im (.lst (ra.map Wd))) (.im (codeD CC p n T)) (.im (.lst (W.map Wd))) .no .no .no .no .no .no .no .no) := varE_im rfl
  have v5 : varE 5 (LX07 (.im (scrD ss)) [.ob (.ls (stD q))] (.im (.int p)) (.im (.int (n : Int))) (.im (.lst (ra.map Wd))) (.im (codeD CC p n T)) (.im (.lst (W.map Wd))) .no .no .no .no .no .no .no .no) = .ok (codeD CC p n T) (LX07 (.im (scrD ss)) [.ob (.ls (stD q))] (.im (.int p)) (.im (.int (n : Int))) (.im (.lst (ra.map Wd))) (.im (codeD CC p n T)) (.im (.lst (W.map Wd))) .no .no .no .no .no .no .no .no) := varE_im rfl
  have v6 : varE 6 (LX07 (.im (scrD ss)) [.ob (.ls (stD q))] (.im (.int p)) (.im (.int (n : Int))) (.im (.lst (ra.map Wd))) (.im (codeD CC p n T)) (.im (.lst (W.map Wd))) .no .no .no .no .no .no .no .no) = .ok (.lst (W.map Wd)) (LX07 (.im (scrD ss)) [.ob (.ls (stD q))] (.im (.int p)) (.im (.int (n : Int))) (.im (.lst (ra.map Wd))) (.im (codeD CC p n T)) (.im (.lst (W.map Wd))) .no .no .no .no .no .no .no .no) := varE_im rfl
  have hsz := Fsize07_run (CC := CC) (n := n) (T := T) h.hp (by have := h.tl; omega)
  have hm : metE CC "size" 1 (varE 5) aNil (Fsize07 CC) (LX07 (.im (scrD ss)) [.ob (.ls (stD q))] (.im (.int p)) (.im (.int (n : Int))) (.im (.lst (ra.map Wd))) (.im (codeD CC p n T)) (.im (.lst (W.map Wd))) .no .no .no .no .no .no .no .no) = .ok (.int (p ^ T.length)) (LX07 (.im (scrD ss)) [.ob (.ls (stD q))] (.im (.int p)) (.im (.int (n : Int))) (.im (.lst (ra.map Wd))) (.im (codeD CC p n T)) (.im (.lst (W.map Wd))) .no .no .no .no .no .no .no .no) := metE_run (varE_im rfl) (by decide +kernel) rfl rfl hsz
  have hcd : p ^ T.length = (W.length : Int) := by
    have hc := isP_cases h.hp
    rw [h.hc.crd]
    obtain ⟨m, rfl⟩ : ∃ m : Nat, p = (m : Int) := ⟨p.toNat, by omega⟩
    rw [Int.toNat_natCast, Int.natCast_pow]
  rw [hcd] at hm
  have h1 := code_p CC p n T
  have h2 := code_n CC p n T
  have n1 := neO_lw W W
  have n2 := neO_int (W.length : Int) (W.length : Int)
  have n3 := neO_int p p
  have n4 := neO_int (n : Int) (n : Int)
  rw [decide_eq_true rfl] at n1 n2 n3 n4
  have l1 := len_w7 W
  generalize (LX07 (.im (scrD ss)) [.ob (.ls (stD q))] (.im (.int p)) (.im (.int (n : Int))) (.im (.lst (ra.map Wd))) (.im (codeD CC p n T)) (.im (.lst (W.map Wd))) .no .no .no .no .no .no .no .no) = U at *
  generalize codeD CC p n T = C at *
  generalize W.map Wd = X at *
  simp only [ifS_run, orT_run, tst_run', op2_run, hw, hm, calE_run, aCons_run, aNil_run, fldE_run', v2, v3, v5, v6, h1, h2, n1, n2, n3, n4, l1, R.bind_ok, R.of_some, Bool.not_true, Bool.false_eq_true, if_false, R.stmt_ok]
  rfl
theorem k07_7 {CC : Addr} {ss : List Int} {q : Int × Int} {p : Int} {n : Nat} {ra T W : List (List Int)} (h : C7 p n ra T W) : (ifS (orT (notT (truT (op1 (fldE CC "rows" (varE 5)) (isiO "tuple")))) (orT (tst (op2 (calE (aCons (fldE CC "rows" (varE 5)) aNil) lenO) (fldE CC "k" (varE 5)) neO)) (tst (op2 (funE 3 (aCons (fldE CC "rows" (varE 5)) (aCons (varE 3) (aCons (varE 2) aNil))) Fspan) (varE 6) neO)))) (retS (cE (.bl false))) nilS) (LX07 (.im (scrD ss)) [.ob (.ls (stD q))] (.im (.int p)) (.im (.int (n : Int))) (.im (.lst (ra.map Wd))) (.im (codeD CC p n T)) (.im (.lst (W.map Wd))) .no .no .no .no .no .no .no .no) = .nx (LX07 (.im (scrD ss)) [.ob (.ls (stD q))] (.im (.int p)) (.im (.int (n : Int))) (.im (.lst (ra.map Wd))) (.im (codeD CC p n T)) (.im (.lst (W.map Wd))) .no .no .no .no .no .no .no .no) := by
  have hn := h.hn
  have v2 : varE 2 (LX07 (.im (scrD ss)) [.ob (.ls (stD q))] (.im (.int p)) (.im (.int (n : Int))) (.im (.lst (ra.map Wd))) (.im (codeD CC p n T)) (.im (.lst (W.map Wd))) .no .no .no .no .no .no .no .no) = .ok (.int p) (LX07 (.im (scrD ss)) [.ob (.ls (stD q))] (.im (.int p)) (.im (.int (n : Int))) (.im (.lst (ra.map Wd))) (.im (codeD CC p n T)) (.im (.lst (W.map Wd))) .no .no .no .no .no .no .no .no) := varE_im rfl
  have v3 : varE 3 (LX07 (.im (scrD ss)) [.ob (.ls (stD q))] (.im (.int p)) (.im (.int (n : Int))) (.im (.lst (ra.map Wd))) (.im (codeD CC p n T)) (.im (.lst (W.map Wd))) .no .no .no .no .no .no .no .no) = .ok (.int (n : Int)) (LX07 (.im (scrD ss)) [.ob (.ls (stD q))] (.im (.int p)) (.im (.int (n : Int))) (.im (.lst (ra.map Wd))) (.im (codeD CC p n T)) (.im (.lst (W.map Wd))) .no .no .no .no .no .no .no .no) := varE_im rfl
  have v5 : varE 5 (LX07 (.im (scrD ss)) [.ob (.ls (stD q))] (.im (.int p)) (.im (.int (n : Int))) (.im (.lst (ra.map Wd))) (.im (codeD CC p n T)) (.im (.lst (W.map Wd))) .no .no .no .no .no .no .no .no) = .ok (codeD CC p n T) (LX07 (.im (scrD ss)) [.ob (.ls (stD q))] (.im (.int p)) (.im (.int (n : Int))) (.im (.lst (ra.map Wd))) (.im (codeD CC p n T)) (.im (.lst (W.map Wd))) .no .no .no .no .no .no .no .no) := varE_im rfl
  have v6 : varE 6 (LX07 (.im (scrD ss)) [.ob (.ls (stD q))] (.im (.int p)) (.im (.int (n : Int))) (.im (.lst (ra.map Wd))) (.im (codeD CC p n T)) (.im (.lst (W.map Wd))) .no .no .no .no .no .no .no .no) = .ok (.lst (W.map Wd)) (LX07 (.im (scrD ss)) [.ob (.ls (stD q))] (.im (.int p)) (.im (.int (n : Int))) (.im (.lst (ra.map Wd))) (.im (codeD CC p n T)) (.im (.lst (W.map Wd))) .no .no .no .no .no .no .no .no) := varE_im rfl
  have h1 := code_rows CC p n T
  have h2 := code_k CC p n T
  have hf := Fspan_run (n := n) (seqOf_td T) (isP_okP h.hp) (by omega) (by have := (shp7_pow h.hs h.hc.len).1; omega) h.hc.okT
  rw [h.spT] at hf
  have n1 := neO_lw W W
  have n2 := neO_int (T.length : Int) (T.length : Int)
  rw [decide_eq_true rfl] at n1 n2
  have l1 := len_t7 T
  have t1 : isiO "tuple" (TD T) = some (.bl true) := by unfold isiO TD tyN; rfl
  generalize (LX07 (.im (scrD ss)) [.ob (.ls (stD q))] (.im (.int p)) (.im (.int (n : Int))) (.im (.lst (ra.map Wd))) (.im (codeD CC p n T)) (.im (.lst (W.map Wd))) .no .no .no .no .no .no .no .no) = U at *
  generalize codeD CC p n T = C at *
  generalize W.map Wd = X at *
  generalize TD T = Y at *
  simp only [ifS_run, orT_run, notT_run, truT_run, op1_run, tst_run', op2_run, funE_run, calE_run, aCons_run, aNil_run, fldE_run', v2, v3, v5, v6, h1, h2, hf, t1, truO, n1, n2, l1, R.bind_ok, R.of_some, List.length_cons, List.length_nil, Nat.zero_add, Nat.reduceAdd, if_true, Bool.not_true, Bool.false_eq_true, if_false, R.stmt_ok]
  rfl
theorem inD_w7 (w : List Int) (W : List (List Int)) : inD false (Wd w) (.lst (W.map Wd)) = some (.bl (decide (w ∈ W))) := by
  have := inD_en (α := List Int) (by decide) false w W
  rw [if_neg (by decide)] at this
  exact this.trans (congrArg (fun b => some (Dt.bl b)) (decide_eq_decide.mpr Iff.rfl))
theorem cut_last07 (xs : List Dt) : cut xs none (some (-1)) = xs.dropLast := by
  unfold cut
  rw [HT.sIx_none, List.drop_zero, List.dropLast_eq_take, Nat.sub_zero]
  congr 1
  unfold HT.sIx
  simp
  try omega
theorem k07_8 {CC CM : Addr} {ss : List Int} {q : Int × Int} {p : Int} {n : Nat} {ra T W : List (List Int)} (h : C7 p n ra T W) : ∃ x7, (forS (itS (funE 2 (aCons (varE 3) (aCons (varE 2) aNil)) Fall)) (Tk.nm 7).k (ifS (tst (op2 (metE CC "holds" 2 (varE 5) (aCons (varE 7) aNil) (Fholds CC CM)) (op2 (varE 7) (varE 6) (inD false)) neO)) (retS (cE (.bl false))) nilS)) (LX07 (.im (scrD ss)) [.ob (.ls (stD q))] (.im (.int p)) (.im (.int (n : Int))) (.im (.lst (ra.map Wd))) (.im (codeD CC p n T)) (.im (.lst (W.map Wd))) .no .no .no .no .no .no .no .no) = .nx (LX07 (.im (scrD ss)) [.ob (.ls (stD q))] (.im (.int p)) (.im (.int (n : Int))) (.im (.lst (ra.map Wd))) (.im (codeD CC p n T)) (.im (.lst (W.map Wd))) x7 .no .no .no .no .no .no .no) := by
  have hn := h.hn
  have v2 : varE 2 (LX07 (.im (scrD ss)) [.ob (.ls (stD q))] (.im (.int p)) (.im (.int (n : Int))) (.im (.lst (ra.map Wd))) (.im (codeD CC p n T)) (.im (.lst (W.map Wd))) .no .no .no .no .no .no .no .no) = .ok (.int p) (LX07 (.im (scrD ss)) [.ob (.ls (stD q))] (.im (.int p)) (.im (.int (n : Int))) (.im (.lst (ra.map Wd))) (.im (codeD CC p n T)) (.im (.lst (W.map Wd))) .no .no .no .no .no .no .no .no) := varE_im rfl
  have v3 : varE 3 (LX07 (.im (scrD ss)) [.ob (.ls (stD q))] (.im (.int p)) (.im (.int (n : Int))) (.im (.lst (ra.map Wd))) (.im (codeD CC p n T)) (.im (.lst (W.map Wd))) .no .no .no .no .no .no .no .no) = .ok (.int (n : Int)) (LX07 (.im (scrD ss)) [.ob (.ls (stD q))] (.im (.int p)) (.im (.int (n : Int))) (.im (.lst (ra.map Wd))) (.im (codeD CC p n T)) (.im (.lst (W.map Wd))) .no .no .no .no .no .no .no .no) := varE_im rfl
  have hal := Fall_run (n := n) (isP_okP h.hp) (by omega) (by have := (shp7_pow h.hs (Nat.le_refl n)).1; omega)
  have hit : (itS (funE 2 (aCons (varE 3) (aCons (varE 2) aNil)) Fall)) (LX07 (.im (scrD ss)) [.ob (.ls (stD q))] (.im (.int p)) (.im (.int (n : Int))) (.im (.lst (ra.map Wd))) (.im (codeD CC p n T)) (.im (.lst (W.map Wd))) .no .no .no .no .no .no .no .no) = .ok ((allN p n).map Wd) (LX07 (.im (scrD ss)) [.ob (.ls (stD q))] (.im (.int p)) (.im (.int (n : Int))) (.im (.lst (ra.map Wd))) (.im (codeD CC p n T)) (.im (.lst (W.map Wd))) .no .no .no .no .no .no .no .no) := by
    generalize (LX07 (.im (scrD ss)) [.ob (.ls (stD q))] (.im (.int p)) (.im (.int (n : Int))) (.im (.lst (ra.map Wd))) (.im (codeD CC p n T)) (.im (.lst (W.map Wd))) .no .no .no .no .no .no .no .no) = U at *
    simp only [itS_run, funE_run, aCons_run, aNil_run, v2, v3, R.bind_ok, List.length_cons, List.length_nil, Nat.zero_add, Nat.reduceAdd, if_true, hal, seqOf_lst, R.of_some]
  obtain ⟨S', f1, f2⟩ := forL_fold (k := (Tk.nm 7).k) (body := (ifS (tst (op2 (metE CC "holds" 2 (varE 5) (aCons (varE 7) aNil) (Fholds CC CM)) (op2 (varE 7) (varE 6) (inD false)) neO)) (retS (cE (.bl false))) nilS)) Wd (fun _ (_ : Unit) S => ∃ x7, S = (LX07 (.im (scrD ss)) [.ob (.ls (stD q))] (.im (.int p)) (.im (.int (n : Int))) (.im (.lst (ra.map Wd))) (.im (codeD CC p n T)) (.im (.lst (W.map Wd))) x7 .no .no .no .no .no .no .no)) (fun u _ => u) (allN p n) 0 () (LX07 (.im (scrD ss)) [.ob (.ls (stD q))] (.im (.int p)) (.im (.int (n : Int))) (.im (.lst (ra.map Wd))) (.im (codeD CC p n T)) (.im (.lst (W.map Wd))) .no .no .no .no .no .no .no .no) ⟨.no, rfl⟩ (fun j u d S hd hj hI => by
    obtain ⟨x7, rfl⟩ := hI
    refine ⟨(LX07 (.im (scrD ss)) [.ob (.ls (stD q))] (.im (.int p)) (.im (.int (n : Int))) (.im (.lst (ra.map Wd))) (.im (codeD CC p n T)) (.im (.lst (W.map Wd))) (.im (Wd d)) .no .no .no .no .no .no .no), (LX07 (.im (scrD ss)) [.ob (.ls (stD q))] (.im (.int p)) (.im (.int (n : Int))) (.im (.lst (ra.map Wd))) (.im (codeD CC p n T)) (.im (.lst (W.map Wd))) (.im (Wd d)) .no .no .no .no .no .no .no), rfl, .inl ?_, _, rfl⟩
    have hd1 := ((ok_all (by omega)).mp hd : ok1 p n d)
    have hf := Fholds_run (CC := CC) (CM := CM) h.hp (by omega) hd1 h.sub
    have v5 : varE 5 (LX07 (.im (scrD ss)) [.ob (.ls (stD q))] (.im (.int p)) (.im (.int (n : Int))) (.im (.lst (ra.map Wd))) (.im (codeD CC p n T)) (.im (.lst (W.map Wd))) (.im (Wd d)) .no .no .no .no .no .no .no) = .ok (codeD CC p n T) (LX07 (.im (scrD ss)) [.ob (.ls (stD q))] (.im (.int p)) (.im (.int (n : Int))) (.im (.lst (ra.map Wd))) (.im (codeD CC p n T)) (.im (.lst (W.map Wd))) (.im (Wd d)) .no .no .no .no .no .no .no) := varE_im rfl
    have v6 : varE 6 (LX07 (.im (scrD ss)) [.ob (.ls (stD q))] (.im (.int p)) (.im (.int (n : Int))) (.im (.lst (ra.map Wd))) (.im (codeD CC p n T)) (.im (.lst (W.map Wd))) (.im (Wd d)) .no .no .no .no .no .no .no) = .ok (.lst (W.map Wd)) (LX07 (.im (scrD ss)) [.ob (.ls (stD q))] (.im (.int p)) (.im (.int (n : Int))) (.im (.lst (ra.map Wd))) (.im (codeD CC p n T)) (.im (.lst (W.map Wd))) (.im (Wd d)) .no .no .no .no .no .no .no) := varE_im rfl
    have v7 : varE 7 (LX07 (.im (scrD ss)) [.ob (.ls (stD q))] (.im (.int p)) (.im (.int (n : Int))) (.im (.lst (ra.map Wd))) (.im (codeD CC p n T)) (.im (.lst (W.map Wd))) (.im (Wd d)) .no .no .no .no .no .no .no) = .ok (Wd d) (LX07 (.im (scrD ss)) [.ob (.ls (stD q))] (.im (.int p)) (.im (.int (n : Int))) (.im (.lst (ra.map Wd))) (.im (codeD CC p n T)) (.im (.lst (W.map Wd))) (.im (Wd d)) .no .no .no .no .no .no .no) := varE_im rfl
    have hm : metE CC "holds" 2 (varE 5) (aCons (varE 7) aNil) (Fholds CC CM) (LX07 (.im (scrD ss)) [.ob (.ls (stD q))] (.im (.int p)) (.im (.int (n : Int))) (.im (.lst (ra.map Wd))) (.im (codeD CC p n T)) (.im (.lst (W.map Wd))) (.im (Wd d)) .no .no .no .no .no .no .no) = .ok (.bl (decide (d ∈ W))) (LX07 (.im (scrD ss)) [.ob (.ls (stD q))] (.im (.int p)) (.im (.int (n : Int))) (.im (.lst (ra.map Wd))) (.im (codeD CC p n T)) (.im (.lst (W.map Wd))) (.im (Wd d)) .no .no .no .no .no .no .no) := metE_run (varE_im rfl) (by decide +kernel) rfl rfl hf
    have i1 := inD_w7 d W
    have n1 := neO_b07 (decide (d ∈ W)) (decide (d ∈ W))
    rw [decide_eq_true rfl] at n1
    generalize (LX07 (.im (scrD ss)) [.ob (.ls (stD q))] (.im (.int p)) (.im (.int (n : Int))) (.im (.lst (ra.map Wd))) (.im (codeD CC p n T)) (.im (.lst (W.map Wd))) (.im (Wd d)) .no .no .no .no .no .no .no) = U at *
    generalize W.map Wd = X at *
    simp only [ifS_run, tst_run', op2_run, hm, v6, v7, i1, n1, R.bind_ok, R.of_some, Bool.not_true, Bool.false_eq_true, if_false, R.stmt_ok]
    rfl)
  obtain ⟨x7, rfl⟩ := f2
  refine ⟨x7, ?_⟩
  rw [forS_run, hit, R.stmt_ok, f1]
theorem slT_init07 {S S1 : Ms} {m : Ms → R Dt} {v : List Int} (h : m S = .ok (Wd v) S1) : slT m oNone (oSome (op1 (cE (.int 1)) negO)) S = .ok (Wd v.dropLast) S1 := by
  unfold slT
  rw [h, R.bind_ok]
  unfold oNone oSome
  rw [R.bind_ok, op1_run, cE_run, R.bind_ok, negO_i, R.of_some, R.bind_ok]
  show R.ok (Dt.tup (cut (v.map Dt.int) none (some (-1)))) S1 = _
  rw [cut_last07, ← List.map_dropLast]
  rfl
theorem k07_9 {CC CM : Addr} {ss : List Int} {q : Int × Int} {p : Int} {n : Nat} {ra T W : List (List Int)} {x7 : Sv} (h : C7 p n ra T W) : ∃ x8, (forS (itS (frz (lstE (aCons (cE .non) (aCons (cE (.int 0)) (aCons (cE (.str "0")) (aCons (op2 (op2 (varE 6) (cE (.int 0)) ixO) (tupE (aCons (cE (.int 0)) aNil)) catT) (aCons (frz (calN (aCons (op2 (varE 6) (cE (.int 0)) ixO) aNil) lstO)) (aCons (op2 (slT (op2 (varE 6) (op1 (cE (.int 1)) negO) ixO) oNone (oSome (op1 (cE (.int 1)) negO))) (tupE (aCons (varE 2) aNil)) catT) (aCons (op2 (slT (op2 (varE 6) (op1 (cE (.int 1)) negO) ixO) oNone (oSome (op1 (cE (.int 1)) negO))) (tupE (aCons (cE .non) aNil)) catT) aNil)))))))))) (Tk.nm 8).k (ifS (tst (op2 (metE CC "holds" 2 (varE 5) (aCons (varE 8) aNil) (Fholds CC CM)) (cE (.bl false)) (bCmp fun i j => !decide (i = j)))) (retS (cE (.bl false))) nilS)) (LX07 (.im (scrD ss)) [.ob (.ls (stD q))] (.im (.int p)) (.im (.int (n : Int))) (.im (.lst (ra.map Wd))) (.im (codeD CC p n T)) (.im (.lst (W.map Wd))) x7 .no .no .no .no .no .no .no) = .nx (LX07 (.im (scrD ss)) [.ob (.ls (stD q))] (.im (.int p)) (.im (.int (n : Int))) (.im (.lst (ra.map Wd))) (.im (codeD CC p n T)) (.im (.lst (W.map Wd))) x7 x8 .no .no .no .no .no .no) := by
  have hn := h.hn
  obtain ⟨w1, w2⟩ := h.w1
  obtain ⟨v0, hv0⟩ : ∃ v0, W[0]? = some v0 := ⟨_, List.getElem?_eq_getElem w1⟩
  obtain ⟨v1, hv1⟩ : ∃ v1, W[W.length - 1]? = some v1 := ⟨_, List.getElem?_eq_getElem (by omega)⟩
  have o0 := h.hc.okW v0 (List.mem_of_getElem? hv0)
  have o1 := h.hc.okW v1 (List.mem_of_getElem? hv1)
  have ix0 : ixO (.lst (W.map Wd)) (.int 0) = some (Wd v0) := ixF (by rw [List.getElem?_map, hv0]; rfl)
  have ix1 : ixO (.lst (W.map Wd)) (.int (-1)) = some (Wd v1) := ixLast (by rw [List.length_map]; exact w1) (by rw [List.length_map, List.getElem?_map, hv1]; rfl)
  have hb := bad7_ok (p := p) (by omega : n ≤ 900) o0.2 o1.2
  have c1 : catT (Wd v0) (.tup [.int 0]) = some (Wd (v0 ++ [0])) := catT_wd07 (w := [0]) (by rw [o0.2]; simp; omega)
  have c2 : catT (Wd v1.dropLast) (.tup [.int p]) = some (Wd (v1.dropLast ++ [p])) := catT_wd07 (w := [p]) (by simp [o1.2]; omega)
  have c3 : catT (Wd v1.dropLast) (.tup [.non]) = some (.tup (v1.dropLast.map Dt.int ++ [.non])) := by
    unfold catT Wd
    dsimp only
    rw [if_pos (by simp [o1.2]; omega)]
  have l1 : lstO [Wd v0] = some (v0.map Dt.int) := rfl
  have hng : negO (.int 1) = some (.int (-1)) := rfl
  have v2 : varE 2 (LX07 (.im (scrD ss)) [.ob (.ls (stD q))] (.im (.int p)) (.im (.int (n : Int))) (.im (.lst (ra.map Wd))) (.im (codeD CC p n T)) (.im (.lst (W.map Wd))) x7 .no .no .no .no .no .no .no) = .ok (.int p) (LX07 (.im (scrD ss)) [.ob (.ls (stD q))] (.im (.int p)) (.im (.int (n : Int))) (.im (.lst (ra.map Wd))) (.im (codeD CC p n T)) (.im (.lst (W.map Wd))) x7 .no .no .no .no .no .no .no) := varE_im rfl
  have v6 : varE 6 (LX07 (.im (scrD ss)) [.ob (.ls (stD q))] (.im (.int p)) (.im (.int (n : Int))) (.im (.lst (ra.map Wd))) (.im (codeD CC p n T)) (.im (.lst (W.map Wd))) x7 .no .no .no .no .no .no .no) = .ok (.lst (W.map Wd)) (LX07 (.im (scrD ss)) [.ob (.ls (stD q))] (.im (.int p)) (.im (.int (n : Int))) (.im (.lst (ra.map Wd))) (.im (codeD CC p n T)) (.im (.lst (W.map Wd))) x7 .no .no .no .no .no .no .no) := varE_im rfl
  have hit : (itS (frz (lstE (aCons (cE .non) (aCons (cE (.int 0)) (aCons (cE (.str "0")) (aCons (op2 (op2 (varE 6) (cE (.int 0)) ixO) (tupE (aCons (cE (.int 0)) aNil)) catT) (aCons (frz (calN (aCons (op2 (varE 6) (cE (.int 0)) ixO) aNil) lstO)) (aCons (op2 (slT (op2 (varE 6) (op1 (cE (.int 1)) negO) ixO) oNone (oSome (op1 (cE (.int 1)) negO))) (tupE (aCons (varE 2) aNil)) catT) (aCons (op2 (slT (op2 (varE 6) (op1 (cE (.int 1)) negO) ixO) oNone (oSome (op1 (cE (.int 1)) negO))) (tupE (aCons (cE .non) aNil)) catT) aNil)))))))))) (LX07 (.im (scrD ss)) [.ob (.ls (stD q))] (.im (.int p)) (.im (.int (n : Int))) (.im (.lst (ra.map Wd))) (.im (codeD CC p n T)) (.im (.lst (W.map Wd))) x7 .no .no .no .no .no .no .no) = .ok (bad7 p v0 v1) (LX07 (.im (scrD ss)) [.ob (.ls (stD q))] (.im (.int p)) (.im (.int (n : Int))) (.im (.lst (ra.map Wd))) (.im (codeD CC p n T)) (.im (.lst (W.map Wd))) x7 .no .no .no .no .no .no .no) := by
    generalize (LX07 (.im (scrD ss)) [.ob (.ls (stD q))] (.im (.int p)) (.im (.int (n : Int))) (.im (.lst (ra.map Wd))) (.im (codeD CC p n T)) (.im (.lst (W.map Wd))) x7 .no .no .no .no .no .no .no) = U at *
    generalize W.map Wd = X at *
    have m1 : op2 (varE 6) (op1 (cE (.int 1)) negO) ixO U = .ok (Wd v1) U := by
      simp only [op2_run, op1_run, cE_run, v6, hng, ix1, R.bind_ok, R.of_some]
    have s1 := slT_init07 m1
    simp only [itS_run, frz_run', lstE_run, aCons_run, aNil_run, cE_run, op2_run, tupE_run, calN_run, v2, v6, ix0, s1, c1, c2, c3, l1, R.bind_ok, R.of_some, List.length_cons, List.length_nil, Nat.zero_add, Nat.reduceAdd, Nat.reduceLeDiff, Nat.zero_le, if_true, seqOf_lst]
    rfl
  have e : (bad7 p v0 v1).map id = bad7 p v0 v1 := List.map_id _
  obtain ⟨S', f1, f2⟩ := forL_fold (k := (Tk.nm 8).k) (body := (ifS (tst (op2 (metE CC "holds" 2 (varE 5) (aCons (varE 8) aNil) (Fholds CC CM)) (cE (.bl false)) (bCmp fun i j => !decide (i = j)))) (retS (cE (.bl false))) nilS)) id (fun _ (_ : Unit) S => ∃ x8, S = (LX07 (.im (scrD ss)) [.ob (.ls (stD q))] (.im (.int p)) (.im (.int (n : Int))) (.im (.lst (ra.map Wd))) (.im (codeD CC p n T)) (.im (.lst (W.map Wd))) x7 x8 .no .no .no .no .no .no)) (fun u _ => u) (bad7 p v0 v1) 0 () (LX07 (.im (scrD ss)) [.ob (.ls (stD q))] (.im (.int p)) (.im (.int (n : Int))) (.im (.lst (ra.map Wd))) (.im (codeD CC p n T)) (.im (.lst (W.map Wd))) x7 .no .no .no .no .no .no .no) ⟨.no, rfl⟩ (fun j u d S hd hj hI => by
    obtain ⟨x8, rfl⟩ := hI
    refine ⟨(LX07 (.im (scrD ss)) [.ob (.ls (stD q))] (.im (.int p)) (.im (.int (n : Int))) (.im (.lst (ra.map Wd))) (.im (codeD CC p n T)) (.im (.lst (W.map Wd))) x7 (.im d) .no .no .no .no .no .no), (LX07 (.im (scrD ss)) [.ob (.ls (stD q))] (.im (.int p)) (.im (.int (n : Int))) (.im (.lst (ra.map Wd))) (.im (codeD CC p n T)) (.im (.lst (W.map Wd))) x7 (.im d) .no .no .no .no .no .no), rfl, .inl ?_, _, rfl⟩
    obtain ⟨b1, b2⟩ := hb d hd
    have hf := Fholds_bad (CC := CC) (CM := CM) (T := T) b1 b2
    have hm : metE CC "holds" 2 (varE 5) (aCons (varE 8) aNil) (Fholds CC CM) (LX07 (.im (scrD ss)) [.ob (.ls (stD q))] (.im (.int p)) (.im (.int (n : Int))) (.im (.lst (ra.map Wd))) (.im (codeD CC p n T)) (.im (.lst (W.map Wd))) x7 (.im d) .no .no .no .no .no .no) = .ok (.bl false) (LX07 (.im (scrD ss)) [.ob (.ls (stD q))] (.im (.int p)) (.im (.int (n : Int))) (.im (.lst (ra.map Wd))) (.im (codeD CC p n T)) (.im (.lst (W.map Wd))) x7 (.im d) .no .no .no .no .no .no) := metE_run (varE_im rfl) (by decide +kernel) rfl rfl hf
    have n1 : bCmp (fun i j => !decide (i = j)) (.bl false) (.bl false) = some (.bl false) := rfl
    generalize (LX07 (.im (scrD ss)) [.ob (.ls (stD q))] (.im (.int p)) (.im (.int (n : Int))) (.im (.lst (ra.map Wd))) (.im (codeD CC p n T)) (.im (.lst (W.map Wd))) x7 (.im d) .no .no .no .no .no .no) = U at *
    simp only [ifS_run, tst_run', op2_run, cE_run, hm, n1, R.bind_ok, R.of_some, Bool.false_eq_true, if_false, R.stmt_ok]
    rfl)
  obtain ⟨x8, rfl⟩ := f2
  refine ⟨x8, ?_⟩
  rw [e] at f1
  rw [forS_run, hit, R.stmt_ok, f1]
theorem catS_run {x y : Str} (h : x.length + y.length ≤ 100000) : catS (.str x) (.str y) = some (.str (x ++ y)) := by
  unfold catS
  dsimp only
  rw [if_pos h]
theorem k07_10 {CC : Addr} {ss : List Int} {q : Int × Int} {p : Int} {n : Nat} {ra T W : List (List Int)} {x7 x8 : Sv} (h : C7 p n ra T W) : (asgS 9 (op2 (op2 (op2 (calE (aCons (varE 2) aNil) strO) (cE (.str " ")) catS) (calE (aCons (varE 3) aNil) strO) catS) (cE (.str ":")) catS)) (LX07 (.im (scrD ss)) [.ob (.ls (stD q))] (.im (.int p)) (.im (.int (n : Int))) (.im (.lst (ra.map Wd))) (.im (codeD CC p n T)) (.im (.lst (W.map Wd))) x7 x8 .no .no .no .no .no .no) = .nx (LX07 (.im (scrD ss)) [.ob (.ls (stD q))] (.im (.int p)) (.im (.int (n : Int))) (.im (.lst (ra.map Wd))) (.im (codeD CC p n T)) (.im (.lst (W.map Wd))) x7 x8 (.im (.str (txS p n []))) .no .no .no .no .no) := by
  have hn := h.hn
  have hcs := isP_cases h.hp
  have v2 : varE 2 (LX07 (.im (scrD ss)) [.ob (.ls (stD q))] (.im (.int p)) (.im (.int (n : Int))) (.im (.lst (ra.map Wd))) (.im (codeD CC p n T)) (.im (.lst (W.map Wd))) x7 x8 .no .no .no .no .no .no) = .ok (.int p) (LX07 (.im (scrD ss)) [.ob (.ls (stD q))] (.im (.int p)) (.im (.int (n : Int))) (.im (.lst (ra.map Wd))) (.im (codeD CC p n T)) (.im (.lst (W.map Wd))) x7 x8 .no .no .no .no .no .no) := varE_im rfl
  have v3 : varE 3 (LX07 (.im (scrD ss)) [.ob (.ls (stD q))] (.im (.int p)) (.im (.int (n : Int))) (.im (.lst (ra.map Wd))) (.im (codeD CC p n T)) (.im (.lst (W.map Wd))) x7 x8 .no .no .no .no .no .no) = .ok (.int (n : Int)) (LX07 (.im (scrD ss)) [.ob (.ls (stD q))] (.im (.int p)) (.im (.int (n : Int))) (.im (.lst (ra.map Wd))) (.im (codeD CC p n T)) (.im (.lst (W.map Wd))) x7 x8 .no .no .no .no .no .no) := varE_im rfl
  have s1 : strO [.int p] = some (.str (dgS p)) := by
    unfold strO
    dsimp only
    rw [if_pos (by omega)]
    rfl
  have s2 : strO [.int (n : Int)] = some (.str (dgS (n : Int))) := by
    unfold strO
    dsimp only
    rw [if_pos (by omega)]
    rfl
  have a1 := (dgP h.hp).1
  have a2 := (dg13 n (by omega)).1
  have l1 : (" " : Str).length = 1 := by decide +kernel
  have l2 : (":" : Str).length = 1 := by decide +kernel
  have c1 : catS (.str (dgS p)) (.str " ") = some (.str (dgS p ++ " ")) := catS_run (by omega)
  have c2 : catS (.str (dgS p ++ " ")) (.str (dgS (n : Int))) = some (.str (dgS p ++ " " ++ dgS (n : Int))) := catS_run (by rw [slen_app]; omega)
  have c3 : catS (.str (dgS p ++ " " ++ dgS (n : Int))) (.str ":") = some (.str (dgS p ++ " " ++ dgS (n : Int) ++ ":")) := catS_run (by rw [slen_app, slen_app]; omega)
  have key : (op2 (op2 (op2 (calE (aCons (varE 2) aNil) strO) (cE (.str " ")) catS) (calE (aCons (varE 3) aNil) strO) catS) (cE (.str ":")) catS) (LX07 (.im (scrD ss)) [.ob (.ls (stD q))] (.im (.int p)) (.im (.int (n : Int))) (.im (.lst (ra.map Wd))) (.im (codeD CC p n T)) (.im (.lst (W.map Wd))) x7 x8 .no .no .no .no .no .no) = .ok (.str (txS p n [])) (LX07 (.im (scrD ss)) [.ob (.ls (stD q))] (.im (.int p)) (.im (.int (n : Int))) (.im (.lst (ra.map Wd))) (.im (codeD CC p n T)) (.im (.lst (W.map Wd))) x7 x8 .no .no .no .no .no .no) := by
    rw [tx_nil]
    generalize (LX07 (.im (scrD ss)) [.ob (.ls (stD q))] (.im (.int p)) (.im (.int (n : Int))) (.im (.lst (ra.map Wd))) (.im (codeD CC p n T)) (.im (.lst (W.map Wd))) x7 x8 .no .no .no .no .no .no) = U at *
    simp only [op2_run, calE_run, aCons_run, aNil_run, cE_run, v2, v3, s1, s2, c1, c2, c3, R.bind_ok, R.of_some]
    rfl
  rw [asgS_run', key]
  rfl
theorem k07_11 {CC : Addr} {ss : List Int} {q : Int × Int} {p : Int} {n : Nat} {ra T W : List (List Int)} {x7 x8 : Sv} (h : C7 p n ra T W) : ∃ x10, (forS (itS (fldE CC "rows" (varE 5))) (Tk.nm 10).k (asgS 9 (op2 (op2 (varE 9) (cE (.str " ")) catS) (ifE (tst (op2 (varE 3) (cE (.int 0)) gtO)) (op1 (frz (lcE (itS (varE 10)) (Tk.nm 14).k yesT (calE (aCons (varE 14) aNil) strO) [14])) (joinO (.str ""))) (cE (.str "-"))) catS))) (LX07 (.im (scrD ss)) [.ob (.ls (stD q))] (.im (.int p)) (.im (.int (n : Int))) (.im (.lst (ra.map Wd))) (.im (codeD CC p n T)) (.im (.lst (W.map Wd))) x7 x8 (.im (.str (txS p n []))) .no .no .no .no .no) = .nx (LX07 (.im (scrD ss)) [.ob (.ls (stD q))] (.im (.int p)) (.im (.int (n : Int))) (.im (.lst (ra.map Wd))) (.im (codeD CC p n T)) (.im (.lst (W.map Wd))) x7 x8 (.im (.str (txS p n T))) x10 .no .no .no .no) := by
  have hn := h.hn
  have htl := h.tl
  have h1 := code_rows CC p n T
  have v5 : varE 5 (LX07 (.im (scrD ss)) [.ob (.ls (stD q))] (.im (.int p)) (.im (.int (n : Int))) (.im (.lst (ra.map Wd))) (.im (codeD CC p n T)) (.im (.lst (W.map Wd))) x7 x8 (.im (.str (txS p n []))) .no .no .no .no .no) = .ok (codeD CC p n T) (LX07 (.im (scrD ss)) [.ob (.ls (stD q))] (.im (.int p)) (.im (.int (n : Int))) (.im (.lst (ra.map Wd))) (.im (codeD CC p n T)) (.im (.lst (W.map Wd))) x7 x8 (.im (.str (txS p n []))) .no .no .no .no .no) := varE_im rfl
  have hit : (itS (fldE CC "rows" (varE 5))) (LX07 (.im (scrD ss)) [.ob (.ls (stD q))] (.im (.int p)) (.im (.int (n : Int))) (.im (.lst (ra.map Wd))) (.im (codeD CC p n T)) (.im (.lst (W.map Wd))) x7 x8 (.im (.str (txS p n []))) .no .no .no .no .no) = .ok (T.map Wd) (LX07 (.im (scrD ss)) [.ob (.ls (stD q))] (.im (.int p)) (.im (.int (n : Int))) (.im (.lst (ra.map Wd))) (.im (codeD CC p n T)) (.im (.lst (W.map Wd))) x7 x8 (.im (.str (txS p n []))) .no .no .no .no .no) := by
    generalize (LX07 (.im (scrD ss)) [.ob (.ls (stD q))] (.im (.int p)) (.im (.int (n : Int))) (.im (.lst (ra.map Wd))) (.im (codeD CC p n T)) (.im (.lst (W.map Wd))) x7 x8 (.im (.str (txS p n []))) .no .no .no .no .no) = U at *
    simp only [itS_run, fldE_run', v5, h1, R.bind_ok, R.of_some, seqOf_td]
  obtain ⟨S', f1, f2⟩ := forL_inv (k := (Tk.nm 10).k) (body := (asgS 9 (op2 (op2 (varE 9) (cE (.str " ")) catS) (ifE (tst (op2 (varE 3) (cE (.int 0)) gtO)) (op1 (frz (lcE (itS (varE 10)) (Tk.nm 14).k yesT (calE (aCons (varE 14) aNil) strO) [14])) (joinO (.str ""))) (cE (.str "-"))) catS))) (T.map Wd) (fun i S => ∃ x10, S = (LX07 (.im (scrD ss)) [.ob (.ls (stD q))] (.im (.int p)) (.im (.int (n : Int))) (.im (.lst (ra.map Wd))) (.im (codeD CC p n T)) (.im (.lst (W.map Wd))) x7 x8 (.im (.str (txS p n (T.take i)))) x10 .no .no .no .no)) (LX07 (.im (scrD ss)) [.ob (.ls (stD q))] (.im (.int p)) (.im (.int (n : Int))) (.im (.lst (ra.map Wd))) (.im (codeD CC p n T)) (.im (.lst (W.map Wd))) x7 x8 (.im (.str (txS p n []))) .no .no .no .no .no) ⟨.no, rfl⟩ (fun i d S hd hI => by
    obtain ⟨x10, rfl⟩ := hI
    rw [List.getElem?_map] at hd
    obtain ⟨r, hr, rfl⟩ := Option.map_eq_some_iff.mp hd
    have hok := h.hc.okT r (List.mem_of_getElem? hr)
    have hd1 := okD_of h.hp (by omega) hok
    have htk : T.take (i + 1) = T.take i ++ [r] := by rw [List.take_succ, hr]; rfl
    refine ⟨(LX07 (.im (scrD ss)) [.ob (.ls (stD q))] (.im (.int p)) (.im (.int (n : Int))) (.im (.lst (ra.map Wd))) (.im (codeD CC p n T)) (.im (.lst (W.map Wd))) x7 x8 (.im (.str (txS p n (T.take i)))) (.im (Wd r)) .no .no .no .no), (LX07 (.im (scrD ss)) [.ob (.ls (stD q))] (.im (.int p)) (.im (.int (n : Int))) (.im (.lst (ra.map Wd))) (.im (codeD CC p n T)) (.im (.lst (W.map Wd))) x7 x8 (.im (.str (txS p n (T.take (i + 1))))) (.im (Wd r)) .no .no .no .no), rfl, .inl ?_, _, rfl⟩
    rw [htk, tx_snoc]
    have hT : okR p n (T.take i) := fun x hx => h.hc.okT x (List.mem_of_mem_take hx)
    have ht := tx_len h.hp (by omega : n ≤ 12) hT
    have hti : (T.take i).length ≤ 5 := by rw [List.length_take]; omega
    have l1 : (" " : Str).length = 1 := by decide +kernel
    have l2 := (wr_len hd1).1
    have c1 : catS (.str (txS p n (T.take i))) (.str " ") = some (.str (txS p n (T.take i) ++ " ")) := catS_run (by omega)
    have c2 : catS (.str (txS p n (T.take i) ++ " ")) (.str (wrS r)) = some (.str (txS p n (T.take i) ++ " " ++ wrS r)) := catS_run (by rw [slen_app]; omega)
    generalize txS p n (T.take i) = X at *
    have v3 : varE 3 (LX07 (.im (scrD ss)) [.ob (.ls (stD q))] (.im (.int p)) (.im (.int (n : Int))) (.im (.lst (ra.map Wd))) (.im (codeD CC p n T)) (.im (.lst (W.map Wd))) x7 x8 (.im (.str X)) (.im (Wd r)) .no .no .no .no) = .ok (.int (n : Int)) (LX07 (.im (scrD ss)) [.ob (.ls (stD q))] (.im (.int p)) (.im (.int (n : Int))) (.im (.lst (ra.map Wd))) (.im (codeD CC p n T)) (.im (.lst (W.map Wd))) x7 x8 (.im (.str X)) (.im (Wd r)) .no .no .no .no) := varE_im rfl
    have v9 : varE 9 (LX07 (.im (scrD ss)) [.ob (.ls (stD q))] (.im (.int p)) (.im (.int (n : Int))) (.im (.lst (ra.map Wd))) (.im (codeD CC p n T)) (.im (.lst (W.map Wd))) x7 x8 (.im (.str X)) (.im (Wd r)) .no .no .no .no) = .ok (.str X) (LX07 (.im (scrD ss)) [.ob (.ls (stD q))] (.im (.int p)) (.im (.int (n : Int))) (.im (.lst (ra.map Wd))) (.im (codeD CC p n T)) (.im (.lst (W.map Wd))) x7 x8 (.im (.str X)) (.im (Wd r)) .no .no .no .no) := varE_im rfl
    have hs := strs_run (S := (LX07 (.im (scrD ss)) [.ob (.ls (stD q))] (.im (.int p)) (.im (.int (n : Int))) (.im (.lst (ra.map Wd))) (.im (codeD CC p n T)) (.im (.lst (W.map Wd))) x7 x8 (.im (.str X)) (.im (Wd r)) .no .no .no .no)) (a := 10) (i := 14) hd1 rfl (by show 14 < 15; decide)
    have hj := join_run hd1
    have hwr : wrS r = if (n : Int) > 0 then Txt.join "" (r.map dgS) else "-" := by
      unfold wrS
      by_cases hz : r = []
      · rw [if_pos hz, if_neg]
        have := hok.2
        rw [hz] at this
        simp at this
        omega
      · rw [if_neg hz, if_pos]
        have := hok.2
        have : r.length ≠ 0 := fun z => hz (List.eq_nil_of_length_eq_zero z)
        omega
    have key : (op2 (op2 (varE 9) (cE (.str " ")) catS) (ifE (tst (op2 (varE 3) (cE (.int 0)) gtO)) (op1 (frz (lcE (itS (varE 10)) (Tk.nm 14).k yesT (calE (aCons (varE 14) aNil) strO) [14])) (joinO (.str ""))) (cE (.str "-"))) catS) (LX07 (.im (scrD ss)) [.ob (.ls (stD q))] (.im (.int p)) (.im (.int (n : Int))) (.im (.lst (ra.map Wd))) (.im (codeD CC p n T)) (.im (.lst (W.map Wd))) x7 x8 (.im (.str X)) (.im (Wd r)) .no .no .no .no) = .ok (.str (X ++ " " ++ wrS r)) (LX07 (.im (scrD ss)) [.ob (.ls (stD q))] (.im (.int p)) (.im (.int (n : Int))) (.im (.lst (ra.map Wd))) (.im (codeD CC p n T)) (.im (.lst (W.map Wd))) x7 x8 (.im (.str X)) (.im (Wd r)) .no .no .no .no) := by
      have hne : (ifE (tst (op2 (varE 3) (cE (.int 0)) gtO)) (op1 (frz (lcE (itS (varE 10)) (Tk.nm 14).k yesT (calE (aCons (varE 14) aNil) strO) [14])) (joinO (.str ""))) (cE (.str "-"))) (LX07 (.im (scrD ss)) [.ob (.ls (stD q))] (.im (.int p)) (.im (.int (n : Int))) (.im (.lst (ra.map Wd))) (.im (codeD CC p n T)) (.im (.lst (W.map Wd))) x7 x8 (.im (.str X)) (.im (Wd r)) .no .no .no .no) = .ok (.str (wrS r)) (LX07 (.im (scrD ss)) [.ob (.ls (stD q))] (.im (.int p)) (.im (.int (n : Int))) (.im (.lst (ra.map Wd))) (.im (codeD CC p n T)) (.im (.lst (W.map Wd))) x7 x8 (.im (.str X)) (.im (Wd r)) .no .no .no .no) := by
        rw [hwr]
        generalize (LX07 (.im (scrD ss)) [.ob (.ls (stD q))] (.im (.int p)) (.im (.int (n : Int))) (.im (.lst (ra.map Wd))) (.im (codeD CC p n T)) (.im (.lst (W.map Wd))) x7 x8 (.im (.str X)) (.im (Wd r)) .no .no .no .no) = U at *
        unfold ifE
        rw [tst_run', op2_run, v3, R.bind_ok, cE_run, R.bind_ok]
        by_cases hz : (n : Int) > 0
        · rw [if_pos hz]
          have : gtO (.int (n : Int)) (.int 0) = some (.bl true) := by
            show some (Dt.bl (decide ((n : Int) > 0))) = _
            rw [decide_eq_true hz]
          rw [this, R.of_some, R.bind_ok]
          simp only [R.bind_ok, if_true, op1_run, frz_run', hs, hj, R.of_some]
        · rw [if_neg hz]
          have : gtO (.int (n : Int)) (.int 0) = some (.bl false) := by
            show some (Dt.bl (decide ((n : Int) > 0))) = _
            rw [decide_eq_false hz]
          rw [this, R.of_some, R.bind_ok]
          simp only [R.bind_ok, Bool.false_eq_true, if_false, cE_run]
      generalize (LX07 (.im (scrD ss)) [.ob (.ls (stD q))] (.im (.int p)) (.im (.int (n : Int))) (.im (.lst (ra.map Wd))) (.im (codeD CC p n T)) (.im (.lst (W.map Wd))) x7 x8 (.im (.str X)) (.im (Wd r)) .no .no .no .no) = U at *
      rw [op2_run, op2_run, v9, R.bind_ok, cE_run, R.bind_ok, c1, R.of_some, R.bind_ok, hne, R.bind_ok, c2, R.of_some]
    rw [asgS_run', key]
    rfl)
  obtain ⟨x10, rfl⟩ := f2
  rw [List.length_map, List.take_length] at f1
  refine ⟨x10, ?_⟩
  rw [forS_run, hit, R.stmt_ok, f1]
theorem C7.self (h : C7 p n ra T W) : T = (redN p T n).T := table_self h.hp (by have := h.hn; omega) h.ha h.hc
theorem k07_12 {CB CC CM CR CT : Addr} {ss : List Int} {q : Int × Int} {p : Int} {n : Nat} {ra T W : List (List Int)} {x7 x8 x10 : Sv} (h : C7 p n ra T W) : (ifS (orT (tst (op2 (calE (aCons (varE 5) aNil) (strC CC (Fstr07 CC))) (varE 9) neO)) (tst (op2 (op2 (funE 1 (aCons (varE 9) aNil) (Fcread CB CC CM CR CT)) (varE 5) (eqC CC (Feq07 CC))) (cE (.bl true)) (bCmp fun i j => !decide (i = j))))) (retS (cE (.bl false))) nilS) (LX07 (.im (scrD ss)) [.ob (.ls (stD q))] (.im (.int p)) (.im (.int (n : Int))) (.im (.lst (ra.map Wd))) (.im (codeD CC p n T)) (.im (.lst (W.map Wd))) x7 x8 (.im (.str (txS p n T))) x10 .no .no .no .no) = .nx (LX07 (.im (scrD ss)) [.ob (.ls (stD q))] (.im (.int p)) (.im (.int (n : Int))) (.im (.lst (ra.map Wd))) (.im (codeD CC p n T)) (.im (.lst (W.map Wd))) x7 x8 (.im (.str (txS p n T))) x10 .no .no .no .no) := by
  have hn := h.hn
  have htl := h.tl
  have hk := (shp7_pow h.hs h.hc.len).2
  have v5 : varE 5 (LX07 (.im (scrD ss)) [.ob (.ls (stD q))] (.im (.int p)) (.im (.int (n : Int))) (.im (.lst (ra.map Wd))) (.im (codeD CC p n T)) (.im (.lst (W.map Wd))) x7 x8 (.im (.str (txS p n T))) x10 .no .no .no .no) = .ok (codeD CC p n T) (LX07 (.im (scrD ss)) [.ob (.ls (stD q))] (.im (.int p)) (.im (.int (n : Int))) (.im (.lst (ra.map Wd))) (.im (codeD CC p n T)) (.im (.lst (W.map Wd))) x7 x8 (.im (.str (txS p n T))) x10 .no .no .no .no) := varE_im rfl
  have v9 : varE 9 (LX07 (.im (scrD ss)) [.ob (.ls (stD q))] (.im (.int p)) (.im (.int (n : Int))) (.im (.lst (ra.map Wd))) (.im (codeD CC p n T)) (.im (.lst (W.map Wd))) x7 x8 (.im (.str (txS p n T))) x10 .no .no .no .no) = .ok (.str (txS p n T)) (LX07 (.im (scrD ss)) [.ob (.ls (stD q))] (.im (.int p)) (.im (.int (n : Int))) (.im (.lst (ra.map Wd))) (.im (codeD CC p n T)) (.im (.lst (W.map Wd))) x7 x8 (.im (.str (txS p n T))) x10 .no .no .no .no) := varE_im rfl
  have hs : strC CC (Fstr07 CC) [codeD CC p n T] = some (.str (txS p n T)) := strC_run (Fstr07_run h.hp (by omega) h.hc.okT (by omega))
  have ho := tx_ok h.hp (by omega : n ≤ 12) h.hc.okT
  have n1 : neO (.str (txS p n T)) (.str (txS p n T)) = some (.bl false) := by rw [neO_str ho ho]; simp
  have hr := Fcread_run (CB := CB) (CC := CC) (CM := CM) (CR := CR) (CT := CT) h.hp (by omega : n ≤ 12) h.hc.okT (by omega) h.self (by omega)
  have he : eqC CC (Feq07 CC) (codeD CC p n T) (codeD CC p n T) = some (.bl true) := eqC_run (by
    have := Feq07_run (CC := CC) (p := p) (q := p) (n := n) (m := n) (T := T) (T' := T)
    rw [decide_eq_true ⟨rfl, rfl, rfl⟩] at this
    exact this)
  have n2 : bCmp (fun i j => !decide (i = j)) (.bl true) (.bl true) = some (.bl false) := rfl
  generalize (LX07 (.im (scrD ss)) [.ob (.ls (stD q))] (.im (.int p)) (.im (.int (n : Int))) (.im (.lst (ra.map Wd))) (.im (codeD CC p n T)) (.im (.lst (W.map Wd))) x7 x8 (.im (.str (txS p n T))) x10 .no .no .no .no) = U at *
  generalize codeD CC p n T = C at *
  generalize txS p n T = X at *
  simp only [ifS_run, orT_run, tst_run', op2_run, calE_run, funE_run, aCons_run, aNil_run, cE_run, v5, v9, hs, n1, hr, he, n2, R.bind_ok, R.of_some, List.length_cons, List.length_nil, Nat.zero_add, Nat.reduceAdd, if_true, Bool.false_eq_true, if_false, R.stmt_ok]
  rfl
theorem k07_13 {CC : Addr} {ss : List Int} {q : Int × Int} {p : Int} {n : Nat} {ra T W : List (List Int)} {x7 x8 x10 : Sv} (h : C7 p n ra T W) : ∃ rb q', okR p n rb ∧ rb.length ≤ 3 ∧ (asgS 11 (funM 3 1 (aCons (varE 3) (aCons (varE 2) (aCons (cE (.int 3)) aNil))) Frows)) (LX07 (.im (scrD ss)) [.ob (.ls (stD q))] (.im (.int p)) (.im (.int (n : Int))) (.im (.lst (ra.map Wd))) (.im (codeD CC p n T)) (.im (.lst (W.map Wd))) x7 x8 (.im (.str (txS p n T))) x10 .no .no .no .no) = .nx (LX07 (.im (scrD ss)) [.ob (.ls (stD q'))] (.im (.int p)) (.im (.int (n : Int))) (.im (.lst (ra.map Wd))) (.im (codeD CC p n T)) (.im (.lst (W.map Wd))) x7 x8 (.im (.str (txS p n T))) x10 (.im (.lst (rb.map Wd))) .no .no .no) := by
  have hp := h.hp
  have hn := h.hn
  have hc := isP_cases hp
  have hf := Frows_run (n := n) (p := p) (most := 3) q (by omega) (by omega) (by omega)
  obtain ⟨h1, h2⟩ := rows_ok9 (m := 3) hp (by omega : n ≤ 1000) (by omega) q
  generalize rowsF p n 3 q = u at *
  obtain ⟨rows, q'⟩ := u
  dsimp only at hf h1 h2
  refine ⟨rows, q', h1, by omega, ?_⟩
  have v2 : varE 2 (LX07 (.im (scrD ss)) [.ob (.ls (stD q))] (.im (.int p)) (.im (.int (n : Int))) (.im (.lst (ra.map Wd))) (.im (codeD CC p n T)) (.im (.lst (W.map Wd))) x7 x8 (.im (.str (txS p n T))) x10 .no .no .no .no) = .ok (.int p) (LX07 (.im (scrD ss)) [.ob (.ls (stD q))] (.im (.int p)) (.im (.int (n : Int))) (.im (.lst (ra.map Wd))) (.im (codeD CC p n T)) (.im (.lst (W.map Wd))) x7 x8 (.im (.str (txS p n T))) x10 .no .no .no .no) := varE_im rfl
  have v3 : varE 3 (LX07 (.im (scrD ss)) [.ob (.ls (stD q))] (.im (.int p)) (.im (.int (n : Int))) (.im (.lst (ra.map Wd))) (.im (codeD CC p n T)) (.im (.lst (W.map Wd))) x7 x8 (.im (.str (txS p n T))) x10 .no .no .no .no) = .ok (.int (n : Int)) (LX07 (.im (scrD ss)) [.ob (.ls (stD q))] (.im (.int p)) (.im (.int (n : Int))) (.im (.lst (ra.map Wd))) (.im (codeD CC p n T)) (.im (.lst (W.map Wd))) x7 x8 (.im (.str (txS p n T))) x10 .no .no .no .no) := varE_im rfl
  have hm : muAt (LX07 (.im (scrD ss)) [.ob (.ls (stD q))] (.im (.int p)) (.im (.int (n : Int))) (.im (.lst (ra.map Wd))) (.im (codeD CC p n T)) (.im (.lst (W.map Wd))) x7 x8 (.im (.str (txS p n T))) x10 .no .no .no .no) 1 = some (0, stD q) := muAt_run rfl rfl
  generalize codeD CC p n T = C at *
  generalize txS p n T = X at *
  generalize W.map Wd = Y at *
  rw [asgS_run']
  unfold funM
  rw [hm]
  dsimp only
  rw [aCons_run, v3, R.bind_ok, aCons_run, v2]
  simp only [R.bind_ok, cE_run, aCons_run, aNil_run, hm, List.length_cons, List.length_nil, Nat.zero_add, Nat.reduceAdd, if_true, hf]
  rfl
theorem k07_14 {CC : Addr} {ss : List Int} {q : Int × Int} {p : Int} {n : Nat} {ra rb T W : List (List Int)} {x7 x8 x10 : Sv} (h : C7 p n ra T W) (hb : okR p n rb) (lb : rb.length ≤ 3) : ∃ rc q', okR p n rc ∧ rc.length ≤ 3 ∧ (ifS (andT (tst (op2 (funM 1 1 (aCons (cE (.int 2)) aNil) Ftake) (cE (.int 0)) eqO)) (tst (op2 (calE (aCons (varE 4) aNil) lenO) (cE (.int 0)) gtO))) (asgS 11 (frz (opN (frz (lcE (itS (frz (slL (varE 4) (oSome (cE (.int 1))) oNone))) (Tk.nm 10).k yesT (funE 3 (aCons (op2 (varE 4) (cE (.int 0)) ixO) (aCons (varE 10) (aCons (varE 2) aNil))) FaddW) [10])) (frz (lstE (aCons (op2 (varE 4) (cE (.int 0)) ixO) aNil))) catL))) nilS) (LX07 (.im (scrD ss)) [.ob (.ls (stD q))] (.im (.int p)) (.im (.int (n : Int))) (.im (.lst (ra.map Wd))) (.im (codeD CC p n T)) (.im (.lst (W.map Wd))) x7 x8 (.im (.str (txS p n T))) x10 (.im (.lst (rb.map Wd))) .no .no .no) = .nx (LX07 (.im (scrD ss)) [.ob (.ls (stD q'))] (.im (.int p)) (.im (.int (n : Int))) (.im (.lst (ra.map Wd))) (.im (codeD CC p n T)) (.im (.lst (W.map Wd))) x7 x8 (.im (.str (txS p n T))) x10 (.im (.lst (rc.map Wd))) .no .no .no) := by
  have hp := h.hp
  have hn := h.hn
  have la := h.la
  have hc := isP_cases hp
  have hf := Ftake_run (m := 2) q (by decide)
  have hr := takeF_range (m := 2) (by decide) q
  generalize takeF 2 q = u at *
  obtain ⟨v, q'⟩ := u
  dsimp only at hf hr
  have ht : funM 1 1 (aCons (cE (.int 2)) aNil) Ftake (LX07 (.im (scrD ss)) [.ob (.ls (stD q))] (.im (.int p)) (.im (.int (n : Int))) (.im (.lst (ra.map Wd))) (.im (codeD CC p n T)) (.im (.lst (W.map Wd))) x7 x8 (.im (.str (txS p n T))) x10 (.im (.lst (rb.map Wd))) .no .no .no) = .ok (.int v) (LX07 (.im (scrD ss)) [.ob (.ls (stD q'))] (.im (.int p)) (.im (.int (n : Int))) (.im (.lst (ra.map Wd))) (.im (codeD CC p n T)) (.im (.lst (W.map Wd))) x7 x8 (.im (.str (txS p n T))) x10 (.im (.lst (rb.map Wd))) .no .no .no) := by
    have hm : muAt (LX07 (.im (scrD ss)) [.ob (.ls (stD q))] (.im (.int p)) (.im (.int (n : Int))) (.im (.lst (ra.map Wd))) (.im (codeD CC p n T)) (.im (.lst (W.map Wd))) x7 x8 (.im (.str (txS p n T))) x10 (.im (.lst (rb.map Wd))) .no .no .no) 1 = some (0, stD q) := muAt_run rfl rfl
    unfold funM
    rw [hm]
    dsimp only
    rw [aCons_run, cE_run, R.bind_ok, aNil_run, R.bind_ok, R.bind_ok, hm]
    simp only [List.length_cons, List.length_nil, Nat.zero_add, if_true, hf]
    rfl
  have v2 : varE 2 (LX07 (.im (scrD ss)) [.ob (.ls (stD q'))] (.im (.int p)) (.im (.int (n : Int))) (.im (.lst (ra.map Wd))) (.im (codeD CC p n T)) (.im (.lst (W.map Wd))) x7 x8 (.im (.str (txS p n T))) x10 (.im (.lst (rb.map Wd))) .no .no .no) = .ok (.int p) (LX07 (.im (scrD ss)) [.ob (.ls (stD q'))] (.im (.int p)) (.im (.int (n : Int))) (.im (.lst (ra.map Wd))) (.im (codeD CC p n T)) (.im (.lst (W.map Wd))) x7 x8 (.im (.str (txS p n T))) x10 (.im (.lst (rb.map Wd))) .no .no .no) := varE_im rfl
  have v4 : varE 4 (LX07 (.im (scrD ss)) [.ob (.ls (stD q'))] (.im (.int p)) (.im (.int (n : Int))) (.im (.lst (ra.map Wd))) (.im (codeD CC p n T)) (.im (.lst (W.map Wd))) x7 x8 (.im (.str (txS p n T))) x10 (.im (.lst (rb.map Wd))) .no .no .no) = .ok (.lst (ra.map Wd)) (LX07 (.im (scrD ss)) [.ob (.ls (stD q'))] (.im (.int p)) (.im (.int (n : Int))) (.im (.lst (ra.map Wd))) (.im (codeD CC p n T)) (.im (.lst (W.map Wd))) x7 x8 (.im (.str (txS p n T))) x10 (.im (.lst (rb.map Wd))) .no .no .no) := varE_im rfl
  have l1 := len_w7 ra
  have e0 := eqO_int v 0
  have hgt : gtO (.int (ra.length : Int)) (.int 0) = some (.bl (decide ((ra.length : Int) > 0))) := rfl
  by_cases hv : v = 0 ∧ 0 < ra.length
  · obtain ⟨hv0, hra⟩ := hv
    obtain ⟨r0, rs, era⟩ : ∃ r0 rs, ra = r0 :: rs := by
      cases ra with
      | nil => simp at hra
      | cons a b => exact ⟨a, b, rfl⟩
    have o0 := h.ha r0 (by rw [era]; exact List.mem_cons_self ..)
    have ors : ∀ r ∈ rs, ok1 p n r := fun r hr => h.ha r (by rw [era]; exact List.mem_cons_of_mem _ hr)
    rw [era, List.length_cons] at la
    refine ⟨rs.map (fun r => addW p r0 r) ++ [r0], q', fun r hr => ?_, by rw [List.length_append, List.length_map]; simp; omega, ?_⟩
    · rcases List.mem_append.mp hr with hr | hr
      · obtain ⟨x, hx, rfl⟩ := List.mem_map.mp hr
        exact ⟨okW_addW (isP_okP hp) o0.1, by rw [addW_len _ _ _ (o0.2.trans (ors x hx).2.symm), o0.2]⟩
      · rw [List.mem_singleton.mp hr]
        exact o0
    · have hx0 : ixO (.lst (ra.map Wd)) (.int 0) = some (Wd r0) := ixF (by rw [era]; rfl)
      have hsl : frz (slL (varE 4) (oSome (cE (.int 1))) oNone) (LX07 (.im (scrD ss)) [.ob (.ls (stD q'))] (.im (.int p)) (.im (.int (n : Int))) (.im (.lst (ra.map Wd))) (.im (codeD CC p n T)) (.im (.lst (W.map Wd))) x7 x8 (.im (.str (txS p n T))) x10 (.im (.lst (rb.map Wd))) .no .no .no) = .ok (.lst (rs.map Wd)) (LX07 (.im (scrD ss)) [.ob (.ls (stD q'))] (.im (.int p)) (.im (.int (n : Int))) (.im (.lst (ra.map Wd))) (.im (codeD CC p n T)) (.im (.lst (W.map Wd))) x7 x8 (.im (.str (txS p n T))) x10 (.im (.lst (rb.map Wd))) .no .no .no) := by
        generalize (LX07 (.im (scrD ss)) [.ob (.ls (stD q'))] (.im (.int p)) (.im (.int (n : Int))) (.im (.lst (ra.map Wd))) (.im (codeD CC p n T)) (.im (.lst (W.map Wd))) x7 x8 (.im (.str (txS p n T))) x10 (.im (.lst (rb.map Wd))) .no .no .no) = U at *
        have c2 : cut (ra.map Wd) (some 1) none = rs.map Wd := by
          rw [era]
          unfold cut HT.sIx
          simp
          exact List.take_of_length_le (by simp)
        rw [frz_run']
        unfold slL
        rw [v4, R.bind_ok]
        unfold oSome oNone
        rw [cE_run, R.bind_ok, R.bind_ok]
        show (R.ok (cut (ra.map Wd) (some 1) none) U).bind _ = _
        rw [c2, R.bind_ok]
      have hls : lcE (itS (frz (slL (varE 4) (oSome (cE (.int 1))) oNone))) (Tk.nm 10).k yesT (funE 3 (aCons (op2 (varE 4) (cE (.int 0)) ixO) (aCons (varE 10) (aCons (varE 2) aNil))) FaddW) [10] (LX07 (.im (scrD ss)) [.ob (.ls (stD q'))] (.im (.int p)) (.im (.int (n : Int))) (.im (.lst (ra.map Wd))) (.im (codeD CC p n T)) (.im (.lst (W.map Wd))) x7 x8 (.im (.str (txS p n T))) x10 (.im (.lst (rb.map Wd))) .no .no .no) = .ok (rs.map fun r => Wd (addW p r0 r)) (LX07 (.im (scrD ss)) [.ob (.ls (stD q'))] (.im (.int p)) (.im (.int (n : Int))) (.im (.lst (ra.map Wd))) (.im (codeD CC p n T)) (.im (.lst (W.map Wd))) x7 x8 (.im (.str (txS p n T))) x10 (.im (.lst (rb.map Wd))) .no .no .no) := by
        refine lcE_map Wd (fun r => Wd (addW p r0 r)) rs (by rw [itS_run, hsl, R.bind_ok, seqOf_lst, R.of_some]) (fun r hr => ?_) (fun d T T' => Tk.mo) (by omega)
        have hadd := FaddW_run (isP_okP hp) o0.1 (ors r hr).1 (o0.2.trans (ors r hr).2.symm)
        let U : Ms := (LX07 (.im (scrD ss)) [.ob (.ls (stD q'))] (.im (.int p)) (.im (.int (n : Int))) (.im (.lst (ra.map Wd))) (.im (codeD CC p n T)) (.im (.lst (W.map Wd))) x7 x8 (.im (.str (txS p n T))) (.im (Wd r)) (.im (.lst (rb.map Wd))) .no .no .no)
        have w2 : varE 2 U = .ok (.int p) U := rfl
        have w4 : varE 4 U = .ok (.lst (ra.map Wd)) U := rfl
        have w10 : varE 10 U = .ok (Wd r) U := rfl
        refine ⟨U, rfl, U, ?_, rfl⟩
        clear_value U
        simp only [funE_run, aCons_run, aNil_run, op2_run, cE_run, w2, w4, w10, hx0, R.bind_ok, R.of_some, List.length_cons, List.length_nil, Nat.zero_add, Nat.reduceAdd, if_true, hadd]
      have hcat : catL (.lst (rs.map fun r => Wd (addW p r0 r))) (.lst [Wd r0]) = some ((rs.map (fun r => addW p r0 r) ++ [r0]).map Wd) := by
        have := catL_lw (A := rs.map fun r => addW p r0 r) (B := [r0]) (by rw [List.length_map]; simp; omega)
        rw [List.map_map] at this
        exact this
      have hset : ∀ d, ((LX07 (.im (scrD ss)) [.ob (.ls (stD q'))] (.im (.int p)) (.im (.int (n : Int))) (.im (.lst (ra.map Wd))) (.im (codeD CC p n T)) (.im (.lst (W.map Wd))) x7 x8 (.im (.str (txS p n T))) x10 (.im (.lst (rb.map Wd))) .no .no .no) : Ms).sl.set 11 (.im d) = ((LX07 (.im (scrD ss)) [.ob (.ls (stD q'))] (.im (.int p)) (.im (.int (n : Int))) (.im (.lst (ra.map Wd))) (.im (codeD CC p n T)) (.im (.lst (W.map Wd))) x7 x8 (.im (.str (txS p n T))) x10 (.im d) .no .no .no) : Ms).sl := fun d => rfl
      have hfin : ∀ d, ({ sl := ((LX07 (.im (scrD ss)) [.ob (.ls (stD q'))] (.im (.int p)) (.im (.int (n : Int))) (.im (.lst (ra.map Wd))) (.im (codeD CC p n T)) (.im (.lst (W.map Wd))) x7 x8 (.im (.str (txS p n T))) x10 (.im (.lst (rb.map Wd))) .no .no .no) : Ms).sl.set 11 (.im d), mo := ((LX07 (.im (scrD ss)) [.ob (.ls (stD q'))] (.im (.int p)) (.im (.int (n : Int))) (.im (.lst (ra.map Wd))) (.im (codeD CC p n T)) (.im (.lst (W.map Wd))) x7 x8 (.im (.str (txS p n T))) x10 (.im (.lst (rb.map Wd))) .no .no .no) : Ms).mo } : Ms) = (LX07 (.im (scrD ss)) [.ob (.ls (stD q'))] (.im (.int p)) (.im (.int (n : Int))) (.im (.lst (ra.map Wd))) (.im (codeD CC p n T)) (.im (.lst (W.map Wd))) x7 x8 (.im (.str (txS p n T))) x10 (.im d) .no .no .no) := fun d => rfl
      generalize (LX07 (.im (scrD ss)) [.ob (.ls (stD q))] (.im (.int p)) (.im (.int (n : Int))) (.im (.lst (ra.map Wd))) (.im (codeD CC p n T)) (.im (.lst (W.map Wd))) x7 x8 (.im (.str (txS p n T))) x10 (.im (.lst (rb.map Wd))) .no .no .no) = U0 at *
      have key : (frz (opN (frz (lcE (itS (frz (slL (varE 4) (oSome (cE (.int 1))) oNone))) (Tk.nm 10).k yesT (funE 3 (aCons (op2 (varE 4) (cE (.int 0)) ixO) (aCons (varE 10) (aCons (varE 2) aNil))) FaddW) [10])) (frz (lstE (aCons (op2 (varE 4) (cE (.int 0)) ixO) aNil))) catL)) (LX07 (.im (scrD ss)) [.ob (.ls (stD q'))] (.im (.int p)) (.im (.int (n : Int))) (.im (.lst (ra.map Wd))) (.im (codeD CC p n T)) (.im (.lst (W.map Wd))) x7 x8 (.im (.str (txS p n T))) x10 (.im (.lst (rb.map Wd))) .no .no .no) = .ok (.lst ((rs.map (fun r => addW p r0 r) ++ [r0]).map Wd)) (LX07 (.im (scrD ss)) [.ob (.ls (stD q'))] (.im (.int p)) (.im (.int (n : Int))) (.im (.lst (ra.map Wd))) (.im (codeD CC p n T)) (.im (.lst (W.map Wd))) x7 x8 (.im (.str (txS p n T))) x10 (.im (.lst (rb.map Wd))) .no .no .no) := by
        generalize (LX07 (.im (scrD ss)) [.ob (.ls (stD q'))] (.im (.int p)) (.im (.int (n : Int))) (.im (.lst (ra.map Wd))) (.im (codeD CC p n T)) (.im (.lst (W.map Wd))) x7 x8 (.im (.str (txS p n T))) x10 (.im (.lst (rb.map Wd))) .no .no .no) = U at *
        simp only [frz_run', opN_run, hls, lstE_run, aCons_run, aNil_run, op2_run, cE_run, v4, hx0, hcat, R.bind_ok, R.of_some, List.length_cons, List.length_nil, Nat.zero_add, Nat.reduceLeDiff, if_true]
      rw [← hfin]
      generalize (LX07 (.im (scrD ss)) [.ob (.ls (stD q'))] (.im (.int p)) (.im (.int (n : Int))) (.im (.lst (ra.map Wd))) (.im (codeD CC p n T)) (.im (.lst (W.map Wd))) x7 x8 (.im (.str (txS p n T))) x10 (.im (.lst (rb.map Wd))) .no .no .no) = U at *
      rw [decide_eq_true hv0] at e0
      have hg2 : decide ((ra.length : Int) > 0) = true := decide_eq_true (by omega)
      rw [hg2] at hgt
      simp only [ifS_run, andT_run, tst_run', op2_run, ht, cE_run, e0, calE_run, aCons_run, aNil_run, v4, l1, hgt, R.bind_ok, R.of_some, if_true, R.stmt_ok, asgS_run', key]
  · refine ⟨rb, q', hb, lb, ?_⟩
    generalize (LX07 (.im (scrD ss)) [.ob (.ls (stD q))] (.im (.int p)) (.im (.int (n : Int))) (.im (.lst (ra.map Wd))) (.im (codeD CC p n T)) (.im (.lst (W.map Wd))) x7 x8 (.im (.str (txS p n T))) x10 (.im (.lst (rb.map Wd))) .no .no .no) = U0 at *
    generalize (LX07 (.im (scrD ss)) [.ob (.ls (stD q'))] (.im (.int p)) (.im (.int (n : Int))) (.im (.lst (ra.map Wd))) (.im (codeD CC p n T)) (.im (.lst (W.map Wd))) x7 x8 (.im (.str (txS p n T))) x10 (.im (.lst (rb.map Wd))) .no .no .no) = U at *
    by_cases hv0 : v = 0
    · have hra : ¬ ((ra.length : Int) > 0) := fun z => hv ⟨hv0, by omega⟩
      rw [decide_eq_true hv0] at e0
      rw [decide_eq_false hra] at hgt
      simp only [ifS_run, andT_run, tst_run', op2_run, ht, cE_run, e0, calE_run, aCons_run, aNil_run, v4, l1, hgt, R.bind_ok, R.of_some, if_true, Bool.false_eq_true, if_false, R.stmt_ok]
      rfl
    · rw [decide_eq_false hv0] at e0
      simp only [ifS_run, andT_run, tst_run', op2_run, ht, cE_run, e0, R.bind_ok, R.of_some, Bool.false_eq_true, if_false, R.stmt_ok]
      rfl
theorem k07_15 {CC CM CR : Addr} {ss : List Int} {q : Int × Int} {p : Int} {n : Nat} {ra rb T W Tb Wb : List (List Int)} {x7 x8 x10 : Sv} (h : C7 p n ra T W) (hb : C7 p n rb Tb Wb) : (asgS 12 (makE CC 3 (aCons (varE 2) (aCons (varE 3) (aCons (calE (aCons (varE 11) aNil) tupO) aNil))) (Finit CC CM CR))) (LX07 (.im (scrD ss)) [.ob (.ls (stD q))] (.im (.int p)) (.im (.int (n : Int))) (.im (.lst (ra.map Wd))) (.im (codeD CC p n T)) (.im (.lst (W.map Wd))) x7 x8 (.im (.str (txS p n T))) x10 (.im (.lst (rb.map Wd))) .no .no .no) = .nx (LX07 (.im (scrD ss)) [.ob (.ls (stD q))] (.im (.int p)) (.im (.int (n : Int))) (.im (.lst (ra.map Wd))) (.im (codeD CC p n T)) (.im (.lst (W.map Wd))) x7 x8 (.im (.str (txS p n T))) x10 (.im (.lst (rb.map Wd))) (.im (codeD CC p n Tb)) .no .no) := by
  have hk := (shp7_pow hb.hs hb.hc.len).2
  have hn := h.hn
  have la := hb.la
  have hi := make9 CC CM CR (d := .tup (rb.map Wd)) (.inr rfl) h.hp (by omega : n ≤ 12) (by omega) hb.ha hb.hc (by omega)
  have htp : tupO [.lst (rb.map Wd)] = some (.tup (rb.map Wd)) := rfl
  have v2 : varE 2 (LX07 (.im (scrD ss)) [.ob (.ls (stD q))] (.im (.int p)) (.im (.int (n : Int))) (.im (.lst (ra.map Wd))) (.im (codeD CC p n T)) (.im (.lst (W.map Wd))) x7 x8 (.im (.str (txS p n T))) x10 (.im (.lst (rb.map Wd))) .no .no .no) = .ok (.int p) (LX07 (.im (scrD ss)) [.ob (.ls (stD q))] (.im (.int p)) (.im (.int (n : Int))) (.im (.lst (ra.map Wd))) (.im (codeD CC p n T)) (.im (.lst (W.map Wd))) x7 x8 (.im (.str (txS p n T))) x10 (.im (.lst (rb.map Wd))) .no .no .no) := varE_im rfl
  have v3 : varE 3 (LX07 (.im (scrD ss)) [.ob (.ls (stD q))] (.im (.int p)) (.im (.int (n : Int))) (.im (.lst (ra.map Wd))) (.im (codeD CC p n T)) (.im (.lst (W.map Wd))) x7 x8 (.im (.str (txS p n T))) x10 (.im (.lst (rb.map Wd))) .no .no .no) = .ok (.int (n : Int)) (LX07 (.im (scrD ss)) [.ob (.ls (stD q))] (.im (.int p)) (.im (.int (n : Int))) (.im (.lst (ra.map Wd))) (.im (codeD CC p n T)) (.im (.lst (W.map Wd))) x7 x8 (.im (.str (txS p n T))) x10 (.im (.lst (rb.map Wd))) .no .no .no) := varE_im rfl
  have v11 : varE 11 (LX07 (.im (scrD ss)) [.ob (.ls (stD q))] (.im (.int p)) (.im (.int (n : Int))) (.im (.lst (ra.map Wd))) (.im (codeD CC p n T)) (.im (.lst (W.map Wd))) x7 x8 (.im (.str (txS p n T))) x10 (.im (.lst (rb.map Wd))) .no .no .no) = .ok (.lst (rb.map Wd)) (LX07 (.im (scrD ss)) [.ob (.ls (stD q))] (.im (.int p)) (.im (.int (n : Int))) (.im (.lst (ra.map Wd))) (.im (codeD CC p n T)) (.im (.lst (W.map Wd))) x7 x8 (.im (.str (txS p n T))) x10 (.im (.lst (rb.map Wd))) .no .no .no) := varE_im rfl
  have hm : makE CC 3 (aCons (varE 2) (aCons (varE 3) (aCons (calE (aCons (varE 11) aNil) tupO) aNil))) (Finit CC CM CR) (LX07 (.im (scrD ss)) [.ob (.ls (stD q))] (.im (.int p)) (.im (.int (n : Int))) (.im (.lst (ra.map Wd))) (.im (codeD CC p n T)) (.im (.lst (W.map Wd))) x7 x8 (.im (.str (txS p n T))) x10 (.im (.lst (rb.map Wd))) .no .no .no) = .ok (codeD CC p n Tb) (LX07 (.im (scrD ss)) [.ob (.ls (stD q))] (.im (.int p)) (.im (.int (n : Int))) (.im (.lst (ra.map Wd))) (.im (codeD CC p n T)) (.im (.lst (W.map Wd))) x7 x8 (.im (.str (txS p n T))) x10 (.im (.lst (rb.map Wd))) .no .no .no) := by
    generalize (LX07 (.im (scrD ss)) [.ob (.ls (stD q))] (.im (.int p)) (.im (.int (n : Int))) (.im (.lst (ra.map Wd))) (.im (codeD CC p n T)) (.im (.lst (W.map Wd))) x7 x8 (.im (.str (txS p n T))) x10 (.im (.lst (rb.map Wd))) .no .no .no) = U at *
    refine makE_run (ds := [.int p, .int (n : Int), .tup (rb.map Wd)]) ?_ rfl hi
    simp only [aCons_run, aNil_run, calE_run, v2, v3, v11, htp, R.bind_ok, R.of_some]
  rw [asgS_run', hm]
  rfl
theorem eqO_lw7 (A B : List (List Int)) : eqO (.lst (A.map Wd)) (.lst (B.map Wd)) = some (.bl (decide (A = B))) := by
  have := eqO_en (α := Ls (List Int)) ⟨A⟩ ⟨B⟩
  have e : decide ((⟨A⟩ : Ls (List Int)) = ⟨B⟩) = decide (A = B) := decide_eq_decide.mpr ⟨fun h => by cases h; rfl, fun h => by rw [h]⟩
  rw [e] at this
  exact this
theorem k07_16 {CC : Addr} {ss : List Int} {q : Int × Int} {p : Int} {n : Nat} {ra rb T W Tb Wb : List (List Int)} {x7 x8 x10 : Sv} (h : C7 p n ra T W) (hb : C7 p n rb Tb Wb) : (asgS 13 (op2 (funE 3 (aCons (varE 11) (aCons (varE 3) (aCons (varE 2) aNil))) Fspan) (varE 6) eqO)) (LX07 (.im (scrD ss)) [.ob (.ls (stD q))] (.im (.int p)) (.im (.int (n : Int))) (.im (.lst (ra.map Wd))) (.im (codeD CC p n T)) (.im (.lst (W.map Wd))) x7 x8 (.im (.str (txS p n T))) x10 (.im (.lst (rb.map Wd))) (.im (codeD CC p n Tb)) .no .no) = .nx (LX07 (.im (scrD ss)) [.ob (.ls (stD q))] (.im (.int p)) (.im (.int (n : Int))) (.im (.lst (ra.map Wd))) (.im (codeD CC p n T)) (.im (.lst (W.map Wd))) x7 x8 (.im (.str (txS p n T))) x10 (.im (.lst (rb.map Wd))) (.im (codeD CC p n Tb)) (.im (.bl (decide (Wb = W)))) .no) := by
  have hn := h.hn
  have hf := span_run9 (rows := rb) h.hp (by omega : n ≤ 1000) (by have := hb.la; omega) hb.ha
  rw [← hb.hc.eqW] at hf
  have e1 := eqO_lw7 Wb W
  have v2 : varE 2 (LX07 (.im (scrD ss)) [.ob (.ls (stD q))] (.im (.int p)) (.im (.int (n : Int))) (.im (.lst (ra.map Wd))) (.im (codeD CC p n T)) (.im (.lst (W.map Wd))) x7 x8 (.im (.str (txS p n T))) x10 (.im (.lst (rb.map Wd))) (.im (codeD CC p n Tb)) .no .no) = .ok (.int p) (LX07 (.im (scrD ss)) [.ob (.ls (stD q))] (.im (.int p)) (.im (.int (n : Int))) (.im (.lst (ra.map Wd))) (.im (codeD CC p n T)) (.im (.lst (W.map Wd))) x7 x8 (.im (.str (txS p n T))) x10 (.im (.lst (rb.map Wd))) (.im (codeD CC p n Tb)) .no .no) := varE_im rfl
  have v3 : varE 3 (LX07 (.im (scrD ss)) [.ob (.ls (stD q))] (.im (.int p)) (.im (.int (n : Int))) (.im (.lst (ra.map Wd))) (.im (codeD CC p n T)) (.im (.lst (W.map Wd))) x7 x8 (.im (.str (txS p n T))) x10 (.im (.lst (rb.map Wd))) (.im (codeD CC p n Tb)) .no .no) = .ok (.int (n : Int)) (LX07 (.im (scrD ss)) [.ob (.ls (stD q))] (.im (.int p)) (.im (.int (n : Int))) (.im (.lst (ra.map Wd))) (.im (codeD CC p n T)) (.im (.lst (W.map Wd))) x7 x8 (.im (.str (txS p n T))) x10 (.im (.lst (rb.map Wd))) (.im (codeD CC p n Tb)) .no .no) := varE_im rfl
  have v6 : varE 6 (LX07 (.im (scrD ss)) [.ob (.ls (stD q))] (.im (.int p)) (.im (.int (n : Int))) (.im (.lst (ra.map Wd))) (.im (codeD CC p n T)) (.im (.lst (W.map Wd))) x7 x8 (.im (.str (txS p n T))) x10 (.im (.lst (rb.map Wd))) (.im (codeD CC p n Tb)) .no .no) = .ok (.lst (W.map Wd)) (LX07 (.im (scrD ss)) [.ob (.ls (stD q))] (.im (.int p)) (.im (.int (n : Int))) (.im (.lst (ra.map Wd))) (.im (codeD CC p n T)) (.im (.lst (W.map Wd))) x7 x8 (.im (.str (txS p n T))) x10 (.im (.lst (rb.map Wd))) (.im (codeD CC p n Tb)) .no .no) := varE_im rfl
  have v11 : varE 11 (LX07 (.im (scrD ss)) [.ob (.ls (stD q))] (.im (.int p)) (.im (.int (n : Int))) (.im (.lst (ra.map Wd))) (.im (codeD CC p n T)) (.im (.lst (W.map Wd))) x7 x8 (.im (.str (txS p n T))) x10 (.im (.lst (rb.map Wd))) (.im (codeD CC p n Tb)) .no .no) = .ok (.lst (rb.map Wd)) (LX07 (.im (scrD ss)) [.ob (.ls (stD q))] (.im (.int p)) (.im (.int (n : Int))) (.im (.lst (ra.map Wd))) (.im (codeD CC p n T)) (.im (.lst (W.map Wd))) x7 x8 (.im (.str (txS p n T))) x10 (.im (.lst (rb.map Wd))) (.im (codeD CC p n Tb)) .no .no) := varE_im rfl
  have key : (op2 (funE 3 (aCons (varE 11) (aCons (varE 3) (aCons (varE 2) aNil))) Fspan) (varE 6) eqO) (LX07 (.im (scrD ss)) [.ob (.ls (stD q))] (.im (.int p)) (.im (.int (n : Int))) (.im (.lst (ra.map Wd))) (.im (codeD CC p n T)) (.im (.lst (W.map Wd))) x7 x8 (.im (.str (txS p n T))) x10 (.im (.lst (rb.map Wd))) (.im (codeD CC p n Tb)) .no .no) = .ok (.bl (decide (Wb = W))) (LX07 (.im (scrD ss)) [.ob (.ls (stD q))] (.im (.int p)) (.im (.int (n : Int))) (.im (.lst (ra.map Wd))) (.im (codeD CC p n T)) (.im (.lst (W.map Wd))) x7 x8 (.im (.str (txS p n T))) x10 (.im (.lst (rb.map Wd))) (.im (codeD CC p n Tb)) .no .no) := by
    generalize (LX07 (.im (scrD ss)) [.ob (.ls (stD q))] (.im (.int p)) (.im (.int (n : Int))) (.im (.lst (ra.map Wd))) (.im (codeD CC p n T)) (.im (.lst (W.map Wd))) x7 x8 (.im (.str (txS p n T))) x10 (.im (.lst (rb.map Wd))) (.im (codeD CC p n Tb)) .no .no) = U at *
    simp only [op2_run, funE_run, aCons_run, aNil_run, v2, v3, v6, v11, R.bind_ok, R.of_some, List.length_cons, List.length_nil, Nat.zero_add, Nat.reduceAdd, if_true, hf, e1]
  rw [asgS_run', key]
  rfl
theorem k07_17 {CC : Addr} {ss : List Int} {q : Int × Int} {p : Int} {n : Nat} {ra rb T W Tb Wb : List (List Int)} {x7 x8 x10 : Sv} (h : C7 p n ra T W) (hb : C7 p n rb Tb Wb) : (retS (andV (op2 (op2 (varE 5) (varE 12) (eqC CC (Feq07 CC))) (varE 13) eqO) (andV (op2 (op2 (varE 5) (varE 12) (neC CC (Feq07 CC))) (op1 (varE 13) notO) eqO) (andV (op2 (op2 (varE 5) (cE .non) (eqT CC "NoneType" (Feq07 CC))) (cE (.bl false)) (bCmp fun i j => decide (i = j))) (op2 (op2 (varE 5) (varE 9) (eqT CC "str" (Feq07 CC))) (cE (.bl false)) (bCmp fun i j => decide (i = j))))))) (LX07 (.im (scrD ss)) [.ob (.ls (stD q))] (.im (.int p)) (.im (.int (n : Int))) (.im (.lst (ra.map Wd))) (.im (codeD CC p n T)) (.im (.lst (W.map Wd))) x7 x8 (.im (.str (txS p n T))) x10 (.im (.lst (rb.map Wd))) (.im (codeD CC p n Tb)) (.im (.bl (decide (Wb = W)))) .no) = .rt (.bl true) (LX07 (.im (scrD ss)) [.ob (.ls (stD q))] (.im (.int p)) (.im (.int (n : Int))) (.im (.lst (ra.map Wd))) (.im (codeD CC p n T)) (.im (.lst (W.map Wd))) x7 x8 (.im (.str (txS p n T))) x10 (.im (.lst (rb.map Wd))) (.im (codeD CC p n Tb)) (.im (.bl (decide (Wb = W)))) .no) := by
  have hn := h.hn
  have hTW : T = Tb ↔ Wb = W := by
    constructor
    · intro e
      rw [← h.hc.wds, ← hb.hc.wds, e]
    · intro e
      exact table_of_words h.hp (by omega) h.hc.okT hb.hc.okT (by rw [h.hc.wds, hb.hc.wds, e])
  have hq := Feq07_run (CC := CC) (p := p) (q := p) (n := n) (m := n) (T := T) (T' := Tb)
  have hd : decide (p = p ∧ n = n ∧ T = Tb) = decide (Wb = W) := decide_eq_decide.mpr ⟨fun z => hTW.mp z.2.2, fun z => ⟨rfl, rfl, hTW.mpr z⟩⟩
  rw [hd] at hq
  have q1 : eqC CC (Feq07 CC) (codeD CC p n T) (codeD CC p n Tb) = some (.bl (decide (Wb = W))) := eqC_run hq
  have q2 : neC CC (Feq07 CC) (codeD CC p n T) (codeD CC p n Tb) = some (.bl (!decide (Wb = W))) := neC_run hq
  have q3 : eqT CC "NoneType" (Feq07 CC) (codeD CC p n T) .non = some (.bl false) := eqT_run rfl Feq07_non
  have q4 : eqT CC "str" (Feq07 CC) (codeD CC p n T) (.str (txS p n T)) = some (.bl false) := eqT_run rfl Feq07_str
  have b1 := eqO_b07 (decide (Wb = W)) (decide (Wb = W))
  have b2 := eqO_b07 (!decide (Wb = W)) (!decide (Wb = W))
  rw [decide_eq_true rfl] at b1 b2
  have b3 : bCmp (fun i j => decide (i = j)) (.bl false) (.bl false) = some (.bl true) := rfl
  have v5 : varE 5 (LX07 (.im (scrD ss)) [.ob (.ls (stD q))] (.im (.int p)) (.im (.int (n : Int))) (.im (.lst (ra.map Wd))) (.im (codeD CC p n T)) (.im (.lst (W.map Wd))) x7 x8 (.im (.str (txS p n T))) x10 (.im (.lst (rb.map Wd))) (.im (codeD CC p n Tb)) (.im (.bl (decide (Wb = W)))) .no) = .ok (codeD CC p n T) (LX07 (.im (scrD ss)) [.ob (.ls (stD q))] (.im (.int p)) (.im (.int (n : Int))) (.im (.lst (ra.map Wd))) (.im (codeD CC p n T)) (.im (.lst (W.map Wd))) x7 x8 (.im (.str (txS p n T))) x10 (.im (.lst (rb.map Wd))) (.im (codeD CC p n Tb)) (.im (.bl (decide (Wb = W)))) .no) := varE_im rfl
  have v9 : varE 9 (LX07 (.im (scrD ss)) [.ob (.ls (stD q))] (.im (.int p)) (.im (.int (n : Int))) (.im (.lst (ra.map Wd))) (.im (codeD CC p n T)) (.im (.lst (W.map Wd))) x7 x8 (.im (.str (txS p n T))) x10 (.im (.lst (rb.map Wd))) (.im (codeD CC p n Tb)) (.im (.bl (decide (Wb = W)))) .no) = .ok (.str (txS p n T)) (LX07 (.im (scrD ss)) [.ob (.ls (stD q))] (.im (.int p)) (.im (.int (n : Int))) (.im (.lst (ra.map Wd))) (.im (codeD CC p n T)) (.im (.lst (W.map Wd))) x7 x8 (.im (.str (txS p n T))) x10 (.im (.lst (rb.map Wd))) (.im (codeD CC p n Tb)) (.im (.bl (decide (Wb = W)))) .no) := varE_im rfl
  have v12 : varE 12 (LX07 (.im (scrD ss)) [.ob (.ls (stD q))] (.im (.int p)) (.im (.int (n : Int))) (.im (.lst (ra.map Wd))) (.im (codeD CC p n T)) (.im (.lst (W.map Wd))) x7 x8 (.im (.str (txS p n T))) x10 (.im (.lst (rb.map Wd))) (.im (codeD CC p n Tb)) (.im (.bl (decide (Wb = W)))) .no) = .ok (codeD CC p n Tb) (LX07 (.im (scrD ss)) [.ob (.ls (stD q))] (.im (.int p)) (.im (.int (n : Int))) (.im (.lst (ra.map Wd))) (.im (codeD CC p n T)) (.im (.lst (W.map Wd))) x7 x8 (.im (.str (txS p n T))) x10 (.im (.lst (rb.map Wd))) (.im (codeD CC p n Tb)) (.im (.bl (decide (Wb = W)))) .no) := varE_im rfl
  have v13 : varE 13 (LX07 (.im (scrD ss)) [.ob (.ls (stD q))] (.im (.int p)) (.im (.int (n : Int))) (.im (.lst (ra.map Wd))) (.im (codeD CC p n T)) (.im (.lst (W.map Wd))) x7 x8 (.im (.str (txS p n T))) x10 (.im (.lst (rb.map Wd))) (.im (codeD CC p n Tb)) (.im (.bl (decide (Wb = W)))) .no) = .ok (.bl (decide (Wb = W))) (LX07 (.im (scrD ss)) [.ob (.ls (stD q))] (.im (.int p)) (.im (.int (n : Int))) (.im (.lst (ra.map Wd))) (.im (codeD CC p n T)) (.im (.lst (W.map Wd))) x7 x8 (.im (.str (txS p n T))) x10 (.im (.lst (rb.map Wd))) (.im (codeD CC p n Tb)) (.im (.bl (decide (Wb = W)))) .no) := varE_im rfl
  generalize (LX07 (.im (scrD ss)) [.ob (.ls (stD q))] (.im (.int p)) (.im (.int (n : Int))) (.im (.lst (ra.map Wd))) (.im (codeD CC p n T)) (.im (.lst (W.map Wd))) x7 x8 (.im (.str (txS p n T))) x10 (.im (.lst (rb.map Wd))) (.im (codeD CC p n Tb)) (.im (.bl (decide (Wb = W)))) .no) = U at *
  generalize codeD CC p n T = C at *
  generalize codeD CC p n Tb = D at *
  generalize txS p n T = X at *
  generalize decide (Wb = W) = z at *
  have hno : notO (.bl z) = some (.bl (!z)) := rfl
  simp only [retS_run, andV_run, op2_run, op1_run, cE_run, v5, v9, v12, v13, q1, q2, q3, q4, hno, b1, b2, b3, truO, R.bind_ok, R.of_some, if_true, R.stmt_ok]
noncomputable def m_law07 (CB CC CM CR CT : Addr) : Ms → O := (seqS (asgN 1 (funN 1 (aCons (varE 0) aNil) Fstate))
  (seqS (asgS 2 (funM 0 1 aNil Fprime))
  (seqS (asgS 3 (funM 1 1 (aCons (op2 (cE (.int 6)) (op2 (cE (.int 2)) (calE (aCons (op2 (varE 2) (cE (.int 3)) gtO) aNil) intO) mulO) subO) aNil) Ftake))
  (seqS (asgS 4 (funM 3 1 (aCons (varE 3) (aCons (varE 2) (aCons (cE (.int 3)) aNil))) Frows))
  (seqS (asgS 5 (makE CC 3 (aCons (varE 2) (aCons (varE 3) (aCons (varE 4) aNil))) (Finit CC CM CR)))
  (seqS (asgS 6 (funE 3 (aCons (varE 4) (aCons (varE 3) (aCons (varE 2) aNil))) Fspan))
  (seqS (ifS (orT (tst (op2 (frz (lcE (itG CC "words" (varE 5) (Fwords CC)) (Tk.nm 7).k yesT (varE 7) [7])) (varE 6) neO)) (orT (tst (op2 (metE CC "size" 1 (varE 5) aNil (Fsize07 CC)) (calE (aCons (varE 6) aNil) lenO) neO)) (orT (tst (op2 (fldE CC "p" (varE 5)) (varE 2) neO)) (tst (op2 (fldE CC "n" (varE 5)) (varE 3) neO))))) (retS (cE (.bl false))) nilS)
  (seqS (ifS (orT (notT (truT (op1 (fldE CC "rows" (varE 5)) (isiO "tuple")))) (orT (tst (op2 (calE (aCons (fldE CC "rows" (varE 5)) aNil) lenO) (fldE CC "k" (varE 5)) neO)) (tst (op2 (funE 3 (aCons (fldE CC "rows" (varE 5)) (aCons (varE 3) (aCons (varE 2) aNil))) Fspan) (varE 6) neO)))) (retS (cE (.bl false))) nilS)
  (seqS (forS (itS (funE 2 (aCons (varE 3) (aCons (varE 2) aNil)) Fall)) (Tk.nm 7).k (ifS (tst (op2 (metE CC "holds" 2 (varE 5) (aCons (varE 7) aNil) (Fholds CC CM)) (op2 (varE 7) (varE 6) (inD false)) neO)) (retS (cE (.bl false))) nilS))
  (seqS (forS (itS (frz (lstE (aCons (cE .non) (aCons (cE (.int 0)) (aCons (cE (.str "0")) (aCons (op2 (op2 (varE 6) (cE (.int 0)) ixO) (tupE (aCons (cE (.int 0)) aNil)) catT) (aCons (frz (calN (aCons (op2 (varE 6) (cE (.int 0)) ixO) aNil) lstO)) (aCons (op2 (slT (op2 (varE 6) (op1 (cE (.int 1)) negO) ixO) oNone (oSome (op1 (cE (.int 1)) negO))) (tupE (aCons (varE 2) aNil)) catT) (aCons (op2 (slT (op2 (varE 6) (op1 (cE (.int 1)) negO) ixO) oNone (oSome (op1 (cE (.int 1)) negO))) (tupE (aCons (cE .non) aNil)) catT) aNil)))))))))) (Tk.nm 8).k (ifS (tst (op2 (metE CC "holds" 2 (varE 5) (aCons (varE 8) aNil) (Fholds CC CM)) (cE (.bl false)) (bCmp fun i j => !decide (i = j)))) (retS (cE (.bl false))) nilS))
  (seqS (asgS 9 (op2 (op2 (op2 (calE (aCons (varE 2) aNil) strO) (cE (.str " ")) catS) (calE (aCons (varE 3) aNil) strO) catS) (cE (.str ":")) catS))
  (seqS (forS (itS (fldE CC "rows" (varE 5))) (Tk.nm 10).k (asgS 9 (op2 (op2 (varE 9) (cE (.str " ")) catS) (ifE (tst (op2 (varE 3) (cE (.int 0)) gtO)) (op1 (frz (lcE (itS (varE 10)) (Tk.nm 14).k yesT (calE (aCons (varE 14) aNil) strO) [14])) (joinO (.str ""))) (cE (.str "-"))) catS)))
  (seqS (ifS (orT (tst (op2 (calE (aCons (varE 5) aNil) (strC CC (Fstr07 CC))) (varE 9) neO)) (tst (op2 (op2 (funE 1 (aCons (varE 9) aNil) (Fcread CB CC CM CR CT)) (varE 5) (eqC CC (Feq07 CC))) (cE (.bl true)) (bCmp fun i j => !decide (i = j))))) (retS (cE (.bl false))) nilS)
  (seqS (asgS 11 (funM 3 1 (aCons (varE 3) (aCons (varE 2) (aCons (cE (.int 3)) aNil))) Frows))
  (seqS (ifS (andT (tst (op2 (funM 1 1 (aCons (cE (.int 2)) aNil) Ftake) (cE (.int 0)) eqO)) (tst (op2 (calE (aCons (varE 4) aNil) lenO) (cE (.int 0)) gtO))) (asgS 11 (frz (opN (frz (lcE (itS (frz (slL (varE 4) (oSome (cE (.int 1))) oNone))) (Tk.nm 10).k yesT (funE 3 (aCons (op2 (varE 4) (cE (.int 0)) ixO) (aCons (varE 10) (aCons (varE 2) aNil))) FaddW) [10])) (frz (lstE (aCons (op2 (varE 4) (cE (.int 0)) ixO) aNil))) catL))) nilS)
  (seqS (asgS 12 (makE CC 3 (aCons (varE 2) (aCons (varE 3) (aCons (calE (aCons (varE 11) aNil) tupO) aNil))) (Finit CC CM CR)))
  (seqS (asgS 13 (op2 (funE 3 (aCons (varE 11) (aCons (varE 3) (aCons (varE 2) aNil))) Fspan) (varE 6) eqO))
  (retS (andV (op2 (op2 (varE 5) (varE 12) (eqC CC (Feq07 CC))) (varE 13) eqO) (andV (op2 (op2 (varE 5) (varE 12) (neC CC (Feq07 CC))) (op1 (varE 13) notO) eqO) (andV (op2 (op2 (varE 5) (cE .non) (eqT CC "NoneType" (Feq07 CC))) (cE (.bl false)) (bCmp fun i j => decide (i = j))) (op2 (op2 (varE 5) (varE 9) (eqT CC "str" (Feq07 CC))) (cE (.bl false)) (bCmp fun i j => decide (i = j))))))))))))))))))))))))
theorem run_law07 (CB CC CM CR CT : Addr) (ss : List Int) (h : ss.length ≤ 63) : ∃ S', m_law07 CB CC CM CR CT (st0 15 [scrD ss]) = .rt (.bl true) S' := by
  have e0 := k07_0 h
  obtain ⟨p, q1, hp, e1⟩ := k07_1 (ss := ss) (q := stL ss)
  obtain ⟨n, q2, hs, e2⟩ := k07_2 (ss := ss) (q := q1) hp
  obtain ⟨ra, q3, ha, la, e3⟩ := k07_3 (ss := ss) (q := q2) hs
  have hn : n ≤ 1000 := by have := hs.2.1; omega
  have hc := codeOf hp hn ha
  generalize (redN p ra n).T = T at *
  generalize sortW (spanL p n ra) = W at *
  have hC : C7 p n ra T W := ⟨hs, ha, la, hc⟩
  have e4 := k07_4 (CC := CC) (CM := CM) (CR := CR) (ss := ss) (q := q3) hC
  have e5 := k07_5 (CC := CC) (ss := ss) (q := q3) hC
  have e6 := k07_6 (CC := CC) (ss := ss) (q := q3) hC
  have e7 := k07_7 (CC := CC) (ss := ss) (q := q3) hC
  obtain ⟨x7, e8⟩ := k07_8 (CC := CC) (CM := CM) (ss := ss) (q := q3) hC
  obtain ⟨x8, e9⟩ := k07_9 (CC := CC) (CM := CM) (ss := ss) (q := q3) (x7 := x7) hC
  have e10 := k07_10 (CC := CC) (ss := ss) (q := q3) (x7 := x7) (x8 := x8) hC
  obtain ⟨x10, e11⟩ := k07_11 (CC := CC) (ss := ss) (q := q3) (x7 := x7) (x8 := x8) hC
  have e12 := k07_12 (CB := CB) (CC := CC) (CM := CM) (CR := CR) (CT := CT) (ss := ss) (q := q3) (x7 := x7) (x8 := x8) (x10 := x10) hC
  obtain ⟨rb, q4, hb, lb, e13⟩ := k07_13 (CC := CC) (ss := ss) (q := q3) (x7 := x7) (x8 := x8) (x10 := x10) hC
  obtain ⟨rc, q5, hrc, lc, e14⟩ := k07_14 (CC := CC) (ss := ss) (q := q4) (x7 := x7) (x8 := x8) (x10 := x10) hC hb lb
  have hcc := codeOf hp hn hrc
  generalize (redN p rc n).T = Tb at *
  generalize sortW (spanL p n rc) = Wb at *
  have hB : C7 p n rc Tb Wb := ⟨hs, hrc, lc, hcc⟩
  have e15 := k07_15 (CC := CC) (CM := CM) (CR := CR) (ss := ss) (q := q5) (x7 := x7) (x8 := x8) (x10 := x10) hC hB
  have e16 := k07_16 (CC := CC) (ss := ss) (q := q5) (x7 := x7) (x8 := x8) (x10 := x10) hC hB
  have e17 := k07_17 (CC := CC) (ss := ss) (q := q5) (x7 := x7) (x8 := x8) (x10 := x10) hC hB
  unfold m_law07
  rw [sqT07 e0, sqT07 e1, sqT07 e2, sqT07 e3, sqT07 e4, sqT07 e5, sqT07 e6, sqT07 e7, sqT07 e8, sqT07 e9, sqT07 e10, sqT07 e11, sqT07 e12, sqT07 e13, sqT07 e14, sqT07 e15, sqT07 e16, e17]
  exact ⟨_, rfl⟩
end Lq

namespace K07
open PySem PySem.Spec PyProof.Rows L2 Lq
def topS (i : Nat) : Stmt := PySem.Challenge.pw_weightkeepers_k07_codes.main.body.getD i (.Pass ⟨0, 0, 0, 0⟩)
noncomputable section
variable {P : Program} {w : World} {K : PySem.W.Frag} {mg : Str → Option Value} {base : Heap}
abbrev s_init_Refused : Stmt := inClass (topS 4) 0
theorem sc_init_Refused : ScC ["self", "reason"] ["self", "reason"] (defScope s_init_Refused) := ⟨rfl, rfl, rfl, by decide +kernel, rfl, by decide +kernel, by decide +kernel, by decide +kernel, by decide +kernel⟩
theorem ok_init_Refused {CX : CXT} {f cda cc D C : Addr} {params : Arguments} {kV doc pm ct oc cl : Value} {an od cld : Option Addr} {osl csl : Array (Option Value)} (lk : K.lookup f = some ⟨oc, od, .func (PySem.W.ksFn "__init__" "Refused.__init__" params (defBody s_init_Refused) (defScope s_init_Refused) .none kV doc pm an (.ref cda) ct cc), osl⟩) (hcd : PySem.W.codeIn K (.ref cda) "Refused.__init__" = true)
    (hcell : K.lookup cc = some ⟨cl, cld, .cell (some (.ref D)), csl⟩) (S : SupF P K mg f cda cc D C (defScope s_init_Refused) "self") (T : OexC K C) (nf : PySem.W.findIn K (.ref C) "reason" = some none) :
    FnOk P w K mg base CX 1 f (PySem.W.ksFn "__init__" "Refused.__init__" params (defBody s_init_Refused) (defScope s_init_Refused) .none kV doc pm an (.ref cda) ct cc) ["self", "reason"] (spI1 C "reason") := by
  refine fnK_of lk hcd sc_init_Refused hcell (fun vs H Q E h => ?_) (fun A outer s s1 H vs Q E hr h I => ?_)
  · obtain ⟨a, y, rfl, _⟩ := h
    rfl
  · obtain ⟨a, y, rfl, hy, he, k⟩ := h
    refine PySem.ks_wpAt_execs_cons (_root_.PySem.wpAt_mono (super_run (Rr := fun H1 => H1 = H) S rfl T I rfl rfl he (pa_cons (pe_joined (.cons pe_str (.cons (pe_fmt (pv 1)) .nil))) pa_nil) ?_) (fun fl s' hq => ?_) (fun _ _ z => z))
    · refine ⟨_, rfl, ?_, _, rfl, .inl ⟨y, rfl, ?_, _, rfl, ?_, ?_, he, rfl⟩⟩
      · decide +kernel
      · exact Nat.le_trans hy (by decide)
      · have e : (Str.empty ++ ("refused: " : Str)).length = 9 := by decide +kernel
        rw [Str.length_append, e]
        exact Nat.le_trans (Nat.add_le_add_left hy 9) (by decide)
      · show 1 ≤ 1000
        decide
    · obtain ⟨rfl, H1, I1, rfl⟩ := hq
      refine _root_.PySem.wpAt_of_wpAny ((pss_one (ps_ost (pv 0) (pv 1))).run [] s' _ _ _ I1 ?_)
      refine ⟨_, rfl, _, rfl, a, C, rfl, T, nf, .inl ⟨he, fun dx h1 h2 => k dx h1 h2⟩⟩
abbrev s_init_NoText : Stmt := inClass (topS 5) 0
theorem sc_init_NoText : ScC ["self", "at"] ["self", "at"] (defScope s_init_NoText) := ⟨rfl, rfl, rfl, by decide +kernel, rfl, by decide +kernel, by decide +kernel, by decide +kernel, by decide +kernel⟩
theorem ok_init_NoText {CX : CXT} {f cda cc D C : Addr} {params : Arguments} {kV doc pm ct oc cl : Value} {an od cld : Option Addr} {osl csl : Array (Option Value)} (lk : K.lookup f = some ⟨oc, od, .func (PySem.W.ksFn "__init__" "NoText.__init__" params (defBody s_init_NoText) (defScope s_init_NoText) .none kV doc pm an (.ref cda) ct cc), osl⟩) (hcd : PySem.W.codeIn K (.ref cda) "NoText.__init__" = true)
    (hcell : K.lookup cc = some ⟨cl, cld, .cell (some (.ref D)), csl⟩) (S : SupF P K mg f cda cc D C (defScope s_init_NoText) "self") (T : OexC K C) (nf : PySem.W.findIn K (.ref C) "at" = some none) :
    FnOk P w K mg base CX 1 f (PySem.W.ksFn "__init__" "NoText.__init__" params (defBody s_init_NoText) (defScope s_init_NoText) .none kV doc pm an (.ref cda) ct cc) ["self", "at"] (spI1i C "at") := by
  refine fnK_of lk hcd sc_init_NoText hcell (fun vs H Q E h => ?_) (fun A outer s s1 H vs Q E hr h I => ?_)
  · obtain ⟨a, y, rfl, _⟩ := h
    rfl
  · obtain ⟨a, y, rfl, hy, he, k⟩ := h
    refine PySem.ks_wpAt_execs_cons (_root_.PySem.wpAt_mono (super_run (Rr := fun H1 => H1 = H) S rfl T I rfl rfl he (pa_cons (pe_joined (.cons pe_str (.cons (pe_fmt (pv 1)) .nil))) pa_nil) ?_) (fun fl s' hq => ?_) (fun _ _ z => z))
    · refine ⟨_, rfl, ?_, _, rfl, .inr ⟨y, rfl, ?_, _, rfl, ?_, ?_, he, rfl⟩⟩
      · decide +kernel
      · subst hy; decide +kernel
      · have e : (Str.empty ++ ("no text: " : Str)).length = 9 := by decide +kernel
        rw [Str.length_append, e]
        subst hy; decide +kernel
      · show 1 ≤ 1000
        decide
    · obtain ⟨rfl, H1, I1, rfl⟩ := hq
      refine _root_.PySem.wpAt_of_wpAny ((pss_one (ps_ost (pv 0) (pv 1))).run [] s' _ _ _ I1 ?_)
      refine ⟨_, rfl, _, rfl, a, C, rfl, T, nf, .inl ⟨he, fun dx h1 h2 => k dx h1 h2⟩⟩
abbrev s_is_integer : Stmt := topS 7
abbrev N_is_integer : List Str := ["value"]
theorem sc_is_integer : FnScope N_is_integer ["value"] (defScope s_is_integer) := ⟨rfl, rfl, rfl, by decide +kernel, rfl, by decide +kernel, by decide +kernel⟩
noncomputable def m_is_integer : Ms → O := (retS (andV (op1 (varE 0) (isiO "int")) (op1 (op1 (varE 0) (isiO "bool")) notO)))
theorem ok_is_integer {f : Addr} {fd : FuncData} (F : Fun K "is_integer" "is_integer" s_is_integer f fd) (h_bool : mg "bool" = none) (h_int : mg "int" = none) (h_isinstance : mg "isinstance" = none) : FnOk P w K mg base (L2.CX P w) 1 f fd ["value"] (spD K 1 (runD 1 m_is_integer)) :=
  defOk F sc_is_integer fun cdv A outer s H E hr => by
    have nd : N_is_integer.Nodup := sc_is_integer.nd
    have tk : Takes (cxOf (L2.CX P w) P w K mg base N_is_integer "is_integer" (defScope s_is_integer) f cdv A outer s H E) (fun cls d _ H' => E cls d H') := takes_of rfl rfl rfl rfl
    have po : PassesOwn (model P w) (cxOf (L2.CX P w) P w K mg base N_is_integer "is_integer" (defScope s_is_integer) f cdv A outer s H E).A (cxOf (L2.CX P w) P w K mg base N_is_integer "is_integer" (defScope s_is_integer) f cdv A outer s H E).env (cxOf (L2.CX P w) P w K mg base N_is_integer "is_integer" (defScope s_is_integer) f cdv A outer s H E).xe := passes_of rfl
    have hu64 := hr.units
    have hu65 := hu65_of hr
    have hu0 := hr.units0
    have hu1 := hu_of hr
    exact (dss_one (ds_ret (de_and (de_isi (T := "int") (by decide +kernel) (by rfl) h_isinstance (by rfl) h_int (by constructor) (de_var (pv 0))) (de_one (de_not (de_isi (T := "bool") (by decide +kernel) (by rfl) h_isinstance (by rfl) h_bool (by constructor) (de_var (pv 0))))))))
abbrev s_inverse : Stmt := topS 8
abbrev N_inverse : List Str := ["a", "p", "candidate"]
theorem sc_inverse : FnScope N_inverse ["a", "p"] (defScope s_inverse) := ⟨rfl, rfl, rfl, by decide +kernel, rfl, by decide +kernel, by decide +kernel⟩
noncomputable def m_inverse : Ms → O := (seqS (forS (itR2 (aCons (cE (.int 1)) (aCons (varE 1) aNil))) (Tk.nm 2).k (ifS (tst (op2 (op2 (op2 (varE 0) (varE 2) mulO) (varE 1) modO) (cE (.int 1)) eqO)) (retS (varE 2)) nilS))
  noS)
theorem ok_inverse {f : Addr} {fd : FuncData} (F : Fun K "inverse" "inverse" s_inverse f fd) (h_range : mg "range" = none) : FnOk P w K mg base (L2.CX P w) 1 f fd ["a", "p"] (spD K 2 (runD 3 m_inverse)) :=
  defOk F sc_inverse fun cdv A outer s H E hr => by
    have nd : N_inverse.Nodup := sc_inverse.nd
    have tk : Takes (cxOf (L2.CX P w) P w K mg base N_inverse "inverse" (defScope s_inverse) f cdv A outer s H E) (fun cls d _ H' => E cls d H') := takes_of rfl rfl rfl rfl
    have po : PassesOwn (model P w) (cxOf (L2.CX P w) P w K mg base N_inverse "inverse" (defScope s_inverse) f cdv A outer s H E).A (cxOf (L2.CX P w) P w K mg base N_inverse "inverse" (defScope s_inverse) f cdv A outer s H E).env (cxOf (L2.CX P w) P w K mg base N_inverse "inverse" (defScope s_inverse) f cdv A outer s H E).xe := passes_of rfl
    have hu64 := hr.units
    have hu65 := hu65_of hr
    have hu0 := hr.units0
    have hu1 := hu_of hr
    exact (dss_cons (ds_for po (by rfl) (di_range2 (by rfl) h_range (da_cons de_int (da_cons (de_var (pv 1)) da_nil))) (dg_name (pg_name (i := 2) nd (by rfl) (by first | exact Or.inl rfl | exact Or.inr rfl))) (dss_one (ds_if (dt_eq hu64 (de_mod (de_mul (de_var (pv 0)) (de_var (pv 2))) (de_var (pv 1))) de_int) (dss_one (ds_ret (de_var (pv 2)))) dss_nil)))
      (dss_one ds_never))
abbrev s_power : Stmt := topS 9
abbrev N_power : List Str := ["a", "k", "result", "factor", "left"]
theorem sc_power : FnScope N_power ["a", "k"] (defScope s_power) := ⟨rfl, rfl, rfl, by decide +kernel, rfl, by decide +kernel, by decide +kernel⟩
noncomputable def m_power : Ms → O := (seqS (asgS 2 (cE (.int 1)))
  (seqS (moveS 3 0)
  (seqS (moveS 4 1)
  (seqS (whileS (fun _ => 64) (tst (op2 (varE 4) (cE (.int 0)) gtO)) (seqS (ifS (tst (op2 (op2 (varE 4) (cE (.int 2)) modO) (cE (.int 1)) eqO)) (asgS 2 (op2 (varE 2) (varE 3) mulO)) nilS)
  (seqS (asgS 3 (op2 (varE 3) (varE 3) mulO))
  (asgS 4 (op2 (varE 4) (cE (.int 2)) divO)))))
  (retS (varE 2))))))
theorem ok_power {f : Addr} {fd : FuncData} (F : Fun K "power" "power" s_power f fd) : FnOk P w K mg base (L2.CX P w) 1 f fd ["a", "k"] (spD K 2 (runD 5 m_power)) :=
  defOk F sc_power fun cdv A outer s H E hr => by
    have nd : N_power.Nodup := sc_power.nd
    have tk : Takes (cxOf (L2.CX P w) P w K mg base N_power "power" (defScope s_power) f cdv A outer s H E) (fun cls d _ H' => E cls d H') := takes_of rfl rfl rfl rfl
    have po : PassesOwn (model P w) (cxOf (L2.CX P w) P w K mg base N_power "power" (defScope s_power) f cdv A outer s H E).A (cxOf (L2.CX P w) P w K mg base N_power "power" (defScope s_power) f cdv A outer s H E).env (cxOf (L2.CX P w) P w K mg base N_power "power" (defScope s_power) f cdv A outer s H E).xe := passes_of rfl
    have hu64 := hr.units
    have hu65 := hu65_of hr
    have hu0 := hr.units0
    have hu1 := hu_of hr
    exact (dss_cons (ds_set (i := 2) nd (by rfl) (by first | exact Or.inl rfl | exact Or.inr rfl) de_int)
      (dss_cons (ds_mov (i := 3) nd (by rfl) (by first | exact Or.inl rfl | exact Or.inr rfl) (pv 0))
      (dss_cons (ds_mov (i := 4) nd (by rfl) (by first | exact Or.inl rfl | exact Or.inr rfl) (pv 1))
      (dss_cons (ds_while (fuel := fun _ => 64) po (dt_gt (de_var (pv 4)) de_int) (dss_cons (ds_if (dt_eq hu64 (de_mod (de_var (pv 4)) de_int) de_int) (dss_one (ds_set (i := 2) nd (by rfl) (by first | exact Or.inl rfl | exact Or.inr rfl) (de_mul (de_var (pv 2)) (de_var (pv 3))))) dss_nil)
      (dss_cons (ds_set (i := 3) nd (by rfl) (by first | exact Or.inl rfl | exact Or.inr rfl) (de_mul (de_var (pv 3)) (de_var (pv 3))))
      (dss_one (ds_set (i := 4) nd (by rfl) (by first | exact Or.inl rfl | exact Or.inr rfl) (de_div (de_var (pv 4)) de_int))))))
      (dss_one (ds_ret (de_var (pv 2))))))))
abbrev s_is_word : Stmt := topS 11
abbrev N_is_word : List Str := ["value", "p", "n", "item"]
theorem sc_is_word : FnScope N_is_word ["value", "p", "n"] (defScope s_is_word) := ⟨rfl, rfl, rfl, by decide +kernel, rfl, by decide +kernel, by decide +kernel⟩
noncomputable def m_is_word : Ms → O := (seqS (ifS (orT (notT (truT (op1 (varE 0) (isiO "tuple")))) (tst (op2 (calE (aCons (varE 0) aNil) lenO) (varE 2) neO))) (retS (cE (.bl false))) nilS)
  (retS (calE (aCons (frz (lcE (itS (varE 0)) (Tk.nm 3).k yesT (andV (funE 1 (aCons (varE 3) aNil) Fisint) (chT (cE (.int 0)) (varE 3) (varE 1) leO ltO)) [3])) aNil) allO)))
theorem ok_is_word {f : Addr} {fd : FuncData} (F : Fun K "is_word" "is_word" s_is_word f fd) (h_all : mg "all" = none) (h_isinstance : mg "isinstance" = none) (h_len : mg "len" = none) (h_tuple : mg "tuple" = none) (c_is_integer : Cal P w K mg base "is_integer" 1 ["value"] (spD K 1 Fisint)) : FnOk P w K mg base (L2.CX P w) 2 f fd ["value", "p", "n"] (spD K 3 (runD 4 m_is_word)) :=
  defOk F sc_is_word fun cdv A outer s H E hr => by
    have nd : N_is_word.Nodup := sc_is_word.nd
    have tk : Takes (cxOf (L2.CX P w) P w K mg base N_is_word "is_word" (defScope s_is_word) f cdv A outer s H E) (fun cls d _ H' => E cls d H') := takes_of rfl rfl rfl rfl
    have po : PassesOwn (model P w) (cxOf (L2.CX P w) P w K mg base N_is_word "is_word" (defScope s_is_word) f cdv A outer s H E).A (cxOf (L2.CX P w) P w K mg base N_is_word "is_word" (defScope s_is_word) f cdv A outer s H E).env (cxOf (L2.CX P w) P w K mg base N_is_word "is_word" (defScope s_is_word) f cdv A outer s H E).xe := passes_of rfl
    have hu64 := hr.units
    have hu65 := hu65_of hr
    have hu0 := hr.units0
    have hu1 := hu_of hr
    exact (dss_cons (ds_if (PW.pt (dw_or (dt_not (dt_tru (de_isi (T := "tuple") (by decide +kernel) (by rfl) h_isinstance (by rfl) h_tuple (by constructor) (de_var (pv 0))))) (dw_or1 (dt_ne hu64 (de_len (by rfl) h_len (de_var (pv 0))) (de_var (pv 2)))))) (dss_one (ds_ret de_bl)) dss_nil)
      (dss_one (ds_ret (de_all (by rfl) (by rfl) h_all (de_frz (dn_lc (by rfl) nd (di_seq (de_var (pv 0))) (blkOk_by (own := [("item", 3)]) (N := N_is_word) (sc := defScope s_is_word) (by decide +kernel)) (by decide) (fun _ _ _ _ _ => (dg_name (pg_name (i := 3) nd (by rfl) (by first | exact Or.inl rfl | exact Or.inr rfl)))) (fun _ _ _ _ _ => dts_nil) (fun _ _ _ _ _ => (de_and (de_cal c_is_integer takes0 hr (by decide) (by rfl) (da_cons (de_var (pv 3)) da_nil)) (de_one (de_chain op_le rd_C op_lt rd_C de_int (de_var (pv 3)) (de_var (pv 1))))))))))))
abbrev s_add : Stmt := topS 12
abbrev N_add : List Str := ["v", "w", "p", "a", "b"]
theorem sc_add : FnScope N_add ["v", "w", "p"] (defScope s_add) := ⟨rfl, rfl, rfl, by decide +kernel, rfl, by decide +kernel, by decide +kernel⟩
noncomputable def m_add : Ms → O := (retS (calE (aCons (frz (lcE (itZ (aCons (varE 0) (aCons (varE 1) aNil))) (Tk.tp [3, 4]).k yesT (op2 (op2 (varE 3) (varE 4) addO) (varE 2) modO) [3, 4])) aNil) tupO))
theorem ok_add {f : Addr} {fd : FuncData} (F : Fun K "add" "add" s_add f fd) (h_tuple : mg "tuple" = none) (h_zip : mg "zip" = none) : FnOk P w K mg base (L2.CX P w) 1 f fd ["v", "w", "p"] (spD K 3 (runD 5 m_add)) :=
  defOk F sc_add fun cdv A outer s H E hr => by
    have nd : N_add.Nodup := sc_add.nd
    have tk : Takes (cxOf (L2.CX P w) P w K mg base N_add "add" (defScope s_add) f cdv A outer s H E) (fun cls d _ H' => E cls d H') := takes_of rfl rfl rfl rfl
    have po : PassesOwn (model P w) (cxOf (L2.CX P w) P w K mg base N_add "add" (defScope s_add) f cdv A outer s H E).A (cxOf (L2.CX P w) P w K mg base N_add "add" (defScope s_add) f cdv A outer s H E).env (cxOf (L2.CX P w) P w K mg base N_add "add" (defScope s_add) f cdv A outer s H E).xe := passes_of rfl
    have hu64 := hr.units
    have hu65 := hu65_of hr
    have hu0 := hr.units0
    have hu1 := hu_of hr
    exact (dss_one (ds_ret (de_tupc (by rfl) h_tuple (de_frz (dn_lc (by rfl) nd (di_zip (by rfl) h_zip (da_cons (de_var (pv 0)) (da_cons (de_var (pv 1)) da_nil))) (blkOk_by (own := [("a", 3), ("b", 4)]) (N := N_add) (sc := defScope s_add) (by decide +kernel)) (by decide) (fun _ _ _ _ _ => (dg_tup (by rfl) (dgs_cons (pg_name (i := 3) nd (by rfl) (by first | exact Or.inl rfl | exact Or.inr rfl)) (dgs_cons (pg_name (i := 4) nd (by rfl) (by first | exact Or.inl rfl | exact Or.inr rfl)) dgs_nil)))) (fun _ _ _ _ _ => dts_nil) (fun _ _ _ _ _ => (de_mod (de_add (de_var (pv 3)) (de_var (pv 4))) (de_var (pv 2)))))))))
abbrev s_scaled : Stmt := topS 13
abbrev N_scaled : List Str := ["v", "a", "p", "item"]
theorem sc_scaled : FnScope N_scaled ["v", "a", "p"] (defScope s_scaled) := ⟨rfl, rfl, rfl, by decide +kernel, rfl, by decide +kernel, by decide +kernel⟩
noncomputable def m_scaled : Ms → O := (retS (calE (aCons (frz (lcE (itS (varE 0)) (Tk.nm 3).k yesT (op2 (op2 (varE 3) (varE 1) mulO) (varE 2) modO) [3])) aNil) tupO))
theorem ok_scaled {f : Addr} {fd : FuncData} (F : Fun K "scaled" "scaled" s_scaled f fd) (h_tuple : mg "tuple" = none) : FnOk P w K mg base (L2.CX P w) 1 f fd ["v", "a", "p"] (spD K 3 (runD 4 m_scaled)) :=
  defOk F sc_scaled fun cdv A outer s H E hr => by
    have nd : N_scaled.Nodup := sc_scaled.nd
    have tk : Takes (cxOf (L2.CX P w) P w K mg base N_scaled "scaled" (defScope s_scaled) f cdv A outer s H E) (fun cls d _ H' => E cls d H') := takes_of rfl rfl rfl rfl
    have po : PassesOwn (model P w) (cxOf (L2.CX P w) P w K mg base N_scaled "scaled" (defScope s_scaled) f cdv A outer s H E).A (cxOf (L2.CX P w) P w K mg base N_scaled "scaled" (defScope s_scaled) f cdv A outer s H E).env (cxOf (L2.CX P w) P w K mg base N_scaled "scaled" (defScope s_scaled) f cdv A outer s H E).xe := passes_of rfl
    have hu64 := hr.units
    have hu65 := hu65_of hr
    have hu0 := hr.units0
    have hu1 := hu_of hr
    exact (dss_one (ds_ret (de_tupc (by rfl) h_tuple (de_frz (dn_lc (by rfl) nd (di_seq (de_var (pv 0))) (blkOk_by (own := [("item", 3)]) (N := N_scaled) (sc := defScope s_scaled) (by decide +kernel)) (by decide) (fun _ _ _ _ _ => (dg_name (pg_name (i := 3) nd (by rfl) (by first | exact Or.inl rfl | exact Or.inr rfl)))) (fun _ _ _ _ _ => dts_nil) (fun _ _ _ _ _ => (de_mod (de_mul (de_var (pv 3)) (de_var (pv 1))) (de_var (pv 2)))))))))
abbrev s_dot : Stmt := topS 14
abbrev N_dot : List Str := ["v", "w", "p", "a", "b"]
theorem sc_dot : FnScope N_dot ["v", "w", "p"] (defScope s_dot) := ⟨rfl, rfl, rfl, by decide +kernel, rfl, by decide +kernel, by decide +kernel⟩
noncomputable def m_dot : Ms → O := (retS (op2 (calE (aCons (frz (lcE (itZ (aCons (varE 0) (aCons (varE 1) aNil))) (Tk.tp [3, 4]).k yesT (op2 (varE 3) (varE 4) mulO) [3, 4])) aNil) sumO) (varE 2) modO))
theorem ok_dot {f : Addr} {fd : FuncData} (F : Fun K "dot" "dot" s_dot f fd) (h_sum : mg "sum" = none) (h_zip : mg "zip" = none) : FnOk P w K mg base (L2.CX P w) 1 f fd ["v", "w", "p"] (spD K 3 (runD 5 m_dot)) :=
  defOk F sc_dot fun cdv A outer s H E hr => by
    have nd : N_dot.Nodup := sc_dot.nd
    have tk : Takes (cxOf (L2.CX P w) P w K mg base N_dot "dot" (defScope s_dot) f cdv A outer s H E) (fun cls d _ H' => E cls d H') := takes_of rfl rfl rfl rfl
    have po : PassesOwn (model P w) (cxOf (L2.CX P w) P w K mg base N_dot "dot" (defScope s_dot) f cdv A outer s H E).A (cxOf (L2.CX P w) P w K mg base N_dot "dot" (defScope s_dot) f cdv A outer s H E).env (cxOf (L2.CX P w) P w K mg base N_dot "dot" (defScope s_dot) f cdv A outer s H E).xe := passes_of rfl
    have hu64 := hr.units
    have hu65 := hu65_of hr
    have hu0 := hr.units0
    have hu1 := hu_of hr
    exact (dss_one (ds_ret (de_mod (de_sum (by rfl) (by rfl) h_sum (de_frz (dn_lc (by rfl) nd (di_zip (by rfl) h_zip (da_cons (de_var (pv 0)) (da_cons (de_var (pv 1)) da_nil))) (blkOk_by (own := [("a", 3), ("b", 4)]) (N := N_dot) (sc := defScope s_dot) (by decide +kernel)) (by decide) (fun _ _ _ _ _ => (dg_tup (by rfl) (dgs_cons (pg_name (i := 3) nd (by rfl) (by first | exact Or.inl rfl | exact Or.inr rfl)) (dgs_cons (pg_name (i := 4) nd (by rfl) (by first | exact Or.inl rfl | exact Or.inr rfl)) dgs_nil)))) (fun _ _ _ _ _ => dts_nil) (fun _ _ _ _ _ => (de_mul (de_var (pv 3)) (de_var (pv 4))))))) (de_var (pv 2)))))
abbrev s_reduced : Stmt := topS 15
abbrev N_reduced : List Str := ["rows", "width", "p", "table", "pivots", "left", "at", "found", "head", "row"]
theorem sc_reduced : FnScope N_reduced ["rows", "width", "p"] (defScope s_reduced) := ⟨rfl, rfl, rfl, by decide +kernel, rfl, by decide +kernel, by decide +kernel⟩
noncomputable def m_reduced : Ms → O := (seqS (asgS 3 (frz (lstE aNil)))
  (seqS (asgN 4 (lstE aNil))
  (seqS (moveS 5 0)
  (seqS (forS (itR1 (aCons (varE 1) aNil)) (Tk.nm 6).k (seqS (asgS 7 (frz (lcE (itS (varE 5)) (Tk.nm 9).k (tst (op2 (op2 (varE 9) (varE 6) ixO) (cE (.int 0)) neO)) (varE 9) [9])))
  (ifS (truT (varE 7)) (seqS (asgS 8 (funE 3 (aCons (op2 (varE 7) (cE (.int 0)) ixO) (aCons (funE 2 (aCons (op2 (op2 (varE 7) (cE (.int 0)) ixO) (varE 6) ixO) (aCons (varE 2) aNil)) Finverse) (aCons (varE 2) aNil))) FscW))
  (seqS (asgS 3 (frz (opN (frz (lcE (itS (varE 3)) (Tk.nm 9).k yesT (funE 4 (aCons (varE 9) (aCons (varE 8) (aCons (varE 6) (aCons (varE 2) aNil)))) Fcleared) [9])) (frz (lstE (aCons (varE 8) aNil))) catL)))
  (seqS (asgS 5 (frz (lcE (itS (varE 5)) (Tk.nm 9).k yesT (funE 4 (aCons (varE 9) (aCons (varE 8) (aCons (varE 6) (aCons (varE 2) aNil)))) Fcleared) [9])))
  (appS 4 (varE 6))))) nilS)))
  (retS (tupE (aCons (calE (aCons (varE 3) aNil) tupO) (aCons (calE (aCons (varE 4) aNil) tupO) aNil))))))))
theorem ok_reduced {f : Addr} {fd : FuncData} (F : Fun K "reduced" "reduced" s_reduced f fd) (h_range : mg "range" = none) (h_tuple : mg "tuple" = none) (c__cleared : Cal P w K mg base "_cleared" 2 ["row", "head", "at", "p"] (spD K 4 Fcleared)) (c_scaled : Cal P w K mg base "scaled" 1 ["v", "a", "p"] (spD K 3 FscW)) (c_inverse : Cal P w K mg base "inverse" 1 ["a", "p"] (spD K 2 Finverse)) : FnOk P w K mg base (L2.CX P w) 3 f fd ["rows", "width", "p"] (spD K 3 (runD 10 m_reduced)) :=
  defOk F sc_reduced fun cdv A outer s H E hr => by
    have nd : N_reduced.Nodup := sc_reduced.nd
    have tk : Takes (cxOf (L2.CX P w) P w K mg base N_reduced "reduced" (defScope s_reduced) f cdv A outer s H E) (fun cls d _ H' => E cls d H') := takes_of rfl rfl rfl rfl
    have po : PassesOwn (model P w) (cxOf (L2.CX P w) P w K mg base N_reduced "reduced" (defScope s_reduced) f cdv A outer s H E).A (cxOf (L2.CX P w) P w K mg base N_reduced "reduced" (defScope s_reduced) f cdv A outer s H E).env (cxOf (L2.CX P w) P w K mg base N_reduced "reduced" (defScope s_reduced) f cdv A outer s H E).xe := passes_of rfl
    have hu64 := hr.units
    have hu65 := hu65_of hr
    have hu0 := hr.units0
    have hu1 := hu_of hr
    exact (dss_cons (ds_set (i := 3) nd (by rfl) (by first | exact Or.inl rfl | exact Or.inr rfl) (de_frz (dn_lst da_nil)))
      (dss_cons (ds_setN (i := 4) nd (by rfl) (by first | exact Or.inl rfl | exact Or.inr rfl) (dn_lst da_nil))
      (dss_cons (ds_mov (i := 5) nd (by rfl) (by first | exact Or.inl rfl | exact Or.inr rfl) (pv 0))
      (dss_cons (ds_for po (by rfl) (di_range1 (by rfl) h_range (da_cons (de_var (pv 1)) da_nil)) (dg_name (pg_name (i := 6) nd (by rfl) (by first | exact Or.inl rfl | exact Or.inr rfl))) (dss_cons (ds_lc (i := 7) (by rfl) nd (by rfl) (by rfl) (sw_true (by rfl) (by rfl) (by rfl) (by decide +kernel)) (di_seq (de_var (pv 5))) (blkOk_by (own := [("row", 9)]) (N := N_reduced) (sc := defScope s_reduced) (by decide +kernel)) (by decide) (fun _ _ _ _ _ => (dg_name (pg_name (i := 9) nd (by rfl) (by first | exact Or.inl rfl | exact Or.inr rfl)))) (fun _ _ _ _ _ => (dts_one (dt_ne hu64 (de_sub1 (de_var (pv 9)) (de_var (pv 6))) de_int))) (fun _ _ _ _ _ => (de_var (pv 9))))
      (dss_one (ds_if (dt_tru (de_var (pv 7))) (dss_cons (ds_set (i := 8) nd (by rfl) (by first | exact Or.inl rfl | exact Or.inr rfl) (de_cal c_scaled tk hr (by decide) (by rfl) (da_cons (de_sub1 (de_var (pv 7)) de_int) (da_cons (de_cal c_inverse tk hr (by decide) (by rfl) (da_cons (de_sub1 (de_sub1 (de_var (pv 7)) de_int) (de_var (pv 6))) (da_cons (de_var (pv 2)) da_nil))) (da_cons (de_var (pv 2)) da_nil)))))
      (dss_cons (ds_set (i := 3) nd (by rfl) (by first | exact Or.inl rfl | exact Or.inr rfl) (de_frz (dn_catL (de_frz (dn_lc (by rfl) nd (di_seq (de_var (pv 3))) (blkOk_by (own := [("row", 9)]) (N := N_reduced) (sc := defScope s_reduced) (by decide +kernel)) (by decide) (fun _ _ _ _ _ => (dg_name (pg_name (i := 9) nd (by rfl) (by first | exact Or.inl rfl | exact Or.inr rfl)))) (fun _ _ _ _ _ => dts_nil) (fun _ _ _ _ _ => (de_cal c__cleared takes0 hr (by decide) (by rfl) (da_cons (de_var (pv 9)) (da_cons (de_var (pv 8)) (da_cons (de_var (pv 6)) (da_cons (de_var (pv 2)) da_nil)))))))) (de_frz (dn_lst (da_cons (de_var (pv 8)) da_nil))))))
      (dss_cons (ds_lc (i := 5) (by rfl) nd (by rfl) (by rfl) (sw_true (by rfl) (by rfl) (by rfl) (by decide +kernel)) (di_seq (de_var (pv 5))) (blkOk_by (own := [("row", 9)]) (N := N_reduced) (sc := defScope s_reduced) (by decide +kernel)) (by decide) (fun _ _ _ _ _ => (dg_name (pg_name (i := 9) nd (by rfl) (by first | exact Or.inl rfl | exact Or.inr rfl)))) (fun _ _ _ _ _ => dts_nil) (fun _ _ _ _ _ => (de_cal c__cleared takes0 hr (by decide) (by rfl) (da_cons (de_var (pv 9)) (da_cons (de_var (pv 8)) (da_cons (de_var (pv 6)) (da_cons (de_var (pv 2)) da_nil)))))))
      (dss_one (ds_app (pv 4) (de_var (pv 6))))))) dss_nil))))
      (dss_one (ds_ret (de_tup (da_cons (de_tupc (by rfl) h_tuple (de_var (pv 3))) (da_cons (de_tupc (by rfl) h_tuple (de_var (pv 4))) da_nil)))))))))
abbrev s__cleared : Stmt := topS 16
abbrev N__cleared : List Str := ["row", "head", "at", "p"]
theorem sc__cleared : FnScope N__cleared ["row", "head", "at", "p"] (defScope s__cleared) := ⟨rfl, rfl, rfl, by decide +kernel, rfl, by decide +kernel, by decide +kernel⟩
noncomputable def m__cleared : Ms → O := (retS (funE 3 (aCons (varE 0) (aCons (funE 3 (aCons (varE 1) (aCons (op1 (op2 (varE 0) (varE 2) ixO) negO) (aCons (varE 3) aNil))) FscW) (aCons (varE 3) aNil))) FaddW))
theorem ok__cleared {f : Addr} {fd : FuncData} (F : Fun K "_cleared" "_cleared" s__cleared f fd) (c_add : Cal P w K mg base "add" 1 ["v", "w", "p"] (spD K 3 FaddW)) (c_scaled : Cal P w K mg base "scaled" 1 ["v", "a", "p"] (spD K 3 FscW)) : FnOk P w K mg base (L2.CX P w) 2 f fd ["row", "head", "at", "p"] (spD K 4 (runD 4 m__cleared)) :=
  defOk F sc__cleared fun cdv A outer s H E hr => by
    have nd : N__cleared.Nodup := sc__cleared.nd
    have tk : Takes (cxOf (L2.CX P w) P w K mg base N__cleared "_cleared" (defScope s__cleared) f cdv A outer s H E) (fun cls d _ H' => E cls d H') := takes_of rfl rfl rfl rfl
    have po : PassesOwn (model P w) (cxOf (L2.CX P w) P w K mg base N__cleared "_cleared" (defScope s__cleared) f cdv A outer s H E).A (cxOf (L2.CX P w) P w K mg base N__cleared "_cleared" (defScope s__cleared) f cdv A outer s H E).env (cxOf (L2.CX P w) P w K mg base N__cleared "_cleared" (defScope s__cleared) f cdv A outer s H E).xe := passes_of rfl
    have hu64 := hr.units
    have hu65 := hu65_of hr
    have hu0 := hr.units0
    have hu1 := hu_of hr
    exact (dss_one (ds_ret (de_cal c_add tk hr (by decide) (by rfl) (da_cons (de_var (pv 0)) (da_cons (de_cal c_scaled tk hr (by decide) (by rfl) (da_cons (de_var (pv 1)) (da_cons (de_neg (de_sub1 (de_var (pv 0)) (de_var (pv 2)))) (da_cons (de_var (pv 3)) da_nil)))) (da_cons (de_var (pv 3)) da_nil))))))
abbrev s_kernel : Stmt := topS 17
abbrev N_kernel : List Str := ["rows", "width", "p", "table", "pivots", "at"]
theorem sc_kernel : FnScope N_kernel ["rows", "width", "p"] (defScope s_kernel) := ⟨rfl, rfl, rfl, by decide +kernel, rfl, by decide +kernel, by decide +kernel⟩
noncomputable def m_kernel : Ms → O := (seqS (asgT (Tk.tp [3, 4]) (funE 3 (aCons (varE 0) (aCons (varE 1) (aCons (varE 2) aNil))) Freduced))
  (retS (calE (aCons (frz (lcE (itR1 (aCons (varE 1) aNil)) (Tk.nm 5).k (tst (op2 (varE 5) (varE 4) (inI true))) (funE 5 (aCons (varE 3) (aCons (varE 4) (aCons (varE 5) (aCons (varE 1) (aCons (varE 2) aNil))))) Fkword) [5])) aNil) tupO)))
theorem ok_kernel {f : Addr} {fd : FuncData} (F : Fun K "kernel" "kernel" s_kernel f fd) (h_range : mg "range" = none) (h_tuple : mg "tuple" = none) (c__kernel_word : Cal P w K mg base "_kernel_word" 1 ["table", "pivots", "free", "width", "p"] (spD K 5 Fkword)) (c_reduced : Cal P w K mg base "reduced" 3 ["rows", "width", "p"] (spD K 3 Freduced)) : FnOk P w K mg base (L2.CX P w) 4 f fd ["rows", "width", "p"] (spD K 3 (runD 6 m_kernel)) :=
  defOk F sc_kernel fun cdv A outer s H E hr => by
    have nd : N_kernel.Nodup := sc_kernel.nd
    have tk : Takes (cxOf (L2.CX P w) P w K mg base N_kernel "kernel" (defScope s_kernel) f cdv A outer s H E) (fun cls d _ H' => E cls d H') := takes_of rfl rfl rfl rfl
    have po : PassesOwn (model P w) (cxOf (L2.CX P w) P w K mg base N_kernel "kernel" (defScope s_kernel) f cdv A outer s H E).A (cxOf (L2.CX P w) P w K mg base N_kernel "kernel" (defScope s_kernel) f cdv A outer s H E).env (cxOf (L2.CX P w) P w K mg base N_kernel "kernel" (defScope s_kernel) f cdv A outer s H E).xe := passes_of rfl
    have hu64 := hr.units
    have hu65 := hu65_of hr
    have hu0 := hr.units0
    have hu1 := hu_of hr
    exact (dss_cons (ds_tgt (de_cal c_reduced tk hr (by decide) (by rfl) (da_cons (de_var (pv 0)) (da_cons (de_var (pv 1)) (da_cons (de_var (pv 2)) da_nil)))) (dg_tup (by rfl) (dgs_cons (pg_name (i := 3) nd (by rfl) (by first | exact Or.inl rfl | exact Or.inr rfl)) (dgs_cons (pg_name (i := 4) nd (by rfl) (by first | exact Or.inl rfl | exact Or.inr rfl)) dgs_nil))))
      (dss_one (ds_ret (de_tupc (by rfl) h_tuple (de_frz (dn_lc (by rfl) nd (di_range1 (by rfl) h_range (da_cons (de_var (pv 1)) da_nil)) (blkOk_by (own := [("at", 5)]) (N := N_kernel) (sc := defScope s_kernel) (by decide +kernel)) (by decide) (fun _ _ _ _ _ => (dg_name (pg_name (i := 5) nd (by rfl) (by first | exact Or.inl rfl | exact Or.inr rfl)))) (fun _ _ _ _ _ => (dts_one (dt_nin (de_var (pv 5)) (de_var (pv 4))))) (fun _ _ _ _ _ => (de_cal c__kernel_word takes0 hr (by decide) (by rfl) (da_cons (de_var (pv 3)) (da_cons (de_var (pv 4)) (da_cons (de_var (pv 5)) (da_cons (de_var (pv 1)) (da_cons (de_var (pv 2)) da_nil)))))))))))))
abbrev s__kernel_word : Stmt := topS 18
abbrev N__kernel_word : List Str := ["table", "pivots", "free", "width", "p", "word", "row", "pivot"]
theorem sc__kernel_word : FnScope N__kernel_word ["table", "pivots", "free", "width", "p"] (defScope s__kernel_word) := ⟨rfl, rfl, rfl, by decide +kernel, rfl, by decide +kernel, by decide +kernel⟩
noncomputable def m__kernel_word : Ms → O := (seqS (asgN 5 (opN (frz (lstE (aCons (cE (.int 0)) aNil))) (varE 3) repL))
  (seqS (setS 5 (cE (.int 1)) (varE 2))
  (seqS (forS (itZ (aCons (varE 0) (aCons (varE 1) aNil))) (Tk.tp [6, 7]).k (setS 5 (op2 (op1 (op2 (varE 6) (varE 2) ixO) negO) (varE 4) modO) (varE 7)))
  (retS (calE (aCons (varE 5) aNil) tupO)))))
theorem ok__kernel_word {f : Addr} {fd : FuncData} (F : Fun K "_kernel_word" "_kernel_word" s__kernel_word f fd) (h_tuple : mg "tuple" = none) (h_zip : mg "zip" = none) : FnOk P w K mg base (L2.CX P w) 1 f fd ["table", "pivots", "free", "width", "p"] (spD K 5 (runD 8 m__kernel_word)) :=
  defOk F sc__kernel_word fun cdv A outer s H E hr => by
    have nd : N__kernel_word.Nodup := sc__kernel_word.nd
    have tk : Takes (cxOf (L2.CX P w) P w K mg base N__kernel_word "_kernel_word" (defScope s__kernel_word) f cdv A outer s H E) (fun cls d _ H' => E cls d H') := takes_of rfl rfl rfl rfl
    have po : PassesOwn (model P w) (cxOf (L2.CX P w) P w K mg base N__kernel_word "_kernel_word" (defScope s__kernel_word) f cdv A outer s H E).A (cxOf (L2.CX P w) P w K mg base N__kernel_word "_kernel_word" (defScope s__kernel_word) f cdv A outer s H E).env (cxOf (L2.CX P w) P w K mg base N__kernel_word "_kernel_word" (defScope s__kernel_word) f cdv A outer s H E).xe := passes_of rfl
    have hu64 := hr.units
    have hu65 := hu65_of hr
    have hu0 := hr.units0
    have hu1 := hu_of hr
    exact (dss_cons (ds_setN (i := 5) nd (by rfl) (by first | exact Or.inl rfl | exact Or.inr rfl) (dn_repL (de_frz (dn_lst (da_cons de_int da_nil))) (de_var (pv 3))))
      (dss_cons (ds_setI (pv 5) (de_var (pv 2)) de_int)
      (dss_cons (ds_for po (by rfl) (di_zip (by rfl) h_zip (da_cons (de_var (pv 0)) (da_cons (de_var (pv 1)) da_nil))) (dg_tup (by rfl) (dgs_cons (pg_name (i := 6) nd (by rfl) (by first | exact Or.inl rfl | exact Or.inr rfl)) (dgs_cons (pg_name (i := 7) nd (by rfl) (by first | exact Or.inl rfl | exact Or.inr rfl)) dgs_nil))) (dss_one (ds_setI (pv 5) (de_var (pv 7)) (de_mod (de_neg (de_sub1 (de_var (pv 6)) (de_var (pv 2)))) (de_var (pv 4))))))
      (dss_one (ds_ret (de_tupc (by rfl) h_tuple (de_var (pv 5))))))))
abbrev s_written : Stmt := topS 21
abbrev N_written : List Str := ["word", "item"]
theorem sc_written : FnScope N_written ["word"] (defScope s_written) := ⟨rfl, rfl, rfl, by decide +kernel, rfl, by decide +kernel, by decide +kernel⟩
noncomputable def m_written : Ms → O := (seqS (ifS (tst (op2 (calE (aCons (varE 0) aNil) lenO) (cE (.int 0)) eqO)) (retS (cE (.str "-"))) nilS)
  (retS (op1 (frz (lcE (itS (varE 0)) (Tk.nm 1).k yesT (calE (aCons (varE 1) aNil) strO) [1])) (joinO (.str "")))))
theorem ok_written {f : Addr} {fd : FuncData} (F : Fun K "written" "written" s_written f fd) (h_len : mg "len" = none) (h_str : mg "str" = none) : FnOk P w K mg base (L2.CX P w) 1 f fd ["word"] (spD K 1 (runD 2 m_written)) :=
  defOk F sc_written fun cdv A outer s H E hr => by
    have nd : N_written.Nodup := sc_written.nd
    have tk : Takes (cxOf (L2.CX P w) P w K mg base N_written "written" (defScope s_written) f cdv A outer s H E) (fun cls d _ H' => E cls d H') := takes_of rfl rfl rfl rfl
    have po : PassesOwn (model P w) (cxOf (L2.CX P w) P w K mg base N_written "written" (defScope s_written) f cdv A outer s H E).A (cxOf (L2.CX P w) P w K mg base N_written "written" (defScope s_written) f cdv A outer s H E).env (cxOf (L2.CX P w) P w K mg base N_written "written" (defScope s_written) f cdv A outer s H E).xe := passes_of rfl
    have hu64 := hr.units
    have hu65 := hu65_of hr
    have hu0 := hr.units0
    have hu1 := hu_of hr
    exact (dss_cons (ds_if (dt_eq hu64 (de_len (by rfl) h_len (de_var (pv 0))) de_int) (dss_one (ds_ret de_str)) dss_nil)
      (dss_one (ds_ret (de_join pe_str (de_frz (dn_lc (by rfl) nd (di_seq (de_var (pv 0))) (blkOk_by (own := [("item", 1)]) (N := N_written) (sc := defScope s_written) (by decide +kernel)) (by decide) (fun _ _ _ _ _ => (dg_name (pg_name (i := 1) nd (by rfl) (by first | exact Or.inl rfl | exact Or.inr rfl)))) (fun _ _ _ _ _ => dts_nil) (fun _ _ _ _ _ => (de_strc (by rfl) h_str (de_var (pv 1))))))))))
abbrev s_read_word : Stmt := topS 22
abbrev N_read_word : List Str := ["text", "p", "items", "sign", "item"]
theorem sc_read_word : FnScope N_read_word ["text", "p"] (defScope s_read_word) := ⟨rfl, rfl, rfl, by decide +kernel, rfl, by decide +kernel, by decide +kernel⟩
noncomputable def m_read_word (CT : Addr) : Ms → O := (seqS (ifS (orT (notT (truT (op1 (varE 0) (isiO "str")))) (tst (op2 (varE 0) (cE (.str "")) eqO))) (raiseS ⟨CT, ["at"], [.int 0]⟩) nilS)
  (seqS (ifS (tst (op2 (varE 0) (cE (.str "-")) eqO)) (retS (tupE aNil)) nilS)
  (seqS (asgS 2 (frz (lcE (itC (varE 0)) (Tk.nm 3).k yesT (findE (cE (.str "0123456")) (varE 3)) [3])))
  (seqS (ifS (notT (truT (calE (aCons (frz (lcE (itS (varE 2)) (Tk.nm 4).k yesT (chT (cE (.int 0)) (varE 4) (varE 1) leO ltO) [4])) aNil) allO))) (raiseS ⟨CT, ["at"], [.int 0]⟩) nilS)
  (retS (calE (aCons (varE 2) aNil) tupO))))))
theorem ok_read_word {f : Addr} {fd : FuncData} (F : Fun K "read_word" "read_word" s_read_word f fd) {CT : Addr} {tkD : Tok} (h__DIGITS : mg "_DIGITS" = some (.str "0123456" tkD)) (h_all : mg "all" = none) (h_isinstance : mg "isinstance" = none) (h_str : mg "str" = none) (h_tuple : mg "tuple" = none) (R_NoText : RaI P w K mg base "NoText" CT "at") : FnOk P w K mg base (L2.CX P w) 3 f fd ["text", "p"] (spD K 2 (runD 5 (m_read_word CT))) :=
  defOk F sc_read_word fun cdv A outer s H E hr => by
    have nd : N_read_word.Nodup := sc_read_word.nd
    have tk : Takes (cxOf (L2.CX P w) P w K mg base N_read_word "read_word" (defScope s_read_word) f cdv A outer s H E) (fun cls d _ H' => E cls d H') := takes_of rfl rfl rfl rfl
    have po : PassesOwn (model P w) (cxOf (L2.CX P w) P w K mg base N_read_word "read_word" (defScope s_read_word) f cdv A outer s H E).A (cxOf (L2.CX P w) P w K mg base N_read_word "read_word" (defScope s_read_word) f cdv A outer s H E).env (cxOf (L2.CX P w) P w K mg base N_read_word "read_word" (defScope s_read_word) f cdv A outer s H E).xe := passes_of rfl
    have hu64 := hr.units
    have hu65 := hu65_of hr
    have hu0 := hr.units0
    have hu1 := hu_of hr
    exact (dss_cons (ds_if (PW.pt (dw_or (dt_not (dt_tru (de_isi (T := "str") (by decide +kernel) (by rfl) h_isinstance (by rfl) h_str (by constructor) (de_var (pv 0))))) (dw_or1 (dt_eq hu64 (de_var (pv 0)) de_str)))) (dss_one (ds_raiseI R_NoText (by rfl) tk (hr.mono (by decide)) (by rfl) (by decide))) dss_nil)
      (dss_cons (ds_if (dt_eq hu64 (de_var (pv 0)) de_str) (dss_one (ds_ret (de_tup da_nil))) dss_nil)
      (dss_cons (ds_lc (i := 2) (by rfl) nd (by rfl) (by rfl) (sw_true (by rfl) (by rfl) (by rfl) (by decide +kernel)) (di_str (de_var (pv 0))) (blkOk_by (own := [("sign", 3)]) (N := N_read_word) (sc := defScope s_read_word) (by decide +kernel)) (by decide) (fun _ _ _ _ _ => (dg_name (pg_name (i := 3) nd (by rfl) (by first | exact Or.inl rfl | exact Or.inr rfl)))) (fun _ _ _ _ _ => dts_nil) (fun _ _ _ _ _ => (de_find (de_gstr (by rfl) h__DIGITS) (de_var (pv 3)))))
      (dss_cons (ds_if (dt_not (dt_tru (de_all (by rfl) (by rfl) h_all (de_frz (dn_lc (by rfl) nd (di_seq (de_var (pv 2))) (blkOk_by (own := [("item", 4)]) (N := N_read_word) (sc := defScope s_read_word) (by decide +kernel)) (by decide) (fun _ _ _ _ _ => (dg_name (pg_name (i := 4) nd (by rfl) (by first | exact Or.inl rfl | exact Or.inr rfl)))) (fun _ _ _ _ _ => dts_nil) (fun _ _ _ _ _ => (de_chain op_le rd_C op_lt rd_C de_int (de_var (pv 4)) (de_var (pv 1))))))))) (dss_one (ds_raiseI R_NoText (by rfl) tk (hr.mono (by decide)) (by rfl) (by decide))) dss_nil)
      (dss_one (ds_ret (de_tupc (by rfl) h_tuple (de_var (pv 2)))))))))
abbrev s_is_prime : Stmt := topS 27
abbrev N_is_prime : List Str := ["p"]
theorem sc_is_prime : FnScope N_is_prime ["p"] (defScope s_is_prime) := ⟨rfl, rfl, rfl, by decide +kernel, rfl, by decide +kernel, by decide +kernel⟩
noncomputable def m_is_prime : Ms → O := (retS (andV (funE 1 (aCons (varE 0) aNil) Fisint) (op2 (varE 0) (cE (.scr true [.int 2, .int 3, .int 5, .int 7])) (inI false))))
theorem ok_is_prime {f : Addr} {fd : FuncData} (F : Fun K "is_prime" "is_prime" s_is_prime f fd) (k__PRIMES : KTup K mg "_PRIMES" [.int 2, .int 3, .int 5, .int 7]) (c_is_integer : Cal P w K mg base "is_integer" 1 ["value"] (spD K 1 Fisint)) : FnOk P w K mg base (L2.CX P w) 2 f fd ["p"] (spD K 1 (runD 1 m_is_prime)) :=
  defOk F sc_is_prime fun cdv A outer s H E hr => by
    have nd : N_is_prime.Nodup := sc_is_prime.nd
    have tk : Takes (cxOf (L2.CX P w) P w K mg base N_is_prime "is_prime" (defScope s_is_prime) f cdv A outer s H E) (fun cls d _ H' => E cls d H') := takes_of rfl rfl rfl rfl
    have po : PassesOwn (model P w) (cxOf (L2.CX P w) P w K mg base N_is_prime "is_prime" (defScope s_is_prime) f cdv A outer s H E).A (cxOf (L2.CX P w) P w K mg base N_is_prime "is_prime" (defScope s_is_prime) f cdv A outer s H E).env (cxOf (L2.CX P w) P w K mg base N_is_prime "is_prime" (defScope s_is_prime) f cdv A outer s H E).xe := passes_of rfl
    have hu64 := hr.units
    have hu65 := hu65_of hr
    have hu0 := hr.units0
    have hu1 := hu_of hr
    exact (dss_one (ds_ret (de_and (de_cal c_is_integer tk hr (by decide) (by rfl) (da_cons (de_var (pv 0)) da_nil)) (de_one (de_in (de_var (pv 0)) (de_ktup k__PRIMES (by rfl)))))))
abbrev s_check_rows : Stmt := topS 28
abbrev N_check_rows : List Str := ["p", "n", "rows", "row"]
theorem sc_check_rows : FnScope N_check_rows ["p", "n", "rows"] (defScope s_check_rows) := ⟨rfl, rfl, rfl, by decide +kernel, rfl, by decide +kernel, by decide +kernel⟩
noncomputable def m_check_rows (CM CR : Addr) : Ms → O := (seqS (ifS (orT (notT (truT (funE 1 (aCons (varE 0) aNil) Fisprime))) (orT (notT (truT (funE 1 (aCons (varE 1) aNil) Fisint))) (tst (op2 (varE 1) (cE (.int 0)) ltO)))) (raiseS ⟨CM, [], []⟩) nilS)
  (seqS (ifS (tst (op2 (varE 1) (cE (.int 12)) gtO)) (raiseS ⟨CR, ["reason"], [.str "length"]⟩) nilS)
  (seqS (ifS (notT (truT (op1 (varE 2) (isi2O "list" "tuple")))) (raiseS ⟨CM, [], []⟩) nilS)
  (ifS (notT (truT (calE (aCons (frz (lcE (itS (varE 2)) (Tk.nm 3).k yesT (funE 3 (aCons (varE 3) (aCons (varE 0) (aCons (varE 1) aNil))) Fisword) [3])) aNil) allO))) (raiseS ⟨CM, [], []⟩) nilS))))
theorem ok_check_rows {f : Addr} {fd : FuncData} (F : Fun K "check_rows" "check_rows" s_check_rows f fd) {CM CR : Addr} {tkL : Tok} (h__LONGEST : mg "_LONGEST" = some (.int 12 tkL)) (h_all : mg "all" = none) (h_isinstance : mg "isinstance" = none) (h_list : mg "list" = none) (h_tuple : mg "tuple" = none) (R_Malformed : RaN P w K mg base "Malformed" CM) (R_Refused : RaS P w K mg base "Refused" CR "reason") (c_is_word : Cal P w K mg base "is_word" 2 ["value", "p", "n"] (spD K 3 Fisword)) (c_is_integer : Cal P w K mg base "is_integer" 1 ["value"] (spD K 1 Fisint)) (c_is_prime : Cal P w K mg base "is_prime" 2 ["p"] (spD K 1 Fisprime)) : FnOk P w K mg base (L2.CX P w) 3 f fd ["p", "n", "rows"] (spD K 3 (runD 4 (m_check_rows CM CR))) :=
  defOk F sc_check_rows fun cdv A outer s H E hr => by
    have nd : N_check_rows.Nodup := sc_check_rows.nd
    have tk : Takes (cxOf (L2.CX P w) P w K mg base N_check_rows "check_rows" (defScope s_check_rows) f cdv A outer s H E) (fun cls d _ H' => E cls d H') := takes_of rfl rfl rfl rfl
    have po : PassesOwn (model P w) (cxOf (L2.CX P w) P w K mg base N_check_rows "check_rows" (defScope s_check_rows) f cdv A outer s H E).A (cxOf (L2.CX P w) P w K mg base N_check_rows "check_rows" (defScope s_check_rows) f cdv A outer s H E).env (cxOf (L2.CX P w) P w K mg base N_check_rows "check_rows" (defScope s_check_rows) f cdv A outer s H E).xe := passes_of rfl
    have hu64 := hr.units
    have hu65 := hu65_of hr
    have hu0 := hr.units0
    have hu1 := hu_of hr
    exact (dss_cons (ds_if (PW.pt (dw_or (dt_not (dt_tru (de_cal c_is_prime tk hr (by decide) (by rfl) (da_cons (de_var (pv 0)) da_nil)))) (dw_or (dt_not (dt_tru (de_cal c_is_integer tk hr (by decide) (by rfl) (da_cons (de_var (pv 1)) da_nil)))) (dw_or1 (dt_lt (de_var (pv 1)) de_int))))) (dss_one (ds_raiseN R_Malformed (by rfl) tk (hr.mono (by decide)) (by rfl))) dss_nil)
      (dss_cons (ds_if (dt_gt (de_var (pv 1)) (de_gint (by rfl) h__LONGEST)) (dss_one (ds_raiseS R_Refused (by rfl) tk (hr.mono (by decide)) (by rfl) (by decide +kernel))) dss_nil)
      (dss_cons (ds_if (dt_not (dt_tru (de_isi2 (T := "list") (U := "tuple") (by decide +kernel) (by decide +kernel) (by rfl) h_isinstance (by rfl) h_list (by rfl) h_tuple (de_var (pv 2))))) (dss_one (ds_raiseN R_Malformed (by rfl) tk (hr.mono (by decide)) (by rfl))) dss_nil)
      (dss_one (ds_if (dt_not (dt_tru (de_all (by rfl) (by rfl) h_all (de_frz (dn_lc (by rfl) nd (di_seq (de_var (pv 2))) (blkOk_by (own := [("row", 3)]) (N := N_check_rows) (sc := defScope s_check_rows) (by decide +kernel)) (by decide) (fun _ _ _ _ _ => (dg_name (pg_name (i := 3) nd (by rfl) (by first | exact Or.inl rfl | exact Or.inr rfl)))) (fun _ _ _ _ _ => dts_nil) (fun _ _ _ _ _ => (de_cal c_is_word takes0 hr (by decide) (by rfl) (da_cons (de_var (pv 3)) (da_cons (de_var (pv 0)) (da_cons (de_var (pv 1)) da_nil)))))))))) (dss_one (ds_raiseN R_Malformed (by rfl) tk (hr.mono (by decide)) (by rfl))) dss_nil)))))
abbrev s_Code___init__ : Stmt := inClass (topS 29) 0
abbrev N_Code___init__ : List Str := ["self", "p", "n", "rows", "table", "_"]
theorem sc_Code___init__ : FnScope N_Code___init__ ["self", "p", "n", "rows"] (defScope s_Code___init__) := ⟨rfl, rfl, rfl, by decide +kernel, rfl, by decide +kernel, by decide +kernel⟩
noncomputable def m_Code___init__ (CC CM CR : Addr) : Ms → O := (seqS (dropS (funE 3 (aCons (varE 1) (aCons (varE 2) (aCons (varE 3) aNil))) (Fchk CM CR)))
  (seqS (asgT (Tk.tp [4, 5]) (funE 3 (aCons (varE 3) (aCons (varE 2) (aCons (varE 1) aNil))) Freduced))
  (seqS (ifS (tst (op2 (funE 2 (aCons (varE 1) (aCons (calE (aCons (varE 4) aNil) lenO) aNil)) Fpow) (cE (.int 4096)) gtO)) (raiseS ⟨CR, ["reason"], [.str "large"]⟩) nilS)
  (seqS (fldS CC "p" 0 (varE 1))
  (seqS (fldS CC "n" 0 (varE 2))
  (seqS (fldS CC "rows" 0 (varE 4))
  (seqS (fldS CC "k" 0 (calE (aCons (varE 4) aNil) lenO))
  (fldS CC "_checks" 0 (funE 3 (aCons (varE 4) (aCons (varE 2) (aCons (varE 1) aNil))) Fkernel)))))))))
theorem ok_Code___init__ {f : Addr} {fd : FuncData} (F : Fun K "__init__" "Code.__init__" s_Code___init__ f fd) {CC CM CR : Addr} {tkW : Tok} (h__MOST_WORDS : mg "_MOST_WORDS" = some (.int 4096 tkW)) (h_len : mg "len" = none) (R_Refused : RaS P w K mg base "Refused" CR "reason") (cl_Code : Cls K CC) (na_Code__checks : NoAttr K CC "_checks") (na_Code_k : NoAttr K CC "k") (na_Code_n : NoAttr K CC "n") (na_Code_p : NoAttr K CC "p") (na_Code_rows : NoAttr K CC "rows") (c_kernel : Cal P w K mg base "kernel" 4 ["rows", "width", "p"] (spD K 3 Fkernel)) (c_power : Cal P w K mg base "power" 1 ["a", "k"] (spD K 2 Fpow)) (c_reduced : Cal P w K mg base "reduced" 3 ["rows", "width", "p"] (spD K 3 Freduced)) (c_check_rows : Cal P w K mg base "check_rows" 3 ["p", "n", "rows"] (spD K 3 (Fchk CM CR))) : FnOk P w K mg base (L2.CX P w) 5 f fd ["self", "p", "n", "rows"] (spI K CC 3 (runI CC 6 (m_Code___init__ CC CM CR))) :=
  defOkI F sc_Code___init__ fun cdv A outer s H E hr => by
    have nd : N_Code___init__.Nodup := sc_Code___init__.nd
    have tk : Takes (cxOf (L2.CX P w) P w K mg base N_Code___init__ "Code.__init__" (defScope s_Code___init__) f cdv A outer s H E) (fun cls d _ H' => E cls d H') := takes_of rfl rfl rfl rfl
    have po : PassesOwn (model P w) (cxOf (L2.CX P w) P w K mg base N_Code___init__ "Code.__init__" (defScope s_Code___init__) f cdv A outer s H E).A (cxOf (L2.CX P w) P w K mg base N_Code___init__ "Code.__init__" (defScope s_Code___init__) f cdv A outer s H E).env (cxOf (L2.CX P w) P w K mg base N_Code___init__ "Code.__init__" (defScope s_Code___init__) f cdv A outer s H E).xe := passes_of rfl
    have hu64 := hr.units
    have hu65 := hu65_of hr
    have hu0 := hr.units0
    have hu1 := hu_of hr
    exact (dss_cons (ds_drop (de_cal c_check_rows tk hr (by decide) (by rfl) (da_cons (de_var (pv 1)) (da_cons (de_var (pv 2)) (da_cons (de_var (pv 3)) da_nil)))))
      (dss_cons (ds_tgt (de_cal c_reduced tk hr (by decide) (by rfl) (da_cons (de_var (pv 3)) (da_cons (de_var (pv 2)) (da_cons (de_var (pv 1)) da_nil)))) (dg_tup (by rfl) (dgs_cons (pg_name (i := 4) nd (by rfl) (by first | exact Or.inl rfl | exact Or.inr rfl)) (dgs_cons (pg_name (i := 5) nd (by rfl) (by first | exact Or.inl rfl | exact Or.inr rfl)) dgs_nil))))
      (dss_cons (ds_if (dt_gt (de_cal c_power tk hr (by decide) (by rfl) (da_cons (de_var (pv 1)) (da_cons (de_len (by rfl) h_len (de_var (pv 4))) da_nil))) (de_gint (by rfl) h__MOST_WORDS)) (dss_one (ds_raiseS R_Refused (by rfl) tk (hr.mono (by decide)) (by rfl) (by decide +kernel))) dss_nil)
      (dss_cons (ds_fldS cl_Code na_Code_p (pv 0) (de_var (pv 1)))
      (dss_cons (ds_fldS cl_Code na_Code_n (pv 0) (de_var (pv 2)))
      (dss_cons (ds_fldS cl_Code na_Code_rows (pv 0) (de_var (pv 4)))
      (dss_cons (ds_fldS cl_Code na_Code_k (pv 0) (de_len (by rfl) h_len (de_var (pv 4))))
      (dss_one (ds_fldS cl_Code na_Code__checks (pv 0) (de_cal c_kernel tk hr (by decide) (by rfl) (da_cons (de_var (pv 4)) (da_cons (de_var (pv 2)) (da_cons (de_var (pv 1)) da_nil)))))))))))))
abbrev s_Code___eq__ : Stmt := inClass (topS 29) 1
abbrev N_Code___eq__ : List Str := ["self", "other"]
theorem sc_Code___eq__ : FnScope N_Code___eq__ ["self", "other"] (defScope s_Code___eq__) := ⟨rfl, rfl, rfl, by decide +kernel, rfl, by decide +kernel, by decide +kernel⟩
noncomputable def m_Code___eq__ (CC : Addr) : Ms → O := (retS (andV (op1 (varE 1) (isCN CC ["NoneType", "str"])) (andV (op2 (fldE CC "p" (varE 0)) (fldE CC "p" (varE 1)) eqO) (andV (op2 (fldE CC "n" (varE 0)) (fldE CC "n" (varE 1)) eqO) (op2 (fldE CC "rows" (varE 0)) (fldE CC "rows" (varE 1)) eqO)))))
theorem ok_Code___eq__ {f : Addr} {fd : FuncData} (F : Fun K "__eq__" "Code.__eq__" s_Code___eq__ f fd) {CC : Addr} (h_isinstance : mg "isinstance" = none) (cl_Code : Cls K CC) (na_Code_n : NoAttr K CC "n") (na_Code_p : NoAttr K CC "p") (na_Code_rows : NoAttr K CC "rows") (ic_Code : IsC K CC) (gm_Code : mg "Code" = some (.ref CC)) (nt_Code_NoneType : NotT K CC "NoneType") (nt_Code_str : NotT K CC "str") : FnOk P w K mg base (L2.CX P w) 1 f fd ["self", "other"] (spD K 2 (runD 2 (m_Code___eq__ CC))) :=
  defOk F sc_Code___eq__ fun cdv A outer s H E hr => by
    have nd : N_Code___eq__.Nodup := sc_Code___eq__.nd
    have tk : Takes (cxOf (L2.CX P w) P w K mg base N_Code___eq__ "Code.__eq__" (defScope s_Code___eq__) f cdv A outer s H E) (fun cls d _ H' => E cls d H') := takes_of rfl rfl rfl rfl
    have po : PassesOwn (model P w) (cxOf (L2.CX P w) P w K mg base N_Code___eq__ "Code.__eq__" (defScope s_Code___eq__) f cdv A outer s H E).A (cxOf (L2.CX P w) P w K mg base N_Code___eq__ "Code.__eq__" (defScope s_Code___eq__) f cdv A outer s H E).env (cxOf (L2.CX P w) P w K mg base N_Code___eq__ "Code.__eq__" (defScope s_Code___eq__) f cdv A outer s H E).xe := passes_of rfl
    have hu64 := hr.units
    have hu65 := hu65_of hr
    have hu0 := hr.units0
    have hu1 := hu_of hr
    exact (dss_one (ds_ret (de_and (de_isCN (Ts := ["NoneType", "str"]) (forall_mem_cons' nt_Code_NoneType (forall_mem_cons' nt_Code_str (fun T hT => absurd hT List.not_mem_nil))) ic_Code (by rfl) h_isinstance (by rfl) gm_Code (de_var (pv 1))) (de_and (de_eq hu64 (de_fld cl_Code na_Code_p (de_var (pv 0))) (de_fld cl_Code na_Code_p (de_var (pv 1)))) (de_and (de_eq hu64 (de_fld cl_Code na_Code_n (de_var (pv 0))) (de_fld cl_Code na_Code_n (de_var (pv 1)))) (de_one (de_eq hu64 (de_fld cl_Code na_Code_rows (de_var (pv 0))) (de_fld cl_Code na_Code_rows (de_var (pv 1))))))))))
abbrev s__written_rows : Stmt := topS 30
abbrev N__written_rows : List Str := ["rows", "row"]
theorem sc__written_rows : FnScope N__written_rows ["rows"] (defScope s__written_rows) := ⟨rfl, rfl, rfl, by decide +kernel, rfl, by decide +kernel, by decide +kernel⟩
noncomputable def m__written_rows : Ms → O := (retS (op1 (frz (lcE (itS (varE 0)) (Tk.nm 1).k yesT (jsE [(cE (.str " ")), (fmtE (funE 1 (aCons (varE 1) aNil) Fwritten))]) [1])) (joinO (.str ""))))
theorem ok__written_rows {f : Addr} {fd : FuncData} (F : Fun K "_written_rows" "_written_rows" s__written_rows f fd) (c_written : Cal P w K mg base "written" 1 ["word"] (spD K 1 Fwritten)) : FnOk P w K mg base (L2.CX P w) 2 f fd ["rows"] (spD K 1 (runD 2 m__written_rows)) :=
  defOk F sc__written_rows fun cdv A outer s H E hr => by
    have nd : N__written_rows.Nodup := sc__written_rows.nd
    have tk : Takes (cxOf (L2.CX P w) P w K mg base N__written_rows "_written_rows" (defScope s__written_rows) f cdv A outer s H E) (fun cls d _ H' => E cls d H') := takes_of rfl rfl rfl rfl
    have po : PassesOwn (model P w) (cxOf (L2.CX P w) P w K mg base N__written_rows "_written_rows" (defScope s__written_rows) f cdv A outer s H E).A (cxOf (L2.CX P w) P w K mg base N__written_rows "_written_rows" (defScope s__written_rows) f cdv A outer s H E).env (cxOf (L2.CX P w) P w K mg base N__written_rows "_written_rows" (defScope s__written_rows) f cdv A outer s H E).xe := passes_of rfl
    have hu64 := hr.units
    have hu65 := hu65_of hr
    have hu0 := hr.units0
    have hu1 := hu_of hr
    exact (dss_one (ds_ret (de_join pe_str (de_frz (dn_lc (by rfl) nd (di_seq (de_var (pv 0))) (blkOk_by (own := [("row", 1)]) (N := N__written_rows) (sc := defScope s__written_rows) (by decide +kernel)) (by decide) (fun _ _ _ _ _ => (dg_name (pg_name (i := 1) nd (by rfl) (by first | exact Or.inl rfl | exact Or.inr rfl)))) (fun _ _ _ _ _ => dts_nil) (fun _ _ _ _ _ => (de_js (DJ.cons de_str (DJ.cons (de_fmt (de_cal c_written takes0 hr (by decide) (by rfl) (da_cons (de_var (pv 1)) da_nil))) DJ.nil)))))))))
abbrev s_Code___str__ : Stmt := inClass (topS 29) 2
abbrev N_Code___str__ : List Str := ["self"]
theorem sc_Code___str__ : FnScope N_Code___str__ ["self"] (defScope s_Code___str__) := ⟨rfl, rfl, rfl, by decide +kernel, rfl, by decide +kernel, by decide +kernel⟩
noncomputable def m_Code___str__ (CC : Addr) : Ms → O := (retS (jsE [(fmtE (fldE CC "p" (varE 0))), (cE (.str " ")), (fmtE (fldE CC "n" (varE 0))), (cE (.str ":")), (fmtE (funE 1 (aCons (fldE CC "rows" (varE 0)) aNil) Fwrows))]))
theorem ok_Code___str__ {f : Addr} {fd : FuncData} (F : Fun K "__str__" "Code.__str__" s_Code___str__ f fd) {CC : Addr} (cl_Code : Cls K CC) (na_Code_n : NoAttr K CC "n") (na_Code_p : NoAttr K CC "p") (na_Code_rows : NoAttr K CC "rows") (c__written_rows : Cal P w K mg base "_written_rows" 2 ["rows"] (spD K 1 Fwrows)) : FnOk P w K mg base (L2.CX P w) 3 f fd ["self"] (spD K 1 (runD 1 (m_Code___str__ CC))) :=
  defOk F sc_Code___str__ fun cdv A outer s H E hr => by
    have nd : N_Code___str__.Nodup := sc_Code___str__.nd
    have tk : Takes (cxOf (L2.CX P w) P w K mg base N_Code___str__ "Code.__str__" (defScope s_Code___str__) f cdv A outer s H E) (fun cls d _ H' => E cls d H') := takes_of rfl rfl rfl rfl
    have po : PassesOwn (model P w) (cxOf (L2.CX P w) P w K mg base N_Code___str__ "Code.__str__" (defScope s_Code___str__) f cdv A outer s H E).A (cxOf (L2.CX P w) P w K mg base N_Code___str__ "Code.__str__" (defScope s_Code___str__) f cdv A outer s H E).env (cxOf (L2.CX P w) P w K mg base N_Code___str__ "Code.__str__" (defScope s_Code___str__) f cdv A outer s H E).xe := passes_of rfl
    have hu64 := hr.units
    have hu65 := hu65_of hr
    have hu0 := hr.units0
    have hu1 := hu_of hr
    exact (dss_one (ds_ret (de_js (DJ.cons (de_fmt (de_fld cl_Code na_Code_p (de_var (pv 0)))) (DJ.cons de_str (DJ.cons (de_fmt (de_fld cl_Code na_Code_n (de_var (pv 0)))) (DJ.cons de_str (DJ.cons (de_fmt (de_cal c__written_rows tk hr (by decide) (by rfl) (da_cons (de_fld cl_Code na_Code_rows (de_var (pv 0))) da_nil))) DJ.nil))))))))
abbrev s_Code_size : Stmt := inClass (topS 29) 3
abbrev N_Code_size : List Str := ["self"]
theorem sc_Code_size : FnScope N_Code_size ["self"] (defScope s_Code_size) := ⟨rfl, rfl, rfl, by decide +kernel, rfl, by decide +kernel, by decide +kernel⟩
noncomputable def m_Code_size (CC : Addr) : Ms → O := (retS (funE 2 (aCons (fldE CC "p" (varE 0)) (aCons (fldE CC "k" (varE 0)) aNil)) Fpow))
theorem ok_Code_size {f : Addr} {fd : FuncData} (F : Fun K "size" "Code.size" s_Code_size f fd) {CC : Addr} (cl_Code : Cls K CC) (na_Code_k : NoAttr K CC "k") (na_Code_p : NoAttr K CC "p") (c_power : Cal P w K mg base "power" 1 ["a", "k"] (spD K 2 Fpow)) : FnOk P w K mg base (L2.CX P w) 2 f fd ["self"] (spD K 1 (runD 1 (m_Code_size CC))) :=
  defOk F sc_Code_size fun cdv A outer s H E hr => by
    have nd : N_Code_size.Nodup := sc_Code_size.nd
    have tk : Takes (cxOf (L2.CX P w) P w K mg base N_Code_size "Code.size" (defScope s_Code_size) f cdv A outer s H E) (fun cls d _ H' => E cls d H') := takes_of rfl rfl rfl rfl
    have po : PassesOwn (model P w) (cxOf (L2.CX P w) P w K mg base N_Code_size "Code.size" (defScope s_Code_size) f cdv A outer s H E).A (cxOf (L2.CX P w) P w K mg base N_Code_size "Code.size" (defScope s_Code_size) f cdv A outer s H E).env (cxOf (L2.CX P w) P w K mg base N_Code_size "Code.size" (defScope s_Code_size) f cdv A outer s H E).xe := passes_of rfl
    have hu64 := hr.units
    have hu65 := hu65_of hr
    have hu0 := hr.units0
    have hu1 := hu_of hr
    exact (dss_one (ds_ret (de_cal c_power tk hr (by decide) (by rfl) (da_cons (de_fld cl_Code na_Code_p (de_var (pv 0))) (da_cons (de_fld cl_Code na_Code_k (de_var (pv 0))) da_nil)))))
abbrev s_Code_syndrome : Stmt := inClass (topS 29) 8
abbrev N_Code_syndrome : List Str := ["self", "word", "check"]
theorem sc_Code_syndrome : FnScope N_Code_syndrome ["self", "word"] (defScope s_Code_syndrome) := ⟨rfl, rfl, rfl, by decide +kernel, rfl, by decide +kernel, by decide +kernel⟩
noncomputable def m_Code_syndrome (CC CM : Addr) : Ms → O := (seqS (ifS (notT (truT (funE 3 (aCons (varE 1) (aCons (fldE CC "p" (varE 0)) (aCons (fldE CC "n" (varE 0)) aNil))) Fisword))) (raiseS ⟨CM, [], []⟩) nilS)
  (retS (calE (aCons (frz (lcE (itS (fldE CC "_checks" (varE 0))) (Tk.nm 2).k yesT (funE 3 (aCons (varE 2) (aCons (varE 1) (aCons (fldE CC "p" (varE 0)) aNil))) Fdot) [2])) aNil) tupO)))
theorem ok_Code_syndrome {f : Addr} {fd : FuncData} (F : Fun K "syndrome" "Code.syndrome" s_Code_syndrome f fd) {CC CM : Addr} (h_tuple : mg "tuple" = none) (R_Malformed : RaN P w K mg base "Malformed" CM) (cl_Code : Cls K CC) (na_Code__checks : NoAttr K CC "_checks") (na_Code_n : NoAttr K CC "n") (na_Code_p : NoAttr K CC "p") (c_dot : Cal P w K mg base "dot" 1 ["v", "w", "p"] (spD K 3 Fdot)) (c_is_word : Cal P w K mg base "is_word" 2 ["value", "p", "n"] (spD K 3 Fisword)) : FnOk P w K mg base (L2.CX P w) 3 f fd ["self", "word"] (spD K 2 (runD 3 (m_Code_syndrome CC CM))) :=
  defOk F sc_Code_syndrome fun cdv A outer s H E hr => by
    have nd : N_Code_syndrome.Nodup := sc_Code_syndrome.nd
    have tk : Takes (cxOf (L2.CX P w) P w K mg base N_Code_syndrome "Code.syndrome" (defScope s_Code_syndrome) f cdv A outer s H E) (fun cls d _ H' => E cls d H') := takes_of rfl rfl rfl rfl
    have po : PassesOwn (model P w) (cxOf (L2.CX P w) P w K mg base N_Code_syndrome "Code.syndrome" (defScope s_Code_syndrome) f cdv A outer s H E).A (cxOf (L2.CX P w) P w K mg base N_Code_syndrome "Code.syndrome" (defScope s_Code_syndrome) f cdv A outer s H E).env (cxOf (L2.CX P w) P w K mg base N_Code_syndrome "Code.syndrome" (defScope s_Code_syndrome) f cdv A outer s H E).xe := passes_of rfl
    have hu64 := hr.units
    have hu65 := hu65_of hr
    have hu0 := hr.units0
    have hu1 := hu_of hr
    exact (dss_cons (ds_if (dt_not (dt_tru (de_cal c_is_word tk hr (by decide) (by rfl) (da_cons (de_var (pv 1)) (da_cons (de_fld cl_Code na_Code_p (de_var (pv 0))) (da_cons (de_fld cl_Code na_Code_n (de_var (pv 0))) da_nil)))))) (dss_one (ds_raiseN R_Malformed (by rfl) tk (hr.mono (by decide)) (by rfl))) dss_nil)
      (dss_one (ds_ret (de_tupc (by rfl) h_tuple (de_frz (dn_lc (by rfl) nd (di_seq (de_fld cl_Code na_Code__checks (de_var (pv 0)))) (blkOk_by (own := [("check", 2)]) (N := N_Code_syndrome) (sc := defScope s_Code_syndrome) (by decide +kernel)) (by decide) (fun _ _ _ _ _ => (dg_name (pg_name (i := 2) nd (by rfl) (by first | exact Or.inl rfl | exact Or.inr rfl)))) (fun _ _ _ _ _ => dts_nil) (fun _ _ _ _ _ => (de_cal c_dot takes0 hr (by decide) (by rfl) (da_cons (de_var (pv 2)) (da_cons (de_var (pv 1)) (da_cons (de_fld cl_Code na_Code_p (de_var (pv 0))) da_nil)))))))))))
abbrev s_Code_holds : Stmt := inClass (topS 29) 4
abbrev N_Code_holds : List Str := ["self", "value"]
theorem sc_Code_holds : FnScope N_Code_holds ["self", "value"] (defScope s_Code_holds) := ⟨rfl, rfl, rfl, by decide +kernel, rfl, by decide +kernel, by decide +kernel⟩
noncomputable def m_Code_holds (CC CM : Addr) : Ms → O := (retS (andV (funE 3 (aCons (varE 1) (aCons (fldE CC "p" (varE 0)) (aCons (fldE CC "n" (varE 0)) aNil))) Fisword) (op1 (calE (aCons (metE CC "syndrome" 2 (varE 0) (aCons (varE 1) aNil) (Fsynd CC CM)) aNil) anyT) notO)))
theorem ok_Code_holds {f : Addr} {fd : FuncData} (F : Fun K "holds" "Code.holds" s_Code_holds f fd) {CC CM : Addr} (h_any : mg "any" = none) (cl_Code : Cls K CC) (na_Code_n : NoAttr K CC "n") (na_Code_p : NoAttr K CC "p") (cm_Code_syndrome : CalM P w K mg base CC "syndrome" 3 ["self", "word"] (spD K 2 (Fsynd CC CM))) (c_is_word : Cal P w K mg base "is_word" 2 ["value", "p", "n"] (spD K 3 Fisword)) : FnOk P w K mg base (L2.CX P w) 4 f fd ["self", "value"] (spD K 2 (runD 2 (m_Code_holds CC CM))) :=
  defOk F sc_Code_holds fun cdv A outer s H E hr => by
    have nd : N_Code_holds.Nodup := sc_Code_holds.nd
    have tk : Takes (cxOf (L2.CX P w) P w K mg base N_Code_holds "Code.holds" (defScope s_Code_holds) f cdv A outer s H E) (fun cls d _ H' => E cls d H') := takes_of rfl rfl rfl rfl
    have po : PassesOwn (model P w) (cxOf (L2.CX P w) P w K mg base N_Code_holds "Code.holds" (defScope s_Code_holds) f cdv A outer s H E).A (cxOf (L2.CX P w) P w K mg base N_Code_holds "Code.holds" (defScope s_Code_holds) f cdv A outer s H E).env (cxOf (L2.CX P w) P w K mg base N_Code_holds "Code.holds" (defScope s_Code_holds) f cdv A outer s H E).xe := passes_of rfl
    have hu64 := hr.units
    have hu65 := hu65_of hr
    have hu0 := hr.units0
    have hu1 := hu_of hr
    exact (dss_one (ds_ret (de_and (de_cal c_is_word tk hr (by decide) (by rfl) (da_cons (de_var (pv 1)) (da_cons (de_fld cl_Code na_Code_p (de_var (pv 0))) (da_cons (de_fld cl_Code na_Code_n (de_var (pv 0))) da_nil)))) (de_one (de_not (de_anyT (by rfl) (by rfl) h_any (de_met cm_Code_syndrome tk hr (by decide) (de_var (pv 0)) (da_cons (de_var (pv 1)) da_nil))))))))
abbrev s_Code_words : Stmt := inClass (topS 29) 5
abbrev N_Code_words : List Str := ["self", "found", "row", "multiples", "a", "word", "multiple"]
theorem sc_Code_words : L2.GScope N_Code_words ["self"] (defScope s_Code_words) := ⟨rfl, rfl, rfl, by decide +kernel, rfl, by decide +kernel, by decide +kernel⟩
noncomputable def m_Code_words (CC : Addr) : Ms → O := (seqS (asgN 1 (lstE (aCons (op2 (tupE (aCons (cE (.int 0)) aNil)) (fldE CC "n" (varE 0)) repT) aNil)))
  (forS (itS (fldE CC "rows" (varE 0))) (Tk.nm 2).k (seqS (asgS 3 (frz (lcE (itR1 (aCons (fldE CC "p" (varE 0)) aNil)) (Tk.nm 4).k yesT (funE 3 (aCons (varE 2) (aCons (varE 4) (aCons (fldE CC "p" (varE 0)) aNil))) FscW) [4])))
  (asgN 1 (lcE2 (itS (varE 1)) (Tk.nm 5).k yesT (itS (varE 3)) (Tk.nm 6).k yesT (funE 3 (aCons (varE 5) (aCons (varE 6) (aCons (fldE CC "p" (varE 0)) aNil))) FaddW) [5, 6] [6])))))
theorem ok_Code_words {f : Addr} {fd : FuncData} (F : Fun K "words" "Code.words" s_Code_words f fd) {CC : Addr} (h_range : mg "range" = none) (cl_Code : Cls K CC) (na_Code_n : NoAttr K CC "n") (na_Code_p : NoAttr K CC "p") (na_Code_rows : NoAttr K CC "rows") (c_add : Cal P w K mg base "add" 1 ["v", "w", "p"] (spD K 3 FaddW)) (c_scaled : Cal P w K mg base "scaled" 1 ["v", "a", "p"] (spD K 3 FscW)) : GFnY P w K mg base 2 f fd ["self"] (spG K 1 (runN 7 (seqN (m_Code_words CC) (retNV 1)))) :=
  defOkY F sc_Code_words (ss := (defBody s_Code_words).take 2) (by rfl) (by intros; rfl) fun cdv A outer s H pn hr => by
    have nd : N_Code_words.Nodup := sc_Code_words.nd
    have tk : Takes (L2.gcxOf P w K mg base N_Code_words "Code.words" (defScope s_Code_words) f cdv A outer s H noX pn) (fun cls d _ H' => noX cls d H') := L2.takes_gcx
    have po : PassesOwn (model P w) (L2.gcxOf P w K mg base N_Code_words "Code.words" (defScope s_Code_words) f cdv A outer s H noX pn).A (L2.gcxOf P w K mg base N_Code_words "Code.words" (defScope s_Code_words) f cdv A outer s H noX pn).env (L2.gcxOf P w K mg base N_Code_words "Code.words" (defScope s_Code_words) f cdv A outer s H noX pn).xe := L2.owns_gcx
    have hu64 := hr.units
    have hu65 := hu65_of hr
    have hu0 := hr.units0
    have hu1 := hu_of hr
    exact ⟨(dss_cons (ds_setN (i := 1) nd (by rfl) (by first | exact Or.inl rfl | exact Or.inr rfl) (dn_lst (da_cons (de_repT (de_tup (da_cons de_int da_nil)) (de_fld cl_Code na_Code_n (de_var (pv 0)))) da_nil)))
      (dss_one (ds_for po (by rfl) (di_seq (de_fld cl_Code na_Code_rows (de_var (pv 0)))) (dg_name (pg_name (i := 2) nd (by rfl) (by first | exact Or.inl rfl | exact Or.inr rfl))) (dss_cons (ds_set (i := 3) nd (by rfl) (by first | exact Or.inl rfl | exact Or.inr rfl) (de_frz (dn_lc (by rfl) nd (di_range1 (by rfl) h_range (da_cons (de_fld cl_Code na_Code_p (de_var (pv 0))) da_nil)) (blkOk_by (own := [("a", 4)]) (N := N_Code_words) (sc := defScope s_Code_words) (by decide +kernel)) (by decide) (fun _ _ _ _ _ => (dg_name (pg_name (i := 4) nd (by rfl) (by first | exact Or.inl rfl | exact Or.inr rfl)))) (fun _ _ _ _ _ => dts_nil) (fun _ _ _ _ _ => (de_cal c_scaled takes0 hr (by decide) (by rfl) (da_cons (de_var (pv 2)) (da_cons (de_var (pv 4)) (da_cons (de_fld cl_Code na_Code_p (de_var (pv 0))) da_nil))))))))
      (dss_one (ds_lc2N (i := 1) (by rfl) nd (by rfl) (by rfl) (sw_true (by rfl) (by rfl) (by rfl) (by decide +kernel)) (di_seq (de_var (pv 1))) (blkOk_by (own := [("word", 5), ("multiple", 6)]) (N := N_Code_words) (sc := defScope s_Code_words) (by decide +kernel)) (by decide) (vs1 := [6]) (by decide) (by decide) (fun _ _ _ _ _ => (dg_name (pg_name (i := 5) nd (by rfl) (by first | exact Or.inl rfl | exact Or.inr rfl)))) (fun _ _ _ _ _ => dts_nil) (fun _ _ _ _ _ => (di_seq (de_var (pv 3)))) (fun _ _ _ _ _ => (dg_name (pg_name (i := 6) nd (by rfl) (by first | exact Or.inl rfl | exact Or.inr rfl)))) (fun _ _ _ _ _ => dts_nil) (fun _ _ _ _ _ => (de_cal c_add takes0 hr (by decide) (by rfl) (da_cons (de_var (pv 5)) (da_cons (de_var (pv 6)) (da_cons (de_fld cl_Code na_Code_p (de_var (pv 0))) da_nil))))))))))), pv 1⟩
abbrev s__spanned : Stmt := topS 32
abbrev N__spanned : List Str := ["text", "rows", "head", "_", "tail", "p", "n", "part", "prime", "k"]
theorem sc__spanned : FnScope N__spanned ["text"] (defScope s__spanned) := ⟨rfl, rfl, rfl, by decide +kernel, rfl, by decide +kernel, by decide +kernel⟩
noncomputable def m__spanned (CC CM CR CT : Addr) : Ms → O := (seqS (asgT (Tk.tp [2, 3, 4]) (parE (varE 0) (cE (.str ":"))))
  (seqS (asgT (Tk.tp [5, 3, 6]) (parE (varE 2) (cE (.str " "))))
  (seqS (ifS (orT (tst (op2 (varE 5) (frz (lcE (itS (cE (.scr true [.int 2, .int 3, .int 5, .int 7]))) (Tk.nm 8).k yesT (calE (aCons (varE 8) aNil) strO) [8])) (inD true))) (tst (op2 (varE 6) (frz (lcE (itR1 (aCons (op2 (cE (.int 12)) (cE (.int 1)) addO) aNil)) (Tk.nm 9).k yesT (calE (aCons (varE 9) aNil) strO) [9])) (inD true)))) (raiseS ⟨CT, ["at"], [.int 0]⟩) nilS)
  (seqS (asgS 1 (frz (lcE (itS (frz (splN (varE 4) (cE (.str " "))))) (Tk.nm 7).k (tst (op2 (varE 7) (cE (.str "")) neO)) (funE 2 (aCons (varE 7) (aCons (calE (aCons (varE 5) aNil) intSO) aNil)) (Fread CT)) [7])))
  (retS (makE CC 3 (aCons (calE (aCons (varE 5) aNil) intSO) (aCons (calE (aCons (varE 6) aNil) intSO) (aCons (varE 1) aNil))) (Finit CC CM CR)))))))
theorem ok__spanned {f : Addr} {fd : FuncData} (F : Fun K "_spanned" "_spanned" s__spanned f fd) {CC CM CR CT : Addr} {tkL : Tok} (h__LONGEST : mg "_LONGEST" = some (.int 12 tkL)) (k__PRIMES : KTup K mg "_PRIMES" [.int 2, .int 3, .int 5, .int 7]) (h_int : mg "int" = none) (h_range : mg "range" = none) (h_str : mg "str" = none) (R_NoText : RaI P w K mg base "NoText" CT "at") (ci_Code : CalI P w K mg base "Code" CC 5 ["self", "p", "n", "rows"] 3 (Finit CC CM CR)) (c_read_word : Cal P w K mg base "read_word" 3 ["text", "p"] (spD K 2 (Fread CT))) : FnOk P w K mg base (L2.CX P w) 7 f fd ["text"] (spD K 1 (runD 10 (m__spanned CC CM CR CT))) :=
  defOk F sc__spanned fun cdv A outer s H E hr => by
    have nd : N__spanned.Nodup := sc__spanned.nd
    have tk : Takes (cxOf (L2.CX P w) P w K mg base N__spanned "_spanned" (defScope s__spanned) f cdv A outer s H E) (fun cls d _ H' => E cls d H') := takes_of rfl rfl rfl rfl
    have po : PassesOwn (model P w) (cxOf (L2.CX P w) P w K mg base N__spanned "_spanned" (defScope s__spanned) f cdv A outer s H E).A (cxOf (L2.CX P w) P w K mg base N__spanned "_spanned" (defScope s__spanned) f cdv A outer s H E).env (cxOf (L2.CX P w) P w K mg base N__spanned "_spanned" (defScope s__spanned) f cdv A outer s H E).xe := passes_of rfl
    have hu64 := hr.units
    have hu65 := hu65_of hr
    have hu0 := hr.units0
    have hu1 := hu_of hr
    exact (dss_cons (ds_tgt (de_par (de_var (pv 0)) de_str) (dg_tup (by rfl) (dgs_cons (pg_name (i := 2) nd (by rfl) (by first | exact Or.inl rfl | exact Or.inr rfl)) (dgs_cons (pg_name (i := 3) nd (by rfl) (by first | exact Or.inl rfl | exact Or.inr rfl)) (dgs_cons (pg_name (i := 4) nd (by rfl) (by first | exact Or.inl rfl | exact Or.inr rfl)) dgs_nil)))))
      (dss_cons (ds_tgt (de_par (de_var (pv 2)) de_str) (dg_tup (by rfl) (dgs_cons (pg_name (i := 5) nd (by rfl) (by first | exact Or.inl rfl | exact Or.inr rfl)) (dgs_cons (pg_name (i := 3) nd (by rfl) (by first | exact Or.inl rfl | exact Or.inr rfl)) (dgs_cons (pg_name (i := 6) nd (by rfl) (by first | exact Or.inl rfl | exact Or.inr rfl)) dgs_nil)))))
      (dss_cons (ds_if (PW.pt (dw_or (dt_ninD hu65 (de_var (pv 5)) (de_frz (dn_lc (by rfl) nd (di_seq (de_ktup k__PRIMES (by rfl))) (blkOk_by (own := [("prime", 8)]) (N := N__spanned) (sc := defScope s__spanned) (by decide +kernel)) (by decide) (fun _ _ _ _ _ => (dg_name (pg_name (i := 8) nd (by rfl) (by first | exact Or.inl rfl | exact Or.inr rfl)))) (fun _ _ _ _ _ => dts_nil) (fun _ _ _ _ _ => (de_strc (by rfl) h_str (de_var (pv 8))))))) (dw_or1 (dt_ninD hu65 (de_var (pv 6)) (de_frz (dn_lc (by rfl) nd (di_range1 (by rfl) h_range (da_cons (de_add (de_gint (by rfl) h__LONGEST) de_int) da_nil)) (blkOk_by (own := [("k", 9)]) (N := N__spanned) (sc := defScope s__spanned) (by decide +kernel)) (by decide) (fun _ _ _ _ _ => (dg_name (pg_name (i := 9) nd (by rfl) (by first | exact Or.inl rfl | exact Or.inr rfl)))) (fun _ _ _ _ _ => dts_nil) (fun _ _ _ _ _ => (de_strc (by rfl) h_str (de_var (pv 9)))))))))) (dss_one (ds_raiseI R_NoText (by rfl) tk (hr.mono (by decide)) (by rfl) (by decide))) dss_nil)
      (dss_cons (ds_lc (i := 1) (by rfl) nd (by rfl) (by rfl) (sw_true (by rfl) (by rfl) (by rfl) (by decide +kernel)) (di_seq (de_frz (dn_spl (de_var (pv 4)) de_str))) (blkOk_by (own := [("part", 7)]) (N := N__spanned) (sc := defScope s__spanned) (by decide +kernel)) (by decide) (fun _ _ _ _ _ => (dg_name (pg_name (i := 7) nd (by rfl) (by first | exact Or.inl rfl | exact Or.inr rfl)))) (fun _ _ _ _ _ => (dts_one (dt_ne hu64 (de_var (pv 7)) de_str))) (fun _ _ _ _ _ => (de_cal c_read_word takes0 hr (by decide) (by rfl) (da_cons (de_var (pv 7)) (da_cons (de_intS (by rfl) h_int (de_var (pv 5))) da_nil)))))
      (dss_one (ds_ret (de_make ci_Code tk hr (by decide) (by rfl) (da_cons (de_intS (by rfl) h_int (de_var (pv 5))) (da_cons (de_intS (by rfl) h_int (de_var (pv 6))) (da_cons (de_var (pv 1)) da_nil))))))))))
abbrev s_read_code : Stmt := topS 31
abbrev N_read_code : List Str := ["text", "code"]
theorem sc_read_code : FnScope N_read_code ["text"] (defScope s_read_code) := ⟨rfl, rfl, rfl, by decide +kernel, rfl, by decide +kernel, by decide +kernel⟩
noncomputable def m_read_code (CB CC CM CR CT : Addr) : Ms → O := (seqS (ifS (notT (truT (op1 (varE 0) (isiO "str")))) (raiseS ⟨CT, ["at"], [.int 0]⟩) nilS)
  (seqS (tryX [⟨CB, [CB], [], (.st noS)⟩] (asgS 1 (funE 1 (aCons (varE 0) aNil) (Fspanned CC CM CR CT))))
  (seqS (ifS (tst (op2 (calE (aCons (varE 1) aNil) (strC CC (Fstr07 CC))) (varE 0) neO)) (raiseS ⟨CT, ["at"], [.int 0]⟩) nilS)
  (retS (varE 1)))))
theorem ok_read_code {f : Addr} {fd : FuncData} (F : Fun K "read_code" "read_code" s_read_code f fd) {CB CC CM CR CT : Addr} (h_isinstance : mg "isinstance" = none) (h_str : mg "str" = none) (R_Fault : RaN P w K mg base "Fault" CB) (R_NoText : RaI P w K mg base "NoText" CT "at") (cs_Code : CalS P w K mg base CC 3 ["self"] (Fstr07 CC)) (c__spanned : Cal P w K mg base "_spanned" 7 ["text"] (spD K 1 (Fspanned CC CM CR CT))) : FnOk P w K mg base (L2.CX P w) 8 f fd ["text"] (spD K 1 (runD 2 (m_read_code CB CC CM CR CT))) :=
  defOk F sc_read_code fun cdv A outer s H E hr => by
    have nd : N_read_code.Nodup := sc_read_code.nd
    have tk : Takes (cxOf (L2.CX P w) P w K mg base N_read_code "read_code" (defScope s_read_code) f cdv A outer s H E) (fun cls d _ H' => E cls d H') := takes_of rfl rfl rfl rfl
    have po : PassesOwn (model P w) (cxOf (L2.CX P w) P w K mg base N_read_code "read_code" (defScope s_read_code) f cdv A outer s H E).A (cxOf (L2.CX P w) P w K mg base N_read_code "read_code" (defScope s_read_code) f cdv A outer s H E).env (cxOf (L2.CX P w) P w K mg base N_read_code "read_code" (defScope s_read_code) f cdv A outer s H E).xe := passes_of rfl
    have hu64 := hr.units
    have hu65 := hu65_of hr
    have hu0 := hr.units0
    have hu1 := hu_of hr
    exact (dss_cons (ds_if (dt_not (dt_tru (de_isi (T := "str") (by decide +kernel) (by rfl) h_isinstance (by rfl) h_str (by constructor) (de_var (pv 0))))) (dss_one (ds_raiseI R_NoText (by rfl) tk (hr.mono (by decide)) (by rfl) (by decide))) dss_nil)
      (dss_cons (ds_tryX (cs := [⟨CB, [CB], [], (.st noS)⟩]) (hcs_cons (hcOk R_Fault.e1 noE_nil) hcs_nil) (by rfl) (by rfl) tk (fun W pn xe tk po => (dss_one (ds_set (i := 1) nd (by rfl) (by first | exact Or.inl rfl | exact Or.inr rfl) (de_cal c__spanned tk hr (by decide) (by rfl) (da_cons (de_var (pv 0)) da_nil))))) (hd_st (by rfl) R_Fault.gC (fun _ _ _ => (dss_one ds_never)) HdG.nil))
      (dss_cons (ds_if (dt_ne hu64 (de_strC cs_Code tk hr (by decide) (by rfl) h_str (de_var (pv 1))) (de_var (pv 0))) (dss_one (ds_raiseI R_NoText (by rfl) tk (hr.mono (by decide)) (by rfl) (by decide))) dss_nil)
      (dss_one (ds_ret (de_var (pv 1)))))))
abbrev s__law_state : Stmt := topS 34
abbrev N__law_state : List Str := ["script", "seed", "total", "cell"]
theorem sc__law_state : FnScope N__law_state ["script"] (defScope s__law_state) := ⟨rfl, rfl, rfl, by decide +kernel, rfl, by decide +kernel, by decide +kernel⟩
noncomputable def m__law_state : Ms → ON := (seqN (asgS 1 (cE (.int 0)))
  (seqN (asgS 2 (cE (.int 1)))
  (seqN (forS (itS (frz (slL (varE 0) oNone (oSome (cE (.int 63)))))) (Tk.nm 3).k (seqS (asgS 1 (op2 (op2 (varE 1) (cE (.int 1000003)) mulO) (calE (aCons (varE 3) aNil) absO) addO))
  (asgS 2 (op2 (calE (aCons (op2 (op2 (varE 2) (cE (.int 48271)) mulO) (varE 3) addO) aNil) intO) (cE (.int 2147483647)) modO))))
  (retNL (lstE (aCons (varE 1) (aCons (varE 2) aNil)))))))
theorem ok__law_state {f : Addr} {fd : FuncData} (F : Fun K "_law_state" "_law_state" s__law_state f fd) (h_abs : mg "abs" = none) (h_int : mg "int" = none) : FnOk P w K mg base (L2.CX P w) 1 f fd ["script"] (spN K 1 (runN 4 m__law_state)) :=
  defOkN F sc__law_state fun cdv A outer s H E hr => by
    have nd : N__law_state.Nodup := sc__law_state.nd
    have tk : Takes (cxOf (L2.CX P w) P w K mg base N__law_state "_law_state" (defScope s__law_state) f cdv A outer s H E) (fun cls d _ H' => E cls d H') := takes_of rfl rfl rfl rfl
    have po : PassesOwn (model P w) (cxOf (L2.CX P w) P w K mg base N__law_state "_law_state" (defScope s__law_state) f cdv A outer s H E).A (cxOf (L2.CX P w) P w K mg base N__law_state "_law_state" (defScope s__law_state) f cdv A outer s H E).env (cxOf (L2.CX P w) P w K mg base N__law_state "_law_state" (defScope s__law_state) f cdv A outer s H E).xe := passes_of rfl
    have hu64 := hr.units
    have hu65 := hu65_of hr
    have hu0 := hr.units0
    have hu1 := hu_of hr
    exact (dsN_cons (ds_set (i := 1) nd (by rfl) (by first | exact Or.inl rfl | exact Or.inr rfl) de_int)
      (dsN_cons (ds_set (i := 2) nd (by rfl) (by first | exact Or.inl rfl | exact Or.inr rfl) de_int)
      (dsN_cons (ds_for po (by rfl) (di_seq (de_frz (dn_sliceL (de_var (pv 0)) do_none (do_some de_int)))) (dg_name (pg_name (i := 3) nd (by rfl) (by first | exact Or.inl rfl | exact Or.inr rfl))) (dss_cons (ds_set (i := 1) nd (by rfl) (by first | exact Or.inl rfl | exact Or.inr rfl) (de_add (de_mul (de_var (pv 1)) de_int) (de_abs (by rfl) h_abs (de_var (pv 3)))))
      (dss_one (ds_set (i := 2) nd (by rfl) (by first | exact Or.inl rfl | exact Or.inr rfl) (de_mod (de_intc (by rfl) h_int (de_add (de_mul (de_var (pv 2)) de_int) (de_var (pv 3)))) de_int)))))
      (dsN_retL (dn_lst (da_cons (de_var (pv 1)) (da_cons (de_var (pv 2)) da_nil)))))))
abbrev s__law_take : Stmt := topS 35
abbrev N__law_take : List Str := ["state", "m", "value"]
theorem sc__law_take : FnScope N__law_take ["state", "m"] (defScope s__law_take) := ⟨rfl, rfl, rfl, by decide +kernel, rfl, by decide +kernel, by decide +kernel⟩
noncomputable def m__law_take : Ms → O := (seqS (ifS (tst (op2 (ixV 0 (cE (.int 0))) (cE (.int 0)) gtO)) (seqS (asgS 2 (op2 (calE (aCons (ixV 0 (cE (.int 0))) aNil) intO) (varE 1) modO))
  (seqS (setS 0 (op2 (ixV 0 (cE (.int 0))) (varE 1) divO) (cE (.int 0)))
  (retS (varE 2)))) nilS)
  (seqS (setS 0 (op2 (calE (aCons (op2 (op2 (ixV 0 (cE (.int 1))) (cE (.int 48271)) mulO) (cE (.int 11)) addO) aNil) intO) (cE (.int 2147483647)) modO) (cE (.int 1)))
  (retS (op2 (calE (aCons (op2 (ixV 0 (cE (.int 1))) (cE (.int 7)) divO) aNil) intO) (varE 1) modO))))
theorem ok__law_take {f : Addr} {fd : FuncData} (F : Fun K "_law_take" "_law_take" s__law_take f fd) (h_int : mg "int" = none) : FnOk P w K mg base (L2.CX P w) 1 f fd ["state", "m"] (spM K 1 (runM 3 m__law_take)) :=
  defOkM F sc__law_take fun cdv A outer s H E hr => by
    have nd : N__law_take.Nodup := sc__law_take.nd
    have tk : Takes (cxOf (L2.CX P w) P w K mg base N__law_take "_law_take" (defScope s__law_take) f cdv A outer s H E) (fun cls d _ H' => E cls d H') := takes_of rfl rfl rfl rfl
    have po : PassesOwn (model P w) (cxOf (L2.CX P w) P w K mg base N__law_take "_law_take" (defScope s__law_take) f cdv A outer s H E).A (cxOf (L2.CX P w) P w K mg base N__law_take "_law_take" (defScope s__law_take) f cdv A outer s H E).env (cxOf (L2.CX P w) P w K mg base N__law_take "_law_take" (defScope s__law_take) f cdv A outer s H E).xe := passes_of rfl
    have hu64 := hr.units
    have hu65 := hu65_of hr
    have hu0 := hr.units0
    have hu1 := hu_of hr
    exact (dss_cons (ds_if (dt_gt (de_ixV (pv 0) de_int) de_int) (dss_cons (ds_set (i := 2) nd (by rfl) (by first | exact Or.inl rfl | exact Or.inr rfl) (de_mod (de_intc (by rfl) h_int (de_ixV (pv 0) de_int)) (de_var (pv 1))))
      (dss_cons (ds_setI (pv 0) de_int (de_div (de_ixV (pv 0) de_int) (de_var (pv 1))))
      (dss_one (ds_ret (de_var (pv 2)))))) dss_nil)
      (dss_cons (ds_setI (pv 0) de_int (de_mod (de_intc (by rfl) h_int (de_add (de_mul (de_ixV (pv 0) de_int) de_int) de_int)) de_int))
      (dss_one (ds_ret (de_mod (de_intc (by rfl) h_int (de_div (de_ixV (pv 0) de_int) de_int)) (de_var (pv 1)))))))
abbrev s__law_sum : Stmt := topS 36
abbrev N__law_sum : List Str := ["v", "w", "p", "k"]
theorem sc__law_sum : FnScope N__law_sum ["v", "w", "p"] (defScope s__law_sum) := ⟨rfl, rfl, rfl, by decide +kernel, rfl, by decide +kernel, by decide +kernel⟩
noncomputable def m__law_sum : Ms → O := (retS (calE (aCons (frz (lcE (itR1 (aCons (calE (aCons (varE 0) aNil) lenO) aNil)) (Tk.nm 3).k yesT (op2 (calE (aCons (op2 (op2 (varE 0) (varE 3) ixO) (op2 (varE 1) (varE 3) ixO) addO) aNil) intO) (varE 2) modO) [3])) aNil) tupO))
theorem ok__law_sum {f : Addr} {fd : FuncData} (F : Fun K "_law_sum" "_law_sum" s__law_sum f fd) (h_int : mg "int" = none) (h_len : mg "len" = none) (h_range : mg "range" = none) (h_tuple : mg "tuple" = none) : FnOk P w K mg base (L2.CX P w) 1 f fd ["v", "w", "p"] (spD K 3 (runD 4 m__law_sum)) :=
  defOk F sc__law_sum fun cdv A outer s H E hr => by
    have nd : N__law_sum.Nodup := sc__law_sum.nd
    have tk : Takes (cxOf (L2.CX P w) P w K mg base N__law_sum "_law_sum" (defScope s__law_sum) f cdv A outer s H E) (fun cls d _ H' => E cls d H') := takes_of rfl rfl rfl rfl
    have po : PassesOwn (model P w) (cxOf (L2.CX P w) P w K mg base N__law_sum "_law_sum" (defScope s__law_sum) f cdv A outer s H E).A (cxOf (L2.CX P w) P w K mg base N__law_sum "_law_sum" (defScope s__law_sum) f cdv A outer s H E).env (cxOf (L2.CX P w) P w K mg base N__law_sum "_law_sum" (defScope s__law_sum) f cdv A outer s H E).xe := passes_of rfl
    have hu64 := hr.units
    have hu65 := hu65_of hr
    have hu0 := hr.units0
    have hu1 := hu_of hr
    exact (dss_one (ds_ret (de_tupc (by rfl) h_tuple (de_frz (dn_lc (by rfl) nd (di_range1 (by rfl) h_range (da_cons (de_len (by rfl) h_len (de_var (pv 0))) da_nil)) (blkOk_by (own := [("k", 3)]) (N := N__law_sum) (sc := defScope s__law_sum) (by decide +kernel)) (by decide) (fun _ _ _ _ _ => (dg_name (pg_name (i := 3) nd (by rfl) (by first | exact Or.inl rfl | exact Or.inr rfl)))) (fun _ _ _ _ _ => dts_nil) (fun _ _ _ _ _ => (de_mod (de_intc (by rfl) h_int (de_add (de_sub1 (de_var (pv 0)) (de_var (pv 3))) (de_sub1 (de_var (pv 1)) (de_var (pv 3))))) (de_var (pv 2)))))))))
abbrev s__law_scaled : Stmt := topS 37
abbrev N__law_scaled : List Str := ["v", "a", "p", "x"]
theorem sc__law_scaled : FnScope N__law_scaled ["v", "a", "p"] (defScope s__law_scaled) := ⟨rfl, rfl, rfl, by decide +kernel, rfl, by decide +kernel, by decide +kernel⟩
noncomputable def m__law_scaled : Ms → O := (retS (calE (aCons (frz (lcE (itS (varE 0)) (Tk.nm 3).k yesT (op2 (calE (aCons (op2 (varE 3) (varE 1) mulO) aNil) intO) (varE 2) modO) [3])) aNil) tupO))
theorem ok__law_scaled {f : Addr} {fd : FuncData} (F : Fun K "_law_scaled" "_law_scaled" s__law_scaled f fd) (h_int : mg "int" = none) (h_tuple : mg "tuple" = none) : FnOk P w K mg base (L2.CX P w) 1 f fd ["v", "a", "p"] (spD K 3 (runD 4 m__law_scaled)) :=
  defOk F sc__law_scaled fun cdv A outer s H E hr => by
    have nd : N__law_scaled.Nodup := sc__law_scaled.nd
    have tk : Takes (cxOf (L2.CX P w) P w K mg base N__law_scaled "_law_scaled" (defScope s__law_scaled) f cdv A outer s H E) (fun cls d _ H' => E cls d H') := takes_of rfl rfl rfl rfl
    have po : PassesOwn (model P w) (cxOf (L2.CX P w) P w K mg base N__law_scaled "_law_scaled" (defScope s__law_scaled) f cdv A outer s H E).A (cxOf (L2.CX P w) P w K mg base N__law_scaled "_law_scaled" (defScope s__law_scaled) f cdv A outer s H E).env (cxOf (L2.CX P w) P w K mg base N__law_scaled "_law_scaled" (defScope s__law_scaled) f cdv A outer s H E).xe := passes_of rfl
    have hu64 := hr.units
    have hu65 := hu65_of hr
    have hu0 := hr.units0
    have hu1 := hu_of hr
    exact (dss_one (ds_ret (de_tupc (by rfl) h_tuple (de_frz (dn_lc (by rfl) nd (di_seq (de_var (pv 0))) (blkOk_by (own := [("x", 3)]) (N := N__law_scaled) (sc := defScope s__law_scaled) (by decide +kernel)) (by decide) (fun _ _ _ _ _ => (dg_name (pg_name (i := 3) nd (by rfl) (by first | exact Or.inl rfl | exact Or.inr rfl)))) (fun _ _ _ _ _ => dts_nil) (fun _ _ _ _ _ => (de_mod (de_intc (by rfl) h_int (de_mul (de_var (pv 3)) (de_var (pv 1)))) (de_var (pv 2)))))))))
abbrev s__law_span : Stmt := topS 38
abbrev N__law_span : List Str := ["rows", "n", "p", "found", "row", "wider", "word", "a", "k"]
theorem sc__law_span : FnScope N__law_span ["rows", "n", "p"] (defScope s__law_span) := ⟨rfl, rfl, rfl, by decide +kernel, rfl, by decide +kernel, by decide +kernel⟩
noncomputable def m__law_span : Ms → O := (seqS (asgM 3 (dct1 (calE (aCons (frz (lcE (itR1 (aCons (varE 1) aNil)) (Tk.nm 8).k yesT (cE (.int 0)) [8])) aNil) tupO) (cE (.bl true))))
  (seqS (forS (itS (varE 0)) (Tk.nm 4).k (seqS (asgM 5 dct0)
  (seqS (forS (itS (frz (keysL 3))) (Tk.nm 6).k (forS (itR1 (aCons (varE 2) aNil)) (Tk.nm 7).k (setD 5 (cE (.bl true)) (funE 3 (aCons (varE 6) (aCons (funE 3 (aCons (varE 4) (aCons (varE 7) (aCons (varE 2) aNil))) FscW) (aCons (varE 2) aNil))) FaddW))))
  (moveS 3 5))))
  (retS (frz (calN (aCons (frz (keysL 3)) aNil) sortO)))))
theorem ok__law_span {f : Addr} {fd : FuncData} (F : Fun K "_law_span" "_law_span" s__law_span f fd) (h_list : mg "list" = none) (h_range : mg "range" = none) (h_sorted : mg "sorted" = none) (h_tuple : mg "tuple" = none) (c__law_sum : Cal P w K mg base "_law_sum" 1 ["v", "w", "p"] (spD K 3 FaddW)) (c__law_scaled : Cal P w K mg base "_law_scaled" 1 ["v", "a", "p"] (spD K 3 FscW)) : FnOk P w K mg base (L2.CX P w) 2 f fd ["rows", "n", "p"] (spD K 3 (runD 9 m__law_span)) :=
  defOk F sc__law_span fun cdv A outer s H E hr => by
    have nd : N__law_span.Nodup := sc__law_span.nd
    have tk : Takes (cxOf (L2.CX P w) P w K mg base N__law_span "_law_span" (defScope s__law_span) f cdv A outer s H E) (fun cls d _ H' => E cls d H') := takes_of rfl rfl rfl rfl
    have po : PassesOwn (model P w) (cxOf (L2.CX P w) P w K mg base N__law_span "_law_span" (defScope s__law_span) f cdv A outer s H E).A (cxOf (L2.CX P w) P w K mg base N__law_span "_law_span" (defScope s__law_span) f cdv A outer s H E).env (cxOf (L2.CX P w) P w K mg base N__law_span "_law_span" (defScope s__law_span) f cdv A outer s H E).xe := passes_of rfl
    have hu64 := hr.units
    have hu65 := hu65_of hr
    have hu0 := hr.units0
    have hu1 := hu_of hr
    exact (dss_cons (ds_setM (i := 3) nd (by rfl) (by first | exact Or.inl rfl | exact Or.inr rfl) (dm_one hu0 (de_tupc (by rfl) h_tuple (de_frz (dn_lc (by rfl) nd (di_range1 (by rfl) h_range (da_cons (de_var (pv 1)) da_nil)) (blkOk_by (own := [("k", 8)]) (N := N__law_span) (sc := defScope s__law_span) (by decide +kernel)) (by decide) (fun _ _ _ _ _ => (dg_name (pg_name (i := 8) nd (by rfl) (by first | exact Or.inl rfl | exact Or.inr rfl)))) (fun _ _ _ _ _ => dts_nil) (fun _ _ _ _ _ => de_int)))) de_bl))
      (dss_cons (ds_for po (by rfl) (di_seq (de_var (pv 0))) (dg_name (pg_name (i := 4) nd (by rfl) (by first | exact Or.inl rfl | exact Or.inr rfl))) (dss_cons (ds_setM (i := 5) nd (by rfl) (by first | exact Or.inl rfl | exact Or.inr rfl) dm_new)
      (dss_cons (ds_for po (by rfl) (di_seq (de_frz (dn_keys (by rfl) (by rfl) h_list (pv 3)))) (dg_name (pg_name (i := 6) nd (by rfl) (by first | exact Or.inl rfl | exact Or.inr rfl))) (dss_one (ds_for po (by rfl) (di_range1 (by rfl) h_range (da_cons (de_var (pv 2)) da_nil)) (dg_name (pg_name (i := 7) nd (by rfl) (by first | exact Or.inl rfl | exact Or.inr rfl))) (dss_one (ds_setD hu1 (pv 5) (de_cal c__law_sum tk hr (by decide) (by rfl) (da_cons (de_var (pv 6)) (da_cons (de_cal c__law_scaled tk hr (by decide) (by rfl) (da_cons (de_var (pv 4)) (da_cons (de_var (pv 7)) (da_cons (de_var (pv 2)) da_nil)))) (da_cons (de_var (pv 2)) da_nil)))) de_bl)))))
      (dss_one (ds_mov (i := 3) nd (by rfl) (by first | exact Or.inl rfl | exact Or.inr rfl) (pv 5))))))
      (dss_one (ds_ret (de_frz (dn_sorted hu64 (by rfl) h_sorted (de_frz (dn_lcKeys (j := 6) (by rfl) nd (pv 3) (blkOk_by (own := [("word", 6)]) (N := N__law_span) (sc := defScope s__law_span) (by decide +kernel)) (fun _ _ _ _ _ => pg_name (i := 6) nd (by rfl) (by exact Or.inl rfl)) (fun _ _ _ _ _ => pv 6) (hj := (by decide : 6 < N__law_span.length))))))))))
abbrev s__law_all : Stmt := topS 39
abbrev N__law_all : List Str := ["n", "p", "out", "k", "longer", "word", "a"]
theorem sc__law_all : FnScope N__law_all ["n", "p"] (defScope s__law_all) := ⟨rfl, rfl, rfl, by decide +kernel, rfl, by decide +kernel, by decide +kernel⟩
noncomputable def m__law_all : Ms → O := (seqS (asgS 2 (frz (lstE (aCons (tupE aNil) aNil))))
  (seqS (forS (itR1 (aCons (varE 0) aNil)) (Tk.nm 3).k (seqS (asgS 4 (frz (lstE aNil)))
  (seqS (forS (itS (frz (calN (aCons (varE 2) aNil) lstO))) (Tk.nm 5).k (asgS 4 (frz (opN (varE 4) (frz (lcE (itR1 (aCons (varE 1) aNil)) (Tk.nm 6).k yesT (op2 (varE 5) (tupE (aCons (varE 6) aNil)) catT) [6])) catL))))
  (moveS 2 4))))
  (retS (varE 2))))
theorem ok__law_all {f : Addr} {fd : FuncData} (F : Fun K "_law_all" "_law_all" s__law_all f fd) (h_list : mg "list" = none) (h_range : mg "range" = none) : FnOk P w K mg base (L2.CX P w) 1 f fd ["n", "p"] (spD K 2 (runD 7 m__law_all)) :=
  defOk F sc__law_all fun cdv A outer s H E hr => by
    have nd : N__law_all.Nodup := sc__law_all.nd
    have tk : Takes (cxOf (L2.CX P w) P w K mg base N__law_all "_law_all" (defScope s__law_all) f cdv A outer s H E) (fun cls d _ H' => E cls d H') := takes_of rfl rfl rfl rfl
    have po : PassesOwn (model P w) (cxOf (L2.CX P w) P w K mg base N__law_all "_law_all" (defScope s__law_all) f cdv A outer s H E).A (cxOf (L2.CX P w) P w K mg base N__law_all "_law_all" (defScope s__law_all) f cdv A outer s H E).env (cxOf (L2.CX P w) P w K mg base N__law_all "_law_all" (defScope s__law_all) f cdv A outer s H E).xe := passes_of rfl
    have hu64 := hr.units
    have hu65 := hu65_of hr
    have hu0 := hr.units0
    have hu1 := hu_of hr
    exact (dss_cons (ds_set (i := 2) nd (by rfl) (by first | exact Or.inl rfl | exact Or.inr rfl) (de_frz (dn_lst (da_cons (de_tup da_nil) da_nil))))
      (dss_cons (ds_for po (by rfl) (di_range1 (by rfl) h_range (da_cons (de_var (pv 0)) da_nil)) (dg_name (pg_name (i := 3) nd (by rfl) (by first | exact Or.inl rfl | exact Or.inr rfl))) (dss_cons (ds_set (i := 4) nd (by rfl) (by first | exact Or.inl rfl | exact Or.inr rfl) (de_frz (dn_lst da_nil)))
      (dss_cons (ds_for po (by rfl) (di_seq (de_frz (dn_list (by rfl) h_list (de_var (pv 2))))) (dg_name (pg_name (i := 5) nd (by rfl) (by first | exact Or.inl rfl | exact Or.inr rfl))) (dss_one (ds_set (i := 4) nd (by rfl) (by first | exact Or.inl rfl | exact Or.inr rfl) (de_frz (dn_catL (de_var (pv 4)) (de_frz (dn_lc (by rfl) nd (di_range1 (by rfl) h_range (da_cons (de_var (pv 1)) da_nil)) (blkOk_by (own := [("a", 6)]) (N := N__law_all) (sc := defScope s__law_all) (by decide +kernel)) (by decide) (fun _ _ _ _ _ => (dg_name (pg_name (i := 6) nd (by rfl) (by first | exact Or.inl rfl | exact Or.inr rfl)))) (fun _ _ _ _ _ => dts_nil) (fun _ _ _ _ _ => (de_catT (de_var (pv 5)) (de_tup (da_cons (de_var (pv 6)) da_nil)))))))))))
      (dss_one (ds_mov (i := 2) nd (by rfl) (by first | exact Or.inl rfl | exact Or.inr rfl) (pv 4))))))
      (dss_one (ds_ret (de_var (pv 2))))))
abbrev s__law_word : Stmt := topS 40
abbrev N__law_word : List Str := ["state", "n", "p", "k"]
theorem sc__law_word : FnScope N__law_word ["state", "n", "p"] (defScope s__law_word) := ⟨rfl, rfl, rfl, by decide +kernel, rfl, by decide +kernel, by decide +kernel⟩
noncomputable def m__law_word : Ms → O := (retS (calE (aCons (frz (lcE (itR1 (aCons (varE 1) aNil)) (Tk.nm 3).k yesT (funM 1 0 (aCons (varE 2) aNil) Ftake) [3])) aNil) tupO))
theorem ok__law_word {f : Addr} {fd : FuncData} (F : Fun K "_law_word" "_law_word" s__law_word f fd) (h_range : mg "range" = none) (h_tuple : mg "tuple" = none) (c__law_take : Cal P w K mg base "_law_take" 1 ["state", "m"] (spM K 1 Ftake)) : FnOk P w K mg base (L2.CX P w) 2 f fd ["state", "n", "p"] (spM K 2 (runM 4 m__law_word)) :=
  defOkM F sc__law_word fun cdv A outer s H E hr => by
    have nd : N__law_word.Nodup := sc__law_word.nd
    have tk : Takes (cxOf (L2.CX P w) P w K mg base N__law_word "_law_word" (defScope s__law_word) f cdv A outer s H E) (fun cls d _ H' => E cls d H') := takes_of rfl rfl rfl rfl
    have po : PassesOwn (model P w) (cxOf (L2.CX P w) P w K mg base N__law_word "_law_word" (defScope s__law_word) f cdv A outer s H E).A (cxOf (L2.CX P w) P w K mg base N__law_word "_law_word" (defScope s__law_word) f cdv A outer s H E).env (cxOf (L2.CX P w) P w K mg base N__law_word "_law_word" (defScope s__law_word) f cdv A outer s H E).xe := passes_of rfl
    have hu64 := hr.units
    have hu65 := hu65_of hr
    have hu0 := hr.units0
    have hu1 := hu_of hr
    exact (dss_one (ds_ret (de_tupc (by rfl) h_tuple (de_frz (dn_lc (by rfl) nd (di_range1 (by rfl) h_range (da_cons (de_var (pv 1)) da_nil)) (blkOk_by (own := [("k", 3)]) (N := N__law_word) (sc := defScope s__law_word) (by decide +kernel)) (by decide) (fun _ _ _ _ _ => (dg_name (pg_name (i := 3) nd (by rfl) (by first | exact Or.inl rfl | exact Or.inr rfl)))) (fun _ _ _ _ _ => dts_nil) (fun _ _ _ _ _ => (de_calM c__law_take takes0 hr (by decide) (by rfl) (pv 0) (da_cons (de_var (pv 2)) da_nil))))))))
abbrev s__law_prime : Stmt := topS 41
abbrev N__law_prime : List Str := ["state"]
theorem sc__law_prime : FnScope N__law_prime ["state"] (defScope s__law_prime) := ⟨rfl, rfl, rfl, by decide +kernel, rfl, by decide +kernel, by decide +kernel⟩
noncomputable def m__law_prime : Ms → O := (retS (op2 (frz (lstE (aCons (cE (.int 2)) (aCons (cE (.int 2)) (aCons (cE (.int 3)) (aCons (cE (.int 3)) (aCons (cE (.int 5)) (aCons (cE (.int 7)) aNil)))))))) (funM 1 0 (aCons (cE (.int 6)) aNil) Ftake) ixO))
theorem ok__law_prime {f : Addr} {fd : FuncData} (F : Fun K "_law_prime" "_law_prime" s__law_prime f fd) (c__law_take : Cal P w K mg base "_law_take" 1 ["state", "m"] (spM K 1 Ftake)) : FnOk P w K mg base (L2.CX P w) 2 f fd ["state"] (spM K 0 (runM 1 m__law_prime)) :=
  defOkM F sc__law_prime fun cdv A outer s H E hr => by
    have nd : N__law_prime.Nodup := sc__law_prime.nd
    have tk : Takes (cxOf (L2.CX P w) P w K mg base N__law_prime "_law_prime" (defScope s__law_prime) f cdv A outer s H E) (fun cls d _ H' => E cls d H') := takes_of rfl rfl rfl rfl
    have po : PassesOwn (model P w) (cxOf (L2.CX P w) P w K mg base N__law_prime "_law_prime" (defScope s__law_prime) f cdv A outer s H E).A (cxOf (L2.CX P w) P w K mg base N__law_prime "_law_prime" (defScope s__law_prime) f cdv A outer s H E).env (cxOf (L2.CX P w) P w K mg base N__law_prime "_law_prime" (defScope s__law_prime) f cdv A outer s H E).xe := passes_of rfl
    have hu64 := hr.units
    have hu65 := hu65_of hr
    have hu0 := hr.units0
    have hu1 := hu_of hr
    exact (dss_one (ds_ret (de_sub1 (de_frz (dn_lst (da_cons de_int (da_cons de_int (da_cons de_int (da_cons de_int (da_cons de_int (da_cons de_int da_nil)))))))) (de_calM c__law_take tk hr (by decide) (by rfl) (pv 0) (da_cons de_int da_nil)))))
abbrev s__law_rows : Stmt := topS 42
abbrev N__law_rows : List Str := ["state", "n", "p", "most", "rows", "turn"]
theorem sc__law_rows : FnScope N__law_rows ["state", "n", "p", "most"] (defScope s__law_rows) := ⟨rfl, rfl, rfl, by decide +kernel, rfl, by decide +kernel, by decide +kernel⟩
noncomputable def m__law_rows : Ms → O := (seqS (asgN 4 (lstE aNil))
  (seqS (forS (itR1 (aCons (funM 1 0 (aCons (op2 (varE 3) (cE (.int 1)) addO) aNil) Ftake) aNil)) (Tk.nm 5).k (appS 4 (funM 2 0 (aCons (varE 1) (aCons (varE 2) aNil)) Fword)))
  (retS (varE 4))))
theorem ok__law_rows {f : Addr} {fd : FuncData} (F : Fun K "_law_rows" "_law_rows" s__law_rows f fd) (h_range : mg "range" = none) (c__law_take : Cal P w K mg base "_law_take" 1 ["state", "m"] (spM K 1 Ftake)) (c__law_word : Cal P w K mg base "_law_word" 2 ["state", "n", "p"] (spM K 2 Fword)) : FnOk P w K mg base (L2.CX P w) 3 f fd ["state", "n", "p", "most"] (spM K 3 (runM 6 m__law_rows)) :=
  defOkM F sc__law_rows fun cdv A outer s H E hr => by
    have nd : N__law_rows.Nodup := sc__law_rows.nd
    have tk : Takes (cxOf (L2.CX P w) P w K mg base N__law_rows "_law_rows" (defScope s__law_rows) f cdv A outer s H E) (fun cls d _ H' => E cls d H') := takes_of rfl rfl rfl rfl
    have po : PassesOwn (model P w) (cxOf (L2.CX P w) P w K mg base N__law_rows "_law_rows" (defScope s__law_rows) f cdv A outer s H E).A (cxOf (L2.CX P w) P w K mg base N__law_rows "_law_rows" (defScope s__law_rows) f cdv A outer s H E).env (cxOf (L2.CX P w) P w K mg base N__law_rows "_law_rows" (defScope s__law_rows) f cdv A outer s H E).xe := passes_of rfl
    have hu64 := hr.units
    have hu65 := hu65_of hr
    have hu0 := hr.units0
    have hu1 := hu_of hr
    exact (dss_cons (ds_setN (i := 4) nd (by rfl) (by first | exact Or.inl rfl | exact Or.inr rfl) (dn_lst da_nil))
      (dss_cons (ds_for po (by rfl) (di_range1 (by rfl) h_range (da_cons (de_calM c__law_take tk hr (by decide) (by rfl) (pv 0) (da_cons (de_add (de_var (pv 3)) de_int) da_nil)) da_nil)) (dg_name (pg_name (i := 5) nd (by rfl) (by first | exact Or.inl rfl | exact Or.inr rfl))) (dss_one (ds_app (pv 4) (de_calM c__law_word tk hr (by decide) (by rfl) (pv 0) (da_cons (de_var (pv 1)) (da_cons (de_var (pv 2)) da_nil))))))
      (dss_one (ds_ret (de_var (pv 4))))))
abbrev s_law : Stmt := topS 43
abbrev N_law : List Str := ["script", "state", "p", "n", "rows", "code", "due", "word", "value", "text", "row", "other", "second", "same", "x"]
theorem sc_law : FnScope N_law ["script"] (defScope s_law) := ⟨rfl, rfl, rfl, by decide +kernel, rfl, by decide +kernel, by decide +kernel⟩
theorem ok_law {f : Addr} {fd : FuncData} (F : Fun K "law" "law" s_law f fd) {CB CC CM CR CT : Addr} (h_int : mg "int" = none) (h_isinstance : mg "isinstance" = none) (h_len : mg "len" = none) (h_list : mg "list" = none) (h_str : mg "str" = none) (h_tuple : mg "tuple" = none) (cl_Code : Cls K CC) (na_Code_k : NoAttr K CC "k") (na_Code_n : NoAttr K CC "n") (na_Code_p : NoAttr K CC "p") (na_Code_rows : NoAttr K CC "rows") (nt_Code_NoneType : NotT K CC "NoneType") (nt_Code_str : NotT K CC "str") (nc_Code : NeC K CC) (cs_Code : CalS P w K mg base CC 3 ["self"] (Fstr07 CC)) (cq_Code : CalQ P w K mg base CC 1 ["self", "other"] (Feq07 CC)) (cm_Code_holds : CalM P w K mg base CC "holds" 4 ["self", "value"] (spD K 2 (Fholds CC CM))) (cm_Code_size : CalM P w K mg base CC "size" 2 ["self"] (spD K 1 (Fsize07 CC))) (cy_Code_words : CalY P w K mg base CC "words" 2 ["self"] (Fwords CC)) (ci_Code : CalI P w K mg base "Code" CC 5 ["self", "p", "n", "rows"] 3 (Finit CC CM CR)) (c__law_span : Cal P w K mg base "_law_span" 2 ["rows", "n", "p"] (spD K 3 Fspan)) (c__law_take : Cal P w K mg base "_law_take" 1 ["state", "m"] (spM K 1 Ftake)) (c__law_sum : Cal P w K mg base "_law_sum" 1 ["v", "w", "p"] (spD K 3 FaddW)) (c__law_rows : Cal P w K mg base "_law_rows" 3 ["state", "n", "p", "most"] (spM K 3 Frows)) (c_read_code : Cal P w K mg base "read_code" 8 ["text"] (spD K 1 (Fcread CB CC CM CR CT))) (c__law_all : Cal P w K mg base "_law_all" 1 ["n", "p"] (spD K 2 Fall)) (c__law_prime : Cal P w K mg base "_law_prime" 2 ["state"] (spM K 0 Fprime)) (c__law_state : Cal P w K mg base "_law_state" 1 ["script"] (spN K 1 Fstate)) : FnOk P w K mg base (L2.CX P w) 9 f fd ["script"] (Lq.spLaw K) :=
  lawOk F sc_law (fun ns h => run_law07 CB CC CM CR CT ns h) fun cdv A outer s H E hr => by
    have nd : N_law.Nodup := sc_law.nd
    have tk : Takes (cxOf (L2.CX P w) P w K mg base N_law "law" (defScope s_law) f cdv A outer s H E) (fun cls d _ H' => E cls d H') := takes_of rfl rfl rfl rfl
    have po : PassesOwn (model P w) (cxOf (L2.CX P w) P w K mg base N_law "law" (defScope s_law) f cdv A outer s H E).A (cxOf (L2.CX P w) P w K mg base N_law "law" (defScope s_law) f cdv A outer s H E).env (cxOf (L2.CX P w) P w K mg base N_law "law" (defScope s_law) f cdv A outer s H E).xe := passes_of rfl
    have hu64 := hr.units
    have hu65 := hu65_of hr
    have hu0 := hr.units0
    have hu1 := hu_of hr
    exact (dss_cons (ds_setN (i := 1) nd (by rfl) (by first | exact Or.inl rfl | exact Or.inr rfl) (dn_cal c__law_state tk hr (by decide) (by rfl) (da_cons (de_var (pv 0)) da_nil)))
      (dss_cons (ds_set (i := 2) nd (by rfl) (by first | exact Or.inl rfl | exact Or.inr rfl) (de_calM c__law_prime tk hr (by decide) (by rfl) (pv 1) da_nil))
      (dss_cons (ds_set (i := 3) nd (by rfl) (by first | exact Or.inl rfl | exact Or.inr rfl) (de_calM c__law_take tk hr (by decide) (by rfl) (pv 1) (da_cons (de_sub de_int (de_mul de_int (de_intc (by rfl) h_int (de_gt (de_var (pv 2)) de_int)))) da_nil)))
      (dss_cons (ds_set (i := 4) nd (by rfl) (by first | exact Or.inl rfl | exact Or.inr rfl) (de_calM c__law_rows tk hr (by decide) (by rfl) (pv 1) (da_cons (de_var (pv 3)) (da_cons (de_var (pv 2)) (da_cons de_int da_nil)))))
      (dss_cons (ds_set (i := 5) nd (by rfl) (by first | exact Or.inl rfl | exact Or.inr rfl) (de_make ci_Code tk hr (by decide) (by rfl) (da_cons (de_var (pv 2)) (da_cons (de_var (pv 3)) (da_cons (de_var (pv 4)) da_nil)))))
      (dss_cons (ds_set (i := 6) nd (by rfl) (by first | exact Or.inl rfl | exact Or.inr rfl) (de_cal c__law_span tk hr (by decide) (by rfl) (da_cons (de_var (pv 4)) (da_cons (de_var (pv 3)) (da_cons (de_var (pv 2)) da_nil)))))
      (dss_cons (ds_if (PW.pt (dw_or (dt_ne hu64 (de_frz (dn_lcY cy_Code_words (by rfl) nd hr (by decide) (de_var (pv 5)) (blkOk_by (own := [("word", 7)]) (N := N_law) (sc := defScope s_law) (by decide +kernel)) (by decide +kernel) (by decide) (fun _ _ _ _ _ => (dg_name (pg_name (i := 7) nd (by rfl) (by first | exact Or.inl rfl | exact Or.inr rfl)))) (fun _ _ _ _ _ => dts_nil) (fun _ _ _ _ _ => (de_var (pv 7))))) (de_var (pv 6))) (dw_or (dt_ne hu64 (de_met0 cm_Code_size tk hr (by decide) (de_var (pv 5))) (de_len (by rfl) h_len (de_var (pv 6)))) (dw_or (dt_ne hu64 (de_fld cl_Code na_Code_p (de_var (pv 5))) (de_var (pv 2))) (dw_or1 (dt_ne hu64 (de_fld cl_Code na_Code_n (de_var (pv 5))) (de_var (pv 3)))))))) (dss_one (ds_ret de_bl)) dss_nil)
      (dss_cons (ds_if (PW.pt (dw_or (dt_not (dt_tru (de_isi (T := "tuple") (by decide +kernel) (by rfl) h_isinstance (by rfl) h_tuple (by constructor) (de_fld cl_Code na_Code_rows (de_var (pv 5)))))) (dw_or (dt_ne hu64 (de_len (by rfl) h_len (de_fld cl_Code na_Code_rows (de_var (pv 5)))) (de_fld cl_Code na_Code_k (de_var (pv 5)))) (dw_or1 (dt_ne hu64 (de_cal c__law_span tk hr (by decide) (by rfl) (da_cons (de_fld cl_Code na_Code_rows (de_var (pv 5))) (da_cons (de_var (pv 3)) (da_cons (de_var (pv 2)) da_nil)))) (de_var (pv 6))))))) (dss_one (ds_ret de_bl)) dss_nil)
      (dss_cons (ds_for po (by rfl) (di_seq (de_cal c__law_all tk hr (by decide) (by rfl) (da_cons (de_var (pv 3)) (da_cons (de_var (pv 2)) da_nil)))) (dg_name (pg_name (i := 7) nd (by rfl) (by first | exact Or.inl rfl | exact Or.inr rfl))) (dss_one (ds_if (dt_ne hu64 (de_met cm_Code_holds tk hr (by decide) (de_var (pv 5)) (da_cons (de_var (pv 7)) da_nil)) (de_inD hu65 (de_var (pv 7)) (de_var (pv 6)))) (dss_one (ds_ret de_bl)) dss_nil)))
      (dss_cons (ds_for po (by rfl) (di_seq (de_frz (dn_lst (da_cons de_non (da_cons de_int (da_cons de_str (da_cons (de_catT (de_sub1 (de_var (pv 6)) de_int) (de_tup (da_cons de_int da_nil))) (da_cons (de_frz (dn_list (by rfl) h_list (de_sub1 (de_var (pv 6)) de_int))) (da_cons (de_catT (de_sliceT (de_sub1 (de_var (pv 6)) (de_neg de_int)) do_none (do_some (de_neg de_int))) (de_tup (da_cons (de_var (pv 2)) da_nil))) (da_cons (de_catT (de_sliceT (de_sub1 (de_var (pv 6)) (de_neg de_int)) do_none (do_some (de_neg de_int))) (de_tup (da_cons de_non da_nil))) da_nil)))))))))) (dg_name (pg_name (i := 8) nd (by rfl) (by first | exact Or.inl rfl | exact Or.inr rfl))) (dss_one (ds_if (dt_notB (de_met cm_Code_holds tk hr (by decide) (de_var (pv 5)) (da_cons (de_var (pv 8)) da_nil)) de_bl) (dss_one (ds_ret de_bl)) dss_nil)))
      (dss_cons (ds_set (i := 9) nd (by rfl) (by first | exact Or.inl rfl | exact Or.inr rfl) (de_catS (de_catS (de_catS (de_strc (by rfl) h_str (de_var (pv 2))) de_str) (de_strc (by rfl) h_str (de_var (pv 3)))) de_str))
      (dss_cons (ds_for po (by rfl) (di_seq (de_fld cl_Code na_Code_rows (de_var (pv 5)))) (dg_name (pg_name (i := 10) nd (by rfl) (by first | exact Or.inl rfl | exact Or.inr rfl))) (dss_one (ds_set (i := 9) nd (by rfl) (by first | exact Or.inl rfl | exact Or.inr rfl) (de_catS (de_catS (de_var (pv 9)) de_str) (de_ifx (dt_gt (de_var (pv 3)) de_int) (de_join pe_str (de_frz (dn_lc (by rfl) nd (di_seq (de_var (pv 10))) (blkOk_by (own := [("x", 14)]) (N := N_law) (sc := defScope s_law) (by decide +kernel)) (by decide) (fun _ _ _ _ _ => (dg_name (pg_name (i := 14) nd (by rfl) (by first | exact Or.inl rfl | exact Or.inr rfl)))) (fun _ _ _ _ _ => dts_nil) (fun _ _ _ _ _ => (de_strc (by rfl) h_str (de_var (pv 14))))))) de_str)))))
      (dss_cons (ds_if (PW.pt (dw_or (dt_ne hu64 (de_strC cs_Code tk hr (by decide) (by rfl) h_str (de_var (pv 5))) (de_var (pv 9))) (dw_or1 (dt_notB (de_eqC cq_Code tk hr (by decide) (de_cal c_read_code tk hr (by decide) (by rfl) (da_cons (de_var (pv 9)) da_nil)) (de_var (pv 5))) de_bl)))) (dss_one (ds_ret de_bl)) dss_nil)
      (dss_cons (ds_set (i := 11) nd (by rfl) (by first | exact Or.inl rfl | exact Or.inr rfl) (de_calM c__law_rows tk hr (by decide) (by rfl) (pv 1) (da_cons (de_var (pv 3)) (da_cons (de_var (pv 2)) (da_cons de_int da_nil)))))
      (dss_cons (ds_if (PW.pt (dw_and (dt_eq hu64 (de_calM c__law_take tk hr (by decide) (by rfl) (pv 1) (da_cons de_int da_nil)) de_int) (dw_and1 (dt_gt (de_len (by rfl) h_len (de_var (pv 4))) de_int)))) (dss_one (ds_set (i := 11) nd (by rfl) (by first | exact Or.inl rfl | exact Or.inr rfl) (de_frz (dn_catL (de_frz (dn_lc (by rfl) nd (di_seq (de_frz (dn_sliceL (de_var (pv 4)) (do_some de_int) do_none))) (blkOk_by (own := [("row", 10)]) (N := N_law) (sc := defScope s_law) (by decide +kernel)) (by decide) (fun _ _ _ _ _ => (dg_name (pg_name (i := 10) nd (by rfl) (by first | exact Or.inl rfl | exact Or.inr rfl)))) (fun _ _ _ _ _ => dts_nil) (fun _ _ _ _ _ => (de_cal c__law_sum takes0 hr (by decide) (by rfl) (da_cons (de_sub1 (de_var (pv 4)) de_int) (da_cons (de_var (pv 10)) (da_cons (de_var (pv 2)) da_nil))))))) (de_frz (dn_lst (da_cons (de_sub1 (de_var (pv 4)) de_int) da_nil))))))) dss_nil)
      (dss_cons (ds_set (i := 12) nd (by rfl) (by first | exact Or.inl rfl | exact Or.inr rfl) (de_make ci_Code tk hr (by decide) (by rfl) (da_cons (de_var (pv 2)) (da_cons (de_var (pv 3)) (da_cons (de_tupc (by rfl) h_tuple (de_var (pv 11))) da_nil)))))
      (dss_cons (ds_set (i := 13) nd (by rfl) (by first | exact Or.inl rfl | exact Or.inr rfl) (de_eq hu64 (de_cal c__law_span tk hr (by decide) (by rfl) (da_cons (de_var (pv 11)) (da_cons (de_var (pv 3)) (da_cons (de_var (pv 2)) da_nil)))) (de_var (pv 6))))
      (dss_one (ds_ret (de_and (de_eq hu64 (de_eqC cq_Code tk hr (by decide) (de_var (pv 5)) (de_var (pv 12))) (de_var (pv 13))) (de_and (de_eq hu64 (de_neC nc_Code cq_Code tk hr (by decide) (de_var (pv 5)) (de_var (pv 12))) (de_not (de_var (pv 13)))) (de_and (de_isB (de_eqT nt_Code_NoneType cq_Code tk hr (by decide) (de_var (pv 5)) de_non) de_bl) (de_one (de_isB (de_eqT nt_Code_str cq_Code tk hr (by decide) (de_var (pv 5)) (de_var (pv 9))) de_bl))))))))))))))))))))))))
theorem all_mk {l : PySem.W.OpenLaw} {w : World} {K : PySem.W.Frag} {h : Heap} {mg : Str → Option Value} {fa f1 f2 f3 f4 f5 f6 f7 f8 f9 f10 f11 f12 f13 f14 f15 f16 f17 f18 f19 f20 f21 f22 f23 f24 f25 f26 f27 f28 f29 f30 f31 f32 f33 f34 f35 : Addr} (X : K.In h) (G : h.Ns mainGlobals mg) (hfa : mg "law" = some (.ref fa))
    {CC : Addr}
    {od1 an1 od2 an2 od3 an3 od4 an4 od5 an5 od6 an6 od7 an7 od8 an8 od9 an9 od10 an10 od11 an11 od12 an12 od13 an13 od14 an14 od15 an15 od16 an16 od17 an17 od18 an18 od19 an19 od20 an20 od21 an21 od22 an22 od23 an23 od24 an24 od25 an25 od26 an26 od27 an27 od28 an28 od29 an29 od30 an30 od31 an31 od32 an32 od33 an33 od34 an34 od35 an35 : Option Addr} {sl1 sl2 sl3 sl4 sl5 sl6 sl7 sl8 sl9 sl10 sl11 sl12 sl13 sl14 sl15 sl16 sl17 sl18 sl19 sl20 sl21 sl22 sl23 sl24 sl25 sl26 sl27 sl28 sl29 sl30 sl31 sl32 sl33 sl34 sl35 : Array (Option Value)} {oc1 kV1 dc1 pm1 cd1 ct1 oc2 kV2 dc2 pm2 cd2 ct2 oc3 kV3 dc3 pm3 cd3 ct3 oc4 kV4 dc4 pm4 cd4 ct4 oc5 kV5 dc5 pm5 cd5 ct5 oc6 kV6 dc6 pm6 cd6 ct6 oc7 kV7 dc7 pm7 cd7 ct7 oc8 kV8 dc8 pm8 cd8 ct8 oc9 kV9 dc9 pm9 cd9 ct9 oc10 kV10 dc10 pm10 cd10 ct10 oc11 kV11 dc11 pm11 cd11 ct11 oc12 kV12 dc12 pm12 cd12 ct12 oc13 kV13 dc13 pm13 cd13 ct13 oc14 kV14 dc14 pm14 cd14 ct14 oc15 kV15 dc15 pm15 cd15 ct15 oc16 kV16 dc16 pm16 cd16 ct16 oc17 kV17 dc17 pm17 cd17 ct17 oc18 kV18 dc18 pm18 cd18 ct18 oc19 kV19 dc19 pm19 cd19 ct19 oc20 kV20 dc20 pm20 cd20 ct20 oc21 kV21 dc21 pm21 cd21 ct21 oc22 kV22 dc22 pm22 cd22 ct22 oc23 kV23 dc23 pm23 cd23 ct23 oc24 kV24 dc24 pm24 cd24 ct24 oc25 kV25 dc25 pm25 cd25 ct25 oc26 kV26 dc26 pm26 cd26 ct26 oc27 kV27 dc27 pm27 cd27 ct27 oc28 kV28 dc28 pm28 cd28 ct28 oc29 kV29 dc29 pm29 cd29 ct29 oc30 kV30 dc30 pm30 cd30 ct30 oc31 kV31 dc31 pm31 cd31 ct31 oc32 kV32 dc32 pm32 cd32 ct32 oc33 kV33 dc33 pm33 cd33 ct33 oc34 kV34 dc34 pm34 cd34 ct34 oc35 kV35 dc35 pm35 cd35 ct35 : Value}
    (a1 : PySem.W.nsIn K mainGlobals "is_integer" = some (some (.ref f1))) (l1 : K.lookup f1 = some ⟨oc1, od1, .func (PySem.W.fnOf "is_integer" "is_integer" (defArgs s_is_integer) (defBody s_is_integer) (defScope s_is_integer) .none kV1 dc1 pm1 an1 cd1 ct1), sl1⟩) (c1 : PySem.W.codeIn K cd1 "is_integer" = true) (k1 : PySem.W.keepIn K (.ref f1) = true)
    (a2 : PySem.W.nsIn K mainGlobals "inverse" = some (some (.ref f2))) (l2 : K.lookup f2 = some ⟨oc2, od2, .func (PySem.W.fnOf "inverse" "inverse" (defArgs s_inverse) (defBody s_inverse) (defScope s_inverse) .none kV2 dc2 pm2 an2 cd2 ct2), sl2⟩) (c2 : PySem.W.codeIn K cd2 "inverse" = true) (k2 : PySem.W.keepIn K (.ref f2) = true)
    (a3 : PySem.W.nsIn K mainGlobals "power" = some (some (.ref f3))) (l3 : K.lookup f3 = some ⟨oc3, od3, .func (PySem.W.fnOf "power" "power" (defArgs s_power) (defBody s_power) (defScope s_power) .none kV3 dc3 pm3 an3 cd3 ct3), sl3⟩) (c3 : PySem.W.codeIn K cd3 "power" = true) (k3 : PySem.W.keepIn K (.ref f3) = true)
    (a4 : PySem.W.nsIn K mainGlobals "is_word" = some (some (.ref f4))) (l4 : K.lookup f4 = some ⟨oc4, od4, .func (PySem.W.fnOf "is_word" "is_word" (defArgs s_is_word) (defBody s_is_word) (defScope s_is_word) .none kV4 dc4 pm4 an4 cd4 ct4), sl4⟩) (c4 : PySem.W.codeIn K cd4 "is_word" = true) (k4 : PySem.W.keepIn K (.ref f4) = true)
    (a5 : PySem.W.nsIn K mainGlobals "add" = some (some (.ref f5))) (l5 : K.lookup f5 = some ⟨oc5, od5, .func (PySem.W.fnOf "add" "add" (defArgs s_add) (defBody s_add) (defScope s_add) .none kV5 dc5 pm5 an5 cd5 ct5), sl5⟩) (c5 : PySem.W.codeIn K cd5 "add" = true) (k5 : PySem.W.keepIn K (.ref f5) = true)
    (a6 : PySem.W.nsIn K mainGlobals "scaled" = some (some (.ref f6))) (l6 : K.lookup f6 = some ⟨oc6, od6, .func (PySem.W.fnOf "scaled" "scaled" (defArgs s_scaled) (defBody s_scaled) (defScope s_scaled) .none kV6 dc6 pm6 an6 cd6 ct6), sl6⟩) (c6 : PySem.W.codeIn K cd6 "scaled" = true) (k6 : PySem.W.keepIn K (.ref f6) = true)
    (a7 : PySem.W.nsIn K mainGlobals "dot" = some (some (.ref f7))) (l7 : K.lookup f7 = some ⟨oc7, od7, .func (PySem.W.fnOf "dot" "dot" (defArgs s_dot) (defBody s_dot) (defScope s_dot) .none kV7 dc7 pm7 an7 cd7 ct7), sl7⟩) (c7 : PySem.W.codeIn K cd7 "dot" = true) (k7 : PySem.W.keepIn K (.ref f7) = true)
    (a8 : PySem.W.nsIn K mainGlobals "reduced" = some (some (.ref f8))) (l8 : K.lookup f8 = some ⟨oc8, od8, .func (PySem.W.fnOf "reduced" "reduced" (defArgs s_reduced) (defBody s_reduced) (defScope s_reduced) .none kV8 dc8 pm8 an8 cd8 ct8), sl8⟩) (c8 : PySem.W.codeIn K cd8 "reduced" = true) (k8 : PySem.W.keepIn K (.ref f8) = true)
    (a9 : PySem.W.nsIn K mainGlobals "_cleared" = some (some (.ref f9))) (l9 : K.lookup f9 = some ⟨oc9, od9, .func (PySem.W.fnOf "_cleared" "_cleared" (defArgs s__cleared) (defBody s__cleared) (defScope s__cleared) .none kV9 dc9 pm9 an9 cd9 ct9), sl9⟩) (c9 : PySem.W.codeIn K cd9 "_cleared" = true) (k9 : PySem.W.keepIn K (.ref f9) = true)
    (a10 : PySem.W.nsIn K mainGlobals "kernel" = some (some (.ref f10))) (l10 : K.lookup f10 = some ⟨oc10, od10, .func (PySem.W.fnOf "kernel" "kernel" (defArgs s_kernel) (defBody s_kernel) (defScope s_kernel) .none kV10 dc10 pm10 an10 cd10 ct10), sl10⟩) (c10 : PySem.W.codeIn K cd10 "kernel" = true) (k10 : PySem.W.keepIn K (.ref f10) = true)
    (a11 : PySem.W.nsIn K mainGlobals "_kernel_word" = some (some (.ref f11))) (l11 : K.lookup f11 = some ⟨oc11, od11, .func (PySem.W.fnOf "_kernel_word" "_kernel_word" (defArgs s__kernel_word) (defBody s__kernel_word) (defScope s__kernel_word) .none kV11 dc11 pm11 an11 cd11 ct11), sl11⟩) (c11 : PySem.W.codeIn K cd11 "_kernel_word" = true) (k11 : PySem.W.keepIn K (.ref f11) = true)
    (a12 : PySem.W.nsIn K mainGlobals "written" = some (some (.ref f12))) (l12 : K.lookup f12 = some ⟨oc12, od12, .func (PySem.W.fnOf "written" "written" (defArgs s_written) (defBody s_written) (defScope s_written) .none kV12 dc12 pm12 an12 cd12 ct12), sl12⟩) (c12 : PySem.W.codeIn K cd12 "written" = true) (k12 : PySem.W.keepIn K (.ref f12) = true)
    (a13 : PySem.W.nsIn K mainGlobals "read_word" = some (some (.ref f13))) (l13 : K.lookup f13 = some ⟨oc13, od13, .func (PySem.W.fnOf "read_word" "read_word" (defArgs s_read_word) (defBody s_read_word) (defScope s_read_word) .none kV13 dc13 pm13 an13 cd13 ct13), sl13⟩) (c13 : PySem.W.codeIn K cd13 "read_word" = true) (k13 : PySem.W.keepIn K (.ref f13) = true)
    (a14 : PySem.W.nsIn K mainGlobals "is_prime" = some (some (.ref f14))) (l14 : K.lookup f14 = some ⟨oc14, od14, .func (PySem.W.fnOf "is_prime" "is_prime" (defArgs s_is_prime) (defBody s_is_prime) (defScope s_is_prime) .none kV14 dc14 pm14 an14 cd14 ct14), sl14⟩) (c14 : PySem.W.codeIn K cd14 "is_prime" = true) (k14 : PySem.W.keepIn K (.ref f14) = true)
    (a15 : PySem.W.nsIn K mainGlobals "check_rows" = some (some (.ref f15))) (l15 : K.lookup f15 = some ⟨oc15, od15, .func (PySem.W.fnOf "check_rows" "check_rows" (defArgs s_check_rows) (defBody s_check_rows) (defScope s_check_rows) .none kV15 dc15 pm15 an15 cd15 ct15), sl15⟩) (c15 : PySem.W.codeIn K cd15 "check_rows" = true) (k15 : PySem.W.keepIn K (.ref f15) = true)
    (a16 : PySem.W.findIn K (.ref CC) "__init__" = some (some (.ref f16))) (l16 : K.lookup f16 = some ⟨oc16, od16, .func (PySem.W.fnOf "__init__" "Code.__init__" (defArgs s_Code___init__) (defBody s_Code___init__) (defScope s_Code___init__) .none kV16 dc16 pm16 an16 cd16 ct16), sl16⟩) (c16 : PySem.W.codeIn K cd16 "Code.__init__" = true) (k16 : PySem.W.keepIn K (.ref f16) = true) (i16 : PySem.W.isFn K (.ref f16) = true)
    (a17 : PySem.W.findIn K (.ref CC) "__eq__" = some (some (.ref f17))) (l17 : K.lookup f17 = some ⟨oc17, od17, .func (PySem.W.fnOf "__eq__" "Code.__eq__" (defArgs s_Code___eq__) (defBody s_Code___eq__) (defScope s_Code___eq__) .none kV17 dc17 pm17 an17 cd17 ct17), sl17⟩) (c17 : PySem.W.codeIn K cd17 "Code.__eq__" = true) (k17 : PySem.W.keepIn K (.ref f17) = true) (i17 : PySem.W.isFn K (.ref f17) = true)
    (a18 : PySem.W.nsIn K mainGlobals "_written_rows" = some (some (.ref f18))) (l18 : K.lookup f18 = some ⟨oc18, od18, .func (PySem.W.fnOf "_written_rows" "_written_rows" (defArgs s__written_rows) (defBody s__written_rows) (defScope s__written_rows) .none kV18 dc18 pm18 an18 cd18 ct18), sl18⟩) (c18 : PySem.W.codeIn K cd18 "_written_rows" = true) (k18 : PySem.W.keepIn K (.ref f18) = true)
    (a19 : PySem.W.findIn K (.ref CC) "__str__" = some (some (.ref f19))) (l19 : K.lookup f19 = some ⟨oc19, od19, .func (PySem.W.fnOf "__str__" "Code.__str__" (defArgs s_Code___str__) (defBody s_Code___str__) (defScope s_Code___str__) .none kV19 dc19 pm19 an19 cd19 ct19), sl19⟩) (c19 : PySem.W.codeIn K cd19 "Code.__str__" = true) (k19 : PySem.W.keepIn K (.ref f19) = true) (i19 : PySem.W.isFn K (.ref f19) = true)
    (a20 : PySem.W.findIn K (.ref CC) "size" = some (some (.ref f20))) (l20 : K.lookup f20 = some ⟨oc20, od20, .func (PySem.W.fnOf "size" "Code.size" (defArgs s_Code_size) (defBody s_Code_size) (defScope s_Code_size) .none kV20 dc20 pm20 an20 cd20 ct20), sl20⟩) (c20 : PySem.W.codeIn K cd20 "Code.size" = true) (k20 : PySem.W.keepIn K (.ref f20) = true) (i20 : PySem.W.isFn K (.ref f20) = true)
    (a21 : PySem.W.findIn K (.ref CC) "syndrome" = some (some (.ref f21))) (l21 : K.lookup f21 = some ⟨oc21, od21, .func (PySem.W.fnOf "syndrome" "Code.syndrome" (defArgs s_Code_syndrome) (defBody s_Code_syndrome) (defScope s_Code_syndrome) .none kV21 dc21 pm21 an21 cd21 ct21), sl21⟩) (c21 : PySem.W.codeIn K cd21 "Code.syndrome" = true) (k21 : PySem.W.keepIn K (.ref f21) = true) (i21 : PySem.W.isFn K (.ref f21) = true)
    (a22 : PySem.W.findIn K (.ref CC) "holds" = some (some (.ref f22))) (l22 : K.lookup f22 = some ⟨oc22, od22, .func (PySem.W.fnOf "holds" "Code.holds" (defArgs s_Code_holds) (defBody s_Code_holds) (defScope s_Code_holds) .none kV22 dc22 pm22 an22 cd22 ct22), sl22⟩) (c22 : PySem.W.codeIn K cd22 "Code.holds" = true) (k22 : PySem.W.keepIn K (.ref f22) = true) (i22 : PySem.W.isFn K (.ref f22) = true)
    (a23 : PySem.W.findIn K (.ref CC) "words" = some (some (.ref f23))) (l23 : K.lookup f23 = some ⟨oc23, od23, .func (PySem.W.fnOf "words" "Code.words" (defArgs s_Code_words) (defBody s_Code_words) (defScope s_Code_words) .none kV23 dc23 pm23 an23 cd23 ct23), sl23⟩) (c23 : PySem.W.codeIn K cd23 "Code.words" = true) (k23 : PySem.W.keepIn K (.ref f23) = true) (i23 : PySem.W.isFn K (.ref f23) = true)
    (a24 : PySem.W.nsIn K mainGlobals "_spanned" = some (some (.ref f24))) (l24 : K.lookup f24 = some ⟨oc24, od24, .func (PySem.W.fnOf "_spanned" "_spanned" (defArgs s__spanned) (defBody s__spanned) (defScope s__spanned) .none kV24 dc24 pm24 an24 cd24 ct24), sl24⟩) (c24 : PySem.W.codeIn K cd24 "_spanned" = true) (k24 : PySem.W.keepIn K (.ref f24) = true)
    (a25 : PySem.W.nsIn K mainGlobals "read_code" = some (some (.ref f25))) (l25 : K.lookup f25 = some ⟨oc25, od25, .func (PySem.W.fnOf "read_code" "read_code" (defArgs s_read_code) (defBody s_read_code) (defScope s_read_code) .none kV25 dc25 pm25 an25 cd25 ct25), sl25⟩) (c25 : PySem.W.codeIn K cd25 "read_code" = true) (k25 : PySem.W.keepIn K (.ref f25) = true)
    (a26 : PySem.W.nsIn K mainGlobals "_law_state" = some (some (.ref f26))) (l26 : K.lookup f26 = some ⟨oc26, od26, .func (PySem.W.fnOf "_law_state" "_law_state" (defArgs s__law_state) (defBody s__law_state) (defScope s__law_state) .none kV26 dc26 pm26 an26 cd26 ct26), sl26⟩) (c26 : PySem.W.codeIn K cd26 "_law_state" = true) (k26 : PySem.W.keepIn K (.ref f26) = true)
    (a27 : PySem.W.nsIn K mainGlobals "_law_take" = some (some (.ref f27))) (l27 : K.lookup f27 = some ⟨oc27, od27, .func (PySem.W.fnOf "_law_take" "_law_take" (defArgs s__law_take) (defBody s__law_take) (defScope s__law_take) .none kV27 dc27 pm27 an27 cd27 ct27), sl27⟩) (c27 : PySem.W.codeIn K cd27 "_law_take" = true) (k27 : PySem.W.keepIn K (.ref f27) = true)
    (a28 : PySem.W.nsIn K mainGlobals "_law_sum" = some (some (.ref f28))) (l28 : K.lookup f28 = some ⟨oc28, od28, .func (PySem.W.fnOf "_law_sum" "_law_sum" (defArgs s__law_sum) (defBody s__law_sum) (defScope s__law_sum) .none kV28 dc28 pm28 an28 cd28 ct28), sl28⟩) (c28 : PySem.W.codeIn K cd28 "_law_sum" = true) (k28 : PySem.W.keepIn K (.ref f28) = true)
    (a29 : PySem.W.nsIn K mainGlobals "_law_scaled" = some (some (.ref f29))) (l29 : K.lookup f29 = some ⟨oc29, od29, .func (PySem.W.fnOf "_law_scaled" "_law_scaled" (defArgs s__law_scaled) (defBody s__law_scaled) (defScope s__law_scaled) .none kV29 dc29 pm29 an29 cd29 ct29), sl29⟩) (c29 : PySem.W.codeIn K cd29 "_law_scaled" = true) (k29 : PySem.W.keepIn K (.ref f29) = true)
    (a30 : PySem.W.nsIn K mainGlobals "_law_span" = some (some (.ref f30))) (l30 : K.lookup f30 = some ⟨oc30, od30, .func (PySem.W.fnOf "_law_span" "_law_span" (defArgs s__law_span) (defBody s__law_span) (defScope s__law_span) .none kV30 dc30 pm30 an30 cd30 ct30), sl30⟩) (c30 : PySem.W.codeIn K cd30 "_law_span" = true) (k30 : PySem.W.keepIn K (.ref f30) = true)
    (a31 : PySem.W.nsIn K mainGlobals "_law_all" = some (some (.ref f31))) (l31 : K.lookup f31 = some ⟨oc31, od31, .func (PySem.W.fnOf "_law_all" "_law_all" (defArgs s__law_all) (defBody s__law_all) (defScope s__law_all) .none kV31 dc31 pm31 an31 cd31 ct31), sl31⟩) (c31 : PySem.W.codeIn K cd31 "_law_all" = true) (k31 : PySem.W.keepIn K (.ref f31) = true)
    (a32 : PySem.W.nsIn K mainGlobals "_law_word" = some (some (.ref f32))) (l32 : K.lookup f32 = some ⟨oc32, od32, .func (PySem.W.fnOf "_law_word" "_law_word" (defArgs s__law_word) (defBody s__law_word) (defScope s__law_word) .none kV32 dc32 pm32 an32 cd32 ct32), sl32⟩) (c32 : PySem.W.codeIn K cd32 "_law_word" = true) (k32 : PySem.W.keepIn K (.ref f32) = true)
    (a33 : PySem.W.nsIn K mainGlobals "_law_prime" = some (some (.ref f33))) (l33 : K.lookup f33 = some ⟨oc33, od33, .func (PySem.W.fnOf "_law_prime" "_law_prime" (defArgs s__law_prime) (defBody s__law_prime) (defScope s__law_prime) .none kV33 dc33 pm33 an33 cd33 ct33), sl33⟩) (c33 : PySem.W.codeIn K cd33 "_law_prime" = true) (k33 : PySem.W.keepIn K (.ref f33) = true)
    (a34 : PySem.W.nsIn K mainGlobals "_law_rows" = some (some (.ref f34))) (l34 : K.lookup f34 = some ⟨oc34, od34, .func (PySem.W.fnOf "_law_rows" "_law_rows" (defArgs s__law_rows) (defBody s__law_rows) (defScope s__law_rows) .none kV34 dc34 pm34 an34 cd34 ct34), sl34⟩) (c34 : PySem.W.codeIn K cd34 "_law_rows" = true) (k34 : PySem.W.keepIn K (.ref f34) = true)
    (a35 : PySem.W.nsIn K mainGlobals "law" = some (some (.ref f35))) (l35 : K.lookup f35 = some ⟨oc35, od35, .func (PySem.W.fnOf "law" "law" (defArgs s_law) (defBody s_law) (defScope s_law) .none kV35 dc35 pm35 an35 cd35 ct35), sl35⟩) (c35 : PySem.W.codeIn K cd35 "law" = true) (k35 : PySem.W.keepIn K (.ref f35) = true)
    (z__DIGITS : PySem.W.nsIn K mainGlobals "_DIGITS" = some (some (.str "0123456" tkD)))
    (z__LONGEST : PySem.W.nsIn K mainGlobals "_LONGEST" = some (some (.int 12 tkL)))
    (z__MOST_WORDS : PySem.W.nsIn K mainGlobals "_MOST_WORDS" = some (some (.int 4096 tkW)))
    (z_abs : PySem.W.nsIn K mainGlobals "abs" = some none)
    (z_all : PySem.W.nsIn K mainGlobals "all" = some none)
    (z_any : PySem.W.nsIn K mainGlobals "any" = some none)
    (z_bool : PySem.W.nsIn K mainGlobals "bool" = some none)
    (z_int : PySem.W.nsIn K mainGlobals "int" = some none)
    (z_isinstance : PySem.W.nsIn K mainGlobals "isinstance" = some none)
    (z_len : PySem.W.nsIn K mainGlobals "len" = some none)
    (z_list : PySem.W.nsIn K mainGlobals "list" = some none)
    (z_range : PySem.W.nsIn K mainGlobals "range" = some none)
    (z_sorted : PySem.W.nsIn K mainGlobals "sorted" = some none)
    (z_str : PySem.W.nsIn K mainGlobals "str" = some none)
    (z_sum : PySem.W.nsIn K mainGlobals "sum" = some none)
    (z_tuple : PySem.W.nsIn K mainGlobals "tuple" = some none)
    (z_zip : PySem.W.nsIn K mainGlobals "zip" = some none)
    {tkD tkL tkW : Tok}
    {CF : Addr} {CR fI_Refused cda_Refused cc_Refused N_Refused : Addr} {nm_Refused qn_Refused file_Refused : Str} {bs_Refused : List Value} {sn_Refused : List Str} {sub_Refused : List Value} {ab_Refused : Bool} {col_Refused : Option Bool} {dd_Refused odI_Refused anI_Refused cdd_Refused ecd_Refused : Option Addr} {m0_Refused m1_Refused m2_Refused m3_Refused m5_Refused : Option Value} {ocI_Refused kVI_Refused dcI_Refused pmI_Refused ctI_Refused ccl_Refused ecl_Refused : Value} {slI_Refused ccs_Refused ecs_Refused : Array (Option Value)} {cvs_Refused : Array Value} {tf_Refused : Tok} {CM : Addr} {CT fI_NoText cda_NoText cc_NoText N_NoText : Addr} {nm_NoText qn_NoText file_NoText : Str} {bs_NoText : List Value} {sn_NoText : List Str} {sub_NoText : List Value} {ab_NoText : Bool} {col_NoText : Option Bool} {dd_NoText odI_NoText anI_NoText cdd_NoText ecd_NoText : Option Addr} {m0_NoText m1_NoText m2_NoText m3_NoText m5_NoText : Option Value} {ocI_NoText kVI_NoText dcI_NoText pmI_NoText ctI_NoText ccl_NoText ecl_NoText : Value} {slI_NoText ccs_NoText ecs_NoText : Array (Option Value)} {cvs_NoText : Array Value} {tf_NoText : Tok} {CB : Addr}
    (zS : PySem.W.nsIn K mainGlobals "super" = some none)
    (an_ : PySem.W.nsIn K PySem.cStatics "thirdparty.any" = some none)
    (tp : (l.prog.main.scope.names.lookup ("super" : Str)).isSome = false)
    (gC_Refused : PySem.W.nsIn K mainGlobals "Refused" = some (some (.ref CR)))
    (xC_Refused : K.lookup CR = some (excClassObj nm_Refused qn_Refused CR N_Refused bs_Refused [.ref CF, .type "ValueError", .type "Exception", .type "BaseException", .type "object"] true sn_Refused sub_Refused ab_Refused col_Refused dd_Refused m0_Refused m1_Refused m2_Refused m3_Refused m5_Refused "ValueError.__new__"))
    (sa_Refused : PySem.W.findIn K (.ref CR) "__setattr__" = some (some (.builtin "object.__setattr__")))
    (ga_Refused : PySem.W.findIn K (.ref CR) "__getattribute__" = some (some (.builtin "BaseException.__getattribute__")))
    (gg_Refused : PySem.W.findIn K (.ref CR) "__getattr__" = some none)
    (nr_Refused : PySem.W.findIn K (.ref CR) "reason" = some none)
    (eC_Refused : PySem.W.subIn K (.ref CR) (.type "BaseException") = some true)
    (tC_Refused : PySem.W.typeIn K (.ref CR) = some (.type "type"))
    (kC_Refused : PySem.W.keepIn K (.ref CR) = true)
    (hC_Refused : PySem.W.hasDictIn K CR = true)
    (sC_Refused : PySem.W.subIn K (.ref CR) (.ref CR) = some true)
    (aI_Refused : PySem.W.findIn K (.ref CR) "__init__" = some (some (.ref fI_Refused)))
    (tI_Refused : PySem.W.typeIn K (.ref fI_Refused) = some (.type "function"))
    (lI_Refused : K.lookup fI_Refused = some ⟨ocI_Refused, odI_Refused, .func (PySem.W.ksFn "__init__" "Refused.__init__" (defArgs s_init_Refused) (defBody s_init_Refused) (defScope s_init_Refused) .none kVI_Refused dcI_Refused pmI_Refused anI_Refused (.ref cda_Refused) ctI_Refused cc_Refused), slI_Refused⟩)
    (cI_Refused : PySem.W.codeIn K (.ref cda_Refused) "Refused.__init__" = true)
    (lc_Refused : K.lookup cda_Refused = some ⟨ccl_Refused, cdd_Refused, .fields cvs_Refused, ccs_Refused⟩)
    (lf_Refused : cvs_Refused[2]? = some (.str file_Refused tf_Refused))
    (lq_Refused : ((l.prog.main.file : Str) == file_Refused) = true)
    (cl_Refused : K.lookup cc_Refused = some ⟨ecl_Refused, ecd_Refused, .cell (some (.ref CR)), ecs_Refused⟩)
    (mC_Refused : PySem.W.mroIn K CR (.ref CR) = some true)
    (up_Refused : PySem.W.ks_superIn K CR CR "__init__" = some (some (.builtin "ValueError.__init__")))
    (bsv_Refused : PySem.W.subIn K (.ref CR) (.type "ValueError") = some true)
    (gC_Malformed : PySem.W.nsIn K mainGlobals "Malformed" = some (some (.ref CM)))
    (xC_Malformed : PySem.W.excIn K CM [.type "ValueError", .type "Exception", .type "BaseException", .type "object"] "ValueError.__new__" = true)
    (eC_Malformed : PySem.W.subIn K (.ref CM) (.type "BaseException") = some true)
    (tC_Malformed : PySem.W.typeIn K (.ref CM) = some (.type "type"))
    (kC_Malformed : PySem.W.keepIn K (.ref CM) = true)
    (hC_Malformed : PySem.W.hasDictIn K CM = true)
    (sC_Malformed : PySem.W.subIn K (.ref CM) (.ref CM) = some true)
    (gC_NoText : PySem.W.nsIn K mainGlobals "NoText" = some (some (.ref CT)))
    (xC_NoText : K.lookup CT = some (excClassObj nm_NoText qn_NoText CT N_NoText bs_NoText [.ref CF, .type "ValueError", .type "Exception", .type "BaseException", .type "object"] true sn_NoText sub_NoText ab_NoText col_NoText dd_NoText m0_NoText m1_NoText m2_NoText m3_NoText m5_NoText "ValueError.__new__"))
    (sa_NoText : PySem.W.findIn K (.ref CT) "__setattr__" = some (some (.builtin "object.__setattr__")))
    (ga_NoText : PySem.W.findIn K (.ref CT) "__getattribute__" = some (some (.builtin "BaseException.__getattribute__")))
    (gg_NoText : PySem.W.findIn K (.ref CT) "__getattr__" = some none)
    (nr_NoText : PySem.W.findIn K (.ref CT) "at" = some none)
    (eC_NoText : PySem.W.subIn K (.ref CT) (.type "BaseException") = some true)
    (tC_NoText : PySem.W.typeIn K (.ref CT) = some (.type "type"))
    (kC_NoText : PySem.W.keepIn K (.ref CT) = true)
    (hC_NoText : PySem.W.hasDictIn K CT = true)
    (sC_NoText : PySem.W.subIn K (.ref CT) (.ref CT) = some true)
    (aI_NoText : PySem.W.findIn K (.ref CT) "__init__" = some (some (.ref fI_NoText)))
    (tI_NoText : PySem.W.typeIn K (.ref fI_NoText) = some (.type "function"))
    (lI_NoText : K.lookup fI_NoText = some ⟨ocI_NoText, odI_NoText, .func (PySem.W.ksFn "__init__" "NoText.__init__" (defArgs s_init_NoText) (defBody s_init_NoText) (defScope s_init_NoText) .none kVI_NoText dcI_NoText pmI_NoText anI_NoText (.ref cda_NoText) ctI_NoText cc_NoText), slI_NoText⟩)
    (cI_NoText : PySem.W.codeIn K (.ref cda_NoText) "NoText.__init__" = true)
    (lc_NoText : K.lookup cda_NoText = some ⟨ccl_NoText, cdd_NoText, .fields cvs_NoText, ccs_NoText⟩)
    (lf_NoText : cvs_NoText[2]? = some (.str file_NoText tf_NoText))
    (lq_NoText : ((l.prog.main.file : Str) == file_NoText) = true)
    (cl_NoText : K.lookup cc_NoText = some ⟨ecl_NoText, ecd_NoText, .cell (some (.ref CT)), ecs_NoText⟩)
    (mC_NoText : PySem.W.mroIn K CT (.ref CT) = some true)
    (up_NoText : PySem.W.ks_superIn K CT CT "__init__" = some (some (.builtin "ValueError.__init__")))
    (bsv_NoText : PySem.W.subIn K (.ref CT) (.type "ValueError") = some true)
    (gC_Fault : PySem.W.nsIn K mainGlobals "Fault" = some (some (.ref CB)))
    (xC_Fault : PySem.W.excIn K CB [.type "ValueError", .type "Exception", .type "BaseException", .type "object"] "ValueError.__new__" = true)
    (eC_Fault : PySem.W.subIn K (.ref CB) (.type "BaseException") = some true)
    (tC_Fault : PySem.W.typeIn K (.ref CB) = some (.type "type"))
    (kC_Fault : PySem.W.keepIn K (.ref CB) = true)
    (hC_Fault : PySem.W.hasDictIn K CB = true)
    (sC_Fault : PySem.W.subIn K (.ref CB) (.ref CB) = some true)
    {q__PRIMES : Addr} {dd__PRIMES : Option Addr} {n__PRIMES : Nat} {sl__PRIMES : Array (Option Value)} {tk_PRIMES0 tk_PRIMES1 tk_PRIMES2 tk_PRIMES3 : Tok}
    (gC_Code : PySem.W.nsIn K mainGlobals "Code" = some (some (.ref CC)))
    (pg_Code : PySem.W.plainGet K CC Str.empty = true)
    (hd_Code : PySem.W.hasDictIn K CC = true)
    (po_Code : PySem.W.plainOver K CC = true)
    (sa_Code : PySem.W.findIn K (.ref CC) "__setattr__" = some (some (.builtin "object.__setattr__")))
    (mk_Code : PySem.W.makesIn K CC = true)
    (kp_Code : PySem.W.keepIn K (.ref CC) = true)
    (ica_Code : PySem.W.findIn K (.ref CC) "__class__" = some (some (.builtin "object.__class__")))
    (icn_Code : PySem.W.specialIn K (.builtin "object.__class__") "__get__" = some (some (.builtin "getset_descriptor.__get__")))
    (ict_Code : PySem.W.takesIn K (.builtin "object.__class__") = some true)
    (icm_Code : PySem.W.mroIn K CC (.type "object") = some true)
    (zna_Code__checks : PySem.W.findIn K (.ref CC) "_checks" = some none)
    (zna_Code_k : PySem.W.findIn K (.ref CC) "k" = some none)
    (zna_Code_n : PySem.W.findIn K (.ref CC) "n" = some none)
    (zna_Code_p : PySem.W.findIn K (.ref CC) "p" = some none)
    (zna_Code_rows : PySem.W.findIn K (.ref CC) "rows" = some none)
    (ncs_Code : PySem.W.findIn K (.ref CC) "__ne__" = some (some (.builtin "object.__ne__")))
    (ncm_Code : PySem.W.mroIn K CC (.type "object") = some true)
    (ntf_Code_NoneType : PySem.W.notFirst K CC (.type "NoneType") = true)
    (ntk_Code_NoneType : PySem.W.kitOne K (.type "NoneType") (.ref CC) = some false)
    (ntf_Code_str : PySem.W.notFirst K CC (.type "str") = true)
    (ntk_Code_str : PySem.W.kitOne K (.type "str") (.ref CC) = some false)
    (zt__PRIMES : PySem.W.nsIn K mainGlobals "_PRIMES" = some (some (.ref q__PRIMES)))
    (lt__PRIMES : K.lookup q__PRIMES = some ⟨.type "tuple", dd__PRIMES, .seq #[.int 2 tk_PRIMES0, .int 3 tk_PRIMES1, .int 5 tk_PRIMES2, .int 7 tk_PRIMES3] n__PRIMES, sl__PRIMES⟩)
    : ∃ fd : FuncData, (∀ (s : Shared) (v : Value), BindsTo s fd ⟨[v], []⟩ [("script", v)]) ∧ ∀ base : Heap, K.In base → base.Ns mainGlobals mg → FnOk l.prog w K mg base (L2.CX l.prog w) 9 fa fd ["script"] (Lq.spLaw K) := by
  have e := hfa.symm.trans (PySem.W.mg_of X G a35)
  cases e
  have h__DIGITS := PySem.W.mg_of X G z__DIGITS
  have h__LONGEST := PySem.W.mg_of X G z__LONGEST
  have h__MOST_WORDS := PySem.W.mg_of X G z__MOST_WORDS
  have h_abs := PySem.W.mg_none_of X G z_abs
  have h_all := PySem.W.mg_none_of X G z_all
  have h_any := PySem.W.mg_none_of X G z_any
  have h_bool := PySem.W.mg_none_of X G z_bool
  have h_int := PySem.W.mg_none_of X G z_int
  have h_isinstance := PySem.W.mg_none_of X G z_isinstance
  have h_len := PySem.W.mg_none_of X G z_len
  have h_list := PySem.W.mg_none_of X G z_list
  have h_range := PySem.W.mg_none_of X G z_range
  have h_sorted := PySem.W.mg_none_of X G z_sorted
  have h_str := PySem.W.mg_none_of X G z_str
  have h_sum := PySem.W.mg_none_of X G z_sum
  have h_tuple := PySem.W.mg_none_of X G z_tuple
  have h_zip := PySem.W.mg_none_of X G z_zip
  have F1 := fun_mk (st := s_is_integer) l1 c1 k1
  have F2 := fun_mk (st := s_inverse) l2 c2 k2
  have F3 := fun_mk (st := s_power) l3 c3 k3
  have F4 := fun_mk (st := s_is_word) l4 c4 k4
  have F5 := fun_mk (st := s_add) l5 c5 k5
  have F6 := fun_mk (st := s_scaled) l6 c6 k6
  have F7 := fun_mk (st := s_dot) l7 c7 k7
  have F8 := fun_mk (st := s_reduced) l8 c8 k8
  have F9 := fun_mk (st := s__cleared) l9 c9 k9
  have F10 := fun_mk (st := s_kernel) l10 c10 k10
  have F11 := fun_mk (st := s__kernel_word) l11 c11 k11
  have F12 := fun_mk (st := s_written) l12 c12 k12
  have F13 := fun_mk (st := s_read_word) l13 c13 k13
  have F14 := fun_mk (st := s_is_prime) l14 c14 k14
  have F15 := fun_mk (st := s_check_rows) l15 c15 k15
  have F16 := fun_mk (st := s_Code___init__) l16 c16 k16
  have F17 := fun_mk (st := s_Code___eq__) l17 c17 k17
  have F18 := fun_mk (st := s__written_rows) l18 c18 k18
  have F19 := fun_mk (st := s_Code___str__) l19 c19 k19
  have F20 := fun_mk (st := s_Code_size) l20 c20 k20
  have F21 := fun_mk (st := s_Code_syndrome) l21 c21 k21
  have F22 := fun_mk (st := s_Code_holds) l22 c22 k22
  have F23 := fun_mk (st := s_Code_words) l23 c23 k23
  have F24 := fun_mk (st := s__spanned) l24 c24 k24
  have F25 := fun_mk (st := s_read_code) l25 c25 k25
  have F26 := fun_mk (st := s__law_state) l26 c26 k26
  have F27 := fun_mk (st := s__law_take) l27 c27 k27
  have F28 := fun_mk (st := s__law_sum) l28 c28 k28
  have F29 := fun_mk (st := s__law_scaled) l29 c29 k29
  have F30 := fun_mk (st := s__law_span) l30 c30 k30
  have F31 := fun_mk (st := s__law_all) l31 c31 k31
  have F32 := fun_mk (st := s__law_word) l32 c32 k32
  have F33 := fun_mk (st := s__law_prime) l33 c33 k33
  have F34 := fun_mk (st := s__law_rows) l34 c34 k34
  have F35 := fun_mk (st := s_law) l35 c35 k35
  have b1 := F1.binds (ps := ["value"]) fun _ _ _ _ _ _ us hl => match us, hl with | [_], _ => rfl
  have b2 := F2.binds (ps := ["a", "p"]) fun _ _ _ _ _ _ us hl => match us, hl with | [_, _], _ => rfl
  have b3 := F3.binds (ps := ["a", "k"]) fun _ _ _ _ _ _ us hl => match us, hl with | [_, _], _ => rfl
  have b4 := F4.binds (ps := ["value", "p", "n"]) fun _ _ _ _ _ _ us hl => match us, hl with | [_, _, _], _ => rfl
  have b5 := F5.binds (ps := ["v", "w", "p"]) fun _ _ _ _ _ _ us hl => match us, hl with | [_, _, _], _ => rfl
  have b6 := F6.binds (ps := ["v", "a", "p"]) fun _ _ _ _ _ _ us hl => match us, hl with | [_, _, _], _ => rfl
  have b7 := F7.binds (ps := ["v", "w", "p"]) fun _ _ _ _ _ _ us hl => match us, hl with | [_, _, _], _ => rfl
  have b8 := F8.binds (ps := ["rows", "width", "p"]) fun _ _ _ _ _ _ us hl => match us, hl with | [_, _, _], _ => rfl
  have b9 := F9.binds (ps := ["row", "head", "at", "p"]) fun _ _ _ _ _ _ us hl => match us, hl with | [_, _, _, _], _ => rfl
  have b10 := F10.binds (ps := ["rows", "width", "p"]) fun _ _ _ _ _ _ us hl => match us, hl with | [_, _, _], _ => rfl
  have b11 := F11.binds (ps := ["table", "pivots", "free", "width", "p"]) fun _ _ _ _ _ _ us hl => match us, hl with | [_, _, _, _, _], _ => rfl
  have b12 := F12.binds (ps := ["word"]) fun _ _ _ _ _ _ us hl => match us, hl with | [_], _ => rfl
  have b13 := F13.binds (ps := ["text", "p"]) fun _ _ _ _ _ _ us hl => match us, hl with | [_, _], _ => rfl
  have b14 := F14.binds (ps := ["p"]) fun _ _ _ _ _ _ us hl => match us, hl with | [_], _ => rfl
  have b15 := F15.binds (ps := ["p", "n", "rows"]) fun _ _ _ _ _ _ us hl => match us, hl with | [_, _, _], _ => rfl
  have b16 := F16.binds (ps := ["self", "p", "n", "rows"]) fun _ _ _ _ _ _ us hl => match us, hl with | [_, _, _, _], _ => rfl
  have b17 := F17.binds (ps := ["self", "other"]) fun _ _ _ _ _ _ us hl => match us, hl with | [_, _], _ => rfl
  have b18 := F18.binds (ps := ["rows"]) fun _ _ _ _ _ _ us hl => match us, hl with | [_], _ => rfl
  have b19 := F19.binds (ps := ["self"]) fun _ _ _ _ _ _ us hl => match us, hl with | [_], _ => rfl
  have b20 := F20.binds (ps := ["self"]) fun _ _ _ _ _ _ us hl => match us, hl with | [_], _ => rfl
  have b21 := F21.binds (ps := ["self", "word"]) fun _ _ _ _ _ _ us hl => match us, hl with | [_, _], _ => rfl
  have b22 := F22.binds (ps := ["self", "value"]) fun _ _ _ _ _ _ us hl => match us, hl with | [_, _], _ => rfl
  have b23 := F23.binds (ps := ["self"]) fun _ _ _ _ _ _ us hl => match us, hl with | [_], _ => rfl
  have b24 := F24.binds (ps := ["text"]) fun _ _ _ _ _ _ us hl => match us, hl with | [_], _ => rfl
  have b25 := F25.binds (ps := ["text"]) fun _ _ _ _ _ _ us hl => match us, hl with | [_], _ => rfl
  have b26 := F26.binds (ps := ["script"]) fun _ _ _ _ _ _ us hl => match us, hl with | [_], _ => rfl
  have b27 := F27.binds (ps := ["state", "m"]) fun _ _ _ _ _ _ us hl => match us, hl with | [_, _], _ => rfl
  have b28 := F28.binds (ps := ["v", "w", "p"]) fun _ _ _ _ _ _ us hl => match us, hl with | [_, _, _], _ => rfl
  have b29 := F29.binds (ps := ["v", "a", "p"]) fun _ _ _ _ _ _ us hl => match us, hl with | [_, _, _], _ => rfl
  have b30 := F30.binds (ps := ["rows", "n", "p"]) fun _ _ _ _ _ _ us hl => match us, hl with | [_, _, _], _ => rfl
  have b31 := F31.binds (ps := ["n", "p"]) fun _ _ _ _ _ _ us hl => match us, hl with | [_, _], _ => rfl
  have b32 := F32.binds (ps := ["state", "n", "p"]) fun _ _ _ _ _ _ us hl => match us, hl with | [_, _, _], _ => rfl
  have b33 := F33.binds (ps := ["state"]) fun _ _ _ _ _ _ us hl => match us, hl with | [_], _ => rfl
  have b34 := F34.binds (ps := ["state", "n", "p", "most"]) fun _ _ _ _ _ _ us hl => match us, hl with | [_, _, _, _], _ => rfl
  refine ⟨PySem.W.fnOf "law" "law" (defArgs s_law) (defBody s_law) (defScope s_law) .none kV35 dc35 pm35 an35 cd35 ct35, fun s v => .of_eq rfl, fun base _ _ => ?_⟩
  have cl_Code : Cls K CC := ⟨pg_Code, hd_Code, po_Code, sa_Code⟩
  have ic_Code : IsC K CC := ⟨cl_Code, ica_Code, icn_Code, ict_Code, icm_Code⟩
  have gm_Code := PySem.W.mg_of X G gC_Code
  have na_Code__checks := zna_Code__checks
  have na_Code_k := zna_Code_k
  have na_Code_n := zna_Code_n
  have na_Code_p := zna_Code_p
  have na_Code_rows := zna_Code_rows
  have nc_Code : NeC K CC := ⟨ncs_Code, ncm_Code⟩
  have nt_Code_NoneType : NotT K CC "NoneType" := ⟨ntf_Code_NoneType, ntk_Code_NoneType⟩
  have nt_Code_str : NotT K CC "str" := ⟨ntf_Code_str, ntk_Code_str⟩
  have k__PRIMES : KTup K mg "_PRIMES" [.int 2, .int 3, .int 5, .int 7] := ⟨q__PRIMES, dd__PRIMES, _, n__PRIMES, sl__PRIMES, [V.int 2, V.int 3, V.int 5, V.int 7], PySem.W.mg_of X G zt__PRIMES, lt__PRIMES, (show 4 ≤ sizeLine by decide), (.cons ⟨_, rfl⟩ (.cons ⟨_, rfl⟩ (.cons ⟨_, rfl⟩ (.cons ⟨_, rfl⟩ .nil)))), fun F => (.cons (.int _) (.cons (.int _) (.cons (.int _) (.cons (.int _) .nil))))⟩
  have T_Refused : OexC K CR := ⟨⟨nm_Refused, qn_Refused, N_Refused, bs_Refused, _, sn_Refused, sub_Refused, ab_Refused, col_Refused, dd_Refused, m0_Refused, m1_Refused, m2_Refused, m3_Refused, m5_Refused, xC_Refused, rfl⟩, sa_Refused, eC_Refused, tC_Refused, kC_Refused⟩
  have hcl_Refused : ∃ cd, PySem.W.clsIn K CR = some cd := by
    obtain ⟨cd, hc, _⟩ := PySem.W.any_some hC_Refused
    exact ⟨cd, hc⟩
  have SF_Refused : SupF l.prog K mg fI_Refused cda_Refused cc_Refused CR CR (defScope s_init_Refused) "self" := ⟨⟨_, _, _, _, _, lI_Refused, rfl, rfl⟩, ⟨_, _, _, _, _, _, lc_Refused, lf_Refused, lq_Refused⟩, ⟨_, _, _, cl_Refused⟩, hcl_Refused, mC_Refused, up_Refused, bsv_Refused, an_, PySem.W.mg_none_of X G zS, rfl, rfl, rfl, tp⟩
  have R_Refused : RaS l.prog w K mg base "Refused" CR "reason" := ⟨T_Refused, ⟨fI_Refused, _, aI_Refused, tI_Refused, ok_init_Refused lI_Refused cI_Refused cl_Refused SF_Refused T_Refused nr_Refused, .all fun us hl => match us, hl with | [_, _], _ => rfl⟩, PySem.W.mg_of X G gC_Refused, ⟨ga_Refused, gg_Refused, eC_Refused, hC_Refused⟩, nr_Refused, PySem.W.exm_ref eC_Refused hC_Refused tC_Refused sC_Refused⟩
  have R_Malformed : RaN l.prog w K mg base "Malformed" CM := ⟨PySem.W.mg_of X G gC_Malformed, kC_Malformed, xC_Malformed, eC_Malformed, tC_Malformed, PySem.W.exm_ref eC_Malformed hC_Malformed tC_Malformed sC_Malformed⟩
  have T_NoText : OexC K CT := ⟨⟨nm_NoText, qn_NoText, N_NoText, bs_NoText, _, sn_NoText, sub_NoText, ab_NoText, col_NoText, dd_NoText, m0_NoText, m1_NoText, m2_NoText, m3_NoText, m5_NoText, xC_NoText, rfl⟩, sa_NoText, eC_NoText, tC_NoText, kC_NoText⟩
  have hcl_NoText : ∃ cd, PySem.W.clsIn K CT = some cd := by
    obtain ⟨cd, hc, _⟩ := PySem.W.any_some hC_NoText
    exact ⟨cd, hc⟩
  have SF_NoText : SupF l.prog K mg fI_NoText cda_NoText cc_NoText CT CT (defScope s_init_NoText) "self" := ⟨⟨_, _, _, _, _, lI_NoText, rfl, rfl⟩, ⟨_, _, _, _, _, _, lc_NoText, lf_NoText, lq_NoText⟩, ⟨_, _, _, cl_NoText⟩, hcl_NoText, mC_NoText, up_NoText, bsv_NoText, an_, PySem.W.mg_none_of X G zS, rfl, rfl, rfl, tp⟩
  have R_NoText : RaI l.prog w K mg base "NoText" CT "at" := ⟨T_NoText, ⟨fI_NoText, _, aI_NoText, tI_NoText, ok_init_NoText lI_NoText cI_NoText cl_NoText SF_NoText T_NoText nr_NoText, .all fun us hl => match us, hl with | [_, _], _ => rfl⟩, PySem.W.mg_of X G gC_NoText, ⟨ga_NoText, gg_NoText, eC_NoText, hC_NoText⟩, nr_NoText, PySem.W.exm_ref eC_NoText hC_NoText tC_NoText sC_NoText⟩
  have R_Fault : RaN l.prog w K mg base "Fault" CB := ⟨PySem.W.mg_of X G gC_Fault, kC_Fault, xC_Fault, eC_Fault, tC_Fault, PySem.W.exm_ref eC_Fault hC_Fault tC_Fault sC_Fault⟩
  have C_is_integer : Cal l.prog w K mg base "is_integer" 1 ["value"] (spD K 1 Fisint) := ⟨f1, _, Lq.FnOk.toF (ok_is_integer (P := l.prog) (w := w) (mg := mg) (base := base) F1 (h_bool := h_bool) (h_int := h_int) (h_isinstance := h_isinstance)) (fun ds h => Lq.run_is_integer ds h), PySem.W.mg_of X G a1, k1, b1⟩
  have C_inverse : Cal l.prog w K mg base "inverse" 1 ["a", "p"] (spD K 2 Finverse) := ⟨f2, _, Lq.FnOk.toF (ok_inverse (P := l.prog) (w := w) (mg := mg) (base := base) F2 (h_range := h_range)) (fun ds h => Lq.run_inverse ds h), PySem.W.mg_of X G a2, k2, b2⟩
  have C_power : Cal l.prog w K mg base "power" 1 ["a", "k"] (spD K 2 Fpow) := ⟨f3, _, Lq.FnOk.toF (ok_power (P := l.prog) (w := w) (mg := mg) (base := base) F3 ) (fun ds h => Lq.run_power ds h), PySem.W.mg_of X G a3, k3, b3⟩
  have C_add : Cal l.prog w K mg base "add" 1 ["v", "w", "p"] (spD K 3 FaddW) := ⟨f5, _, Lq.FnOk.toF (ok_add (P := l.prog) (w := w) (mg := mg) (base := base) F5 (h_tuple := h_tuple) (h_zip := h_zip)) (fun ds h => Lq.run_add ds h), PySem.W.mg_of X G a5, k5, b5⟩
  have C_scaled : Cal l.prog w K mg base "scaled" 1 ["v", "a", "p"] (spD K 3 FscW) := ⟨f6, _, Lq.FnOk.toF (ok_scaled (P := l.prog) (w := w) (mg := mg) (base := base) F6 (h_tuple := h_tuple)) (fun ds h => Lq.run_scaled ds h), PySem.W.mg_of X G a6, k6, b6⟩
  have C_dot : Cal l.prog w K mg base "dot" 1 ["v", "w", "p"] (spD K 3 Fdot) := ⟨f7, _, Lq.FnOk.toF (ok_dot (P := l.prog) (w := w) (mg := mg) (base := base) F7 (h_sum := h_sum) (h_zip := h_zip)) (fun ds h => Lq.run_dot ds h), PySem.W.mg_of X G a7, k7, b7⟩
  have C__kernel_word : Cal l.prog w K mg base "_kernel_word" 1 ["table", "pivots", "free", "width", "p"] (spD K 5 Fkword) := ⟨f11, _, Lq.FnOk.toF (ok__kernel_word (P := l.prog) (w := w) (mg := mg) (base := base) F11 (h_tuple := h_tuple) (h_zip := h_zip)) (fun ds h => Lq.run__kernel_word ds h), PySem.W.mg_of X G a11, k11, b11⟩
  have C_written : Cal l.prog w K mg base "written" 1 ["word"] (spD K 1 Fwritten) := ⟨f12, _, Lq.FnOk.toF (ok_written (P := l.prog) (w := w) (mg := mg) (base := base) F12 (h_len := h_len) (h_str := h_str)) (fun ds h => Lq.run_written ds h), PySem.W.mg_of X G a12, k12, b12⟩
  have CQ_Code : CalQ l.prog w K mg base CC 1 ["self", "other"] (Feq07 CC) := ⟨f17, _, Lq.FnOk.toF (ok_Code___eq__ (P := l.prog) (w := w) (mg := mg) (base := base) F17 (h_isinstance := h_isinstance) (cl_Code := cl_Code) (na_Code_n := na_Code_n) (na_Code_p := na_Code_p) (na_Code_rows := na_Code_rows) (ic_Code := ic_Code) (gm_Code := gm_Code) (nt_Code_NoneType := nt_Code_NoneType) (nt_Code_str := nt_Code_str)) (fun _ _ => rfl), a17, i17, b17⟩
  have C__law_state : Cal l.prog w K mg base "_law_state" 1 ["script"] (spN K 1 Fstate) := ⟨f26, _, Lq.FnOk.toN (ok__law_state (P := l.prog) (w := w) (mg := mg) (base := base) F26 (h_abs := h_abs) (h_int := h_int)) (fun _ _ => rfl), PySem.W.mg_of X G a26, k26, b26⟩
  have C__law_take : Cal l.prog w K mg base "_law_take" 1 ["state", "m"] (spM K 1 Ftake) := ⟨f27, _, Lq.FnOk.toM (ok__law_take (P := l.prog) (w := w) (mg := mg) (base := base) F27 (h_int := h_int)) (fun xs ds h => Lq.run__law_take xs ds h), PySem.W.mg_of X G a27, k27, b27⟩
  have C__law_sum : Cal l.prog w K mg base "_law_sum" 1 ["v", "w", "p"] (spD K 3 FaddW) := ⟨f28, _, Lq.FnOk.toF (ok__law_sum (P := l.prog) (w := w) (mg := mg) (base := base) F28 (h_int := h_int) (h_len := h_len) (h_range := h_range) (h_tuple := h_tuple)) (fun ds h => Lq.run__law_sum ds h), PySem.W.mg_of X G a28, k28, b28⟩
  have C__law_scaled : Cal l.prog w K mg base "_law_scaled" 1 ["v", "a", "p"] (spD K 3 FscW) := ⟨f29, _, Lq.FnOk.toF (ok__law_scaled (P := l.prog) (w := w) (mg := mg) (base := base) F29 (h_int := h_int) (h_tuple := h_tuple)) (fun ds h => Lq.run__law_scaled ds h), PySem.W.mg_of X G a29, k29, b29⟩
  have C__law_all : Cal l.prog w K mg base "_law_all" 1 ["n", "p"] (spD K 2 Fall) := ⟨f31, _, Lq.FnOk.toF (ok__law_all (P := l.prog) (w := w) (mg := mg) (base := base) F31 (h_list := h_list) (h_range := h_range)) (fun ds h => Lq.run__law_all ds h), PySem.W.mg_of X G a31, k31, b31⟩
  have C_is_word : Cal l.prog w K mg base "is_word" 2 ["value", "p", "n"] (spD K 3 Fisword) := ⟨f4, _, Lq.FnOk.toF (ok_is_word (P := l.prog) (w := w) (mg := mg) (base := base) F4 (h_all := h_all) (h_isinstance := h_isinstance) (h_len := h_len) (h_tuple := h_tuple) (c_is_integer := C_is_integer)) (fun ds h => Lq.run_is_word ds h), PySem.W.mg_of X G a4, k4, b4⟩
  have C__cleared : Cal l.prog w K mg base "_cleared" 2 ["row", "head", "at", "p"] (spD K 4 Fcleared) := ⟨f9, _, Lq.FnOk.toF (ok__cleared (P := l.prog) (w := w) (mg := mg) (base := base) F9 (c_add := C_add) (c_scaled := C_scaled)) (fun ds h => Lq.run__cleared ds h), PySem.W.mg_of X G a9, k9, b9⟩
  have C_is_prime : Cal l.prog w K mg base "is_prime" 2 ["p"] (spD K 1 Fisprime) := ⟨f14, _, Lq.FnOk.toF (ok_is_prime (P := l.prog) (w := w) (mg := mg) (base := base) F14 (k__PRIMES := k__PRIMES) (c_is_integer := C_is_integer)) (fun _ _ => rfl), PySem.W.mg_of X G a14, k14, b14⟩
  have C__written_rows : Cal l.prog w K mg base "_written_rows" 2 ["rows"] (spD K 1 Fwrows) := ⟨f18, _, Lq.FnOk.toF (ok__written_rows (P := l.prog) (w := w) (mg := mg) (base := base) F18 (c_written := C_written)) (fun _ _ => rfl), PySem.W.mg_of X G a18, k18, b18⟩
  have CM_Code_size : CalM l.prog w K mg base CC "size" 2 ["self"] (spD K 1 (Fsize07 CC)) := ⟨f20, _, Lq.FnOk.toF (ok_Code_size (P := l.prog) (w := w) (mg := mg) (base := base) F20 (cl_Code := cl_Code) (na_Code_k := na_Code_k) (na_Code_p := na_Code_p) (c_power := C_power)) (fun _ _ => rfl), cl_Code, ⟨a20, i20, k20⟩, b20⟩
  have CY_Code_words : CalY l.prog w K mg base CC "words" 2 ["self"] (Fwords CC) := ⟨f23, _, ok_Code_words (P := l.prog) (w := w) (mg := mg) (base := base) F23 (h_range := h_range) (cl_Code := cl_Code) (na_Code_n := na_Code_n) (na_Code_p := na_Code_p) (na_Code_rows := na_Code_rows) (c_add := C_add) (c_scaled := C_scaled), cl_Code, ⟨a23, i23, k23⟩, b23⟩
  have C__law_span : Cal l.prog w K mg base "_law_span" 2 ["rows", "n", "p"] (spD K 3 Fspan) := ⟨f30, _, Lq.FnOk.toF (ok__law_span (P := l.prog) (w := w) (mg := mg) (base := base) F30 (h_list := h_list) (h_range := h_range) (h_sorted := h_sorted) (h_tuple := h_tuple) (c__law_sum := C__law_sum) (c__law_scaled := C__law_scaled)) (fun ds h => Lq.run__law_span ds h), PySem.W.mg_of X G a30, k30, b30⟩
  have C__law_word : Cal l.prog w K mg base "_law_word" 2 ["state", "n", "p"] (spM K 2 Fword) := ⟨f32, _, Lq.FnOk.toM (ok__law_word (P := l.prog) (w := w) (mg := mg) (base := base) F32 (h_range := h_range) (h_tuple := h_tuple) (c__law_take := C__law_take)) (fun xs ds h => Lq.run__law_word xs ds h), PySem.W.mg_of X G a32, k32, b32⟩
  have C__law_prime : Cal l.prog w K mg base "_law_prime" 2 ["state"] (spM K 0 Fprime) := ⟨f33, _, Lq.FnOk.toM (ok__law_prime (P := l.prog) (w := w) (mg := mg) (base := base) F33 (c__law_take := C__law_take)) (fun xs ds h => Lq.run__law_prime xs ds h), PySem.W.mg_of X G a33, k33, b33⟩
  have C_reduced : Cal l.prog w K mg base "reduced" 3 ["rows", "width", "p"] (spD K 3 Freduced) := ⟨f8, _, Lq.FnOk.toF (ok_reduced (P := l.prog) (w := w) (mg := mg) (base := base) F8 (h_range := h_range) (h_tuple := h_tuple) (c__cleared := C__cleared) (c_scaled := C_scaled) (c_inverse := C_inverse)) (fun ds h => Lq.run_reduced ds h), PySem.W.mg_of X G a8, k8, b8⟩
  have C_read_word : Cal l.prog w K mg base "read_word" 3 ["text", "p"] (spD K 2 (Fread CT)) := ⟨f13, _, Lq.FnOk.toF (ok_read_word (P := l.prog) (w := w) (mg := mg) (base := base) F13 (h__DIGITS := h__DIGITS) (h_all := h_all) (h_isinstance := h_isinstance) (h_str := h_str) (h_tuple := h_tuple) (R_NoText := R_NoText)) (fun ds h => Lq.run_read_word CT ds h), PySem.W.mg_of X G a13, k13, b13⟩
  have C_check_rows : Cal l.prog w K mg base "check_rows" 3 ["p", "n", "rows"] (spD K 3 (Fchk CM CR)) := ⟨f15, _, Lq.FnOk.toF (ok_check_rows (P := l.prog) (w := w) (mg := mg) (base := base) F15 (h__LONGEST := h__LONGEST) (h_all := h_all) (h_isinstance := h_isinstance) (h_list := h_list) (h_tuple := h_tuple) (R_Malformed := R_Malformed) (R_Refused := R_Refused) (c_is_word := C_is_word) (c_is_integer := C_is_integer) (c_is_prime := C_is_prime)) (fun _ _ => rfl), PySem.W.mg_of X G a15, k15, b15⟩
  have CS_Code : CalS l.prog w K mg base CC 3 ["self"] (Fstr07 CC) := ⟨f19, _, Lq.FnOk.toF (ok_Code___str__ (P := l.prog) (w := w) (mg := mg) (base := base) F19 (cl_Code := cl_Code) (na_Code_n := na_Code_n) (na_Code_p := na_Code_p) (na_Code_rows := na_Code_rows) (c__written_rows := C__written_rows)) (fun _ _ => rfl), a19, i19, b19⟩
  have CM_Code_syndrome : CalM l.prog w K mg base CC "syndrome" 3 ["self", "word"] (spD K 2 (Fsynd CC CM)) := ⟨f21, _, Lq.FnOk.toF (ok_Code_syndrome (P := l.prog) (w := w) (mg := mg) (base := base) F21 (h_tuple := h_tuple) (R_Malformed := R_Malformed) (cl_Code := cl_Code) (na_Code__checks := na_Code__checks) (na_Code_n := na_Code_n) (na_Code_p := na_Code_p) (c_dot := C_dot) (c_is_word := C_is_word)) (fun _ _ => rfl), cl_Code, ⟨a21, i21, k21⟩, b21⟩
  have C__law_rows : Cal l.prog w K mg base "_law_rows" 3 ["state", "n", "p", "most"] (spM K 3 Frows) := ⟨f34, _, Lq.FnOk.toM (ok__law_rows (P := l.prog) (w := w) (mg := mg) (base := base) F34 (h_range := h_range) (c__law_take := C__law_take) (c__law_word := C__law_word)) (fun xs ds h => Lq.run__law_rows xs ds h), PySem.W.mg_of X G a34, k34, b34⟩
  have C_kernel : Cal l.prog w K mg base "kernel" 4 ["rows", "width", "p"] (spD K 3 Fkernel) := ⟨f10, _, Lq.FnOk.toF (ok_kernel (P := l.prog) (w := w) (mg := mg) (base := base) F10 (h_range := h_range) (h_tuple := h_tuple) (c__kernel_word := C__kernel_word) (c_reduced := C_reduced)) (fun ds h => Lq.run_kernel ds h), PySem.W.mg_of X G a10, k10, b10⟩
  have CM_Code_holds : CalM l.prog w K mg base CC "holds" 4 ["self", "value"] (spD K 2 (Fholds CC CM)) := ⟨f22, _, Lq.FnOk.toF (ok_Code_holds (P := l.prog) (w := w) (mg := mg) (base := base) F22 (h_any := h_any) (cl_Code := cl_Code) (na_Code_n := na_Code_n) (na_Code_p := na_Code_p) (cm_Code_syndrome := CM_Code_syndrome) (c_is_word := C_is_word)) (fun _ _ => rfl), cl_Code, ⟨a22, i22, k22⟩, b22⟩
  have CI_Code : CalI l.prog w K mg base "Code" CC 5 ["self", "p", "n", "rows"] 3 (Finit CC CM CR) := ⟨f16, _, ok_Code___init__ (P := l.prog) (w := w) (mg := mg) (base := base) F16 (h__MOST_WORDS := h__MOST_WORDS) (h_len := h_len) (R_Refused := R_Refused) (cl_Code := cl_Code) (na_Code__checks := na_Code__checks) (na_Code_k := na_Code_k) (na_Code_n := na_Code_n) (na_Code_p := na_Code_p) (na_Code_rows := na_Code_rows) (c_kernel := C_kernel) (c_power := C_power) (c_reduced := C_reduced) (c_check_rows := C_check_rows), ⟨mk_Code, a16, i16, kp_Code⟩, PySem.W.mg_of X G gC_Code, b16⟩
  have C__spanned : Cal l.prog w K mg base "_spanned" 7 ["text"] (spD K 1 (Fspanned CC CM CR CT)) := ⟨f24, _, Lq.FnOk.toF (ok__spanned (P := l.prog) (w := w) (mg := mg) (base := base) F24 (h__LONGEST := h__LONGEST) (k__PRIMES := k__PRIMES) (h_int := h_int) (h_range := h_range) (h_str := h_str) (R_NoText := R_NoText) (ci_Code := CI_Code) (c_read_word := C_read_word)) (fun _ _ => rfl), PySem.W.mg_of X G a24, k24, b24⟩
  have C_read_code : Cal l.prog w K mg base "read_code" 8 ["text"] (spD K 1 (Fcread CB CC CM CR CT)) := ⟨f25, _, Lq.FnOk.toF (ok_read_code (P := l.prog) (w := w) (mg := mg) (base := base) F25 (h_isinstance := h_isinstance) (h_str := h_str) (R_Fault := R_Fault) (R_NoText := R_NoText) (cs_Code := CS_Code) (c__spanned := C__spanned)) (fun _ _ => rfl), PySem.W.mg_of X G a25, k25, b25⟩
  exact ok_law (P := l.prog) (w := w) (mg := mg) (base := base) F35 (h_int := h_int) (h_isinstance := h_isinstance) (h_len := h_len) (h_list := h_list) (h_str := h_str) (h_tuple := h_tuple) (cl_Code := cl_Code) (na_Code_k := na_Code_k) (na_Code_n := na_Code_n) (na_Code_p := na_Code_p) (na_Code_rows := na_Code_rows) (nt_Code_NoneType := nt_Code_NoneType) (nt_Code_str := nt_Code_str) (nc_Code := nc_Code) (cs_Code := CS_Code) (cq_Code := CQ_Code) (cm_Code_holds := CM_Code_holds) (cm_Code_size := CM_Code_size) (cy_Code_words := CY_Code_words) (ci_Code := CI_Code) (c__law_span := C__law_span) (c__law_take := C__law_take) (c__law_sum := C__law_sum) (c__law_rows := C__law_rows) (c_read_code := C_read_code) (c__law_all := C__law_all) (c__law_prime := C__law_prime) (c__law_state := C__law_state)
end
end K07
open PySem PySem.W PyProof.Rows L2 in
set_option maxRecDepth 100000 in
set_option maxHeartbeats 0 in
theorem PySem.Challenge.cw_weightkeepers_k07_codes_holds : PySem.Challenge.rw_weightkeepers_k07_codes.Holds := by
  w_on; o_law; k_head; (case hw => w_witness2)
  k_fill
  refine L2.walk_of (l := PySem.Challenge.rw_weightkeepers_k07_codes) (n := 63) (k := 9) (x := "script") (CX := fun w => L2.CX (PySem.Challenge.rw_weightkeepers_k07_codes).prog w) (sp := fun w => Lq.spLaw _) rfl (by decide) rfl ⟨rfl, by decide, by decide⟩ (fun w h Y => PySem.W.kIn_of Y) ?F (fun _ _ a ns hl _ hS => ⟨a, ns, rfl, hS, hl, fun _ => rfl⟩) (fun _ _ _ _ _ ⟨_, _, _, _, _, _, _, _, _, _, _, _, z⟩ => z)
  case F =>
    intro w mg fa h KX G hmg
    refine' K07.all_mk KX G hmg ?a1 ?l1 ?c1 ?k1 ?a2 ?l2 ?c2 ?k2 ?a3 ?l3 ?c3 ?k3 ?a4 ?l4 ?c4 ?k4 ?a5 ?l5 ?c5 ?k5 ?a6 ?l6 ?c6 ?k6 ?a7 ?l7 ?c7 ?k7 ?a8 ?l8 ?c8 ?k8 ?a9 ?l9 ?c9 ?k9 ?a10 ?l10 ?c10 ?k10 ?a11 ?l11 ?c11 ?k11 ?a12 ?l12 ?c12 ?k12 ?a13 ?l13 ?c13 ?k13 ?a14 ?l14 ?c14 ?k14 ?a15 ?l15 ?c15 ?k15 ?a16 ?l16 ?c16 ?k16 ?i16 ?a17 ?l17 ?c17 ?k17 ?i17 ?a18 ?l18 ?c18 ?k18 ?a19 ?l19 ?c19 ?k19 ?i19 ?a20 ?l20 ?c20 ?k20 ?i20 ?a21 ?l21 ?c21 ?k21 ?i21 ?a22 ?l22 ?c22 ?k22 ?i22 ?a23 ?l23 ?c23 ?k23 ?i23 ?a24 ?l24 ?c24 ?k24 ?a25 ?l25 ?c25 ?k25 ?a26 ?l26 ?c26 ?k26 ?a27 ?l27 ?c27 ?k27 ?a28 ?l28 ?c28 ?k28 ?a29 ?l29 ?c29 ?k29 ?a30 ?l30 ?c30 ?k30 ?a31 ?l31 ?c31 ?k31 ?a32 ?l32 ?c32 ?k32 ?a33 ?l33 ?c33 ?k33 ?a34 ?l34 ?c34 ?k34 ?a35 ?l35 ?c35 ?k35 ?z__DIGITS ?z__LONGEST ?z__MOST_WORDS ?z_abs ?z_all ?z_any ?z_bool ?z_int ?z_isinstance ?z_len ?z_list ?z_range ?z_sorted ?z_str ?z_sum ?z_tuple ?z_zip ?zS ?an_ ?tp ?gC_Refused ?xC_Refused ?sa_Refused ?ga_Refused ?gg_Refused ?nr_Refused ?eC_Refused ?tC_Refused ?kC_Refused ?hC_Refused ?sC_Refused ?aI_Refused ?tI_Refused ?lI_Refused ?cI_Refused ?lc_Refused ?lf_Refused ?lq_Refused ?cl_Refused ?mC_Refused ?up_Refused ?bsv_Refused ?gC_Malformed ?xC_Malformed ?eC_Malformed ?tC_Malformed ?kC_Malformed ?hC_Malformed ?sC_Malformed ?gC_NoText ?xC_NoText ?sa_NoText ?ga_NoText ?gg_NoText ?nr_NoText ?eC_NoText ?tC_NoText ?kC_NoText ?hC_NoText ?sC_NoText ?aI_NoText ?tI_NoText ?lI_NoText ?cI_NoText ?lc_NoText ?lf_NoText ?lq_NoText ?cl_NoText ?mC_NoText ?up_NoText ?bsv_NoText ?gC_Fault ?xC_Fault ?eC_Fault ?tC_Fault ?kC_Fault ?hC_Fault ?sC_Fault ?gC_Code ?pg_Code ?hd_Code ?po_Code ?sa_Code ?mk_Code ?kp_Code ?ica_Code ?icn_Code ?ict_Code ?icm_Code ?zna_Code__checks ?zna_Code_k ?zna_Code_n ?zna_Code_p ?zna_Code_rows ?ncs_Code ?ncm_Code ?ntf_Code_NoneType ?ntk_Code_NoneType ?ntf_Code_str ?ntk_Code_str ?zt__PRIMES ?lt__PRIMES
    (case gC_Refused => k_is)
    (case gC_Malformed => k_is)
    (case gC_NoText => k_is)
    (case gC_Fault => k_is)
    (case gC_Code => k_is)
    (case a1 => k_is)
    (case l1 => k_is)
    (case c1 => k_is)
    (case k1 => k_is)
    (case a2 => k_is)
    (case l2 => k_is)
    (case c2 => k_is)
    (case k2 => k_is)
    (case a3 => k_is)
    (case l3 => k_is)
    (case c3 => k_is)
    (case k3 => k_is)
    (case a4 => k_is)
    (case l4 => k_is)
    (case c4 => k_is)
    (case k4 => k_is)
    (case a5 => k_is)
    (case l5 => k_is)
    (case c5 => k_is)
    (case k5 => k_is)
    (case a6 => k_is)
    (case l6 => k_is)
    (case c6 => k_is)
    (case k6 => k_is)
    (case a7 => k_is)
    (case l7 => k_is)
    (case c7 => k_is)
    (case k7 => k_is)
    (case a8 => k_is)
    (case l8 => k_is)
    (case c8 => k_is)
    (case k8 => k_is)
    (case a9 => k_is)
    (case l9 => k_is)
    (case c9 => k_is)
    (case k9 => k_is)
    (case a10 => k_is)
    (case l10 => k_is)
    (case c10 => k_is)
    (case k10 => k_is)
    (case a11 => k_is)
    (case l11 => k_is)
    (case c11 => k_is)
    (case k11 => k_is)
    (case a12 => k_is)
    (case l12 => k_is)
    (case c12 => k_is)
    (case k12 => k_is)
    (case a13 => k_is)
    (case l13 => k_is)
    (case c13 => k_is)
    (case k13 => k_is)
    (case a14 => k_is)
    (case l14 => k_is)
    (case c14 => k_is)
    (case k14 => k_is)
    (case a15 => k_is)
    (case l15 => k_is)
    (case c15 => k_is)
    (case k15 => k_is)
    (case a16 => k_is)
    (case l16 => k_is)
    (case c16 => k_is)
    (case k16 => k_is)
    (case i16 => k_is)
    (case a17 => k_is)
    (case l17 => k_is)
    (case c17 => k_is)
    (case k17 => k_is)
    (case i17 => k_is)
    (case a18 => k_is)
    (case l18 => k_is)
    (case c18 => k_is)
    (case k18 => k_is)
    (case a19 => k_is)
    (case l19 => k_is)
    (case c19 => k_is)
    (case k19 => k_is)
    (case i19 => k_is)
    (case a20 => k_is)
    (case l20 => k_is)
    (case c20 => k_is)
    (case k20 => k_is)
    (case i20 => k_is)
    (case a21 => k_is)
    (case l21 => k_is)
    (case c21 => k_is)
    (case k21 => k_is)
    (case i21 => k_is)
    (case a22 => k_is)
    (case l22 => k_is)
    (case c22 => k_is)
    (case k22 => k_is)
    (case i22 => k_is)
    (case a23 => k_is)
    (case l23 => k_is)
    (case c23 => k_is)
    (case k23 => k_is)
    (case i23 => k_is)
    (case a24 => k_is)
    (case l24 => k_is)
    (case c24 => k_is)
    (case k24 => k_is)
    (case a25 => k_is)
    (case l25 => k_is)
    (case c25 => k_is)
    (case k25 => k_is)
    (case a26 => k_is)
    (case l26 => k_is)
    (case c26 => k_is)
    (case k26 => k_is)
    (case a27 => k_is)
    (case l27 => k_is)
    (case c27 => k_is)
    (case k27 => k_is)
    (case a28 => k_is)
    (case l28 => k_is)
    (case c28 => k_is)
    (case k28 => k_is)
    (case a29 => k_is)
    (case l29 => k_is)
    (case c29 => k_is)
    (case k29 => k_is)
    (case a30 => k_is)
    (case l30 => k_is)
    (case c30 => k_is)
    (case k30 => k_is)
    (case a31 => k_is)
    (case l31 => k_is)
    (case c31 => k_is)
    (case k31 => k_is)
    (case a32 => k_is)
    (case l32 => k_is)
    (case c32 => k_is)
    (case k32 => k_is)
    (case a33 => k_is)
    (case l33 => k_is)
    (case c33 => k_is)
    (case k33 => k_is)
    (case a34 => k_is)
    (case l34 => k_is)
    (case c34 => k_is)
    (case k34 => k_is)
    (case a35 => k_is)
    (case l35 => k_is)
    (case c35 => k_is)
    (case k35 => k_is)
    (case z__DIGITS => k_is)
    (case z__LONGEST => k_is)
    (case z__MOST_WORDS => k_is)
    (case z_abs => k_is)
    (case z_all => k_is)
    (case z_any => k_is)
    (case z_bool => k_is)
    (case z_int => k_is)
    (case z_isinstance => k_is)
    (case z_len => k_is)
    (case z_list => k_is)
    (case z_range => k_is)
    (case z_sorted => k_is)
    (case z_str => k_is)
    (case z_sum => k_is)
    (case z_tuple => k_is)
    (case z_zip => k_is)
    (case zS => k_is)
    (case an_ => k_is)
    (case tp => first | rfl | decide +kernel)
    (case xC_Refused => k_is)
    (case sa_Refused => k_is)
    (case ga_Refused => k_is)
    (case gg_Refused => k_is)
    (case nr_Refused => k_is)
    (case eC_Refused => k_is)
    (case tC_Refused => k_is)
    (case kC_Refused => k_is)
    (case hC_Refused => k_is)
    (case sC_Refused => first | k_is | rfl)
    (case aI_Refused => k_is)
    (case tI_Refused => k_is)
    (case lI_Refused => k_is)
    (case cI_Refused => k_is)
    (case lc_Refused => k_is)
    (case lf_Refused => rfl)
    (case lq_Refused => first | rfl | decide +kernel)
    (case cl_Refused => k_is)
    (case mC_Refused => first | k_is | rfl)
    (case up_Refused => first | k_is | rfl | decide +kernel)
    (case bsv_Refused => k_is)
    (case xC_Malformed => k_exc)
    (case eC_Malformed => k_is)
    (case tC_Malformed => k_is)
    (case kC_Malformed => k_is)
    (case hC_Malformed => k_is)
    (case sC_Malformed => first | k_is | rfl)
    (case xC_NoText => k_is)
    (case sa_NoText => k_is)
    (case ga_NoText => k_is)
    (case gg_NoText => k_is)
    (case nr_NoText => k_is)
    (case eC_NoText => k_is)
    (case tC_NoText => k_is)
    (case kC_NoText => k_is)
    (case hC_NoText => k_is)
    (case sC_NoText => first | k_is | rfl)
    (case aI_NoText => k_is)
    (case tI_NoText => k_is)
    (case lI_NoText => k_is)
    (case cI_NoText => k_is)
    (case lc_NoText => k_is)
    (case lf_NoText => rfl)
    (case lq_NoText => first | rfl | decide +kernel)
    (case cl_NoText => k_is)
    (case mC_NoText => first | k_is | rfl)
    (case up_NoText => first | k_is | rfl | decide +kernel)
    (case bsv_NoText => k_is)
    (case xC_Fault => k_exc)
    (case eC_Fault => k_is)
    (case tC_Fault => k_is)
    (case kC_Fault => k_is)
    (case hC_Fault => k_is)
    (case sC_Fault => first | k_is | rfl)
    (case pg_Code => k_is)
    (case hd_Code => k_is)
    (case po_Code => k_is)
    (case sa_Code => k_is)
    (case mk_Code => k_is)
    (case kp_Code => k_is)
    (case ica_Code => k_is)
    (case icn_Code => k_is)
    (case ict_Code => k_is)
    (case icm_Code => k_is)
    (case zna_Code__checks => k_is)
    (case zna_Code_k => k_is)
    (case zna_Code_n => k_is)
    (case zna_Code_p => k_is)
    (case zna_Code_rows => k_is)
    (case ncs_Code => k_is)
    (case ncm_Code => k_is)
    (case ntf_Code_NoneType => k_is)
    (case ntk_Code_NoneType => kit_is)
    (case ntf_Code_str => k_is)
    (case ntk_Code_str => kit_is)
    (case zt__PRIMES => k_is)
    (case lt__PRIMES => k_is)
    all_goals exact (0 : Tok)



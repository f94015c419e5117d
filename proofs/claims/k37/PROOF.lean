import PyProof.Rows.All
import Wide.All
import OpenK.AllK
import Wide.FinOn
import HandS.ForMost
import HandS.Evl
import HandS.Zip
import HandS.Exc
import HandS.ExcOwn
import HandS.TryOnly
import HandS.WordsExc
import HandS.TupAny
import HandS.IsInst
import HandS.Style
import HandS.Deep
import HandS.Wide
import HandS.Steps
import HandS.Walk
import HandS.TupSets
import HandS.Conv
import HandS.SortRule
import KE.KDictDisplayH
import KE.SortData
import HandS.TupMul
import KE.KMathGC
import HandS.Gcd
import KE.KSuper
import KE.KExcSuper
import HandS.ExcInit
import HandS.ExcIs
import HandS.ExcField
import KE.KSortTup
import HandS.FStr
import HandS.TryMany
import HandS.Iter
import HandS.GenList
import PyProof.Rows.CallKwBuiltin
import KE.DataMinMax
import KE.DataAny
import HandS.OwnEq
import HandS.RevRange
import HandS.SortInts
import KE.OsSort
import KE.DataCmp
import PySem.Challenge.RW_weightkeepers_k37_duals_of_cyclic_codes
set_option Elab.async false
set_option linter.all false
set_option maxRecDepth 100000
set_option maxHeartbeats 4000000
namespace Lq
open PySem PySem.Spec PyProof.Rows L2
open Evl (Ex)

inductive Dt where
  | non | bl (b : Bool) | int (i : Int) | str (x : Str) | lst (xs : List Dt) | tup (xs : List Dt) | obj (C : Addr) (ks : List Str) (xs : List Dt)
  /-- a list (false) or a tuple (true) that is only read: the script, a constant of a module -/
  | scr (t : Bool) (xs : List Dt)

def TupAt (K : PySem.W.Frag) (F : Hp) (a : Addr) (xs : List V) : Prop := F a = some (.tup xs)
theorem TupAt.up {K : PySem.W.Frag} {F F' : Hp} {a : Addr} {xs : List V} (h : TupAt K F a xs) (e : Ex F F') : TupAt K F' a xs := e _ _ h
theorem TupAt.sq {K : PySem.W.Frag} {F : Hp} {a : Addr} {xs : List V} (h : TupAt K F a xs) : SqT K F a xs := .inl (.inl h)

def SqB (K : PySem.W.Frag) (F : Hp) (t : Bool) (a : Addr) (xs : List V) : Prop := if t = true then SqT K F a xs else SqL K F a xs
theorem SqB.up {K : PySem.W.Frag} {F F' : Hp} {t : Bool} {a : Addr} {xs : List V} (h : SqB K F t a xs) (e : Ex F F') : SqB K F' t a xs := by
  unfold SqB at *
  cases t with
  | true => exact Evl.ex_t e h
  | false => exact Evl.ex_l e h
mutual
inductive Rp (K : PySem.W.Frag) (F : Hp) : V → Dt → Prop
  | non : Rp K F .non .non
  | bl (b : Bool) : Rp K F (.bl b) (.bl b)
  | int (i : Int) : Rp K F (.int i) (.int i)
  | str (x : Str) : Rp K F (.str x) (.str x)
  | lst {a : Addr} {xs : List V} {ds : List Dt} : F a = some (.lst xs) → RpA K F xs ds → Rp K F (.ref a) (.lst ds)
  | tup {a : Addr} {xs : List V} {ds : List Dt} : TupAt K F a xs → RpA K F xs ds → Rp K F (.ref a) (.tup ds)
  | obj {a C dx : Addr} {fs : List (Str × V)} {ks : List Str} {ds : List Dt} : F a = some (.ins C dx fs) → fs.map (·.1) = ks → RpA K F (fs.map (·.2)) ds → Rp K F (.ref a) (.obj C ks ds)
  | scr {a : Addr} {xs : List V} {ds : List Dt} (t : Bool) : SqB K F t a xs → RpA K F xs ds → Rp K F (.ref a) (.scr t ds)
inductive RpA (K : PySem.W.Frag) (F : Hp) : List V → List Dt → Prop
  | nil : RpA K F [] []
  | cons {v : V} {vs : List V} {d : Dt} {ds : List Dt} : Rp K F v d → RpA K F vs ds → RpA K F (v :: vs) (d :: ds)
end
mutual
theorem Rp.mono {K : PySem.W.Frag} {F F' : Hp} (e : Ex F F') : ∀ (d : Dt) (v : V), Rp K F v d → Rp K F' v d
  | .non, _, h => by cases h; exact .non
  | .bl b, _, h => by cases h; exact .bl _
  | .int i, _, h => by cases h; exact .int _
  | .str x, _, h => by cases h; exact .str _
  | .lst ds, _, h => by
    cases h with
    | lst hs ha => exact .lst (e _ _ hs) (RpA.mono e ds _ ha)
  | .tup ds, _, h => by
    cases h with
    | tup hs ha => exact .tup (hs.up e) (RpA.mono e ds _ ha)
  | .obj C ks ds, _, h => by
    cases h with
    | obj hs hk ha => exact .obj (e _ _ hs) hk (RpA.mono e ds _ ha)
  | .scr t ds, _, h => by
    cases h with
    | scr _ hs ha => exact .scr t (hs.up e) (RpA.mono e ds _ ha)
theorem RpA.mono {K : PySem.W.Frag} {F F' : Hp} (e : Ex F F') : ∀ (ds : List Dt) (vs : List V), RpA K F vs ds → RpA K F' vs ds
  | [], _, h => by cases h; exact .nil
  | d :: ds, _, h => by
    cases h with
    | cons h1 h2 => exact .cons (Rp.mono e d _ h1) (RpA.mono e ds _ h2)
end
section
variable {K : PySem.W.Frag} {F : Hp} {vs ws : List V} {ds es : List Dt}
theorem Rp.up {F' : Hp} {d : Dt} {v : V} (h : Rp K F v d) (e : Ex F F') : Rp K F' v d := Rp.mono e d v h
theorem RpA.up {F' : Hp} (h : RpA K F vs ds) (e : Ex F F') : RpA K F' vs ds := RpA.mono e ds vs h
theorem RpA.length : ∀ {vs : List V} {ds : List Dt}, RpA K F vs ds → vs.length = ds.length
  | _, _, .nil => rfl
  | _, _, .cons _ t => by simp [RpA.length t]
theorem RpA.get : ∀ {vs : List V} {ds : List Dt} {i : Nat} {d : Dt}, RpA K F vs ds → ds[i]? = some d → ∃ v, vs[i]? = some v ∧ Rp K F v d
  | _, _, i, _, .nil, h => by simp at h
  | _, _, 0, _, .cons h1 _, h => by simp at h; subst h; exact ⟨_, rfl, h1⟩
  | _, _, i + 1, _, .cons _ t, h => by
    obtain ⟨v, q, r⟩ := RpA.get (i := i) t (by simpa using h)
    exact ⟨v, by simpa using q, r⟩
theorem RpA.getv : ∀ {vs : List V} {ds : List Dt} {i : Nat} {v : V}, RpA K F vs ds → vs[i]? = some v → ∃ d, ds[i]? = some d ∧ Rp K F v d
  | _, _, i, _, .nil, h => by simp at h
  | _, _, 0, _, .cons h1 _, h => by simp at h; subst h; exact ⟨_, rfl, h1⟩
  | _, _, i + 1, _, .cons _ t, h => by
    obtain ⟨v, q, r⟩ := RpA.getv (i := i) t (by simpa using h)
    exact ⟨v, by simpa using q, r⟩
theorem RpA.app : ∀ {vs ws : List V} {ds es : List Dt}, RpA K F vs ds → RpA K F ws es → RpA K F (vs ++ ws) (ds ++ es)
  | _, _, _, _, .nil, h => h
  | _, _, _, _, .cons h1 h2, h => .cons h1 (RpA.app h2 h)
theorem RpA.snoc {v : V} {d : Dt} (h : RpA K F vs ds) (h1 : Rp K F v d) : RpA K F (vs ++ [v]) (ds ++ [d]) := h.app (.cons h1 .nil)
theorem RpA.set : ∀ {vs : List V} {ds : List Dt} {v : V} {d : Dt} (i : Nat), RpA K F vs ds → Rp K F v d → RpA K F (vs.set i v) (ds.set i d)
  | _, _, _, _, _, .nil, _ => .nil
  | _, _, _, _, 0, .cons _ t, h => .cons h t
  | _, _, _, _, i + 1, .cons q t, h => .cons q (RpA.set i t h)
theorem RpA.take : ∀ {vs : List V} {ds : List Dt} (n : Nat), RpA K F vs ds → RpA K F (vs.take n) (ds.take n)
  | _, _, 0, _ => .nil
  | _, _, _ + 1, .nil => .nil
  | _, _, n + 1, .cons r t => .cons r (RpA.take n t)
theorem RpA.drop : ∀ {vs : List V} {ds : List Dt} (n : Nat), RpA K F vs ds → RpA K F (vs.drop n) (ds.drop n)
  | _, _, 0, r => r
  | _, _, _ + 1, .nil => .nil
  | _, _, n + 1, .cons _ t => RpA.drop n t
theorem RpA.rev : ∀ {vs : List V} {ds : List Dt}, RpA K F vs ds → RpA K F vs.reverse ds.reverse
  | _, _, .nil => .nil
  | _, _, .cons r t => by
    rw [List.reverse_cons, List.reverse_cons]
    exact (RpA.rev t).snoc r
theorem RpA.ints : ∀ ns : List Int, RpA K F (ns.map V.int) (ns.map Dt.int)
  | [] => .nil
  | n :: ns => .cons (.int n) (RpA.ints ns)
theorem Rp.intv {v : V} {i : Int} (h : Rp K F v (.int i)) : v = .int i := by cases h; rfl
theorem Rp.blv {v : V} {i : Bool} (h : Rp K F v (.bl i)) : v = .bl i := by cases h; rfl
theorem RpA.intsv : ∀ {vs : List V} {ns : List Int}, RpA K F vs (ns.map Dt.int) → vs = ns.map V.int
  | _, [], .nil => rfl
  | _, n :: ns, .cons h t => by rw [h.intv, RpA.intsv t]; rfl
end

inductive Sv where | no | im (d : Dt) | mu (k : Nat)
inductive Ob where | ls (xs : List Dt) | dc (kvs : List (List Int × Dt)) | io (C : Addr) (ks : List Str) (ds : List Dt)
inductive Mo where | ob (c : Ob) | fz (d : Dt)
structure Ms where
  sl : List Sv
  mo : List Mo := []
structure Er where
  C : Addr
  ks : List Str
  ds : List Dt
theorem nrfl0 {α : Type} {a b : α} (h : a = b) : a = b := h
inductive R (α : Type) where | ok (a : α) (s : Ms) | er (e : Er) (s : Ms) | no
def R.bind {α β : Type} : R α → (α → Ms → R β) → R β
  | .ok a s, f => f a s
  | .er e s, _ => .er e s
  | .no, _ => .no
@[simp] theorem R.bind_ok {α β : Type} (a : α) (s : Ms) (f : α → Ms → R β) : (R.ok a s).bind f = f a s := nrfl0 rfl
@[simp] theorem R.bind_er {α β : Type} (e : Er) (s : Ms) (f : α → Ms → R β) : (R.er e s : R α).bind f = .er e s := nrfl0 rfl
@[simp] theorem R.bind_no {α β : Type} (f : α → Ms → R β) : (R.no : R α).bind f = .no := nrfl0 rfl
def R.of {α : Type} (o : Option α) (s : Ms) : R α := match o with | some a => .ok a s | none => .no
@[simp] theorem R.of_some {α : Type} (a : α) (s : Ms) : R.of (some a) s = .ok a s := nrfl0 rfl
@[simp] theorem R.of_none {α : Type} (s : Ms) : R.of (none : Option α) s = .no := nrfl0 rfl

def SvR (K : PySem.W.Frag) (F : Hp) (as : List Addr) : Option V → Sv → Prop
  | _, .no => True
  | some v, .im d => Rp K F v d
  | some v, .mu k => ∃ a, as[k]? = some a ∧ v = .ref a
  | none, .im _ => False
  | none, .mu _ => False
inductive ObR (K : PySem.W.Frag) (F : Hp) : HO → Ob → Prop
  | ls {vs : List V} {ds : List Dt} : RpA K F vs ds → ObR K F (.lst vs) (.ls ds)
  | dc {ws : List (List Key × V)} {kvs : List (List Int × Dt)} : Paired (fun p q => p.1 = q.1.map Sum.inl ∧ Rp K F p.2 q.2) ws kvs → ObR K F (.dT ws) (.dc kvs)
  | io {C dx : Addr} {fs : List (Str × V)} {ks : List Str} {ds : List Dt} : fs.map (·.1) = ks → RpA K F (fs.map (·.2)) ds → ObR K F (.ins C dx fs) (.io C ks ds)
theorem ObR.up {K : PySem.W.Frag} {F F' : Hp} {o : HO} {c : Ob} (h : ObR K F o c) (e : Ex F F') : ObR K F' o c := by
  cases h with
  | ls h => exact .ls (h.up e)
  | dc h => exact .dc (h.mono fun _ _ q => ⟨q.1, q.2.up e⟩)
  | io h1 h2 => exact .io h1 (h2.up e)
def NT : HO → Prop | .tup _ => False | _ => True
theorem ObR.nt {K : PySem.W.Frag} {F : Hp} {o : HO} {c : Ob} (h : ObR K F o c) : NT o := by cases h <;> trivial
def MoR (K : PySem.W.Frag) (B F H : Hp) (a : Addr) : Mo → Prop
  | .ob c => B a = none ∧ F a = none ∧ ∃ o, H a = some o ∧ ObR K F o c
  | .fz d => (∃ o, F a = some o) ∧ Rp K F (.ref a) d
structure Rep (K : PySem.W.Frag) (B F H : Hp) (as : List Addr) (σ : L2.St) (S : Ms) : Prop where
  fh : Ex F H
  bh : ∀ a o, B a = some o → H a = some o ∧ F a = none ∧ NT o
  sl : Paired (SvR K F as) σ S.sl
  mo : Paired (MoR K B F H) as S.mo
  nd : as.Nodup
def Ext (F F' : Hp) (as as' : List Addr) : Prop := Ex F F' ∧ ∃ t, as' = as ++ t
theorem Ext.refl {F : Hp} {as : List Addr} : Ext F F as as := ⟨Ex.refl F, [], by simp⟩
theorem Ext.trans {F F1 F2 : Hp} {as as1 as2 : List Addr} (a : Ext F F1 as as1) (b : Ext F1 F2 as1 as2) : Ext F F2 as as2 := by
  obtain ⟨a1, t, rfl⟩ := a
  obtain ⟨b1, u, rfl⟩ := b
  exact ⟨a1.trans b1, t ++ u, by simp⟩

theorem pairedGet {α β : Type} {G : α → β → Prop} : ∀ {xs : List α} {ys : List β} {i : Nat} {y : β}, Paired G xs ys → ys[i]? = some y → ∃ x, xs[i]? = some x ∧ G x y
  | _, _, i, _, .nil, h => by simp at h
  | _, _, 0, _, .cons r _, h => by simp at h; subst h; exact ⟨_, rfl, r⟩
  | _, _, i + 1, _, .cons _ t, h => by
    obtain ⟨x, q, r⟩ := pairedGet (i := i) t (by simpa using h)
    exact ⟨x, by simpa using q, r⟩
theorem pairedGetL {α β : Type} {G : α → β → Prop} : ∀ {xs : List α} {ys : List β} {i : Nat} {x : α}, Paired G xs ys → xs[i]? = some x → ∃ y, ys[i]? = some y ∧ G x y
  | _, _, i, _, .nil, h => by simp at h
  | _, _, 0, _, .cons r _, h => by simp at h; subst h; exact ⟨_, rfl, r⟩
  | _, _, i + 1, _, .cons _ t, h => by
    obtain ⟨x, q, r⟩ := pairedGetL (i := i) t (by simpa using h)
    exact ⟨x, by simpa using q, r⟩
theorem pairedSet {α β : Type} {G : α → β → Prop} {x : α} {y : β} : ∀ {xs : List α} {ys : List β} (i : Nat), Paired G xs ys → G x y → Paired G (xs.set i x) (ys.set i y)
  | _, _, _, .nil, _ => .nil
  | _, _, 0, .cons _ t, h => .cons h t
  | _, _, i + 1, .cons q t, h => .cons q (pairedSet i t h)
theorem pairedAt {α β : Type} {G G' : α → β → Prop} {y : β} : ∀ {xs : List α} {ys : List β} (i : Nat), Paired G xs ys → (∀ (j : Nat) (x : α) (z : β), j ≠ i → xs[j]? = some x → ys[j]? = some z → G x z → G' x z) → (∀ x, xs[i]? = some x → G' x y) → Paired G' xs (ys.set i y)
  | _, _, _, .nil, _, _ => .nil
  | x :: xs, z :: ys, 0, .cons r t, h, h1 => by
    refine .cons (h1 x rfl) ?_
    have : ∀ {xs : List α} {ys : List β}, Paired G xs ys → (∀ (j : Nat) (x : α) (z : β), xs[j]? = some x → ys[j]? = some z → G x z → G' x z) → Paired G' xs ys := by
      intro xs ys p
      induction p with
      | nil => intro _; exact .nil
      | cons q _ ih => exact fun k => .cons (k 0 _ _ rfl rfl q) (ih fun j x z a b => k (j + 1) x z (by simpa using a) (by simpa using b))
    exact this t fun j x z a b => h (j + 1) x z (by omega) (by simpa using a) (by simpa using b)
  | x :: xs, z :: ys, i + 1, .cons r t, h, h1 => by
    refine .cons (h 0 x z (by omega) rfl rfl r) ?_
    exact pairedAt i t (fun j x z hj a b => h (j + 1) x z (by omega) (by simpa using a) (by simpa using b)) fun x a => h1 x (by simpa using a)

section
variable {K : PySem.W.Frag} {B F H F' H' : Hp} {as as' : List Addr} {σ : L2.St} {S S' : Ms}
theorem SvR.up {o : Option V} {s : Sv} (h : SvR K F as o s) (e : Ext F F' as as') : SvR K F' as' o s := by
  obtain ⟨e1, t, rfl⟩ := e
  cases s with
  | no => trivial
  | im d =>
    cases o with
    | none => exact h
    | some v => exact Rp.up h e1
  | mu k =>
    cases o with
    | none => exact h
    | some v =>
      obtain ⟨a, q, rfl⟩ := h
      exact ⟨a, by rw [List.getElem?_append_left]; exact q; exact (List.getElem?_eq_some_iff.mp q).1, rfl⟩
theorem Rep.live (r : Rep K B F H as σ S) {a : Addr} (h : a ∈ as) : ∃ o, H a = some o := by
  obtain ⟨i, q⟩ := List.mem_iff_getElem?.mp h
  obtain ⟨y, _, z⟩ := pairedGetL r.mo q
  cases y with
  | ob ds =>
    obtain ⟨_, _, vs, z, _⟩ := z
    exact ⟨_, z⟩
  | fz d =>
    obtain ⟨⟨o, z⟩, _⟩ := z
    exact ⟨o, r.fh _ _ z⟩
theorem Rep.fresh (r : Rep K B F H as σ S) {p : Addr} (h : H p = none) : F p = none ∧ B p = none ∧ p ∉ as := by
  refine ⟨?_, ?_, fun z => ?_⟩
  · cases q : F p with
    | none => rfl
    | some o => rw [r.fh _ _ q] at h; cases h
  · cases q : B p with
    | none => rfl
    | some o => rw [(r.bh _ _ q).1] at h; cases h
  · obtain ⟨o, q⟩ := r.live z
    rw [q] at h; cases h
theorem Rep.new (r : Rep K B F H as σ S) {p : Addr} (h : H p = none) (o : HO) : Ext F (upd F p o) as as ∧ Rep K B (upd F p o) (upd H p o) as σ S := by
  obtain ⟨f1, f2, f3⟩ := r.fresh h
  have e : Ex F (upd F p o) := Ex.new f1
  have ee : Ext F (upd F p o) as as := ⟨e, [], by simp⟩
  refine ⟨ee, fun a u hu => ?_, fun a u hu => ?_, r.sl.mono fun _ _ q => SvR.up q ee, ?_, r.nd⟩
  · by_cases q : a = p
    · subst q
      rw [upd_same] at hu ⊢
      exact hu
    · rw [upd_ne q] at hu ⊢
      exact r.fh _ _ hu
  · obtain ⟨q1, q2, q3⟩ := r.bh a u hu
    have n : a ≠ p := by
      rintro rfl
      rw [h] at q1; cases q1
    rw [upd_ne n, upd_ne n]
    exact ⟨q1, q2, q3⟩
  · refine r.mo.mono fun a m q => ?_
    cases m with
    | ob ds =>
      obtain ⟨q1, q2, vs, q3, q4⟩ := q
      have n : a ≠ p := by
        rintro rfl
        rw [h] at q3; cases q3
      exact ⟨q1, by rw [upd_ne n]; exact q2, vs, by rw [upd_ne n]; exact q3, q4.up e⟩
    | fz d =>
      obtain ⟨⟨u, q1⟩, q2⟩ := q
      exact ⟨⟨u, e _ _ q1⟩, q2.up e⟩
theorem Rep.freeze (r : Rep K B F H as σ S) {k : Nat} {ds : List Dt} (h : S.mo[k]? = some (.ob (.ls ds))) : ∃ a F1, as[k]? = some a ∧ Ext F F1 as as ∧ Rep K B F1 H as σ { S with mo := S.mo.set k (.fz (.lst ds)) } ∧ Rp K F1 (.ref a) (.lst ds) := by
  obtain ⟨a, ha, q1, q2, ob, q3, q4⟩ := pairedGet r.mo h
  cases q4
  rename_i vs q4
  have e : Ex F (upd F a (.lst vs)) := Ex.new q2
  have ee : Ext F (upd F a (.lst vs)) as as := ⟨e, [], by simp⟩
  have rr : Rp K (upd F a (.lst vs)) (.ref a) (.lst ds) := .lst upd_same (q4.up e)
  refine ⟨a, _, ha, ee, ⟨fun b u hu => ?_, fun b u hu => ?_, r.sl.mono fun _ _ q => SvR.up q ee, ?_, r.nd⟩, rr⟩
  · by_cases q : b = a
    · subst q
      rw [upd_same] at hu
      rw [q3]; exact hu
    · rw [upd_ne q] at hu
      exact r.fh _ _ hu
  · obtain ⟨z1, z2, z3⟩ := r.bh b u hu
    have n : b ≠ a := by
      rintro rfl
      rw [q1] at hu; cases hu
    rw [upd_ne n]
    exact ⟨z1, z2, z3⟩
  · refine pairedAt k r.mo (fun j b m hj hb hm q => ?_) fun b hb => ?_
    · cases m with
      | ob ds =>
        obtain ⟨z1, z2, ws, z3, z4⟩ := q
        have n : b ≠ a := fun z => by
          subst z
          exact hj (nd_ix r.nd hb ha)
        exact ⟨z1, by rw [upd_ne n]; exact z2, ws, z3, z4.up e⟩
      | fz d =>
        obtain ⟨⟨u, z1⟩, z2⟩ := q
        exact ⟨⟨u, e _ _ z1⟩, z2.up e⟩
    · rw [ha] at hb
      cases hb
      exact ⟨⟨_, upd_same⟩, rr⟩
theorem Rep.newL (r : Rep K B F H as σ S) {p : Addr} {o : HO} {c : Ob} (f1 : F p = none) (f2 : B p = none) (f3 : p ∉ as) (hp : H p = some o) (hv : ObR K F o c) : Ext F F as (as ++ [p]) ∧ Rep K B F H (as ++ [p]) σ { S with mo := S.mo ++ [.ob c] } := by
  have ee : Ext F F as (as ++ [p]) := ⟨Ex.refl F, [p], rfl⟩
  refine ⟨ee, r.fh, r.bh, r.sl.mono fun _ _ q => SvR.up q ee, r.mo.snoc ⟨f2, f1, o, hp, hv⟩, ?_⟩
  rw [List.nodup_append]
  exact ⟨r.nd, by simp, fun a ha b hb => by simp at hb; subst hb; rintro rfl; exact f3 ha⟩
theorem Rep.put (r : Rep K B F H as σ S) {k : Nat} {a : Addr} {o : HO} {c0 c : Ob} (h : S.mo[k]? = some (.ob c0)) (ha : as[k]? = some a) (hv : ObR K F o c) : Rep K B F (upd H a o) as σ { S with mo := S.mo.set k (.ob c) } := by
  obtain ⟨a', ha', q1, q2, ws, q3, q4⟩ := pairedGet r.mo h
  rw [ha] at ha'
  cases ha'
  refine ⟨fun b u hu => ?_, fun b u hu => ?_, r.sl, ?_, r.nd⟩
  · have n : b ≠ a := by
      rintro rfl
      rw [q2] at hu; cases hu
    rw [upd_ne n]
    exact r.fh _ _ hu
  · obtain ⟨z1, z2, z3⟩ := r.bh b u hu
    have n : b ≠ a := by
      rintro rfl
      rw [q1] at hu; cases hu
    rw [upd_ne n]
    exact ⟨z1, z2, z3⟩
  · refine pairedAt k r.mo (fun j b m hj hb hm q => ?_) fun b hb => ?_
    · cases m with
      | ob ds =>
        obtain ⟨z1, z2, ws, z3, z4⟩ := q
        have n : b ≠ a := fun z => by
          subst z
          exact hj (nd_ix r.nd hb ha)
        exact ⟨z1, z2, ws, by rw [upd_ne n]; exact z3, z4⟩
      | fz d => exact q
    · rw [ha] at hb
      cases hb
      exact ⟨q1, q2, o, upd_same, hv⟩
theorem Rep.slot (r : Rep K B F H as σ S) (i : Nat) {v : V} {s : Sv} (h : SvR K F as (some v) s) : Rep K B F H as (σ.set i (some v)) { S with sl := S.sl.set i s } :=
  ⟨r.fh, r.bh, pairedSet i r.sl h, r.mo, r.nd⟩
end

def DictR (H : Hp) (dx : Option Addr) (fs : List (Str × V)) : Prop := match dx with | some d => H d = some (.xd fs) | none => fs = []
theorem DictR.some {H : Hp} {dx : Option Addr} {fs : List (Str × V)} (h : DictR H dx fs) (hf : fs ≠ []) : ∃ d, dx = some d ∧ H d = some (.xd fs) := by
  cases dx with
  | none => exact absurd h hf
  | some d => exact ⟨d, rfl, h⟩
section
variable (K : PySem.W.Frag) (W : WX) (B F : Hp) (as : List Addr) (σ : L2.St)
def OutE (e : Er) (S' : Ms) : Prop := ∀ F' H' as' dx fs, Ext F F' as as' → Rep K B F' H' as' σ S' → DictR H' dx fs → fs.map (·.1) = e.ks → RpA K F' (fs.map (·.2)) e.ds → W (.ref e.C) dx σ H'
def Out {α : Type} (r : R α) (Q : α → Hp → Hp → List Addr → Ms → Prop) : Prop := match r with
  | .ok a S' => ∀ F' H' as', Ext F F' as as' → Rep K B F' H' as' σ S' → Q a F' H' as' S'
  | .er e S' => OutE K W B F as σ e S'
  | .no => False
end
theorem Out.bind {K : PySem.W.Frag} {W : WX} {B F : Hp} {as : List Addr} {σ : L2.St} {α β : Type} {r : R α} {g : α → Ms → R β} {Q : β → Hp → Hp → List Addr → Ms → Prop} (h : Out K W B F as σ (r.bind g) Q) :
    Out K W B F as σ r fun a F1 H1 as1 S1 => Rep K B F1 H1 as1 σ S1 ∧ Ext F F1 as as1 ∧ Out K W B F1 as1 σ (g a S1) Q := by
  cases r with
  | ok a S1 =>
    intro F1 H1 as1 e1 r1
    refine ⟨r1, e1, ?_⟩
    have h : Out K W B F as σ (g a S1) Q := h
    revert h
    cases g a S1 with
    | ok b S2 => exact fun h F2 H2 as2 e2 r2 => h F2 H2 as2 (e1.trans e2) r2
    | er e S2 => exact fun h F2 H2 as2 dx fs e2 r2 => h F2 H2 as2 dx fs (e1.trans e2) r2
    | no => exact fun h => h
  | er e S1 => exact h
  | no => exact h
theorem Out.mono {K : PySem.W.Frag} {W : WX} {B F : Hp} {as : List Addr} {σ : L2.St} {α : Type} {r : R α} {Q Q' : α → Hp → Hp → List Addr → Ms → Prop} (h : Out K W B F as σ r Q) (hq : ∀ a F' H' as' S', Q a F' H' as' S' → Q' a F' H' as' S') : Out K W B F as σ r Q' := by
  cases r with
  | ok a S1 => exact fun F1 H1 as1 e1 r1 => hq _ _ _ _ _ (h F1 H1 as1 e1 r1)
  | er e S1 => exact h
  | no => exact h
theorem Out.now {K : PySem.W.Frag} {W : WX} {B F H : Hp} {as : List Addr} {σ : L2.St} {α : Type} {a : α} {S : Ms} {Q : α → Hp → Hp → List Addr → Ms → Prop} (h : Out K W B F as σ (.ok a S) Q) (r : Rep K B F H as σ S) : Q a F H as S := h F H as Ext.refl r

def tD (K : PySem.W.Frag) (W : WX) (f : Ms → R Dt) : TE := fun σ H Q => ∃ B F as S, Rep K B F H as σ S ∧ Out K W B F as σ (f S) fun d F' H' _ _ => ∀ v, Rp K F' v d → Q v H'
def tN (K : PySem.W.Frag) (W : WX) (f : Ms → R (List Dt)) : TE := fun σ H Q => ∃ B F as S, Rep K B F H as σ S ∧ Out K W B F as σ (f S) fun ds F' H' as' _ => ∀ p vs, F' p = none → B p = none → p ∉ as' → H' p = some (.lst vs) → RpA K F' vs ds → Q (.ref p) H'
def tT (K : PySem.W.Frag) (W : WX) (f : Ms → R Bool) : TT := fun σ H Q => ∃ B F as S, Rep K B F H as σ S ∧ Out K W B F as σ (f S) fun b _ H' _ _ => Q b H'
def tA (K : PySem.W.Frag) (W : WX) (f : Ms → R (List Dt)) : TA := fun σ H Q => ∃ B F as S, Rep K B F H as σ S ∧ Out K W B F as σ (f S) fun ds F' H' _ _ => ∀ vs, RpA K F' vs ds → Q vs H'

inductive O where | nx (s : Ms) | rt (d : Dt) (s : Ms) | bk (s : Ms) | ct (s : Ms) | er (e : Er) (s : Ms) | no
def OutS (K : PySem.W.Frag) (W : WX) (B F : Hp) (as : List Addr) (o : O) (D : Ends) : Prop := match o with
  | .nx S' => ∀ σ' F' H' as', Ext F F' as as' → Rep K B F' H' as' σ' S' → D.nx σ' H'
  | .rt d S' => ∀ σ' F' H' as' v, Ext F F' as as' → Rep K B F' H' as' σ' S' → Rp K F' v d → D.rt v H'
  | .bk S' => ∀ σ' F' H' as', Ext F F' as as' → Rep K B F' H' as' σ' S' → D.bk σ' H'
  | .ct S' => ∀ σ' F' H' as', Ext F F' as as' → Rep K B F' H' as' σ' S' → D.ct σ' H'
  | .er e S' => ∀ σ', OutE K W B F as σ' e S'
  | .no => False
def sD (K : PySem.W.Frag) (W : WX) (m : Ms → O) : TS := fun D σ H => ∃ B F as S, Rep K B F H as σ S ∧ OutS K W B F as (m S) D
theorem OutS.ext {K : PySem.W.Frag} {W : WX} {B F F1 : Hp} {as as1 : List Addr} {o : O} {D : Ends} (h : OutS K W B F as o D) (e : Ext F F1 as as1) : OutS K W B F1 as1 o D := by
  cases o with
  | nx S' => exact fun σ' F' H' as' e' r => h σ' F' H' as' (e.trans e') r
  | rt d S' => exact fun σ' F' H' as' v e' r => h σ' F' H' as' v (e.trans e') r
  | bk S' => exact fun σ' F' H' as' e' r => h σ' F' H' as' (e.trans e') r
  | ct S' => exact fun σ' F' H' as' e' r => h σ' F' H' as' (e.trans e') r
  | er x S' => exact fun σ' F' H' as' dx fs e' r => h σ' F' H' as' dx fs (e.trans e') r
  | no => exact h
def R.stmt {α : Type} : R α → (α → Ms → O) → O
  | .ok a s, f => f a s
  | .er e s, _ => .er e s
  | .no, _ => .no
@[simp] theorem R.stmt_ok {α : Type} (a : α) (s : Ms) (f : α → Ms → O) : (R.ok a s).stmt f = f a s := nrfl0 rfl
@[simp] theorem R.stmt_er {α : Type} (e : Er) (s : Ms) (f : α → Ms → O) : (R.er e s : R α).stmt f = .er e s := nrfl0 rfl
@[simp] theorem R.stmt_no {α : Type} (f : α → Ms → O) : (R.no : R α).stmt f = .no := nrfl0 rfl
def O.seq : O → (Ms → O) → O
  | .nx s, f => f s
  | .rt d s, _ => .rt d s
  | .bk s, _ => .bk s
  | .ct s, _ => .ct s
  | .er e s, _ => .er e s
  | .no, _ => .no
theorem OutS.stmt {K : PySem.W.Frag} {W : WX} {B F : Hp} {as : List Addr} {σ : L2.St} {α : Type} {r : R α} {g : α → Ms → O} {D : Ends} (h : OutS K W B F as (r.stmt g) D) :
    Out K W B F as σ r fun a F1 H1 as1 S1 => Rep K B F1 H1 as1 σ S1 ∧ Ext F F1 as as1 ∧ OutS K W B F1 as1 (g a S1) D := by
  cases r with
  | ok a S1 => exact fun F1 H1 as1 e1 r1 => ⟨r1, e1, OutS.ext h e1⟩
  | er e S1 => exact h σ
  | no => exact h
theorem OutS.seq {K : PySem.W.Frag} {W : WX} {B F : Hp} {as : List Addr} {o : O} {m : Ms → O} {D : Ends} (h : OutS K W B F as (o.seq m) D) : OutS K W B F as o { D with nx := sD K W m D } := by
  cases o with
  | nx S' => exact fun σ' F' H' as' e' r => ⟨B, F', as', S', r, OutS.ext h e'⟩
  | rt d S' => exact h
  | bk S' => exact h
  | ct S' => exact h
  | er e S' => exact h
  | no => exact h
theorem monoE {X : Cx} {e : Expr} {t t' : TE} (h : PE X e t) (m : ∀ σ H Q, t' σ H Q → t σ H Q) : PE X e t' := ⟨fun pins s σ H Q I q => h.run pins s σ H Q I (m σ H Q q)⟩
theorem monoT {X : Cx} {e : Expr} {t t' : TT} (h : PT X e t) (m : ∀ σ H Q, t' σ H Q → t σ H Q) : PT X e t' := ⟨fun pins s σ H Q I q => h.run pins s σ H Q I (m σ H Q q)⟩
theorem monoA {X : Cx} {e : List Expr} {t t' : TA} (h : PA X e t) (m : ∀ σ H Q, t' σ H Q → t σ H Q) : PA X e t' := ⟨fun pos pins s σ H Q I q => h.run pos pins s σ H Q I (m σ H Q q)⟩
theorem monoS {X : Cx} {st : Stmt} {t t' : TS} (h : PS X st t) (m : ∀ D σ H, t' D σ H → t D σ H) : PS X st t' := ⟨fun pins s σ H D I q => h.run pins s σ H D I (m D σ H q)⟩
theorem monoSs {X : Cx} {st : List Stmt} {t t' : TS} (h : PSs X st t) (m : ∀ D σ H, t' D σ H → t D σ H) : PSs X st t' := ⟨fun pins s σ H D I q => h.run pins s σ H D I (m D σ H q)⟩
theorem monoPT {X : Cx} {e : List Expr} {t t' : TT} (h : PTs X e t) (m : ∀ σ H Q, t' σ H Q → t σ H Q) : PTs X e t' := ⟨fun pins s σ H Q I q => h.run pins s σ H Q I (m σ H Q q)⟩
end Lq

namespace Lq
open PySem PySem.Spec PyProof.Rows L2
open Evl (Ex)

def Gv (K : PySem.W.Frag) (F H : Hp) (z : Dt) (Q : VK) : Prop :=
  (∀ u, Rp K F u z → Q u H) ∧ ∀ p o, H p = none → Rp K (upd F p o) (.ref p) z → Q (.ref p) (upd H p o)
def GvL (K : PySem.W.Frag) (F H : Hp) (z : List Dt) (Q : VK) : Prop := ∀ p vs, H p = none → RpA K F vs z → Q (.ref p) (upd H p (.lst vs))
theorem gv_of {K : PySem.W.Frag} {W : WX} {B F H : Hp} {as : List Addr} {σ : L2.St} {S : Ms} {z : Dt} {Q : VK} (h : Out K W B F as σ (.ok z S) fun d F' H' _ _ => ∀ v, Rp K F' v d → Q v H') (r : Rep K B F H as σ S) : Gv K F H z Q :=
  ⟨fun u hu => h F H as Ext.refl r u hu, fun p o hp hu => by
    obtain ⟨e1, r1⟩ := r.new hp o
    exact h _ _ as e1 r1 _ hu⟩
theorem gvl_of {K : PySem.W.Frag} {W : WX} {B F H : Hp} {as : List Addr} {σ : L2.St} {S : Ms} {z : List Dt} {Q : VK}
    (h : Out K W B F as σ (.ok z S) fun ds F' H' as' _ => ∀ p vs, F' p = none → B p = none → p ∉ as' → H' p = some (.lst vs) → RpA K F' vs ds → Q (.ref p) H') (r : Rep K B F H as σ S) : GvL K F H z Q := fun p vs hp hv => by
  obtain ⟨f1, f2, f3⟩ := r.fresh hp
  have r1 : Rep K B F (upd H p (.lst vs)) as σ S := by
    refine ⟨fun a o e => ?_, fun a o e => ?_, r.sl, r.mo.mono fun a m q => ?_, r.nd⟩
    · rw [upd_ne (ne_of_none (r.fh _ _ e) hp)]
      exact r.fh _ _ e
    · obtain ⟨z1, z2, z3⟩ := r.bh a o e
      exact ⟨by rw [upd_ne (ne_of_none z1 hp)]; exact z1, z2, z3⟩
    · cases m with
      | ob ds =>
        obtain ⟨z1, z2, ws, z3, z4⟩ := q
        exact ⟨z1, z2, ws, by rw [upd_ne (ne_of_none z3 hp)]; exact z3, z4⟩
      | fz d => exact q
  exact h F _ as Ext.refl r1 p vs f1 f2 f3 upd_same hv
def frz (f : Ms → R (List Dt)) : Ms → R Dt := fun S => (f S).bind fun ds S1 => .ok (.lst ds) S1
theorem frz_run {K : PySem.W.Frag} {W : WX} {f : Ms → R (List Dt)} {σ : L2.St} {H : Hp} {Q : VK} (q : tD K W (frz f) σ H Q) : tN K W f σ H Q := by
  obtain ⟨B, F, as, S, r, o⟩ := q
  refine ⟨B, F, as, S, r, Out.mono (Out.bind o) fun ds F' H' as' S' ⟨r1, e1, o1⟩ => ?_⟩
  intro p vs f1 f2 f3 hp hv
  have e : Ex F' (upd F' p (.lst vs)) := Ex.new f1
  have ee : Ext F' (upd F' p (.lst vs)) as' as' := ⟨e, [], by simp⟩
  refine o1 (upd F' p (.lst vs)) H' as' ee ⟨fun a u hu => ?_, fun a u hu => ?_, r1.sl.mono fun _ _ q => SvR.up q ee, ?_, r1.nd⟩ _ (.lst upd_same (hv.up e))
  · by_cases q : a = p
    · subst q
      rw [upd_same] at hu
      rw [hp]; exact hu
    · rw [upd_ne q] at hu
      exact r1.fh _ _ hu
  · have n : a ≠ p := by
      rintro rfl
      rw [f2] at hu; cases hu
    rw [upd_ne n]
    exact r1.bh a u hu
  · have : ∀ {xs : List Addr} {ys : List Mo}, (∀ a ∈ xs, a ≠ p) → Paired (MoR K B F' H') xs ys → Paired (MoR K B (upd F' p (.lst vs)) H') xs ys := by
      intro xs ys hn z
      induction z with
      | nil => exact .nil
      | @cons a b l1 l2 z zs ih =>
        refine .cons ?_ (ih fun a ha => hn a (List.mem_cons_of_mem _ ha))
        cases b with
        | ob ds =>
          obtain ⟨z1, z2, ws, z3, z4⟩ := z
          exact ⟨z1, by rw [upd_ne (hn _ List.mem_cons_self)]; exact z2, ws, z3, z4.up e⟩
        | fz d =>
          obtain ⟨⟨u, z1⟩, z2⟩ := z
          exact ⟨⟨u, e _ _ z1⟩, z2.up e⟩
    exact this (fun a ha z => f3 (z ▸ ha)) r1.mo
theorem de_frz {X : Cx} {W : WX} {e : Expr} {f : Ms → R (List Dt)} (h : PE X e (tN X.K W f)) : PE X e (tD X.K W (frz f)) := monoE h fun σ H Q q => frz_run q

def cE (d : Dt) : Ms → R Dt := fun S => .ok d S
def varE (i : Nat) : Ms → R Dt := fun S => match S.sl[i]? with
  | some (.im d) => .ok d S
  | some (.mu k) => match S.mo[k]? with
    | some (.ob (.ls xs)) => .ok (.lst xs) { S with mo := S.mo.set k (.fz (.lst xs)) }
    | some (.fz d) => .ok d S
    | _ => .no
  | _ => .no
section
variable {X : Cx} {W : WX} {a b c e : Expr} {pos : Pos}
theorem de_var {i : Nat} (h : PE X e (tVar i)) : PE X e (tD X.K W (varE i)) := monoE h fun σ H Q q => by
  obtain ⟨B, F, as, S, r, o⟩ := q
  unfold varE at o
  cases hs : S.sl[i]? with
  | none => rw [hs] at o; exact o.elim
  | some s =>
    rw [hs] at o
    cases s with
    | no => exact o.elim
    | im d =>
      obtain ⟨ov, hv, z⟩ := pairedGet r.sl hs
      cases ov with
      | none => exact z.elim
      | some v => exact ⟨v, hv, Out.now o r v z⟩
    | mu k =>
      obtain ⟨ov, hv, z⟩ := pairedGet r.sl hs
      cases ov with
      | none => exact z.elim
      | some v =>
        obtain ⟨x, hx, rfl⟩ := z
        refine ⟨_, hv, ?_⟩
        dsimp only at o
        cases hm : S.mo[k]? with
        | none => rw [hm] at o; exact o.elim
        | some m =>
          rw [hm] at o
          cases m with
          | ob c =>
           cases c with
           | dc kvs => exact o.elim
           | io _ _ _ => exact o.elim
           | ls xs =>
            obtain ⟨y, F1, hy, e1, r1, q1⟩ := r.freeze hm
            rw [hx] at hy
            cases hy
            exact o F1 H as e1 r1 _ q1
          | fz d =>
            obtain ⟨y, hy, _, q1⟩ := pairedGet r.mo hm
            rw [hx] at hy
            cases hy
            exact Out.now o r _ q1
theorem de_c {v : V} {d : Dt} (h : PE X e (tC v)) (hd : ∀ F, Rp X.K F v d) : PE X e (tD X.K W (cE d)) := monoE h fun σ H Q q => by
  obtain ⟨B, F, as, S, r, o⟩ := q
  exact Out.now o r v (hd F)
theorem de_int {i j} : PE X (.Constant (.int i) j pos) (tD X.K W (cE (.int i))) := de_c pe_int fun _ => .int i
theorem de_bl {i j} : PE X (.Constant (.bool i) j pos) (tD X.K W (cE (.bl i))) := de_c pe_bl fun _ => .bl i
def op2 (f g : Ms → R Dt) (h : Dt → Dt → Option Dt) : Ms → R Dt := fun S => (f S).bind fun d S1 => (g S1).bind fun e S2 => R.of (h d e) S2
def RulD (K : PySem.W.Frag) (r : R2) (h : Dt → Dt → Option Dt) : Prop := ∀ F H v w d e z Q, Ex F H → Rp K F v d → Rp K F w e → h d e = some z → Gv K F H z Q → r v w H Q
theorem dt_op {r : R2} {f g : Ms → R Dt} {h : Dt → Dt → Option Dt} {K : PySem.W.Frag} (hr : RulD K r h) (σ : L2.St) (H : Hp) (Q : VK) (q : tD K W (op2 f g h) σ H Q) : tOp r (tD K W f) (tD K W g) σ H Q := by
  obtain ⟨B, F, as, S, r0, o⟩ := q
  refine ⟨B, F, as, S, r0, Out.mono (Out.bind o) fun d F1 H1 as1 S1 ⟨r1, e1, o1⟩ v hv => ?_⟩
  refine ⟨B, F1, as1, S1, r1, ?_⟩
  have o2 := Out.bind o1
  revert o2
  cases g S1 with
  | ok e S2 =>
    intro o2 F2 H2 as2 e2 r2 w hw
    obtain ⟨_, _, o3⟩ := o2 F2 H2 as2 e2 r2
    cases hz : h d e with
    | none => rw [hz] at o3; exact o3.elim
    | some z =>
      rw [hz] at o3
      exact hr F2 H2 v w d e z Q r2.fh (hv.up e2.1) hw hz (gv_of o3 r2)
  | er x S2 => exact fun o2 => o2
  | no => exact fun o2 => o2
theorem de_op {op : Operator} {r : R2} {f g : Ms → R Dt} {h : Dt → Dt → Option Dt} (ho : OpR X (binaryOp op) r) (hr : RulD X.K r h) (ha : PE X a (tD X.K W f)) (hb : PE X b (tD X.K W g)) : PE X (.BinOp a op b pos) (tD X.K W (op2 f g h)) :=
  monoE (pe_op ho ha hb) (dt_op hr)
theorem de_cmp {op : CmpOp} {r : R2} {f g : Ms → R Dt} {h : Dt → Dt → Option Dt} (ho : OpR X (compareOp op) r) (hr : RulD X.K r h) (ha : PE X a (tD X.K W f)) (hb : PE X b (tD X.K W g)) (hm : behindInMarks op b = false) : PE X (.Compare a [op] [b] pos) (tD X.K W (op2 f g h)) :=
  monoE (pe_cmpR ho ha hb hm) (dt_op hr)
theorem de_ix {r : R2} {f g : Ms → R Dt} {h : Dt → Dt → Option Dt} (ho : IxR X r) (hr : RulD X.K r h) (ha : PE X a (tD X.K W f)) (hb : PE X b (tD X.K W g)) (hs : PlainIx b) : PE X (.Subscript a b pos) (tD X.K W (op2 f g h)) :=
  monoE (pe_ix ho ha hb hs) (dt_op hr)
def op1 (f : Ms → R Dt) (h : Dt → Option Dt) : Ms → R Dt := fun S => (f S).bind fun d S1 => R.of (h d) S1
theorem de_un {op : UnaryOp} {r : V → Hp → VK → Prop} {f : Ms → R Dt} {h : Dt → Option Dt} (ho : UnR X (unaryOp op) r) (hr : ∀ F H v d z Q, Ex F H → Rp X.K F v d → h d = some z → Gv X.K F H z Q → r v H Q) (ha : PE X a (tD X.K W f)) :
    PE X (.UnaryOp op a pos) (tD X.K W (op1 f h)) := monoE (pe_un ho ha) fun σ H Q q => by
  obtain ⟨B, F, as, S, r0, o⟩ := q
  refine ⟨B, F, as, S, r0, Out.mono (Out.bind o) fun d F1 H1 as1 S1 ⟨r1, e1, o1⟩ v hv => ?_⟩
  cases hz : h d with
  | none => rw [hz] at o1; exact o1.elim
  | some z =>
    rw [hz] at o1
    exact hr F1 H1 v d z Q r1.fh hv hz (gv_of o1 r1)
def opN (f g : Ms → R Dt) (h : Dt → Dt → Option (List Dt)) : Ms → R (List Dt) := fun S => (f S).bind fun d S1 => (g S1).bind fun e S2 => R.of (h d e) S2
def RulN (K : PySem.W.Frag) (r : R2) (h : Dt → Dt → Option (List Dt)) : Prop := ∀ F H v w d e z Q, Ex F H → Rp K F v d → Rp K F w e → h d e = some z → GvL K F H z Q → r v w H Q
theorem dn_op {op : Operator} {r : R2} {f g : Ms → R Dt} {h : Dt → Dt → Option (List Dt)} (ho : OpR X (binaryOp op) r) (hr : RulN X.K r h) (ha : PE X a (tD X.K W f)) (hb : PE X b (tD X.K W g)) : PE X (.BinOp a op b pos) (tN X.K W (opN f g h)) :=
  monoE (pe_op ho ha hb) fun σ H Q q => by
    obtain ⟨B, F, as, S, r0, o⟩ := q
    refine ⟨B, F, as, S, r0, Out.mono (Out.bind o) fun d F1 H1 as1 S1 ⟨r1, e1, o1⟩ v hv => ?_⟩
    refine ⟨B, F1, as1, S1, r1, ?_⟩
    have o2 := Out.bind o1
    revert o2
    cases g S1 with
    | ok e S2 =>
      intro o2 F2 H2 as2 e2 r2 w hw
      obtain ⟨_, _, o3⟩ := o2 F2 H2 as2 e2 r2
      cases hz : h d e with
      | none => rw [hz] at o3; exact o3.elim
      | some z =>
        rw [hz] at o3
        exact hr F2 H2 v w d e z Q r2.fh (hv.up e2.1) hw hz (gvl_of o3 r2)
    | er x S2 => exact fun o2 => o2
    | no => exact fun o2 => o2

def iOp (g : Int → Int → Int) : Dt → Dt → Option Dt | .int i, .int j => some (.int (g i j)) | _, _ => none
theorem rd_I0 {K : PySem.W.Frag} {g : Int → Int → Int} : RulD K (rI0 fun i j => .int (g i j)) (iOp g) := fun F H v w d e z Q _ hv hw hz q => by
  cases d <;> cases e <;> simp only [iOp] at hz <;> cases hz
  cases hv; cases hw
  exact ⟨_, _, rfl, rfl, q.1 _ (.int _)⟩
def iOpC (C : Int → Int → Prop) [∀ i j, Decidable (C i j)] (g : Int → Int → Int) : Dt → Dt → Option Dt | .int i, .int j => if C i j then some (.int (g i j)) else none | _, _ => none
theorem rd_I {K : PySem.W.Frag} {C : Int → Int → Prop} [∀ i j, Decidable (C i j)] {g : Int → Int → Int} : RulD K (rI C fun i j => .int (g i j)) (iOpC C g) := fun F H v w d e z Q _ hv hw hz q => by
  cases d <;> cases e <;> simp only [iOpC] at hz <;> try cases hz
  split at hz
  · cases hz
    cases hv; cases hw
    exact ⟨_, _, rfl, rfl, by assumption, q.1 _ (.int _)⟩
  · cases hz
def iCmp (g : Int → Int → Bool) : Dt → Dt → Option Dt | .int i, .int j => some (.bl (g i j)) | _, _ => none
theorem rd_C {K : PySem.W.Frag} {g : Int → Int → Bool} : RulD K (rI0 fun i j => .bl (g i j)) (iCmp g) := fun F H v w d e z Q _ hv hw hz q => by
  cases d <;> cases e <;> simp only [iCmp] at hz <;> cases hz
  cases hv; cases hw
  exact ⟨_, _, rfl, rfl, q.1 _ (.bl _)⟩
instance : ∀ i j, Decidable (CMul i j) := fun i j => by unfold CMul; infer_instance
instance : ∀ i j, Decidable (CDiv i j) := fun i j => by unfold CDiv; infer_instance
abbrev addO := iOp fun i j => i + j
abbrev subO := iOp fun i j => i - j
abbrev mulO := iOpC CMul fun i j => i * j
abbrev modO := iOpC (fun _ j => 0 < j) fun i j => i % j
abbrev divO := iOpC CDiv fun i j => i / j
abbrev ltO := iCmp fun i j => decide (i < j)
abbrev leO := iCmp fun i j => decide (i ≤ j)
abbrev gtO := iCmp fun i j => decide (j < i)
abbrev geO := iCmp fun i j => decide (j ≤ i)
section
variable {f g : Ms → R Dt}
theorem de_add (ha : PE X a (tD X.K W f)) (hb : PE X b (tD X.K W g)) : PE X (.BinOp a .Add b pos) (tD X.K W (op2 f g addO)) := de_op op_add rd_I0 ha hb
theorem de_sub (ha : PE X a (tD X.K W f)) (hb : PE X b (tD X.K W g)) : PE X (.BinOp a .Sub b pos) (tD X.K W (op2 f g subO)) := de_op op_sub rd_I0 ha hb
theorem de_mul (ha : PE X a (tD X.K W f)) (hb : PE X b (tD X.K W g)) : PE X (.BinOp a .Mult b pos) (tD X.K W (op2 f g mulO)) := de_op op_mul rd_I ha hb
theorem de_mod (ha : PE X a (tD X.K W f)) (hb : PE X b (tD X.K W g)) : PE X (.BinOp a .Mod b pos) (tD X.K W (op2 f g modO)) := de_op op_mod rd_I ha hb
theorem de_div (ha : PE X a (tD X.K W f)) (hb : PE X b (tD X.K W g)) : PE X (.BinOp a .FloorDiv b pos) (tD X.K W (op2 f g divO)) := de_op op_fdiv rd_I ha hb
theorem de_gt (ha : PE X a (tD X.K W f)) (hb : PE X b (tD X.K W g)) : PE X (.Compare a [.Gt] [b] pos) (tD X.K W (op2 f g gtO)) := de_cmp op_gt rd_C ha hb (nomark _)
theorem de_ge (ha : PE X a (tD X.K W f)) (hb : PE X b (tD X.K W g)) : PE X (.Compare a [.GtE] [b] pos) (tD X.K W (op2 f g geO)) := de_cmp op_ge rd_C ha hb (nomark _)
def negO : Dt → Option Dt | .int i => some (.int (-i)) | _ => none
theorem de_neg (ha : PE X a (tD X.K W f)) : PE X (.UnaryOp .USub a pos) (tD X.K W (op1 f negO)) := de_un un_neg (fun F H v d z Q _ hv hz q => by
  cases d <;> simp only [negO] at hz <;> cases hz
  cases hv
  exact ⟨_, rfl, q.1 _ (.int _)⟩) ha

mutual
def toPy : Dt → PyData
  | .non => .none | .bl b => .bool b | .int i => .int i | .str x => .str x | .lst xs => .list (toPys xs) | .tup xs => .tuple (toPys xs) | .obj _ _ _ => .none | .scr _ _ => .none
def toPys : List Dt → List PyData
  | [] => [] | d :: ds => toPy d :: toPys ds
end
mutual
def plain : Dt → Bool
  | .lst xs => plains xs | .tup xs => plains xs | .obj _ _ _ => false | .scr _ _ => false | _ => true
def plains : List Dt → Bool
  | [] => true | d :: ds => plain d && plains ds
end
mutual
theorem Rp.dp {K : PySem.W.Frag} {F : Hp} : ∀ (d : Dt) (v : V), plain d = true → Rp K F v d → Dp K F v (toPy d)
  | .non, _, _, h => by cases h; exact .non
  | .bl b, _, _, h => by cases h; exact .bl _
  | .int i, _, _, h => by cases h; exact .int _
  | .str x, _, _, h => by cases h; exact .str _
  | .lst ds, _, p, h => by
    cases h with
    | lst hs ha => rw [toPy]; exact .lst (Evl.sq_of hs) (RpA.dp ds _ (by simpa [plain] using p) ha)
  | .tup ds, _, p, h => by
    cases h with
    | tup hs ha => rw [toPy]; exact .tup hs.sq (RpA.dp ds _ (by simpa [plain] using p) ha)
  | .obj C ks ds, _, p, h => by simp [plain] at p
  | .scr t ds, _, p, h => by simp [plain] at p
theorem RpA.dp {K : PySem.W.Frag} {F : Hp} : ∀ (ds : List Dt) (vs : List V), plains ds = true → RpA K F vs ds → DpAll K F vs (toPys ds)
  | [], _, _, h => by cases h; rw [toPys]; exact .nil
  | d :: ds, _, p, h => by
    cases h with
    | cons h1 h2 =>
      rw [plains, Bool.and_eq_true] at p
      rw [toPys]
      exact .cons (Rp.dp d _ p.1 h1) (RpA.dp ds _ p.2 h2)
end
def shp (d : Dt) : Bool := plain d && SeqAt.shaped (toPy d)
def eqO (d e : Dt) : Option Dt := if shp d && shp e then some (.bl (PyData.eqv (toPy d) (toPy e))) else none
def neO (d e : Dt) : Option Dt := if shp d && shp e then some (.bl (!PyData.eqv (toPy d) (toPy e))) else none
theorem Dp.up {K : PySem.W.Frag} {F H : Hp} (e : Ex F H) {v : V} {d : Dt} (p : plain d = true) (h : Rp K F v d) : Dp K H v (toPy d) := Rp.dp d v p (h.up e)
theorem de_eq (hu : X.A.units + 64 < cLine) (ha : PE X a (tD X.K W f)) (hb : PE X b (tD X.K W g)) : PE X (.Compare a [.Eq] [b] pos) (tD X.K W (op2 f g eqO)) := de_cmp (op_eqD hu) (fun F H v w d e z Q ex hv hw hz q => by
  unfold eqO at hz
  split at hz
  · rename_i h
    simp only [Bool.and_eq_true, shp] at h
    cases hz
    exact ⟨_, _, Dp.up ex h.1.1 hv, Dp.up ex h.2.1 hw, h.1.2, h.2.2, q.1 _ (.bl _)⟩
  · cases hz) ha hb (nomark _)
def bCmp (g : Bool → Bool → Bool) : Dt → Dt → Option Dt | .bl i, .bl j => some (.bl (g i j)) | _, _ => none
def ixO : Dt → Dt → Option Dt | .lst xs, .int i => atI xs i | .tup xs, .int i => atI xs i | .scr _ xs, .int i => atI xs i | _, _ => none
theorem atI_get' {α : Type} {xs : List α} {i : Int} {z : α} (h : atI xs i = some z) : ∃ j, ixN xs.length i = some j ∧ xs[j]? = some z := by
  unfold atI at h
  cases e : ixN xs.length i with
  | none => rw [e] at h; cases h
  | some j => rw [e] at h; exact ⟨j, rfl, h⟩
theorem atI_rp {K : PySem.W.Frag} {F : Hp} {vs : List V} {ds : List Dt} {i : Int} {z : Dt} (hv : RpA K F vs ds) (h : atI ds i = some z) : ∃ v, atI vs i = some v ∧ Rp K F v z := by
  obtain ⟨j, h1, h2⟩ := atI_get' h
  obtain ⟨v, h3, h4⟩ := hv.get h2
  refine ⟨v, ?_, h4⟩
  unfold atI
  rw [hv.length, h1]
  exact h3
theorem rd_ix {K : PySem.W.Frag} : RulD K (rIx K) ixO := fun F H v w d e z Q ex hv hw hz q => by
  cases d <;> cases e <;> simp only [ixO] at hz <;> try cases hz
  · cases hw
    cases hv with
    | lst hs ha =>
      obtain ⟨u, h1, h2⟩ := atI_rp ha hz
      exact .inl ⟨_, _, _, u, rfl, rfl, Evl.ex_l ex (Evl.sq_of hs), h1, q.1 _ h2⟩
  · cases hw
    cases hv with
    | tup hs ha =>
      obtain ⟨u, h1, h2⟩ := atI_rp ha hz
      exact .inr (.inl ⟨_, _, _, u, rfl, rfl, Evl.ex_t ex hs.sq, h1, q.1 _ h2⟩)
  · cases hw
    rename_i t xs i
    cases hv with
    | scr _ hs ha =>
      obtain ⟨u, h1, h2⟩ := atI_rp ha hz
      have hs' := hs.up ex
      unfold SqB at hs'
      cases t with
      | true => exact .inr (.inl ⟨_, _, _, u, rfl, rfl, hs', h1, q.1 _ h2⟩)
      | false => exact .inl ⟨_, _, _, u, rfl, rfl, hs', h1, q.1 _ h2⟩
theorem de_sub1 (ha : PE X a (tD X.K W f)) (hb : PE X b (tD X.K W g)) (hs : PlainIx b := by exact fun _ _ => rfl) : PE X (.Subscript a b pos) (tD X.K W (op2 f g ixO)) := de_ix ix_seq rd_ix ha hb hs
end
end
end Lq

namespace Lq
open PySem PySem.Spec PyProof.Rows L2
open Evl (Ex)
theorem monoW {X : Cx} {e : Expr} {t t' : TT} (h : PW X e t) (m : ∀ σ H Q, t' σ H Q → t σ H Q) : PW X e t' := ⟨fun wh pins s σ H Q I q => h.run wh pins s σ H Q I (m σ H Q q)⟩
section
variable {X : Cx} {W : WX} {a b c e : Expr} {pos : Pos} {f g : Ms → R Dt} {p q : Ms → R Bool}

def tst (f : Ms → R Dt) : Ms → R Bool := fun S => (f S).bind fun d S1 => match d with | .bl b => .ok b S1 | _ => .no
theorem tst_run {K : PySem.W.Frag} {σ : L2.St} {H : Hp} {Q : Bool → Hp → Prop} (h : tT K W (tst f) σ H Q) : tD K W f σ H fun x H' => ∃ k, x = .bl k ∧ Q k H' := by
  obtain ⟨B, F, as, S, r, o⟩ := h
  refine ⟨B, F, as, S, r, Out.mono (Out.bind o) fun d F1 H1 as1 S1 ⟨r1, e1, o1⟩ v hv => ?_⟩
  cases d with
  | bl b => cases hv; exact ⟨b, rfl, Out.now o1 r1⟩
  | _ => exact o1.elim
theorem dt_cmp {op : CmpOp} {r : R2} {h : Dt → Dt → Option Dt} (ho : OpR X (compareOp op) r) (hr : RulD X.K r h) (ha : PE X a (tD X.K W f)) (hb : PE X b (tD X.K W g)) (hm : behindInMarks op b = false) : PT X (.Compare a [op] [b] pos) (tT X.K W (tst (op2 f g h))) :=
  monoT (pt_cmpR ho ha hb hm) fun σ H Q q => dt_op hr σ H _ (tst_run q)
theorem dt_lt (ha : PE X a (tD X.K W f)) (hb : PE X b (tD X.K W g)) : PT X (.Compare a [.Lt] [b] pos) (tT X.K W (tst (op2 f g ltO))) := dt_cmp op_lt rd_C ha hb (nomark _)
theorem dt_gt (ha : PE X a (tD X.K W f)) (hb : PE X b (tD X.K W g)) : PT X (.Compare a [.Gt] [b] pos) (tT X.K W (tst (op2 f g gtO))) := dt_cmp op_gt rd_C ha hb (nomark _)
theorem rd_eq {K : PySem.W.Frag} : RulD K (rEqD K) eqO := fun F H v w d e z Q ex hv hw hz q => by
  unfold eqO at hz
  split at hz
  · rename_i h
    simp only [Bool.and_eq_true, shp] at h
    cases hz
    exact ⟨_, _, Dp.up ex h.1.1 hv, Dp.up ex h.2.1 hw, h.1.2, h.2.2, q.1 _ (.bl _)⟩
  · cases hz
theorem rd_ne {K : PySem.W.Frag} : RulD K (rNeD K) neO := fun F H v w d e z Q ex hv hw hz q => by
  unfold neO at hz
  split at hz
  · rename_i h
    simp only [Bool.and_eq_true, shp] at h
    cases hz
    exact ⟨_, _, Dp.up ex h.1.1 hv, Dp.up ex h.2.1 hw, h.1.2, h.2.2, q.1 _ (.bl _)⟩
  · cases hz
theorem dt_eq (hu : X.A.units + 64 < cLine) (ha : PE X a (tD X.K W f)) (hb : PE X b (tD X.K W g)) : PT X (.Compare a [.Eq] [b] pos) (tT X.K W (tst (op2 f g eqO))) := dt_cmp (op_eqD hu) rd_eq ha hb (nomark _)
theorem dt_ne (hu : X.A.units + 64 < cLine) (ha : PE X a (tD X.K W f)) (hb : PE X b (tD X.K W g)) : PT X (.Compare a [.NotEq] [b] pos) (tT X.K W (tst (op2 f g neO))) := dt_cmp (op_neD hu) rd_ne ha hb (nomark _)
theorem rd_notB {K : PySem.W.Frag} : RulD K rNotB (bCmp fun i j => !decide (i = j)) := fun F H v w d e z Q ex hv hw hz q => by
  cases d <;> cases e <;> simp only [bCmp] at hz <;> cases hz
  cases hv; cases hw
  exact ⟨_, _, rfl, rfl, q.1 _ (.bl _)⟩
theorem dt_notB (ha : PE X a (tD X.K W f)) (hb : PE X b (tD X.K W g)) : PT X (.Compare a [.IsNot] [b] pos) (tT X.K W (tst (op2 f g (bCmp fun i j => !decide (i = j))))) := dt_cmp op_notBl rd_notB ha hb (nomark _)
def intsOf : List Dt → Option (List Int)
  | [] => some [] | .int i :: ds => (intsOf ds).map (i :: ·) | _ => none
theorem intsOf_map (ns : List Int) : intsOf (ns.map Dt.int) = some ns := by
  induction ns with
  | nil => rfl
  | cons n ns ih => simp [intsOf, ih]
theorem intsOf_eq : ∀ {ds : List Dt} {ns : List Int}, intsOf ds = some ns → ds = ns.map Dt.int
  | [], ns, h => by simp [intsOf] at h; subst h; rfl
  | d :: ds, ns, h => by
    cases d <;> simp only [intsOf] at h <;> try cases h
    cases hh : intsOf ds with
    | none => rw [hh] at h; cases h
    | some ms =>
      rw [hh] at h
      cases h
      rw [intsOf_eq hh]; rfl
def seqOf : Dt → Option (List Dt) | .lst xs => some xs | .tup xs => some xs | .scr _ xs => some xs | _ => none
def inI (neg : Bool) : Dt → Dt → Option Dt
  | .int i, d => (seqOf d).bind fun xs => (intsOf xs).map fun ns => .bl (if neg then !ns.contains i else ns.contains i)
  | _, _ => none
theorem inV_ints (i : Int) : ∀ ns : List Int, inV (.int i) (ns.map V.int) = ns.contains i
  | [] => rfl
  | n :: ns => by
    have ih := inV_ints i ns
    unfold inV at ih ⊢
    rw [List.map_cons, List.any_cons, ih, List.contains_cons]
    congr 1
    show (n == i) = (i == n)
    rw [Bool.beq_comm]
theorem flat_ints : ∀ ns : List Int, (ns.map V.int).all flatV = true
  | [] => rfl
  | n :: ns => by rw [List.map_cons, List.all_cons, flat_ints ns]; rfl
theorem rd_in {K : PySem.W.Frag} {neg : Bool} : RulD K (rIn K neg) (inI neg) := fun F H v w d e z Q ex hv hw hz q => by
  cases d <;> simp only [inI] at hz <;> try cases hz
  rename_i i
  cases hs : seqOf e with
  | none => rw [hs] at hz; cases hz
  | some xs =>
    rw [hs] at hz
    dsimp only [Option.bind] at hz
    cases hn : intsOf xs with
    | none => rw [hn] at hz; cases hz
    | some ns =>
      rw [hn] at hz
      cases hz
      cases hv
      have ex1 := intsOf_eq hn
      subst ex1
      cases e <;> simp only [seqOf] at hs <;> cases hs
      · cases hw with
        | lst hs ha =>
          rw [ha.intsv] at hs
          refine ⟨_, _, rfl, .inl (Evl.ex_l ex (Evl.sq_of hs)), rfl, flat_ints _, ?_⟩
          rw [inV_ints]
          exact q.1 _ (.bl _)
      · cases hw with
        | tup hs ha =>
          rw [ha.intsv] at hs
          refine ⟨_, _, rfl, .inr (Evl.ex_t ex hs.sq), rfl, flat_ints _, ?_⟩
          rw [inV_ints]
          exact q.1 _ (.bl _)
      · rename_i t
        cases hw with
        | scr _ hs ha =>
          rw [ha.intsv] at hs
          have hs' := hs.up ex
          unfold SqB at hs'
          cases t with
          | true =>
            refine ⟨_, _, rfl, .inr hs', rfl, flat_ints _, ?_⟩
            rw [inV_ints]
            exact q.1 _ (.bl _)
          | false =>
            refine ⟨_, _, rfl, .inl hs', rfl, flat_ints _, ?_⟩
            rw [inV_ints]
            exact q.1 _ (.bl _)
theorem dt_nin (ha : PE X a (tD X.K W f)) (hb : PE X b (tD X.K W g)) (hm : behindInMarks .NotIn b = false := by rfl) : PT X (.Compare a [.NotIn] [b] pos) (tT X.K W (tst (op2 f g (inI true)))) := dt_cmp op_notIn_seq rd_in ha hb hm
theorem de_in (ha : PE X a (tD X.K W f)) (hb : PE X b (tD X.K W g)) (hm : behindInMarks .In b = false := by rfl) : PE X (.Compare a [.In] [b] pos) (tD X.K W (op2 f g (inI false))) := de_cmp op_in_seq rd_in ha hb hm
def notT (p : Ms → R Bool) : Ms → R Bool := fun S => (p S).bind fun b S1 => .ok (!b) S1
def andT (p q : Ms → R Bool) : Ms → R Bool := fun S => (p S).bind fun b S1 => if b then q S1 else .ok false S1
def orT (p q : Ms → R Bool) : Ms → R Bool := fun S => (p S).bind fun b S1 => if b then .ok true S1 else q S1
theorem dt_not (ha : PT X a (tT X.K W p)) : PT X (.UnaryOp .Not a pos) (tT X.K W (notT p)) := monoT (pt_not ha) fun σ H Q q => by
  obtain ⟨B, F, as, S, r, o⟩ := q
  exact ⟨B, F, as, S, r, Out.mono (Out.bind o) fun d F1 H1 as1 S1 ⟨r1, e1, o1⟩ => Out.now o1 r1⟩
theorem and_run {K : PySem.W.Frag} {σ : L2.St} {H : Hp} {Q : Bool → Hp → Prop} (h : tT K W (andT p q) σ H Q) : tAnd (tT K W p) (tT K W q) σ H Q := by
  obtain ⟨B, F, as, S, r, o⟩ := h
  refine ⟨B, F, as, S, r, Out.mono (Out.bind o) fun b F1 H1 as1 S1 ⟨r1, e1, o1⟩ => ?_⟩
  cases b with
  | true => exact ⟨B, F1, as1, S1, r1, o1⟩
  | false => exact Out.now o1 r1
theorem or_run {K : PySem.W.Frag} {σ : L2.St} {H : Hp} {Q : Bool → Hp → Prop} (h : tT K W (orT p q) σ H Q) : tOr (tT K W p) (tT K W q) σ H Q := by
  obtain ⟨B, F, as, S, r, o⟩ := h
  refine ⟨B, F, as, S, r, Out.mono (Out.bind o) fun b F1 H1 as1 S1 ⟨r1, e1, o1⟩ => ?_⟩
  cases b with
  | true => exact Out.now o1 r1
  | false => exact ⟨B, F1, as1, S1, r1, o1⟩
theorem dw_and1 (ha : PT X a (tT X.K W p)) : PW X (.BoolOp .And [a] pos) (tT X.K W p) := pw_and1 ha
theorem dw_or1 (ha : PT X a (tT X.K W p)) : PW X (.BoolOp .Or [a] pos) (tT X.K W p) := pw_or1 ha
theorem dw_and {rest : List Expr} (ha : PT X a (tT X.K W p)) (hb : PW X (.BoolOp .And (b :: rest) pos) (tT X.K W q)) : PW X (.BoolOp .And (a :: b :: rest) pos) (tT X.K W (andT p q)) := monoW (pw_and ha hb) fun σ H Q h => and_run h
theorem dw_or {rest : List Expr} (ha : PT X a (tT X.K W p)) (hb : PW X (.BoolOp .Or (b :: rest) pos) (tT X.K W q)) : PW X (.BoolOp .Or (a :: b :: rest) pos) (tT X.K W (orT p q)) := monoW (pw_or ha hb) fun σ H Q h => or_run h
def andV (f g : Ms → R Dt) : Ms → R Dt := fun S => (f S).bind fun d S1 => match d with | .bl true => g S1 | .bl false => .ok (.bl false) S1 | _ => .no
def orV (f g : Ms → R Dt) : Ms → R Dt := fun S => (f S).bind fun d S1 => match d with | .bl false => g S1 | .bl true => .ok (.bl true) S1 | _ => .no
theorem de_one {op} (h : PE X a (tD X.K W f)) : PE X (.BoolOp op [a] pos) (tD X.K W f) := pe_one h
theorem de_and {rest : List Expr} (ha : PE X a (tD X.K W f)) (hb : PE X (.BoolOp .And (b :: rest) pos) (tD X.K W g)) : PE X (.BoolOp .And (a :: b :: rest) pos) (tD X.K W (andV f g)) := monoE (pe_and ha hb) fun σ H Q q => by
  obtain ⟨B, F, as, S, r, o⟩ := q
  refine ⟨B, F, as, S, r, Out.mono (Out.bind o) fun d F1 H1 as1 S1 ⟨r1, e1, o1⟩ v hv => ?_⟩
  cases d with
  | bl b =>
    cases hv
    cases b with
    | true => exact ⟨true, rfl, B, F1, as1, S1, r1, o1⟩
    | false => exact ⟨false, rfl, Out.now o1 r1 _ (.bl false)⟩
  | _ => exact o1.elim
def notO : Dt → Option Dt | .bl b => some (.bl (!b)) | _ => none
theorem de_not (ha : PE X a (tD X.K W f)) : PE X (.UnaryOp .Not a pos) (tD X.K W (op1 f notO)) := monoE (pe_not ha) fun σ H Q q => by
  obtain ⟨B, F, as, S, r, o⟩ := q
  refine ⟨B, F, as, S, r, Out.mono (Out.bind o) fun d F1 H1 as1 S1 ⟨r1, e1, o1⟩ v hv => ?_⟩
  cases d with
  | bl b => cases hv; exact ⟨b, rfl, Out.now o1 r1 _ (.bl _)⟩
  | _ => exact o1.elim
def ifE (p : Ms → R Bool) (f g : Ms → R Dt) : Ms → R Dt := fun S => (p S).bind fun b S1 => if b then f S1 else g S1
theorem de_ifx (hp : PT X c (tT X.K W p)) (ha : PE X a (tD X.K W f)) (hb : PE X b (tD X.K W g)) : PE X (.IfExp c a b pos) (tD X.K W (ifE p f g)) := monoE (pe_ifExp hp ha hb) fun σ H Q q => by
  obtain ⟨B, F, as, S, r, o⟩ := q
  refine ⟨B, F, as, S, r, Out.mono (Out.bind o) fun b F1 H1 as1 S1 ⟨r1, e1, o1⟩ => ?_⟩
  cases b with
  | true => exact ⟨B, F1, as1, S1, r1, o1⟩
  | false => exact ⟨B, F1, as1, S1, r1, o1⟩
def truO : Dt → Option Bool | .non => some false | .bl b => some b | .int i => some (i != 0) | .lst xs => some (!xs.isEmpty) | .tup xs => some (!xs.isEmpty) | .str x => if x.length ≤ 100000 then some ((x.length : Int) != 0) else none | .obj _ _ _ => none | .scr _ _ => none
def truT (f : Ms → R Dt) : Ms → R Bool := fun S => (f S).bind fun d S1 => R.of (truO d) S1
theorem emp_rp {K : PySem.W.Frag} {F : Hp} {vs : List V} {ds : List Dt} (h : RpA K F vs ds) : vs.isEmpty = ds.isEmpty := by cases h <;> rfl
theorem dt_tru (ha : PE X a (tD X.K W f)) (he : ∀ whole, isTrue a X.env whole = (do let v ← whole; standAt a.pos; holding [v] (truthy v)) := by exact fun _ => rfl) : PT X a (tT X.K W (truT f)) := monoT (pt_truth ha he) fun σ H Q q => by
  obtain ⟨B, F, as, S, r, o⟩ := q
  refine ⟨B, F, as, S, r, Out.mono (Out.bind o) fun d F1 H1 as1 S1 ⟨r1, e1, o1⟩ v hv => ?_⟩
  cases ht : truO d with
  | none => rw [ht] at o1; exact o1.elim
  | some k =>
    rw [ht] at o1
    refine ⟨k, ?_, Out.now o1 r1⟩
    cases d <;> simp only [truO] at ht <;> try (cases ht; cases hv; rfl)
    · split at ht
      · rename_i hl
        cases ht; cases hv
        exact ⟨Nat.le_trans hl (by decide), rfl⟩
      · cases ht
    · cases ht
      cases hv with
      | lst hs ha => exact .inl ⟨_, Evl.ex_l r1.fh (Evl.sq_of hs), by rw [emp_rp ha]⟩
    · cases ht
      cases hv with
      | tup hs ha => exact .inr (.inl ⟨_, Evl.ex_t r1.fh hs.sq, by rw [emp_rp ha]⟩)
    · cases ht
    · cases ht
def chT (f g h : Ms → R Dt) (o o' : Dt → Dt → Option Dt) : Ms → R Dt := fun S => (f S).bind fun d S1 => (g S1).bind fun e S2 => (R.of (o d e) S2).bind fun k S3 => match k with
  | .bl true => (h S3).bind fun z S4 => R.of (o' e z) S4
  | .bl false => .ok (.bl false) S3
  | _ => .no
theorem ch_run {K : PySem.W.Frag} {r r' : R2} {o o' : Dt → Dt → Option Dt} {h : Ms → R Dt} (h1 : RulD K r o) (h2 : RulD K r' o') {σ : L2.St} {H : Hp} {Q : VK} (q : tD K W (chT f g h o o') σ H Q) : tChain r r' (tD K W f) (tD K W g) (tD K W h) σ H Q := by
  obtain ⟨B, F, as, S, r0, out⟩ := q
  refine ⟨B, F, as, S, r0, Out.mono (Out.bind out) fun d F1 H1 as1 S1 ⟨r1, e1, o1⟩ v hv => ?_⟩
  refine ⟨B, F1, as1, S1, r1, ?_⟩
  have q2 := Out.bind o1
  revert q2
  cases g S1 with
  | ok e S2 =>
    intro q2 F2 H2 as2 e2 r2 w hw
    obtain ⟨_, _, o3⟩ := q2 F2 H2 as2 e2 r2
    cases hz : o d e with
    | none => rw [hz] at o3; exact o3.elim
    | some k =>
      rw [hz] at o3
      have o3 : Out K W B F2 as2 σ (match k with | .bl true => (h S2).bind fun z S4 => R.of (o' e z) S4 | .bl false => .ok (.bl false) S2 | _ => .no) _ := o3
      refine h1 F2 H2 v w d e k _ r2.fh (hv.up e2.1) hw hz ⟨fun u hu => ?_, fun p ob hp hu => ?_⟩
      · cases k with
        | bl b =>
          cases hu
          refine ⟨b, rfl, ?_⟩
          cases b with
          | true =>
            show tD K W h σ H2 _
            refine ⟨B, F2, as2, S2, r2, ?_⟩
            have q3 := Out.bind o3
            revert q3
            cases h S2 with
            | ok z S3 =>
              intro q3 F3 H3 as3 e3 r3 x hx
              obtain ⟨_, _, o4⟩ := q3 F3 H3 as3 e3 r3
              cases hz2 : o' e z with
              | none => rw [hz2] at o4; exact o4.elim
              | some k2 =>
                rw [hz2] at o4
                exact h2 F3 H3 w x e z k2 Q r3.fh (hw.up e3.1) hx hz2 (gv_of o4 r3)
            | er y S3 => exact fun q3 => q3
            | no => exact fun q3 => q3
          | false => exact Out.now o3 r2 _ (.bl false)
        | _ => exact o3.elim
      · cases k with
        | bl b => cases hu
        | _ => exact o3.elim
  | er x S2 => exact fun q2 => q2
  | no => exact fun q2 => q2
theorem de_chain {op op' : CmpOp} {r r' : R2} {o o' : Dt → Dt → Option Dt} {h : Ms → R Dt} (ho : OpR X (compareOp op) r) (h1 : RulD X.K r o) (ho' : OpR X (compareOp op') r') (h2 : RulD X.K r' o') (ha : PE X a (tD X.K W f)) (hb : PE X b (tD X.K W g)) (hc : PE X c (tD X.K W h))
    (hm : lastMarks [op, op'] [b, c] = false := by with_unfolding_all rfl) : PE X (.Compare a [op, op'] [b, c] pos) (tD X.K W (chT f g h o o')) := monoE (pe_chain ho ho' ha hb hc hm) fun σ H Q q => ch_run h1 h2 q
end
end Lq

namespace Lq
open PySem PySem.Spec PyProof.Rows L2
open Evl (Ex)
section
variable {X : Cx} {W : WX} {a b c e : Expr} {es : List Expr} {pos : Pos} {f g : Ms → R Dt} {fs : Ms → R (List Dt)}

def aNil : Ms → R (List Dt) := fun S => .ok [] S
def aCons (f : Ms → R Dt) (fs : Ms → R (List Dt)) : Ms → R (List Dt) := fun S => (f S).bind fun d S1 => (fs S1).bind fun ds S2 => .ok (d :: ds) S2
theorem da_nil : PA X [] (tA X.K W aNil) := monoA pa_nil fun σ H Q q => by
  obtain ⟨B, F, as, S, r, o⟩ := q
  exact Out.now o r _ .nil
theorem da_cons (ha : PE X e (tD X.K W f)) (hr : PA X es (tA X.K W fs)) (hs : starEach (e :: es) X.env = (false, eval e X.env) :: starEach es X.env := by rfl) : PA X (e :: es) (tA X.K W (aCons f fs)) := monoA (pa_cons ha hr hs) fun σ H Q q => by
  obtain ⟨B, F, as, S, r, o⟩ := q
  refine ⟨B, F, as, S, r, Out.mono (Out.bind o) fun d F1 H1 as1 S1 ⟨r1, e1, o1⟩ v hv => ?_⟩
  refine ⟨B, F1, as1, S1, r1, ?_⟩
  have o2 := Out.bind o1
  revert o2
  cases fs S1 with
  | ok ds S2 =>
    intro o2 F2 H2 as2 e2 r2 vs hvs
    obtain ⟨_, _, o3⟩ := o2 F2 H2 as2 e2 r2
    exact Out.now o3 r2 _ (.cons (hv.up e2.1) hvs)
  | er x S2 => exact fun o2 => o2
  | no => exact fun o2 => o2
def tupE (fs : Ms → R (List Dt)) : Ms → R Dt := fun S => (fs S).bind fun ds S1 => if ds.length ≤ 100000 then .ok (.tup ds) S1 else .no
def lstE (fs : Ms → R (List Dt)) : Ms → R (List Dt) := fun S => (fs S).bind fun ds S1 => if ds.length ≤ 100000 then .ok ds S1 else .no
theorem de_tup {x1} (h : PA X es (tA X.K W fs)) : PE X (.Tuple es x1 pos) (tD X.K W (tupE fs)) := monoE (pe_tup h) fun σ H Q q => by
  obtain ⟨B, F, as, S, r, o⟩ := q
  refine ⟨B, F, as, S, r, Out.mono (Out.bind o) fun ds F1 H1 as1 S1 ⟨r1, e1, o1⟩ vs hv => ?_⟩
  split at o1
  · rename_i hl
    refine ⟨Evl.sz_of (by rw [hv.length]; exact hl), fun p hp => ?_⟩
    exact (gv_of o1 r1).2 p _ hp (.tup upd_same (hv.up (Ex.new (r1.fresh hp).1)))
  · exact o1.elim
theorem dn_lst (h : PA X es (tA X.K W fs)) : PE X (.List es pos) (tN X.K W (lstE fs)) := monoE (pe_lst h) fun σ H Q q => by
  obtain ⟨B, F, as, S, r, o⟩ := q
  refine ⟨B, F, as, S, r, Out.mono (Out.bind o) fun ds F1 H1 as1 S1 ⟨r1, e1, o1⟩ vs hv => ?_⟩
  split at o1
  · rename_i hl
    refine ⟨Evl.sz_of (by rw [hv.length]; exact hl), fun p hp => ?_⟩
    exact gvl_of o1 r1 p _ hp hv
  · exact o1.elim

def calE (fs : Ms → R (List Dt)) (h : List Dt → Option Dt) : Ms → R Dt := fun S => (fs S).bind fun ds S1 => R.of (h ds) S1
def calN (fs : Ms → R (List Dt)) (h : List Dt → Option (List Dt)) : Ms → R (List Dt) := fun S => (fs S).bind fun ds S1 => R.of (h ds) S1
def RulC (K : PySem.W.Frag) (r : List V → Hp → VK → Prop) (h : List Dt → Option Dt) : Prop := ∀ F H vs ds z Q, Ex F H → RpA K F vs ds → h ds = some z → Gv K F H z Q → r vs H Q
def RulCN (K : PySem.W.Frag) (r : List V → Hp → VK → Prop) (h : List Dt → Option (List Dt)) : Prop := ∀ F H vs ds z Q, Ex F H → RpA K F vs ds → h ds = some z → GvL K F H z Q → r vs H Q
theorem dt_cal {K : PySem.W.Frag} {r : List V → Hp → VK → Prop} {h : List Dt → Option Dt} (hr : RulC K r h) (σ : L2.St) (H : Hp) (Q : VK) (q : tD K W (calE fs h) σ H Q) : tCB r (tA K W fs) σ H Q := by
  obtain ⟨B, F, as, S, r0, o⟩ := q
  refine ⟨B, F, as, S, r0, Out.mono (Out.bind o) fun ds F1 H1 as1 S1 ⟨r1, e1, o1⟩ vs hv => ?_⟩
  cases hz : h ds with
  | none => rw [hz] at o1; exact o1.elim
  | some z =>
    rw [hz] at o1
    exact hr F1 H1 vs ds z Q r1.fh hv hz (gv_of o1 r1)
theorem dt_calN {K : PySem.W.Frag} {r : List V → Hp → VK → Prop} {h : List Dt → Option (List Dt)} (hr : RulCN K r h) (σ : L2.St) (H : Hp) (Q : VK) (q : tN K W (calN fs h) σ H Q) : tCB r (tA K W fs) σ H Q := by
  obtain ⟨B, F, as, S, r0, o⟩ := q
  refine ⟨B, F, as, S, r0, Out.mono (Out.bind o) fun ds F1 H1 as1 S1 ⟨r1, e1, o1⟩ vs hv => ?_⟩
  cases hz : h ds with
  | none => rw [hz] at o1; exact o1.elim
  | some z =>
    rw [hz] at o1
    exact hr F1 H1 vs ds z Q r1.fh hv hz (gvl_of o1 r1)
section
variable {x : Str} {p : Pos} {id T : String} {r : List V → Hp → VK → Prop} {h : List Dt → Option Dt} {hN : List Dt → Option (List Dt)}
theorem de_calB (hr : RulC X.K r h) (hc : CallR X (.builtin id) r) (hg : Gl X x) (hm : X.mg x = none) (hv : bootBuiltins x = some (.builtin id)) (ha : PA X (e :: es) (tA X.K W fs)) (hn : x ≠ "__name__" := by decide) (hdb : (x == ("__debug__" : Str)) = false := by decide)
    (he : starEach (e :: es) X.env = (false, eval e X.env) :: starEach es X.env := by rfl) (hpl : (backTo pos (starEach es X.env)).any (·.1) = false := by rfl) : PE X (.Call (.Name x p) (e :: es) [] pos) (tD X.K W (calE fs h)) :=
  monoE (pe_callB hc hg hm hv ha hn hdb he hpl) (dt_cal hr)
theorem de_calT (hr : RulC X.K r h) (hc : CallR X (.type T) r) (hg : Gl X x) (hm : X.mg x = none) (hv : bootBuiltins x = some (.type T)) (ha : PA X (e :: es) (tA X.K W fs)) (hn : x ≠ "__name__" := by decide) (hdb : (x == ("__debug__" : Str)) = false := by decide)
    (he : starEach (e :: es) X.env = (false, eval e X.env) :: starEach es X.env := by rfl) (hpl : (backTo pos (starEach es X.env)).any (·.1) = false := by rfl) : PE X (.Call (.Name x p) (e :: es) [] pos) (tD X.K W (calE fs h)) :=
  monoE (pe_callTy hc hg hm hv ha hn hdb he hpl) (dt_cal hr)
theorem dn_calT (hr : RulCN X.K r hN) (hc : CallR X (.type T) r) (hg : Gl X x) (hm : X.mg x = none) (hv : bootBuiltins x = some (.type T)) (ha : PA X (e :: es) (tA X.K W fs)) (hn : x ≠ "__name__" := by decide) (hdb : (x == ("__debug__" : Str)) = false := by decide)
    (he : starEach (e :: es) X.env = (false, eval e X.env) :: starEach es X.env := by rfl) (hpl : (backTo pos (starEach es X.env)).any (·.1) = false := by rfl) : PE X (.Call (.Name x p) (e :: es) [] pos) (tN X.K W (calN fs hN)) :=
  monoE (pe_callTy hc hg hm hv ha hn hdb he hpl) (dt_calN hr)
end
theorem rpa1 {K : PySem.W.Frag} {F : Hp} {vs : List V} {d : Dt} (h : RpA K F vs [d]) : ∃ v, vs = [v] ∧ Rp K F v d := by
  cases h with
  | cons h1 h2 => cases h2; exact ⟨_, rfl, h1⟩
theorem rpa2 {K : PySem.W.Frag} {F : Hp} {vs : List V} {d e : Dt} (h : RpA K F vs [d, e]) : ∃ v w, vs = [v, w] ∧ Rp K F v d ∧ Rp K F w e := by
  cases h with
  | cons h1 h2 =>
    obtain ⟨w, rfl, hw⟩ := rpa1 h2
    exact ⟨_, w, rfl, h1, hw⟩
def lenO : List Dt → Option Dt | [.lst xs] => some (.int xs.length) | [.tup xs] => some (.int xs.length) | [.scr _ xs] => some (.int xs.length) | _ => none
section
variable {p p2 pos2 : Pos}
theorem de_len (hg : Gl X "len") (hm : X.mg "len" = none) (ha : PE X a (tD X.K W f)) (hs : starEach [a] X.env = (false, eval a X.env) :: starEach [] X.env := by rfl) : PE X (.Call (.Name "len" p) [a] [] pos) (tD X.K W (calE (aCons f aNil) lenO)) :=
  de_calB (fun F H vs ds z Q ex hv hz q => by
    unfold lenO at hz
    split at hz <;> cases hz
    · obtain ⟨v, rfl, h1⟩ := rpa1 hv
      cases h1 with
      | lst hs ha =>
        refine ⟨_, _, rfl, .inl (Evl.ex_l ex (Evl.sq_of hs)), ?_⟩
        rw [ha.length]; exact q.1 _ (.int _)
    · obtain ⟨v, rfl, h1⟩ := rpa1 hv
      cases h1 with
      | tup hs ha =>
        refine ⟨_, _, rfl, .inr (Evl.ex_t ex hs.sq), ?_⟩
        rw [ha.length]; exact q.1 _ (.int _)
    · obtain ⟨v, rfl, h1⟩ := rpa1 hv
      rename_i t xs
      cases h1 with
      | scr _ hs ha =>
        have hs' := hs.up ex
        unfold SqB at hs'
        rw [← ha.length] at q
        cases t with
        | true => exact ⟨_, _, rfl, .inr hs', q.1 _ (.int _)⟩
        | false => exact ⟨_, _, rfl, .inl hs', q.1 _ (.int _)⟩) call_len_seq hg hm PySem.boot_len (da_cons ha da_nil hs) (by decide) (by decide) hs (by rfl)
def intO : List Dt → Option Dt | [.int i] => some (.int i) | [.bl b] => some (.int (if b then 1 else 0)) | _ => none
theorem de_intc (hg : Gl X "int") (hm : X.mg "int" = none) (ha : PE X a (tD X.K W f)) (hs : starEach [a] X.env = (false, eval a X.env) :: starEach [] X.env := by rfl) : PE X (.Call (.Name "int" p) [a] [] pos) (tD X.K W (calE (aCons f aNil) intO)) :=
  de_calT (fun F H vs ds z Q ex hv hz q => by
    unfold intO at hz
    split at hz <;> cases hz
    · obtain ⟨v, rfl, h1⟩ := rpa1 hv
      cases h1
      exact .inl ⟨_, rfl, q.1 _ (.int _)⟩
    · obtain ⟨v, rfl, h1⟩ := rpa1 hv
      cases h1
      exact .inr ⟨_, rfl, q.1 _ (.int _)⟩) call_int1 hg hm PyProof.Rows.boot_int (da_cons ha da_nil hs) (by decide) (by decide) hs (by rfl)
def absO : List Dt → Option Dt | [.int i] => some (.int (if i < 0 then -i else i)) | _ => none
theorem de_abs (hg : Gl X "abs") (hm : X.mg "abs" = none) (ha : PE X a (tD X.K W f)) (hs : starEach [a] X.env = (false, eval a X.env) :: starEach [] X.env := by rfl) : PE X (.Call (.Name "abs" p) [a] [] pos) (tD X.K W (calE (aCons f aNil) absO)) :=
  de_calB (fun F H vs ds z Q ex hv hz q => by
    unfold absO at hz
    split at hz <;> cases hz
    obtain ⟨v, rfl, h1⟩ := rpa1 hv
    cases h1
    exact ⟨_, rfl, q.1 _ (.int _)⟩) call_abs hg hm (by decide +kernel) (da_cons ha da_nil hs) (by decide) (by decide) hs (by rfl)
def tupO : List Dt → Option Dt | [.lst xs] => some (.tup xs) | [.tup xs] => some (.tup xs) | _ => none
theorem de_tupc (hg : Gl X "tuple") (hm : X.mg "tuple" = none) (ha : PE X a (tD X.K W f)) (hs : starEach [a] X.env = (false, eval a X.env) :: starEach [] X.env := by rfl) : PE X (.Call (.Name "tuple" p) [a] [] pos) (tD X.K W (calE (aCons f aNil) tupO)) :=
  de_calT (fun F H vs ds z Q ex hv hz q => by
    unfold tupO at hz
    split at hz <;> cases hz
    · obtain ⟨v, rfl, h1⟩ := rpa1 hv
      cases h1 with
      | lst hs ha =>
        refine ⟨_, _, rfl, .inl ⟨Evl.ex_l ex (Evl.sq_of hs), fun p hp => q.2 p _ hp ?_⟩⟩
        have hf : F p = none := by
          cases w : F p with
          | none => rfl
          | some o => rw [ex _ _ w] at hp; cases hp
        exact .tup upd_same (ha.up (Ex.new hf))
    · obtain ⟨v, rfl, h1⟩ := rpa1 hv
      cases h1 with
      | tup hs ha => exact ⟨_, _, rfl, .inr ⟨Evl.ex_t ex hs.sq, q.1 _ (.tup hs ha)⟩⟩) call_tuple_of hg hm (by decide +kernel) (da_cons ha da_nil hs) (by decide) (by decide) hs (by rfl)
def lstO : List Dt → Option (List Dt) | [.lst xs] => some xs | [.tup xs] => some xs | _ => none
theorem dn_list (hg : Gl X "list") (hm : X.mg "list" = none) (ha : PE X a (tD X.K W f)) (hs : starEach [a] X.env = (false, eval a X.env) :: starEach [] X.env := by rfl) : PE X (.Call (.Name "list" p) [a] [] pos) (tN X.K W (calN (aCons f aNil) lstO)) :=
  dn_calT (fun F H vs ds z Q ex hv hz q => by
    unfold lstO at hz
    split at hz <;> cases hz
    · obtain ⟨v, rfl, h1⟩ := rpa1 hv
      cases h1 with
      | lst hs ha => exact ⟨_, _, rfl, .inl (Evl.ex_l ex (Evl.sq_of hs)), fun p hp => q p _ hp ha⟩
    · obtain ⟨v, rfl, h1⟩ := rpa1 hv
      cases h1 with
      | tup hs ha => exact ⟨_, _, rfl, .inr (Evl.ex_t ex hs.sq), fun p hp => q p _ hp ha⟩) call_list_of hg hm (by decide +kernel) (da_cons ha da_nil hs) (by decide) (by decide) hs (by rfl)
def sumO : List Dt → Option Dt | [.lst xs] => (intsOf xs).map fun ns => .int ns.sum | _ => none
theorem de_sum (hcalm : X.calm = true) (hg : Gl X "sum") (hm : X.mg "sum" = none) (ha : PE X a (tD X.K W f)) (hs : starEach [a] X.env = (false, eval a X.env) :: starEach [] X.env := by rfl) : PE X (.Call (.Name "sum" p) [a] [] pos) (tD X.K W (calE (aCons f aNil) sumO)) :=
  de_calB (fun F H vs ds z Q ex hv hz q => by
    unfold sumO at hz
    split at hz <;> try cases hz
    rename_i xs
    cases hn : intsOf xs with
    | none => rw [hn] at hz; cases hz
    | some ns =>
      rw [hn] at hz
      cases hz
      have e1 := intsOf_eq hn
      subst e1
      obtain ⟨v, rfl, h1⟩ := rpa1 hv
      cases h1 with
      | lst hs ha =>
        rw [ha.intsv] at hs
        exact ⟨_, _, rfl, Evl.ex_l ex (Evl.sq_of hs), q.1 _ (.int _)⟩) (cr_sum hcalm) hg hm (by decide +kernel) (da_cons ha da_nil hs) (by decide) (by decide) hs (by rfl)

def tyN : Dt → Option String | .non => some "NoneType" | .bl _ => some "bool" | .int _ => some "int" | .str _ => some "str" | .lst _ => some "list" | .tup _ => some "tuple" | .obj _ _ _ => none | .scr _ _ => none
def isiO (T : String) (d : Dt) : Option Dt := (tyN d).bind fun n => (kitB n T).map .bl
theorem tyx_of {K : PySem.W.Frag} {F H : Hp} {v : V} {d : Dt} {n : String} (ex : Ex F H) (h : Rp K F v d) (hn : tyN d = some n) : TyX K H v (.type n) := by
  cases h with
  | non => cases hn; exact .base .non
  | bl b => cases hn; exact .base (.bl b)
  | int i => cases hn; exact .base (.int i)
  | str x => cases hn; exact .base (.str x)
  | lst hs ha => cases hn; exact .base (.lst (ex _ _ hs))
  | tup hs ha =>
    cases hn
    exact .base (.tup (ex _ _ hs))
  | obj _ _ _ => cases hn
  | scr _ _ _ => cases hn
theorem de_isi {T : String} {y : Str} (hT : bootBuiltins y = some (.type T)) (hg : Gl X "isinstance") (hm : X.mg "isinstance" = none) (hgT : Gl X y) (hmT : X.mg y = none) (hcl : ClsV (.ty T) (.type T)) (ha : PE X a (tD X.K W f)) (hyn : y ≠ "__name__" := by decide) (hyd : (y == ("__debug__" : Str)) = false := by decide)
    (hs : starEach [a, .Name y p2] X.env = (false, eval a X.env) :: starEach [.Name y p2] X.env := by rfl) (hs2 : starEach [.Name y p2] X.env = (false, eval (.Name y p2) X.env) :: starEach [] X.env := by rfl) (hpl : (backTo pos (starEach [.Name y p2] X.env)).any (·.1) = false := by rfl) :
    PE X (.Call (.Name "isinstance" p) [a, .Name y p2] [] pos) (tD X.K W (op1 f (isiO T))) := by
  have hy : PE X (.Name y p2) (tC (.ty T)) := pe_bltn hgT hmT hT rfl hyn hyd
  refine monoE (pe_callB call_isi hg hm (by decide +kernel) (pa_cons ha (pa_cons hy pa_nil hs2) hs) (by decide) (by decide) hs hpl) fun σ H Q q => ?_
  obtain ⟨B, F, as, S, r, o⟩ := q
  refine ⟨B, F, as, S, r, Out.mono (Out.bind o) fun d F1 H1 as1 S1 ⟨r1, e1, o1⟩ v hv => ?_⟩
  show rIsi X.K [v, .ty T] H1 Q
  unfold isiO at o1
  cases hn : tyN d with
  | none => rw [hn] at o1; exact o1.elim
  | some n =>
    rw [hn] at o1
    dsimp only [Option.bind] at o1
    cases hk : kitB n T with
    | none => rw [hk] at o1; exact o1.elim
    | some k =>
      rw [hk] at o1
      exact ⟨v, .ty T, .type n, .type T, k, rfl, hcl, tyx_of r1.fh hv hn, kit_ty hk, Out.now o1 r1 _ (.bl k)⟩
end

def tO (K : PySem.W.Frag) (W : WX) (f : Ms → R (Option Int)) : TO := fun σ H Q => ∃ B F as S, Rep K B F H as σ S ∧ Out K W B F as σ (f S) fun o _ H' _ _ => Q o H'
theorem monoO {X : Cx} {e : Option Expr} {t t' : TO} (h : PO X e t) (m : ∀ σ H Q, t' σ H Q → t σ H Q) : PO X e t' := ⟨fun pins s σ H Q I q => h.run pins s σ H Q I (m σ H Q q)⟩
def oNone : Ms → R (Option Int) := fun S => .ok none S
def oSome (f : Ms → R Dt) : Ms → R (Option Int) := fun S => (f S).bind fun d S1 => match d with | .int i => .ok (some i) S1 | _ => .no
theorem do_none : PO X none (tO X.K W oNone) := monoO po_none fun σ H Q q => by
  obtain ⟨B, F, as, S, r, o⟩ := q
  exact Out.now o r
theorem do_some (h : PE X e (tD X.K W f)) : PO X (some e) (tO X.K W (oSome f)) := monoO (po_some h) fun σ H Q q => by
  obtain ⟨B, F, as, S, r, o⟩ := q
  refine ⟨B, F, as, S, r, Out.mono (Out.bind o) fun d F1 H1 as1 S1 ⟨r1, e1, o1⟩ v hv => ?_⟩
  cases d with
  | int i => cases hv; exact ⟨i, rfl, Out.now o1 r1⟩
  | _ => exact o1.elim
def cut {α : Type} (xs : List α) (lo hi : Option Int) : List α := (xs.drop (HT.sIx xs.length 0 lo)).take (HT.sIx xs.length xs.length hi - HT.sIx xs.length 0 lo)
theorem cut_rp {K : PySem.W.Frag} {F : Hp} {vs : List V} {ds : List Dt} (h : RpA K F vs ds) (lo hi : Option Int) : RpA K F (cutV vs lo hi) (cut ds lo hi) := by
  unfold cutV cut
  rw [h.length]
  exact (h.drop _).take _
def slT (f : Ms → R Dt) (lo hi : Ms → R (Option Int)) : Ms → R Dt := fun S => (f S).bind fun d S1 => (lo S1).bind fun l S2 => (hi S2).bind fun u S3 => match d with | .tup xs => .ok (.tup (cut xs l u)) S3 | _ => .no
def slL (f : Ms → R Dt) (lo hi : Ms → R (Option Int)) : Ms → R (List Dt) := fun S => (f S).bind fun d S1 => (lo S1).bind fun l S2 => (hi S2).bind fun u S3 => match d with | .lst xs => .ok (cut xs l u) S3 | .scr false xs => .ok (cut xs l u) S3 | _ => .no
section
variable {lo hi : Option Expr} {fl fh : Ms → R (Option Int)} {p2 : Pos}
theorem de_sliceT (he : PE X e (tD X.K W f)) (hl : PO X lo (tO X.K W fl)) (hu : PO X hi (tO X.K W fh)) : PE X (.Subscript e (.Slice lo hi none p2) pos) (tD X.K W (slT f fl fh)) := monoE (pe_slice sl_tupA he hl hu) fun σ H Q q => by
  obtain ⟨B, F, as, S, r, o⟩ := q
  refine ⟨B, F, as, S, r, Out.mono (Out.bind o) fun d F1 H1 as1 S1 ⟨r1, e1, o1⟩ v hv => ?_⟩
  refine ⟨B, F1, as1, S1, r1, Out.mono (Out.bind o1) fun l F2 H2 as2 S2 ⟨r2, e2, o2⟩ => ?_⟩
  refine ⟨B, F2, as2, S2, r2, Out.mono (Out.bind o2) fun u F3 H3 as3 S3 ⟨r3, e3, o3⟩ => ?_⟩
  cases d with
  | tup xs =>
    cases (hv.up e2.1).up e3.1 with
    | tup hs ha =>
      have gg := gv_of o3 r3
      refine ⟨_, _, rfl, Evl.ex_t r3.fh hs.sq, fun hw => gg.1 _ ?_, fun hw p hp => gg.2 p _ hp (.tup upd_same ((cut_rp ha l u).up (Ex.new (r3.fresh hp).1)))⟩
      have hc : cut xs l u = xs := by
        unfold cut
        rw [← ha.length, hw.1, hw.2, ha.length]
        simp
      rw [hc]
      exact .tup hs ha
  | _ => exact o3.elim
theorem dn_sliceL (he : PE X e (tD X.K W f)) (hl : PO X lo (tO X.K W fl)) (hu : PO X hi (tO X.K W fh)) : PE X (.Subscript e (.Slice lo hi none p2) pos) (tN X.K W (slL f fl fh)) := monoE (pe_slice sl_list he hl hu) fun σ H Q q => by
  obtain ⟨B, F, as, S, r, o⟩ := q
  refine ⟨B, F, as, S, r, Out.mono (Out.bind o) fun d F1 H1 as1 S1 ⟨r1, e1, o1⟩ v hv => ?_⟩
  refine ⟨B, F1, as1, S1, r1, Out.mono (Out.bind o1) fun l F2 H2 as2 S2 ⟨r2, e2, o2⟩ => ?_⟩
  refine ⟨B, F2, as2, S2, r2, Out.mono (Out.bind o2) fun u F3 H3 as3 S3 ⟨r3, e3, o3⟩ => ?_⟩
  cases d with
  | lst xs =>
    cases (hv.up e2.1).up e3.1 with
    | lst hs ha => exact ⟨_, _, rfl, Evl.ex_l r3.fh (Evl.sq_of hs), fun p hp => gvl_of o3 r3 p _ hp (cut_rp ha l u)⟩
  | scr t xs =>
    cases t with
    | true => exact o3.elim
    | false =>
      cases (hv.up e2.1).up e3.1 with
      | scr _ hs ha => exact ⟨_, _, rfl, hs.up r3.fh, fun p hp => gvl_of o3 r3 p _ hp (cut_rp ha l u)⟩
  | _ => exact o3.elim
end

def catT : Dt → Dt → Option Dt | .tup xs, .tup ys => if xs.length + ys.length ≤ 100000 then some (.tup (xs ++ ys)) else none | _, _ => none
theorem de_catT (ha : PE X a (tD X.K W f)) (hb : PE X b (tD X.K W g)) : PE X (.BinOp a .Add b pos) (tD X.K W (op2 f g catT)) := de_op op_catA (fun F H v w d e z Q ex hv hw hz q => by
  cases d <;> cases e <;> simp only [catT] at hz <;> try cases hz
  split at hz <;> cases hz
  rename_i hl
  cases hv with
  | tup hs ha =>
    cases hw with
    | tup hs2 ha2 =>
      rename_i xs ys _ vs _ ws
      refine ⟨_, _, _, _, rfl, rfl, Evl.ex_t ex hs.sq, Evl.ex_t ex hs2.sq, Nat.le_trans (by rw [ha.length, ha2.length]; exact hl) (by decide), fun hx => q.1 _ ?_, fun hx hy => q.1 _ ?_, fun hx hy p hp => q.2 p _ hp ?_⟩
      · subst hx
        cases ha
        exact .tup hs2 ha2
      · subst hy
        cases ha2
        rw [List.append_nil]
        exact .tup hs ha
      · have hf : F p = none := by
          cases w : F p with
          | none => rfl
          | some o => rw [ex _ _ w] at hp; cases hp
        exact .tup upd_same ((ha.app ha2).up (Ex.new hf))) ha hb
def catL : Dt → Dt → Option (List Dt) | .lst xs, .lst ys => if xs.length + ys.length ≤ 100000 then some (xs ++ ys) else none | _, _ => none
theorem dn_catL (ha : PE X a (tD X.K W f)) (hb : PE X b (tD X.K W g)) : PE X (.BinOp a .Add b pos) (tN X.K W (opN f g catL)) := dn_op op_cat (fun F H v w d e z Q ex hv hw hz q => by
  cases d <;> cases e <;> simp only [catL] at hz <;> try cases hz
  split at hz <;> cases hz
  rename_i hl
  cases hv with
  | lst hs ha =>
    cases hw with
    | lst hs2 ha2 => exact ⟨_, _, _, _, rfl, rfl, ex _ _ hs, ex _ _ hs2, Nat.le_trans (by rw [ha.length, ha2.length]; exact hl) (by decide), fun p hp => q p _ hp (ha.app ha2)⟩) ha hb
def repL : Dt → Dt → Option (List Dt) | .lst xs, .int k => if xs.length ≤ 100 ∧ 0 ≤ k ∧ k ≤ 1000 then some (List.replicate k.toNat xs).flatten else none | _, _ => none
theorem rp_flat {K : PySem.W.Frag} {F : Hp} {vs : List V} {ds : List Dt} (h : RpA K F vs ds) : ∀ n : Nat, RpA K F (List.replicate n vs).flatten (List.replicate n ds).flatten
  | 0 => .nil
  | n + 1 => by
    rw [List.replicate_succ, List.replicate_succ, List.flatten_cons, List.flatten_cons]
    exact h.app (rp_flat h n)
theorem dn_repL (ha : PE X a (tD X.K W f)) (hb : PE X b (tD X.K W g)) : PE X (.BinOp a .Mult b pos) (tN X.K W (opN f g repL)) := dn_op op_rep (fun F H v w d e z Q ex hv hw hz q => by
  cases d <;> cases e <;> simp only [repL] at hz <;> try cases hz
  split at hz <;> cases hz
  rename_i xs ii hl
  cases hw
  cases hv with
  | lst hs ha =>
    refine ⟨_, _, _, rfl, rfl, ex _ _ hs, by omega, by omega, ?_, fun p hp => q p _ hp (rp_flat ha _)⟩
    rw [ha.length]
    have : sizeLine = 16777216 := sizeLine_eq
    rw [this]
    have h2 : ii.toNat ≤ 1000 := by omega
    have h3 := Nat.mul_le_mul hl.1 h2
    omega) ha hb
end
end Lq

namespace Lq
open PySem PySem.Spec PyProof.Rows L2
open Evl (Ex)
open RZ

section
variable {K : PySem.W.Frag} {B F H F' H' : Hp} {as as' : List Addr} {σ : L2.St} {S : Ms}
theorem Rep.hold (r : Rep K B F H as σ S) {D : Addr} {o : HO} (h1 : H D = some o) (h2 : F D = none) (h3 : D ∉ as) (h4 : NT o) : Rep K (upd B D o) F H as σ S := by
  refine ⟨r.fh, fun a u hu => ?_, r.sl, ?_, r.nd⟩
  · by_cases q : a = D
    · subst q
      rw [upd_same] at hu
      cases hu
      exact ⟨h1, h2, h4⟩
    · rw [upd_ne q] at hu
      exact r.bh a u hu
  · have : ∀ {xs : List Addr} {ys : List Mo}, (∀ a ∈ xs, a ≠ D) → Paired (MoR K B F H) xs ys → Paired (MoR K (upd B D o) F H) xs ys := by
      intro xs ys hn z
      induction z with
      | nil => exact .nil
      | @cons a b l1 l2 z zs ih =>
        refine .cons ?_ (ih fun a ha => hn a (List.mem_cons_of_mem _ ha))
        cases b with
        | ob ds =>
          obtain ⟨z1, z2, ws, z3, z4⟩ := z
          exact ⟨by rw [upd_ne (hn _ List.mem_cons_self)]; exact z1, z2, ws, z3, z4⟩
        | fz d => exact z
    exact this (fun a ha z => h3 (z ▸ ha)) r.mo
theorem Rep.unhold {D : Addr} {o : HO} (r : Rep K (upd B D o) F H as σ S) (hB : B D = none) : Rep K B F H as σ S ∧ H D = some o ∧ F D = none ∧ D ∉ as := by
  obtain ⟨q1, q2, _⟩ := r.bh D o upd_same
  refine ⟨⟨r.fh, fun a u hu => ?_, r.sl, r.mo.mono fun a m z => ?_, r.nd⟩, q1, q2, fun z => ?_⟩
  · have n : a ≠ D := by
      rintro rfl
      rw [hB] at hu; cases hu
    exact r.bh a u (by rw [upd_ne n]; exact hu)
  · cases m with
    | ob ds =>
      obtain ⟨z1, z2, ws, z3, z4⟩ := z
      have n : a ≠ D := by
        rintro rfl
        rw [upd_same] at z1; cases z1
      rw [upd_ne n] at z1
      exact ⟨z1, z2, ws, z3, z4⟩
    | fz d => exact z
  · obtain ⟨i, hi⟩ := List.mem_iff_getElem?.mp z
    obtain ⟨m, hm, z⟩ := pairedGetL r.mo hi
    cases m with
    | ob ds =>
      obtain ⟨z1, _⟩ := z
      rw [upd_same] at z1; cases z1
    | fz d =>
      obtain ⟨⟨u, z1⟩, _⟩ := z
      rw [q2] at z1; cases z1
theorem Rep.back {σ0 : L2.St} {S0 : Ms} {F0 : Hp} {as0 : List Addr} (r : Rep K B F H as σ S) (h : Paired (SvR K F0 as0) σ0 S0.sl) (e : Ext F0 F as0 as) : Rep K B F H as σ0 { S0 with mo := S.mo } :=
  ⟨r.fh, r.bh, h.mono fun _ _ q => SvR.up q e, r.mo, r.nd⟩
end
def wipeL (l : List Sv) : List Nat → List Sv
  | [] => l
  | v :: vs => (wipeL l vs).set v .no
theorem wipe_rp {K : PySem.W.Frag} {F : Hp} {as : List Addr} {σ : L2.St} {l : List Sv} (h : Paired (SvR K F as) σ l) : ∀ vs, Paired (SvR K F as) (wipe σ vs) (wipeL l vs)
  | [] => h
  | v :: vs => by
    unfold wipe wipeL
    have ih := wipe_rp h vs
    exact pairedSet v ih (by trivial)
theorem wipeL_rp {K : PySem.W.Frag} {F : Hp} {as : List Addr} {σ : L2.St} {l : List Sv} (h : Paired (SvR K F as) σ l) : ∀ vs, Paired (SvR K F as) σ (wipeL l vs)
  | [] => h
  | v :: vs => by
    unfold wipeL
    have ih := wipeL_rp h vs
    exact pairedAt v ih (fun _ _ _ _ _ _ q => q) fun x _ => by cases x <;> trivial
theorem wipe_get {σ : L2.St} : ∀ (vs : List Nat) (j : Nat), (wipe σ vs)[j]? = if j ∈ vs then (σ[j]?).map fun _ => none else σ[j]?
  | [], j => by simp [wipe]
  | v :: vs, j => by
    have ih := wipe_get (σ := σ) vs j
    unfold wipe
    rw [List.getElem?_set]
    by_cases q : v = j
    · subst q
      simp only [List.mem_cons, true_or, if_true]
      rw [wipe_length]
      by_cases hl : v < σ.length
      · rw [if_pos hl, List.getElem?_eq_getElem hl]; rfl
      · rw [if_neg hl, List.getElem?_eq_none (by omega)]; rfl
    · rw [if_neg q, ih]
      have q2 : ¬ j = v := fun z => q z.symm
      simp only [List.mem_cons, q2, false_or]
theorem wipe_set {σ : L2.St} {i : Nat} {x : Option V} {vs : List Nat} (h : i ∈ vs) : wipe (σ.set i x) vs = wipe σ vs := by
  apply List.ext_getElem?
  intro j
  rw [wipe_get, wipe_get]
  by_cases q : j ∈ vs
  · rw [if_pos q, if_pos q, List.getElem?_set]
    by_cases z : i = j
    · subst z
      rw [if_pos rfl]
      by_cases hl : i < σ.length
      · rw [if_pos hl, List.getElem?_eq_getElem hl]; rfl
      · rw [if_neg hl, List.getElem?_eq_none (by omega)]
    · rw [if_neg z]
  · rw [if_neg q, if_neg q, List.getElem?_set]
    have z : ¬ i = j := fun z => q (z ▸ h)
    rw [if_neg z]
theorem wipe_wipe {σ : L2.St} {vs : List Nat} : wipe (wipe σ vs) vs = wipe σ vs := by
  apply List.ext_getElem?
  intro j
  rw [wipe_get, wipe_get]
  by_cases q : j ∈ vs
  · rw [if_pos q, if_pos q]
    cases σ[j]? <;> rfl
  · rw [if_neg q]

inductive Tk where | nm (i : Nat) | tp (is : List Nat)
def gNames : List Nat → TGs
  | [] => gNil
  | i :: is => gCons (gName i) (gNames is)
def Tk.g (K : PySem.W.Frag) : Tk → TG
  | .nm i => gName i
  | .tp is => gTup K is.length (gNames is)
def kNames : List Nat → List Dt → Ms → Option Ms
  | [], [], S => some S
  | i :: is, d :: ds, S => kNames is ds { S with sl := S.sl.set i (.im d) }
  | _, _, _ => none
def Tk.k : Tk → Dt → Ms → Option Ms
  | .nm i, d, S => some { S with sl := S.sl.set i (.im d) }
  | .tp is, .tup ds, S => kNames is ds S
  | _, _, _ => none
def Tk.is : Tk → List Nat
  | .nm i => [i]
  | .tp is => is
structure DG (X : Cx) (tg : Expr) (T : Tk) : Prop where
  pg : PG X tg (T.g X.K)
theorem kNames_len : ∀ {is : List Nat} {ds : List Dt} {S S' : Ms}, kNames is ds S = some S' → ds.length = is.length
  | [], [], _, _, _ => rfl
  | [], _ :: _, _, _, h => by cases h
  | _ :: _, [], _, _, h => by cases h
  | i :: is, d :: ds, S, S', h => by
    have := kNames_len (is := is) (ds := ds) h
    simp [this]
theorem gNames_run {K : PySem.W.Frag} {B F H : Hp} {as : List Addr} : ∀ (is : List Nat) (σ : L2.St) (S : Ms) (vs : List V) (ds : List Dt) (S' : Ms) (Q : L2.St → Hp → Prop), Rep K B F H as σ S → RpA K F vs ds → kNames is ds S = some S' → (∀ σ', Rep K B F H as σ' S' → (∀ ws, (∀ i ∈ is, i ∈ ws) → wipe σ' ws = wipe σ ws) → Q σ' H) → gNames is vs σ H Q
  | [], σ, S, vs, [], S', Q, r, hv, hk, q => by
    cases hv; cases hk
    exact ⟨rfl, q σ r fun _ _ => rfl⟩
  | [], σ, S, vs, _ :: _, S', Q, r, hv, hk, q => by cases hk
  | _ :: _, σ, S, vs, [], S', Q, r, hv, hk, q => by cases hk
  | i :: is, σ, S, vs, d :: ds, S', Q, r, hv, hk, q => by
    cases hv with
    | cons hv hvs =>
      refine ⟨_, _, rfl, ?_⟩
      refine gNames_run is _ _ _ ds S' Q (r.slot (s := .im d) i hv) hvs hk fun σ' r' w => q σ' r' fun ws hi => ?_
      rw [w ws fun j hj => hi j (List.mem_cons_of_mem _ hj)]
      exact wipe_set (hi i List.mem_cons_self)
theorem Tk.run {K : PySem.W.Frag} (T : Tk) {B F H : Hp} {as : List Addr} {σ : L2.St} {S : Ms} {v : V} {d : Dt} {S' : Ms} {Q : L2.St → Hp → Prop} (r : Rep K B F H as σ S) (hv : Rp K F v d) (hk : T.k d S = some S') (q : ∀ σ', Rep K B F H as σ' S' → (∀ vs, (∀ i ∈ T.is, i ∈ vs) → wipe σ' vs = wipe σ vs) → Q σ' H) : T.g K v σ H Q := by
  cases T with
  | nm i =>
    cases hk
    exact q _ (r.slot (s := .im d) i hv) fun vs hi => wipe_set (hi i List.mem_cons_self)
  | tp is =>
    cases d with
    | tup ds =>
      cases hv with
      | tup hs ha => exact ⟨_, _, rfl, Evl.ex_t r.fh hs.sq, by rw [ha.length]; exact kNames_len hk, gNames_run is σ S _ ds S' Q r ha hk q⟩
    | _ => cases hk
theorem dg_name {X : Cx} {i : Nat} {x : Str} {pos : Pos} (h : PG X (.Name x pos) (gName i)) : DG X (.Name x pos) (.nm i) := ⟨h⟩
theorem dgs_nil {X : Cx} : PGs X [] (gNames []) := pgs_nil
theorem dgs_cons {X : Cx} {e : Expr} {ts : List Expr} {i : Nat} {is : List Nat} (h1 : PG X e (gName i)) (h2 : PGs X ts (gNames is)) (hs : (assignEach (e :: ts) X.env).map (·.2) = assign e X.env :: (assignEach ts X.env).map (·.2) := by rfl) : PGs X (e :: ts) (gNames (i :: is)) := pgs_cons h1 h2 hs
theorem dg_tup {X : Cx} {es : List Expr} {k : Nat} {pos : Pos} {is : List Nat} (hc : X.calm = true) (h : PGs X es (gNames is)) (hn : (assignEach es X.env).length = is.length := by rfl) (hst : (assignEach es X.env).findIdx? (·.1) = none := by rfl) : DG X (.Tuple es k pos) (.tp is) := ⟨pg_tup hc h hn hst⟩

structure Walks (K : PySem.W.Frag) (F : Hp) (J : It) (ds : List Dt) : Prop where
  go : ∀ i H, i < ds.length → Ex F H → J.go i H
  stop : ∀ H, Ex F H → J.stop ds.length H
  yld : ∀ i H x H' F1, i < ds.length → Ex F F1 → Ex F1 H → J.yld i H x H' → ∃ d, ds[i]? = some d ∧ ((H' = H ∧ Rp K F1 x d) ∨ ∃ T o, H T = none ∧ H' = upd H T o ∧ Rp K (upd F1 T o) x d)
def tI (K : PySem.W.Frag) (W : WX) (it : Ms → R (List Dt)) : TI := fun σ H R => ∃ B F as S, Rep K B F H as σ S ∧ Out K W B F as σ (it S) fun ds F' H' _ _ => ∀ J, Walks K F' J ds → R J H'
theorem monoI {X : Cx} {tg l : Expr} {wi wi1 wi2 : TI} (h1 : PI X tg l wi1) (h2 : PI X tg l wi2) (h : ∀ σ H R, wi σ H R → wi1 σ H R ∨ wi2 σ H R) : PI X tg l wi :=
  ⟨fun pins s σ H R I q => (h σ H R q).elim (h1.run pins s σ H R I) (h2.run pins s σ H R I)⟩
theorem monoI1 {X : Cx} {tg l : Expr} {wi wi1 : TI} (h1 : PI X tg l wi1) (h : ∀ σ H R, wi σ H R → wi1 σ H R) : PI X tg l wi := ⟨fun pins s σ H R I q => h1.run pins s σ H R I (h σ H R q)⟩
def itS (f : Ms → R Dt) : Ms → R (List Dt) := fun S => (f S).bind fun d S1 => R.of (seqOf d) S1
theorem walksL0 {K : PySem.W.Frag} {F : Hp} {a : Addr} {xs : List V} {ds : List Dt} (hs : SqL K F a xs) (ha : RpA K F xs ds) : Walks K F (Itl K a) ds := by
  refine ⟨fun i H hi e => ?_, fun H e => ⟨xs, Evl.ex_l e hs, by rw [ha.length]; exact Nat.le_refl _⟩, fun i H x H' F1 hi e e2 y => ?_⟩
  · have hi' : i < xs.length := by rw [ha.length]; exact hi
    exact ⟨xs, xs[i], Evl.ex_l e hs, by simp [hi']⟩
  · obtain ⟨y1, y2⟩ := y
    have q := y2 xs (Evl.ex_l (e.trans e2) hs)
    obtain ⟨d, h1, h2⟩ := ha.getv q
    exact ⟨d, h1, .inl ⟨y1, h2.up e⟩⟩
theorem walksT0 {K : PySem.W.Frag} {F : Hp} {a : Addr} {xs : List V} {ds : List Dt} (hs : SqT K F a xs) (ha : RpA K F xs ds) : Walks K F (Itt K a) ds := by
  refine ⟨fun i H hi e => ?_, fun H e => ⟨xs, Evl.ex_t e hs, by rw [ha.length]; exact Nat.le_refl _⟩, fun i H x H' F1 hi e e2 y => ?_⟩
  · have hi' : i < xs.length := by rw [ha.length]; exact hi
    exact ⟨xs, xs[i], Evl.ex_t e hs, by simp [hi']⟩
  · obtain ⟨y1, y2⟩ := y
    have q := y2 xs (Evl.ex_t (e.trans e2) hs)
    obtain ⟨d, h1, h2⟩ := ha.getv q
    exact ⟨d, h1, .inl ⟨y1, h2.up e⟩⟩
theorem walksL {K : PySem.W.Frag} {F : Hp} {a : Addr} {xs : List V} {ds : List Dt} (hs : F a = some (.lst xs)) (ha : RpA K F xs ds) : Walks K F (Itl K a) ds := walksL0 (Evl.sq_of hs) ha
theorem walksT {K : PySem.W.Frag} {F : Hp} {a : Addr} {xs : List V} {ds : List Dt} (hs : TupAt K F a xs) (ha : RpA K F xs ds) : Walks K F (Itt K a) ds := walksT0 hs.sq ha
section
variable {X : Cx} {W : WX} {tg l e e2 : Expr} {f : Ms → R Dt} {fs : Ms → R (List Dt)} {p pos tpos : Pos}
theorem di_seq (h : PE X l (tD X.K W f)) : PI X tg l (tI X.K W (itS f)) := monoI (pi_list h) (pi_tup h) fun σ H R q => by
  obtain ⟨B, F, as, S, r, o⟩ := q
  unfold itS at o
  cases hf : f S with
  | ok d S1 =>
    rw [hf] at o
    cases d with
    | lst ds =>
      refine .inl ⟨B, F, as, S, r, ?_⟩
      rw [hf]
      intro F1 H1 as1 e1 r1 v hv
      cases hv with
      | lst hs ha => exact ⟨_, rfl, ⟨_, Evl.ex_l r1.fh (Evl.sq_of hs)⟩, o F1 H1 as1 e1 r1 _ (walksL hs ha)⟩
    | tup ds =>
      refine .inr ⟨B, F, as, S, r, ?_⟩
      rw [hf]
      intro F1 H1 as1 e1 r1 v hv
      cases hv with
      | tup hs ha => exact ⟨_, rfl, ⟨_, Evl.ex_t r1.fh hs.sq⟩, o F1 H1 as1 e1 r1 _ (walksT hs ha)⟩
    | scr t ds =>
      cases t with
      | true =>
        refine .inr ⟨B, F, as, S, r, ?_⟩
        rw [hf]
        intro F1 H1 as1 e1 r1 v hv
        cases hv with
        | scr _ hs ha => exact ⟨_, rfl, ⟨_, hs.up r1.fh⟩, o F1 H1 as1 e1 r1 _ (walksT0 hs ha)⟩
      | false =>
        refine .inl ⟨B, F, as, S, r, ?_⟩
        rw [hf]
        intro F1 H1 as1 e1 r1 v hv
        cases hv with
        | scr _ hs ha => exact ⟨_, rfl, ⟨_, hs.up r1.fh⟩, o F1 H1 as1 e1 r1 _ (walksL0 hs ha)⟩
    | _ => exact o.elim
  | er x S1 =>
    rw [hf] at o
    exact .inl ⟨B, F, as, S, r, by rw [hf]; exact o⟩
  | no => rw [hf] at o; exact o.elim
def itR1 (fs : Ms → R (List Dt)) : Ms → R (List Dt) := fun S => (fs S).bind fun ds S1 => match ds with
  | [.int j] => if -(2 ^ 62) ≤ j ∧ j < 2 ^ 62 then .ok ((List.range j.toNat).map fun (i : Nat) => Dt.int (i : Int)) S1 else .no
  | _ => .no
def itR2 (fs : Ms → R (List Dt)) : Ms → R (List Dt) := fun S => (fs S).bind fun ds S1 => match ds with
  | [.int i, .int j] => if -(2 ^ 62) ≤ i ∧ i < 2 ^ 62 ∧ -(2 ^ 62) ≤ j ∧ j < 2 ^ 62 then .ok ((List.range (j - i).toNat).map fun (k : Nat) => Dt.int (i + (k : Int))) S1 else .no
  | _ => .no
theorem walksR {K : PySem.W.Frag} {F : Hp} {lo : Int} {n : Nat} {ds : List Dt} (h : ds = (List.range n).map fun (k : Nat) => Dt.int (lo + (k : Int))) : Walks K F (Itr lo n) ds := by
  subst h
  have hl : ((List.range n).map fun (k : Nat) => Dt.int (lo + (k : Int))).length = n := by simp
  refine ⟨fun i H hi e => by rw [hl] at hi; exact hi, fun H e => by rw [hl]; exact Nat.le_refl _, fun i H x H' F1 hi e e2 y => ?_⟩
  rw [hl] at hi
  obtain ⟨rfl, rfl⟩ := y
  refine ⟨.int (lo + i), ?_, .inl ⟨rfl, .int _⟩⟩
  rw [List.getElem?_map, List.getElem?_range hi]
  rfl
theorem di_range1 {a : Expr} (hg : Gl X "range") (hm : X.mg "range" = none) (ha : PA X [a] (tA X.K W fs)) (hs : starEach [a] X.env = [(false, eval a X.env)] := by rfl) : PI X tg (.Call (.Name "range" p) [a] [] pos) (tI X.K W (itR1 fs)) := monoI1 (pi_range1 hg hm ha hs) fun σ H R q => by
  obtain ⟨B, F, as, S, r, o⟩ := q
  refine ⟨B, F, as, S, r, Out.mono (Out.bind o) fun ds F1 H1 as1 S1 ⟨r1, e1, o1⟩ vs hv => ?_⟩
  split at o1
  · rename_i j _
    split at o1
    · rename_i hj
      obtain ⟨v, rfl, h1⟩ := rpa1 hv
      cases h1
      refine ⟨_, rfl, hj.1, hj.2, Out.now o1 r1 _ (walksR ?_)⟩
      apply List.map_congr_left
      intro k _
      rw [Int.zero_add]
    · exact o1.elim
  · exact o1.elim
theorem di_range2 {a b : Expr} (hg : Gl X "range") (hm : X.mg "range" = none) (ha : PA X [a, b] (tA X.K W fs)) (hs : starEach [a, b] X.env = [(false, eval a X.env), (false, eval b X.env)] := by rfl) (hs2 : starEach [b] X.env = [(false, eval b X.env)] := by rfl) : PI X tg (.Call (.Name "range" p) [a, b] [] pos) (tI X.K W (itR2 fs)) := monoI1 (pi_range2 hg hm ha hs hs2) fun σ H R q => by
  obtain ⟨B, F, as, S, r, o⟩ := q
  refine ⟨B, F, as, S, r, Out.mono (Out.bind o) fun ds F1 H1 as1 S1 ⟨r1, e1, o1⟩ vs hv => ?_⟩
  split at o1
  · split at o1
    · rename_i hj
      obtain ⟨v, w, rfl, h1, h2⟩ := rpa2 hv
      cases h1; cases h2
      exact ⟨_, _, rfl, hj, Out.now o1 r1 _ (walksR rfl)⟩
    · exact o1.elim
  · exact o1.elim
def zipD (xs ys : List Dt) : List Dt := List.zipWith (fun d e => Dt.tup [d, e]) xs ys
def itZ (fs : Ms → R (List Dt)) : Ms → R (List Dt) := fun S => (fs S).bind fun ds S1 => match ds with
  | [.lst xs, .lst ys] => .ok (zipD xs ys) S1
  | [.tup xs, .tup ys] => .ok (zipD xs ys) S1
  | _ => .no
theorem zipD_len (xs ys : List Dt) : (zipD xs ys).length = min xs.length ys.length := by simp [zipD]
theorem zipD_get {xs ys : List Dt} {i : Nat} {d e : Dt} (h1 : xs[i]? = some d) (h2 : ys[i]? = some e) : (zipD xs ys)[i]? = some (.tup [d, e]) := by
  unfold zipD
  rw [List.getElem?_zipWith, h1, h2]
theorem walksZ {K : PySem.W.Frag} {F : Hp} {a b : Addr} {xs ys : List V} {ds es : List Dt} (hs : F a = some (.lst xs)) (ha : RpA K F xs ds) (hs2 : F b = some (.lst ys)) (ha2 : RpA K F ys es) : Walks K F (Itz K a b) (zipD ds es) := by
  have w := walk_zip (K := K) (a := a) (b := b) (xs := xs) (ys := ys) rfl
  have hl : (zipD ds es).length = min xs.length ys.length := by rw [zipD_len, ha.length, ha2.length]
  have hh : ∀ {H}, Ex F H → SqL K H a xs ∧ SqL K H b ys := fun e => ⟨Evl.ex_l e (Evl.sq_of hs), Evl.ex_l e (Evl.sq_of hs2)⟩
  refine ⟨fun i H hi e => w.goes i H (by rw [← hl]; exact hi) (hh e), fun H e => by rw [hl]; exact w.stops H (hh e), fun i H x H' F1 hi e e2 y => ?_⟩
  obtain ⟨T, u, v, rfl, h1, rfl, h2, h3⟩ := w.yields i H x H' (by rw [← hl]; exact hi) (hh (e.trans e2)) y
  obtain ⟨d, d1, d2⟩ := ha.getv h2
  obtain ⟨c, c1, c2⟩ := ha2.getv h3
  refine ⟨.tup [d, c], zipD_get d1 c1, .inr ⟨T, .tup [u, v], h1, rfl, ?_⟩⟩
  have ht : F1 T = none := by
    cases w : F1 T with
    | none => rfl
    | some o => rw [e2 _ _ w] at h1; cases h1
  exact .tup upd_same (.cons ((d2.up e).up (Ex.new ht)) (.cons ((c2.up e).up (Ex.new ht)) .nil))
theorem walksZT {K : PySem.W.Frag} {F : Hp} {a b : Addr} {xs ys : List V} {ds es : List Dt} (hs : TupAt K F a xs) (ha : RpA K F xs ds) (hs2 : TupAt K F b ys) (ha2 : RpA K F ys es) : Walks K F (ItzT K a b) (zipD ds es) := by
  have hl : (zipD ds es).length = min xs.length ys.length := by rw [zipD_len, ha.length, ha2.length]
  have hh : ∀ {H}, Ex F H → SqT K H a xs ∧ SqT K H b ys := fun e => ⟨Evl.ex_t e hs.sq, Evl.ex_t e hs2.sq⟩
  refine ⟨fun i H hi e => ?_, fun H e => ?_, fun i H x H' F1 hi e e2 y => ?_⟩
  · rw [hl] at hi
    have h1 : i < xs.length := by omega
    have h2 : i < ys.length := by omega
    obtain ⟨q1, q2⟩ := hh e
    exact ⟨xs, ys, xs[i], ys[i], q1, q2, by simp [h1], by simp [h2]⟩
  · obtain ⟨q1, q2⟩ := hh e
    exact ⟨xs, ys, q1, q2, by rw [hl]; omega⟩
  obtain ⟨q1, q2⟩ := hh (e.trans e2)
  obtain ⟨T, u, v, rfl, h1, rfl, h2, h3⟩ := y
  obtain ⟨d, d1, d2⟩ := ha.getv (h2 _ q1)
  obtain ⟨c, c1, c2⟩ := ha2.getv (h3 _ q2)
  refine ⟨.tup [d, c], zipD_get d1 c1, .inr ⟨T, .tup [u, v], h1, rfl, ?_⟩⟩
  have ht : F1 T = none := by
    cases w : F1 T with
    | none => rfl
    | some o => rw [e2 _ _ w] at h1; cases h1
  exact .tup upd_same (.cons ((d2.up e).up (Ex.new ht)) (.cons ((c2.up e).up (Ex.new ht)) .nil))
theorem di_zip {elts : List Expr} {kk : Nat} (hg : Gl X "zip") (hm : X.mg "zip" = none) (ha : PA X [e, e2] (tA X.K W fs)) (hs : starEach [e, e2] X.env = (false, eval e X.env) :: starEach [e2] X.env := by rfl) (hpl : (backTo pos (starEach [e2] X.env)).any (·.1) = false := by rfl) :
    PI X (.Tuple elts kk tpos) (.Call (.Name "zip" p) [e, e2] [] pos) (tI X.K W (itZ fs)) := monoI1 (pi_zipA hg hm ha hs hpl) fun σ H R q => by
  obtain ⟨B, F, as, S, r, o⟩ := q
  refine ⟨B, F, as, S, r, Out.mono (Out.bind o) fun ds F1 H1 as1 S1 ⟨r1, e1, o1⟩ vs hv => ?_⟩
  split at o1
  · obtain ⟨v, w, rfl, h1, h2⟩ := rpa2 hv
    cases h1 with
    | lst hs ha =>
      cases h2 with
      | lst hs2 ha2 => exact ⟨_, _, _, _, rfl, .inl ⟨Evl.ex_l r1.fh (Evl.sq_of hs), Evl.ex_l r1.fh (Evl.sq_of hs2), Out.now o1 r1 _ (walksZ hs ha hs2 ha2)⟩⟩
  · obtain ⟨v, w, rfl, h1, h2⟩ := rpa2 hv
    cases h1 with
    | tup hs ha =>
      cases h2 with
      | tup hs2 ha2 => exact ⟨_, _, _, _, rfl, .inr ⟨Evl.ex_t r1.fh hs.sq, Evl.ex_t r1.fh hs2.sq, Out.now o1 r1 _ (walksZT hs ha hs2 ha2)⟩⟩
  · exact o1.elim
end

def W0 : WX := fun _ _ _ _ => False
def lcF (sl : List Sv) (k : Dt → Ms → Option Ms) (t : Ms → R Bool) (e : Ms → R Dt) : List Dt → List Mo → List Dt → R (List Dt)
  | [], mo, acc => .ok acc { sl := sl, mo := mo }
  | d :: ds, mo, acc => match k d { sl := sl, mo := mo } with
    | none => .no
    | some S1 => match t S1 with
      | .ok false S2 => lcF sl k t e ds S2.mo acc
      | .ok true S2 => (match e S2 with
        | .ok y S3 => if acc.length < 100000 then lcF sl k t e ds S3.mo (acc ++ [y]) else .no
        | _ => .no)
      | _ => .no
def lcE (it : Ms → R (List Dt)) (k : Dt → Ms → Option Ms) (t : Ms → R Bool) (e : Ms → R Dt) (own : List Nat) : Ms → R (List Dt) := fun S => (it S).bind fun ds S1 => (lcF (wipeL S1.sl own) k t e ds S1.mo []).bind fun ys S2 => .ok ys { sl := S1.sl, mo := S2.mo }
def yesT : Ms → R Bool := fun S => .ok true S
theorem lc_core0 {X : Cx} {W : WX} {T : Tk} {t : Ms → R Bool} {e : Ms → R Dt} {own : List Nat} (hi : ∀ i ∈ T.is, i ∈ own) {σ : L2.St} {H1 : Hp} {Q : VK} {B F1 : Hp} {as1 : List Addr} {S1 : Ms} {ds : List Dt} {J : It} {D : Addr} (r1 : Rep X.K B F1 H1 as1 σ S1)
    (o1 : Out X.K W B F1 as1 σ ((lcF (wipeL S1.sl own) T.k t e ds S1.mo []).bind fun ys S2 => .ok ys { sl := S1.sl, mo := S2.mo }) fun ds F' H' as' _ => ∀ p vs, F' p = none → B p = none → p ∉ as' → H' p = some (.lst vs) → RpA X.K F' vs ds → Q (.ref p) H') (w : Walks X.K F1 J ds) (hD : H1 D = none) :
    ∃ W : Nat → Nat → Hp → Prop, (∃ m, W 0 m (upd H1 D (.lst []))) ∧ ∀ i m H, W i m H →
      (J.stop i H ∧ Q (.ref D) H) ∨ (J.go i H ∧ ∃ Nx : Hp → Prop, (∀ H', Nx H' → ∃ m', m' < m ∧ W (i + 1) m' H') ∧ ∀ x H', J.yld i H x H' → T.g X.K x (wipe σ own) H' fun σ2 H2 => wipe σ2 own = wipe σ own ∧ tT X.K W0 t σ2 H2 fun b H3 =>
        if b = true then tD X.K W0 e σ2 H3 fun y H4 => ∃ acc, H4 D = some (.lst acc) ∧ acc.length < sizeLine ∧ Nx (upd H4 D (.lst (acc ++ [y]))) else Nx H3) := by
  obtain ⟨f1, f2, f3⟩ := r1.fresh hD
  have o2 := Out.bind o1
  refine ⟨fun i m H => m = ds.length - i ∧ i ≤ ds.length ∧ ∃ F2 as2 mo acc accV, Ext F1 F2 as1 as2 ∧ Rep X.K B F2 H as2 σ { S1 with mo := mo } ∧ F2 D = none ∧ D ∉ as2 ∧ H D = some (.lst accV) ∧ RpA X.K F2 accV acc ∧
    Out X.K W B F2 as2 σ (lcF (wipeL S1.sl own) T.k t e (ds.drop i) mo acc) fun ys F' H' as' S' => ∀ vs, (Rep X.K B F' H' as' σ { S1 with mo := S'.mo }) → F' D = none → D ∉ as' → H' D = some (.lst vs) → RpA X.K F' vs ys → Q (.ref D) H', ⟨ds.length, by simp, Nat.zero_le _, F1, as1, S1.mo, [], [], Ext.refl, ?_, f1, f3, upd_same, .nil, ?_⟩, ?_⟩
  · refine ⟨fun a u hu => ?_, fun a u hu => ?_, r1.sl, r1.mo.mono fun a m z => ?_, r1.nd⟩
    · rw [upd_ne (ne_of_none (r1.fh _ _ hu) hD)]
      exact r1.fh _ _ hu
    · obtain ⟨z1, z2, z3⟩ := r1.bh a u hu
      exact ⟨by rw [upd_ne (ne_of_none z1 hD)]; exact z1, z2, z3⟩
    · cases m with
      | ob ds =>
        obtain ⟨z1, z2, ws, z3, z4⟩ := z
        exact ⟨z1, z2, ws, by rw [upd_ne (ne_of_none z3 hD)]; exact z3, z4⟩
      | fz d => exact z
  · refine Out.mono o2 fun ys F' H' as' S' ⟨r', e', o3⟩ vs r'' hF hA hH hv => ?_
    exact o3 F' H' as' Ext.refl r'' D vs hF f2 hA hH hv
  · rintro i m H ⟨rfl, hle, F2, as2, mo, acc, accV, e2, r2, hF, hA, hH, hacc, o3⟩
    by_cases hlt : i < ds.length
    · refine .inr ⟨w.go i H hlt (e2.1.trans r2.fh), ?_⟩
      obtain ⟨d, hd⟩ : ∃ d, ds[i]? = some d := ⟨ds[i], by simp [hlt]⟩
      have hdrop : ds.drop i = d :: ds.drop (i + 1) := by
        rw [List.drop_eq_getElem_cons hlt]
        congr 1
        rw [List.getElem?_eq_getElem hlt] at hd
        exact Option.some.inj hd
      rw [hdrop] at o3
      refine ⟨fun H' => ∃ F2 as2 mo acc accV, Ext F1 F2 as1 as2 ∧ Rep X.K B F2 H' as2 σ { S1 with mo := mo } ∧ F2 D = none ∧ D ∉ as2 ∧ H' D = some (.lst accV) ∧ RpA X.K F2 accV acc ∧
        Out X.K W B F2 as2 σ (lcF (wipeL S1.sl own) T.k t e (ds.drop (i + 1)) mo acc) fun ys F' H' as' S' => ∀ vs, (Rep X.K B F' H' as' σ { S1 with mo := S'.mo }) → F' D = none → D ∉ as' → H' D = some (.lst vs) → RpA X.K F' vs ys → Q (.ref D) H', fun H' h => ⟨ds.length - (i + 1), by omega, rfl, hlt, h⟩, fun x H' hy => ?_⟩
      obtain ⟨d', hd', hx⟩ := w.yld i H x H' F2 hlt e2.1 r2.fh hy
      rw [hd] at hd'
      cases hd'
      have rh : Rep X.K (upd B D (.lst accV)) F2 H as2 σ { S1 with mo := mo } := r2.hold hH hF hA trivial
      -- the state at the turn
      obtain ⟨F3, e3, r3, hv3⟩ : ∃ F3, Ext F2 F3 as2 as2 ∧ Rep X.K (upd B D (.lst accV)) F3 H' as2 σ { S1 with mo := mo } ∧ Rp X.K F3 x d := by
        rcases hx with ⟨rfl, hx⟩ | ⟨T, ob, hT, rfl, hx⟩
        · exact ⟨F2, Ext.refl, rh, hx⟩
        · obtain ⟨ee, rr⟩ := rh.new hT ob
          exact ⟨_, ee, rr, hx⟩
      have r4 : Rep X.K (upd B D (.lst accV)) F3 H' as2 (wipe σ own) { sl := wipeL S1.sl own, mo := mo } := ⟨r3.fh, r3.bh, wipe_rp r3.sl own, r3.mo, r3.nd⟩
      unfold lcF at o3
      cases hk : T.k d { sl := wipeL S1.sl own, mo := mo } with
      | none => rw [hk] at o3; exact o3.elim
      | some S4 =>
        rw [hk] at o3
        dsimp only at o3
        refine T.run r4 hv3 hk fun σ4 r5 hw => ⟨by rw [hw own hi, wipe_wipe], ?_⟩
        refine ⟨_, F3, as2, S4, r5, ?_⟩
        cases ht : t S4 with
        | no => rw [ht] at o3; exact o3.elim
        | er x S5 => rw [ht] at o3; exact o3.elim
        | ok b S5 =>
          rw [ht] at o3
          intro F5 H5 as5 e5 r6
          cases b with
          | false =>
            show ∃ F2 as2 mo acc accV, _
            dsimp only at o3
            obtain ⟨r7, h7, h8, h9⟩ := (Rep.back r6 r3.sl e5).unhold f2
            have e25 := e3.trans e5
            exact ⟨F5, as5, S5.mo, acc, accV, e2.trans e25, r7, h8, h9, h7, hacc.up e25.1, by
              revert o3
              cases lcF (wipeL S1.sl own) T.k t e (ds.drop (i + 1)) S5.mo acc with
              | ok ys S' => exact fun o3 F' H' as' ee rr => o3 F' H' as' (e25.trans ee) rr
              | er y S' => exact fun o3 F' H' as' dx fs ee rr => o3 F' H' as' dx fs (e25.trans ee) rr
              | no => exact fun o3 => o3⟩
          | true =>
            show tD X.K W0 e σ4 H5 _
            dsimp only at o3
            refine ⟨_, F5, as5, S5, r6, ?_⟩
            cases he : e S5 with
            | no => rw [he] at o3; exact o3.elim
            | er x S6 => rw [he] at o3; exact o3.elim
            | ok y S6 =>
              rw [he] at o3
              dsimp only at o3
              split at o3
              · rename_i hlen
                intro F6 H6 as6 e6 r7 v hv
                obtain ⟨r8, h7, h8, h9⟩ := (Rep.back r7 r3.sl (e5.trans e6)).unhold f2
                have e26 := (e3.trans e5).trans e6
                refine ⟨accV, h7, Evl.sz_lt (by rw [hacc.length]; exact hlen), F6, as6, S6.mo, acc ++ [y], accV ++ [v], e2.trans e26, ?_, h8, h9, upd_same, (hacc.up e26.1).snoc hv, ?_⟩
                · refine ⟨fun a u hu => ?_, fun a u hu => ?_, r8.sl, ?_, r8.nd⟩
                  · have n : a ≠ D := by
                      rintro rfl
                      rw [h8] at hu; cases hu
                    rw [upd_ne n]
                    exact r8.fh _ _ hu
                  · have n : a ≠ D := by
                      rintro rfl
                      rw [f2] at hu; cases hu
                    rw [upd_ne n]
                    exact r8.bh a u hu
                  · have : ∀ {xs : List Addr} {ys : List Mo}, (∀ a ∈ xs, a ≠ D) → Paired (MoR X.K B F6 H6) xs ys → Paired (MoR X.K B F6 (upd H6 D (.lst (accV ++ [v])))) xs ys := by
                      intro xs ys hn z
                      induction z with
                      | nil => exact .nil
                      | @cons a b l1 l2 z zs ih =>
                        refine .cons ?_ (ih fun a ha => hn a (List.mem_cons_of_mem _ ha))
                        cases b with
                        | ob ds =>
                          obtain ⟨z1, z2, ws, z3, z4⟩ := z
                          exact ⟨z1, z2, ws, by rw [upd_ne (hn _ List.mem_cons_self)]; exact z3, z4⟩
                        | fz d => exact z
                    exact this (fun a ha z => h9 (z ▸ ha)) r8.mo
                · revert o3
                  cases lcF (wipeL S1.sl own) T.k t e (ds.drop (i + 1)) S6.mo (acc ++ [y]) with
                  | ok ys S' => exact fun o3 F' H' as' ee rr => o3 F' H' as' (e26.trans ee) rr
                  | er y S' => exact fun o3 F' H' as' dx fs ee rr => o3 F' H' as' dx fs (e26.trans ee) rr
                  | no => exact fun o3 => o3
              · exact o3.elim
    · have e : i = ds.length := by omega
      subst e
      rw [List.drop_length] at o3
      unfold lcF at o3
      refine .inl ⟨w.stop H (e2.1.trans r2.fh), ?_⟩
      exact o3 F2 H as2 Ext.refl ⟨r2.fh, r2.bh, wipeL_rp r2.sl own, r2.mo, r2.nd⟩ accV r2 hF hA hH hacc
theorem lc_run {X : Cx} {W : WX} {it : Ms → R (List Dt)} {T : Tk} {t : Ms → R Bool} {e : Ms → R Dt} {own : List Nat} (hi : ∀ i ∈ T.is, i ∈ own) {σ : L2.St} {H : Hp} {Q : VK}
    (q : tN X.K W (lcE it T.k t e own) σ H Q) : tLc (tI X.K W it) (T.g X.K) (tT X.K W0 t) (tD X.K W0 e) own σ H Q := by
  obtain ⟨B, F, as, S, r, o⟩ := q
  exact ⟨B, F, as, S, r, Out.mono (Out.bind o) fun ds F1 H1 as1 S1 ⟨r1, e1, o1⟩ J w D hD => lc_core0 hi r1 o1 w hD⟩
end Lq

namespace Lq
open PySem PySem.Spec PyProof.Rows L2
open Evl (Ex)
def asgS (i : Nat) (f : Ms → R Dt) : Ms → O := fun S => (f S).stmt fun d S1 => .nx { S1 with sl := S1.sl.set i (.im d) }
def asgN (i : Nat) (f : Ms → R (List Dt)) : Ms → O := fun S => (f S).stmt fun ds S1 => .nx { sl := S1.sl.set i (.mu S1.mo.length), mo := S1.mo ++ [.ob (.ls ds)] }
def moveS (i j : Nat) : Ms → O := fun S => match S.sl[j]? with | some (.im d) => .nx { S with sl := S.sl.set i (.im d) } | some (.mu k) => .nx { S with sl := S.sl.set i (.mu k) } | _ => .no
def asgT (T : Tk) (f : Ms → R Dt) : Ms → O := fun S => (f S).stmt fun d S1 => match T.k d S1 with | some S2 => .nx S2 | none => .no
section
variable {K : PySem.W.Frag} {W : WX} {f : Ms → R Dt} {fn : Ms → R (List Dt)} {i j : Nat} {D : Ends} {σ : L2.St} {H : Hp}
theorem asgS_run (q : sD K W (asgS i f) D σ H) : tD K W f σ H fun x H1 => D.nx (σ.set i (some x)) H1 := by
  obtain ⟨B, F, as, S, r, o⟩ := q
  exact ⟨B, F, as, S, r, Out.mono (OutS.stmt o) fun d F1 H1 as1 S1 ⟨r1, e1, o1⟩ v hv => o1 _ F1 H1 as1 Ext.refl (r1.slot (s := .im d) i hv)⟩
theorem asgN_run (q : sD K W (asgN i fn) D σ H) : tN K W fn σ H fun x H1 => D.nx (σ.set i (some x)) H1 := by
  obtain ⟨B, F, as, S, r, o⟩ := q
  refine ⟨B, F, as, S, r, Out.mono (OutS.stmt o) fun ds F1 H1 as1 S1 ⟨r1, e1, o1⟩ p vs f1 f2 f3 hp hv => ?_⟩
  obtain ⟨ee, rr⟩ := r1.newL f1 f2 f3 hp (.ls hv)
  refine o1 _ F1 H1 _ ee (rr.slot (s := .mu S1.mo.length) i ⟨p, ?_, rfl⟩)
  have hl : as1.length = S1.mo.length := r1.mo.length
  rw [← hl, List.getElem?_append_right (Nat.le_refl _), Nat.sub_self]
  rfl
theorem moveS_run (q : sD K W (moveS i j) D σ H) : tVar j σ H fun x H1 => D.nx (σ.set i (some x)) H1 := by
  obtain ⟨B, F, as, S, r, o⟩ := q
  unfold moveS at o
  cases hs : S.sl[j]? with
  | none => rw [hs] at o; exact o.elim
  | some s =>
    rw [hs] at o
    obtain ⟨ov, hv, z⟩ := pairedGet r.sl hs
    cases s with
    | no => exact o.elim
    | im d =>
      cases ov with
      | none => exact z.elim
      | some v => exact ⟨v, hv, o _ F H as Ext.refl (r.slot (s := .im d) i z)⟩
    | mu k =>
      cases ov with
      | none => exact z.elim
      | some v => exact ⟨v, hv, o _ F H as Ext.refl (r.slot (s := .mu k) i z)⟩
end
section
variable {X : Cx} {W : WX} {a b c e : Expr} {es : List Expr} {pos pos' : Pos} {f g : Ms → R Dt} {fn : Ms → R (List Dt)} {fs : Ms → R (List Dt)} {i j : Nat} {x y : Str} {m n : Ms → O} {st : Stmt} {rest : List Stmt}
theorem ds_set (hN : X.N.Nodup) (hi : X.N[i]? = some x) (hx : Loc X.env.scope x) (he : PE X e (tD X.K W f)) (hs : swapsWith e (some (.Name x pos')) pos.line X.env = pure false := by rfl) (hf : X.fn x = true ∨ X.env.scope.names.lookup x = some .local := by first | exact .inl rfl | exact .inr rfl | assumption) :
    PS X (.Assign [.Name x pos'] e pos) (sD X.K W (asgS i f)) := monoS (ps_set hN hi hx he hs hf) fun D σ H q => asgS_run q
theorem ds_setN (hN : X.N.Nodup) (hi : X.N[i]? = some x) (hx : Loc X.env.scope x) (he : PE X e (tN X.K W fn)) (hs : swapsWith e (some (.Name x pos')) pos.line X.env = pure false := by rfl) (hf : X.fn x = true ∨ X.env.scope.names.lookup x = some .local := by first | exact .inl rfl | exact .inr rfl | assumption) :
    PS X (.Assign [.Name x pos'] e pos) (sD X.K W (asgN i fn)) := monoS (ps_set hN hi hx he hs hf) fun D σ H q => asgN_run q
theorem ds_mov (hN : X.N.Nodup) (hi : X.N[i]? = some x) (hx : Loc X.env.scope x) (he : PE X e (tVar j)) (hs : swapsWith e (some (.Name x pos')) pos.line X.env = pure false := by rfl) (hf : X.fn x = true ∨ X.env.scope.names.lookup x = some .local := by first | exact .inl rfl | exact .inr rfl | assumption) :
    PS X (.Assign [.Name x pos'] e pos) (sD X.K W (moveS i j)) := monoS (ps_set hN hi hx he hs hf) fun D σ H q => moveS_run q
theorem ds_tgt {tg : Expr} {T : Tk} (he : PE X e (tD X.K W f)) (hg : DG X tg T) (hs : swapsWithSole [tg] e pos.line X.env = pure false := by rfl) (hw : swappedStores [tg] e X.env = pure none := by rfl)
    (h1 : (assignEach [tg] X.env).map (·.2) = [assign tg X.env] := by rfl) : PS X (.Assign [tg] e pos) (sD X.K W (asgT T f)) := monoS (ps_asg he hg.pg hs hw h1) fun D σ H q => by
  obtain ⟨B, F, as, S, r, o⟩ := q
  refine ⟨B, F, as, S, r, Out.mono (OutS.stmt o) fun d F1 H1 as1 S1 ⟨r1, e1, o1⟩ v hv => ?_⟩
  cases hk : T.k d S1 with
  | none => rw [hk] at o1; exact o1.elim
  | some S2 =>
    rw [hk] at o1
    exact T.run r1 hv hk fun σ' r' _ => o1 σ' F1 H1 as1 Ext.refl r'

section
variable {tg iter elt : Expr} {ifs : List Expr} {scope : Scope} {own : List (Str × Nat)} {it : Ms → R (List Dt)} {T : Tk} {t : Ms → R Bool} {fe : Ms → R Dt}
theorem dn_lc (hc : X.calm = true) (hN : X.N.Nodup) (hi : PI X tg iter (tI X.K W it)) (ok : BlkOk X.N X.env.scope scope own) {vs : List Nat} (hsub : ∀ i ∈ T.is, i ∈ vs)
    (hg : ∀ (s : Shared) (H : Hp) (C : Addr) (cl : List (Str × Addr)) (fp : List Addr), DG (X.blk s H scope (compEnvC scope cl C X.env) fp) tg T) (ht : ∀ (s : Shared) (H : Hp) (C : Addr) (cl : List (Str × Addr)) (fp : List Addr), PTs (X.blk s H scope (compEnvC scope cl C X.env) fp) ifs (tT X.K W0 t))
    (he : ∀ (s : Shared) (H : Hp) (C : Addr) (cl : List (Str × Addr)) (fp : List Addr), PE (X.blk s H scope (compEnvC scope cl C X.env) fp) elt (tD X.K W0 fe)) (hs : ∀ x, foldedSetIterable iter X.env x = pure x := by intro _; rfl) (hvs : own.map (·.2) = vs := by rfl) :
    PE X (.ListComp elt [⟨tg, iter, ifs, 0⟩] scope pos) (tN X.K W (lcE it T.k t fe vs)) :=
  by
  subst hvs
  exact ⟨fun pins s σ H Q I q => (pe_lc hc hN hi ok (fun s H C cl fp => (hg s H C cl fp).pg) ht he hs).run pins s σ H Q I (lc_run hsub q)⟩
theorem ds_lc {py spos : Pos} (hc : X.calm = true) (hN : X.N.Nodup) (hy : X.N[i]? = some y) (hyl : X.env.scope.names.lookup y = some .local)
    (hsw : swapsWith (.ListComp elt [⟨tg, iter, ifs, 0⟩] scope pos) (some (.Name y py)) spos.line X.env = pure true) (hi : PI X tg iter (tI X.K W it)) (ok : BlkOk X.N X.env.scope scope own) {vs : List Nat} (hsub : ∀ i ∈ T.is, i ∈ vs)
    (hg : ∀ (s : Shared) (H : Hp) (C : Addr) (cl : List (Str × Addr)) (fp : List Addr), DG (X.blk s H scope (compEnvC scope cl C X.env) fp) tg T) (ht : ∀ (s : Shared) (H : Hp) (C : Addr) (cl : List (Str × Addr)) (fp : List Addr), PTs (X.blk s H scope (compEnvC scope cl C X.env) fp) ifs (tT X.K W0 t))
    (he : ∀ (s : Shared) (H : Hp) (C : Addr) (cl : List (Str × Addr)) (fp : List Addr), PE (X.blk s H scope (compEnvC scope cl C X.env) fp) elt (tD X.K W0 fe)) (hs : ∀ x, foldedSetIterable iter X.env x = pure x := by intro _; rfl) (hvs : own.map (·.2) = vs := by rfl) :
    PS X (.Assign [.Name y py] (.ListComp elt [⟨tg, iter, ifs, 0⟩] scope pos) spos) (sD X.K W (asgS i (frz (lcE it T.k t fe vs)))) :=
  by
  subst hvs
  exact ⟨fun pins s σ H D I q => (ps_setLc hc hN hy hyl hsw hi ok (fun s H C cl fp => (hg s H C cl fp).pg) ht he hs).run pins s σ H D I (lc_run (Q := fun x H1 => D.nx (σ.set i (some x)) H1) hsub (frz_run (asgS_run q)))⟩
theorem dts_nil : PTs X [] (tT X.K W yesT) := monoPT pts_nil fun σ H Q q => by
  obtain ⟨B, F, as, S, r, o⟩ := q
  exact Out.now o r
theorem dts_one {p : Ms → R Bool} (h : PT X c (tT X.K W p)) : PTs X [c] (tT X.K W p) := pts_one h
end

def muAt (S : Ms) (i : Nat) : Option (Nat × List Dt) := match S.sl[i]? with | some (.mu k) => (match S.mo[k]? with | some (.ob (.ls xs)) => some (k, xs) | _ => none) | _ => none
theorem muAt_rp {K : PySem.W.Frag} {B F H : Hp} {as : List Addr} {σ : L2.St} {S : Ms} (r : Rep K B F H as σ S) {k : Nat} {xs : List Dt} (h : muAt S i = some (k, xs)) :
    ∃ p vs, σ[i]? = some (some (.ref p)) ∧ S.mo[k]? = some (.ob (.ls xs)) ∧ as[k]? = some p ∧ B p = none ∧ F p = none ∧ H p = some (.lst vs) ∧ RpA K F vs xs := by
  unfold muAt at h
  cases hs : S.sl[i]? with
  | none => rw [hs] at h; cases h
  | some s =>
    rw [hs] at h
    cases s with
    | mu k' =>
      dsimp only at h
      cases hm : S.mo[k']? with
      | none => rw [hm] at h; cases h
      | some mm =>
        rw [hm] at h
        cases mm with
        | ob c =>
         cases c with
         | dc kvs => cases h
         | io _ _ _ => cases h
         | ls ys =>
          cases h
          obtain ⟨ov, hv, z⟩ := pairedGet r.sl hs
          cases ov with
          | none => exact z.elim
          | some v =>
            obtain ⟨p, hp, rfl⟩ := z
            obtain ⟨p', hp', q1, q2, ob, q3, q4⟩ := pairedGet r.mo hm
            rw [hp] at hp'
            cases hp'
            cases q4
            rename_i vs q4
            exact ⟨p, vs, hv, hm, hp, q1, q2, q3, q4⟩
        | fz d => cases h
    | _ => cases h
def appS (i : Nat) (f : Ms → R Dt) : Ms → O := fun S => match muAt S i with
  | none => .no
  | some _ => (f S).stmt fun d S1 => match muAt S1 i with | some (k, xs) => if xs.length < 100000 then .nx { S1 with mo := S1.mo.set k (.ob (.ls (xs ++ [d]))) } else .no | none => .no
theorem ds_app {o : Expr} {apos cpos : Pos} (ho : PE X o (tVar i)) (he : PE X e (tD X.K W f)) (hs0 : starEach [e] X.env = (false, eval e X.env) :: starEach [] X.env := by rfl)
    (hbase : attributeBase o "append" X.env (eval o X.env) = eval o X.env := by rfl)
    (hfew : ((backTo cpos (starEach [e] X.env)).all (fun x => !x.1) && (backToKw cpos (keywordEach [] X.env)).all (fun x => x.1.isSome)
      && decide ([e].length + ([] : List Keyword).length + (if ([] : List Keyword).isEmpty then 0 else 1) < 30)) = true := by rfl)
    (hline : (apos.endLine == cpos.line) = true := by rfl) (hpl : (backTo cpos (starEach [] X.env)).any (·.1) = false := by rfl) (hs : swapsWith (.Call (.Attribute o "append" apos) [e] [] cpos) none pos.line X.env = pure false := by rfl) :
    PS X (.Expr (.Call (.Attribute o "append" apos) [e] [] cpos) pos) (sD X.K W (appS i f)) :=
  monoS (ps_expr (pe_bm PySem.F.plainAttrs_list PySem.F.slot_list_append PySem.F.type_list_append mt_append ho (pa_cons he pa_nil hs0) hbase hfew hline hs0 hpl) hs) fun D σ H q => by
    obtain ⟨B, F, as, S, r, o⟩ := q
    unfold appS at o
    cases hm0 : muAt S i with
    | none => rw [hm0] at o; exact o.elim
    | some km =>
      rw [hm0] at o
      obtain ⟨k0, xs0⟩ := km
      obtain ⟨p, vs0, hp, hmo0, hp0, _, _, hH0, hv0⟩ := muAt_rp r hm0
      refine ⟨_, hp, .inl ⟨rfl, vs0, Evl.sq_of hH0⟩, ?_⟩
      refine ⟨B, F, as, S, r, Out.mono (OutS.stmt o) fun d F1 H1 as1 S1 ⟨r1, e1, o1⟩ v hv => ?_⟩
      cases hm : muAt S1 i with
      | none => rw [hm] at o1; exact o1.elim
      | some km =>
        rw [hm] at o1
        obtain ⟨k, xs⟩ := km
        obtain ⟨p', vs, hp', hmo, ha, _, _, hH, hvs⟩ := muAt_rp r1 hm
        rw [hp] at hp'
        cases hp'
        dsimp only at o1
        split at o1
        · rename_i hl
          exact ⟨p, vs, v, rfl, rfl, hH, Evl.sz_lt (by rw [hvs.length]; exact hl), o1 σ F1 _ as1 Ext.refl (r1.put hmo ha (.ls (hvs.snoc hv)))⟩
        · exact o1.elim
def setS (i : Nat) (f g : Ms → R Dt) : Ms → O := fun S => (f S).stmt fun d S1 => match muAt S1 i with
  | none => .no
  | some _ => (g S1).stmt fun e S2 => match e with
    | .int z => (match muAt S2 i with | some (k, xs) => (match ixN xs.length z with | some j => .nx { S2 with mo := S2.mo.set k (.ob (.ls (xs.set j d))) } | none => .no) | none => .no)
    | _ => .no
theorem ds_setI {o ix : Expr} {ps : Pos} (ho : PE X o (tVar i)) (hx : PE X ix (tD X.K W g)) (he : PE X e (tD X.K W f))
    (ha : ∀ v, assign (.Subscript o ix ps) X.env v = (do
      let ov ← holding [v] (eval o X.env)
      let iv ← holding [v, ov] (eval ix X.env)
      standAt ps
      holding [v, ov, iv] (setItem ov iv v)
      release [v, ov, iv] []) := by intro _; rfl)
    (hs : swapsWithSole [.Subscript o ix ps] e pos.line X.env = pure false := by rfl) (hw : swappedStores [.Subscript o ix ps] e X.env = pure none := by rfl)
    (h1 : (assignEach [.Subscript o ix ps] X.env).map (·.2) = [assign (.Subscript o ix ps) X.env] := by rfl) : PS X (.Assign [.Subscript o ix ps] e pos) (sD X.K W (setS i f g)) :=
  monoS (ps_asg he (pg_sub ho hx set_list ha) hs hw h1) fun D σ H q => by
    obtain ⟨B, F, as, S, r, o⟩ := q
    refine ⟨B, F, as, S, r, Out.mono (OutS.stmt o) fun d F1 H1 as1 S1 ⟨r1, e1, o1⟩ v hv => ?_⟩
    cases hm0 : muAt S1 i with
    | none => rw [hm0] at o1; exact o1.elim
    | some km =>
      rw [hm0] at o1
      obtain ⟨k0, xs0⟩ := km
      obtain ⟨p, vs0, hp, hmo0, hp0, _, _, hH0, hv0⟩ := muAt_rp r1 hm0
      refine ⟨_, hp, ?_⟩
      refine ⟨B, F1, as1, S1, r1, Out.mono (OutS.stmt o1) fun z F2 H2 as2 S2 ⟨r2, e2, o2⟩ w hw => ?_⟩
      cases z with
      | int z =>
        cases hw
        dsimp only at o2
        cases hm : muAt S2 i with
        | none => rw [hm] at o2; exact o2.elim
        | some km =>
          rw [hm] at o2
          obtain ⟨k, xs⟩ := km
          obtain ⟨p', vs, hp', hmo, ha, _, _, hH, hvs⟩ := muAt_rp r2 hm
          rw [hp] at hp'
          cases hp'
          dsimp only at o2
          cases hj : ixN xs.length z with
          | none => rw [hj] at o2; exact o2.elim
          | some j =>
            rw [hj] at o2
            exact ⟨p, vs, z, j, rfl, rfl, hH, by rw [hvs.length]; exact hj, o2 σ F2 _ as2 Ext.refl (r2.put hmo ha (.ls (hvs.set j (hv.up e2.1))))⟩
      | _ => exact o2.elim
def ixV (i : Nat) (g : Ms → R Dt) : Ms → R Dt := fun S => match muAt S i with
  | none => .no
  | some _ => (g S).bind fun e S1 => match e with
    | .int z => (match muAt S1 i with | some (_, xs) => R.of (atI xs z) S1 | none => .no)
    | _ => .no
theorem de_ixV {o ix : Expr} (ho : PE X o (tVar i)) (hx : PE X ix (tD X.K W g)) (hs : PlainIx ix := by exact fun _ _ => rfl) : PE X (.Subscript o ix pos) (tD X.K W (ixV i g)) := monoE (pe_ix ix_list ho hx hs) fun σ H Q q => by
  obtain ⟨B, F, as, S, r, o⟩ := q
  unfold ixV at o
  cases hm0 : muAt S i with
  | none => rw [hm0] at o; exact o.elim
  | some km =>
    rw [hm0] at o
    obtain ⟨k0, xs0⟩ := km
    obtain ⟨p, vs0, hp, hmo0, hp0, _, _, hH0, hv0⟩ := muAt_rp r hm0
    refine ⟨_, hp, ?_⟩
    refine ⟨B, F, as, S, r, Out.mono (Out.bind o) fun z F2 H2 as2 S2 ⟨r2, e2, o2⟩ w hw => ?_⟩
    cases z with
    | int z =>
      cases hw
      dsimp only at o2
      cases hm : muAt S2 i with
      | none => rw [hm] at o2; exact o2.elim
      | some km =>
        rw [hm] at o2
        obtain ⟨k, xs⟩ := km
        obtain ⟨p', vs, hp', hmo, ha, _, _, hH, hvs⟩ := muAt_rp r2 hm
        rw [hp] at hp'
        cases hp'
        dsimp only at o2
        cases hj : atI xs z with
        | none => rw [hj] at o2; exact o2.elim
        | some y =>
          rw [hj] at o2
          obtain ⟨u, h1, h2⟩ := atI_rp hvs hj
          exact ⟨p, vs, z, u, rfl, rfl, Evl.sq_of hH, h1, Out.now o2 r2 _ h2⟩
    | _ => exact o2.elim

def seqS (m n : Ms → O) : Ms → O := fun S => (m S).seq n
def nilS : Ms → O := fun S => .nx S
theorem dss_nil : PSs X [] (sD X.K W nilS) := monoSs pss_nil fun D σ H q => by
  obtain ⟨B, F, as, S, r, o⟩ := q
  exact o σ F H as Ext.refl r
theorem dss_cons (h1 : PS X st (sD X.K W m)) (h2 : PSs X rest (sD X.K W n)) : PSs X (st :: rest) (sD X.K W (seqS m n)) := monoSs (pss_cons h1 h2) fun D σ H q => by
  obtain ⟨B, F, as, S, r, o⟩ := q
  exact ⟨B, F, as, S, r, OutS.seq o⟩
theorem dss_one (h1 : PS X st (sD X.K W m)) : PSs X [st] (sD X.K W m) := pss_one h1
def ifS (p : Ms → R Bool) (m n : Ms → O) : Ms → O := fun S => (p S).stmt fun b S1 => if b then m S1 else n S1
theorem ds_if {p : Ms → R Bool} {sa sb : List Stmt} (hc : PT X c (tT X.K W p)) (ha : PSs X sa (sD X.K W m)) (hb : PSs X sb (sD X.K W n)) : PS X (.If c sa sb pos) (sD X.K W (ifS p m n)) := monoS (ps_if hc ha hb) fun D σ H q => by
  obtain ⟨B, F, as, S, r, o⟩ := q
  refine ⟨B, F, as, S, r, Out.mono (OutS.stmt o) fun b F1 H1 as1 S1 ⟨r1, e1, o1⟩ => ?_⟩
  cases b with
  | true => exact ⟨B, F1, as1, S1, r1, o1⟩
  | false => exact ⟨B, F1, as1, S1, r1, o1⟩
def retS (f : Ms → R Dt) : Ms → O := fun S => (f S).stmt fun d S1 => .rt d S1
theorem ds_ret (h : PE X e (tD X.K W f)) : PS X (.Return (some e) pos) (sD X.K W (retS f)) := monoS (ps_ret h) fun D σ H q => by
  obtain ⟨B, F, as, S, r, o⟩ := q
  exact ⟨B, F, as, S, r, Out.mono (OutS.stmt o) fun d F1 H1 as1 S1 ⟨r1, e1, o1⟩ v hv => o1 σ F1 H1 as1 v Ext.refl r1 hv⟩
def dropS (f : Ms → R Dt) : Ms → O := fun S => (f S).stmt fun _ S1 => .nx S1
theorem ds_drop (h : PE X e (tD X.K W f)) (hs : swapsWith e none pos.line X.env = pure false := by rfl) : PS X (.Expr e pos) (sD X.K W (dropS f)) := monoS (ps_expr h hs) fun D σ H q => by
  obtain ⟨B, F, as, S, r, o⟩ := q
  exact ⟨B, F, as, S, r, Out.mono (OutS.stmt o) fun d F1 H1 as1 S1 ⟨r1, e1, o1⟩ v hv => o1 σ F1 H1 as1 Ext.refl r1⟩
def noS : Ms → O := fun _ => .no
theorem ds_never : PS X st (sD X.K W noS) := monoS ps_never fun D σ H q => by
  obtain ⟨B, F, as, S, r, o⟩ := q
  exact o.elim
def forL (k : Dt → Ms → Option Ms) (body : Ms → O) : List Dt → Ms → O
  | [], S => .nx S
  | d :: ds, S => match k d S with
    | none => .no
    | some S1 => match body S1 with
      | .nx S2 => forL k body ds S2
      | .ct S2 => forL k body ds S2
      | .bk S2 => .nx S2
      | .rt d S2 => .rt d S2
      | .er e S2 => .er e S2
      | .no => .no
def forS (it : Ms → R (List Dt)) (k : Dt → Ms → Option Ms) (body : Ms → O) : Ms → O := fun S => (it S).stmt fun ds S1 => forL k body ds S1
theorem ds_for {tg iter : Expr} {it : Ms → R (List Dt)} {T : Tk} {body : List Stmt} (hp : PassesOwn (model X.prog X.w) X.A X.env X.xe) (hc : X.calm = true) (hi : PI X tg iter (tI X.K W it)) (hg : DG X tg T) (hb : PSs X body (sD X.K W m))
    (hs : ∀ x, foldedSetIterable iter X.env x = pure x := by intro _; rfl) : PS X (.For tg iter body [] pos) (sD X.K W (forS it T.k m)) := monoS (ps_for hp hc hi hg.pg hb hs) fun D σ H q => by
  obtain ⟨B, F, as, S, r, o⟩ := q
  refine ⟨B, F, as, S, r, Out.mono (OutS.stmt o) fun ds F1 H1 as1 S1 ⟨r1, e1, o1⟩ J w => ?_⟩
  refine ⟨fun i m' σ' H' => m' = ds.length - i ∧ i ≤ ds.length ∧ ∃ F2 as2 S2, Ext F1 F2 as1 as2 ∧ Rep X.K B F2 H' as2 σ' S2 ∧ OutS X.K W B F2 as2 (forL T.k m (ds.drop i) S2) D, ⟨_, rfl, Nat.zero_le _, F1, as1, S1, Ext.refl, r1, o1⟩, ?_⟩
  rintro i m' σ' H' ⟨rfl, hle, F2, as2, S2, e2, r2, o2⟩
  by_cases hlt : i < ds.length
  · refine .inr ⟨w.go i H' hlt (e2.1.trans r2.fh), ?_⟩
    obtain ⟨d, hd⟩ : ∃ d, ds[i]? = some d := ⟨ds[i], by simp [hlt]⟩
    have hdrop : ds.drop i = d :: ds.drop (i + 1) := by
      rw [List.drop_eq_getElem_cons hlt]
      congr 1
      rw [List.getElem?_eq_getElem hlt] at hd
      exact Option.some.inj hd
    rw [hdrop] at o2
    refine ⟨fun σ3 H3 => ∃ F2 as2 S2, Ext F1 F2 as1 as2 ∧ Rep X.K B F2 H3 as2 σ3 S2 ∧ OutS X.K W B F2 as2 (forL T.k m (ds.drop (i + 1)) S2) D, fun σ3 H3 h => ⟨_, by omega, rfl, hlt, h⟩, fun x H3 hy => ?_⟩
    obtain ⟨d', hd', hx⟩ := w.yld i H' x H3 F2 hlt e2.1 r2.fh hy
    rw [hd] at hd'
    cases hd'
    obtain ⟨F3, e3, r3, hv3⟩ : ∃ F3, Ext F2 F3 as2 as2 ∧ Rep X.K B F3 H3 as2 σ' S2 ∧ Rp X.K F3 x d := by
      rcases hx with ⟨rfl, hx⟩ | ⟨T, ob, hT, rfl, hx⟩
      · exact ⟨F2, Ext.refl, r2, hx⟩
      · obtain ⟨ee, rr⟩ := r2.new hT ob
        exact ⟨_, ee, rr, hx⟩
    unfold forL at o2
    cases hk : T.k d S2 with
    | none => rw [hk] at o2; exact o2.elim
    | some S3 =>
      rw [hk] at o2
      dsimp only at o2
      refine T.run r3 hv3 hk fun σ4 r4 _ => ⟨B, F3, as2, S3, r4, ?_⟩
      revert o2
      cases m S3 with
      | nx S4 => exact fun o2 σ5 F5 H5 as5 e5 r5 => ⟨F5, as5, S4, e2.trans (e3.trans e5), r5, OutS.ext o2 (e3.trans e5)⟩
      | ct S4 => exact fun o2 σ5 F5 H5 as5 e5 r5 => ⟨F5, as5, S4, e2.trans (e3.trans e5), r5, OutS.ext o2 (e3.trans e5)⟩
      | bk S4 => exact fun o2 σ5 F5 H5 as5 e5 r5 => o2 σ5 F5 H5 as5 (e3.trans e5) r5
      | rt d S4 => exact fun o2 σ5 F5 H5 as5 v e5 r5 => o2 σ5 F5 H5 as5 v (e3.trans e5) r5
      | er e S4 => exact fun o2 σ5 F5 H5 as5 dx fs e5 r5 => o2 σ5 F5 H5 as5 dx fs (e3.trans e5) r5
      | no => exact fun o2 => o2
  · have e : i = ds.length := by omega
    subst e
    rw [List.drop_length] at o2
    exact .inl ⟨w.stop H' (e2.1.trans r2.fh), o2 σ' F2 H' as2 Ext.refl r2⟩
def whl (p : Ms → R Bool) (body : Ms → O) : Nat → Ms → O
  | 0, _ => .no
  | n + 1, S => (p S).stmt fun b S1 => if b then (match body S1 with
      | .nx S2 => whl p body n S2
      | .ct S2 => whl p body n S2
      | .bk S2 => .nx S2
      | .rt d S2 => .rt d S2
      | .er e S2 => .er e S2
      | .no => .no) else .nx S1
def whileS (fuel : Ms → Nat) (p : Ms → R Bool) (body : Ms → O) : Ms → O := fun S => whl p body (fuel S) S
theorem ds_while {fuel : Ms → Nat} {p : Ms → R Bool} {body : List Stmt} (hp : PassesOwn (model X.prog X.w) X.A X.env X.xe) (hc : PT X c (tT X.K W p)) (hb : PSs X body (sD X.K W m)) : PS X (.While c body [] pos) (sD X.K W (whileS fuel p m)) := monoS (ps_while hp hc hb) fun D σ H q => by
  obtain ⟨B, F, as, S, r, o⟩ := q
  refine ⟨fun n σ' H' => ∃ F2 as2 S2, Rep X.K B F2 H' as2 σ' S2 ∧ OutS X.K W B F2 as2 (whl p m n S2) D, ⟨fuel S, F, as, S, r, o⟩, ?_⟩
  rintro n σ' H' ⟨F2, as2, S2, r2, o2⟩
  cases n with
  | zero => exact o2.elim
  | succ n =>
    unfold whl at o2
    refine ⟨B, F2, as2, S2, r2, Out.mono (OutS.stmt o2) fun b F3 H3 as3 S3 ⟨r3, e3, o3⟩ => ?_⟩
    cases b with
    | true =>
      show ∃ N : L2.St → Hp → Prop, _
      refine ⟨fun σ4 H4 => ∃ F2 as2 S2, Rep X.K B F2 H4 as2 σ4 S2 ∧ OutS X.K W B F2 as2 (whl p m n S2) D, fun σ4 H4 h => ⟨n, Nat.lt_succ_self n, h⟩, ?_⟩
      refine ⟨B, F3, as3, S3, r3, ?_⟩
      simp only [if_true] at o3
      revert o3
      cases m S3 with
      | nx S4 => exact fun o3 σ5 F5 H5 as5 e5 r5 => ⟨F5, as5, S4, r5, OutS.ext o3 e5⟩
      | ct S4 => exact fun o3 σ5 F5 H5 as5 e5 r5 => ⟨F5, as5, S4, r5, OutS.ext o3 e5⟩
      | bk S4 => exact fun o3 σ5 F5 H5 as5 e5 r5 => o3 σ5 F5 H5 as5 e5 r5
      | rt d S4 => exact fun o3 => o3
      | er e S4 => exact fun o3 => o3
      | no => exact fun o3 => o3
    | false => exact o3 _ _ _ _ Ext.refl r3
end
end Lq

namespace Lq
open PySem PySem.Spec PyProof.Rows L2
open Evl (Ex)
inductive Fo where | ok (d : Dt) | er (e : Er) | no
inductive FoM where | ok (d : Dt) (xs : List Dt) | er (e : Er) (xs : List Dt) | no
def Kept (B F' H' : Hp) : Prop := ∀ a o, B a = some o → H' a = some o ∧ F' a = none ∧ NT o
def spD (K : PySem.W.Frag) (n : Nat) (f : List Dt → Fo) : Sp := fun vs H Q E => ∃ B F ds, ds.length = n ∧ Ex F H ∧ Kept B F H ∧ RpA K F vs ds ∧ match f ds with
  | .ok d => ∀ v F' H', Ex F F' → Ex F' H' → Kept B F' H' → Rp K F' v d → Q v H'
  | .er e => ∀ F' H' dx fs, Ex F F' → Ex F' H' → Kept B F' H' → DictR H' dx fs → fs.map (·.1) = e.ks → RpA K F' (fs.map (·.2)) e.ds → E (.ref e.C) dx H'
  | .no => False
def spM (K : PySem.W.Frag) (n : Nat) (f : List Dt → List Dt → FoM) : Sp := fun vs H Q E => ∃ B F a ws xs vs' ds, vs = .ref a :: vs' ∧ ds.length = n ∧ Ex F H ∧ Kept B F H ∧ B a = none ∧ F a = none ∧ H a = some (.lst ws) ∧ RpA K F ws xs ∧ RpA K F vs' ds ∧ match f xs ds with
  | .ok d ys => ∀ v F' H' us, Ex F F' → Ex F' H' → Kept B F' H' → F' a = none → H' a = some (.lst us) → RpA K F' us ys → Rp K F' v d → Q v H'
  | .er e ys => ∀ F' H' us dx fs, Ex F F' → Ex F' H' → Kept B F' H' → F' a = none → H' a = some (.lst us) → RpA K F' us ys → DictR H' dx fs → fs.map (·.1) = e.ks → RpA K F' (fs.map (·.2)) e.ds → E (.ref e.C) dx H'
  | .no => False

def O.fo : O → Fo | .nx _ => .ok .non | .rt d _ => .ok d | .er e _ => .er e | _ => .no
def st0 (n : Nat) (ds : List Dt) : Ms := { sl := ds.map Sv.im ++ List.replicate (n - ds.length) .no, mo := [] }
def runD (n : Nat) (m : Ms → O) (ds : List Dt) : Fo := (m (st0 n ds)).fo
def mo0 (S : Ms) : Option (List Dt) := match S.mo[0]? with | some (Mo.ob (.ls xs)) => some xs | _ => none
def O.foM : O → FoM
  | .nx S => (match mo0 S with | some xs => .ok .non xs | none => .no)
  | .rt d S => (match mo0 S with | some xs => .ok d xs | none => .no)
  | .er e S => (match mo0 S with | some xs => .er e xs | none => .no)
  | _ => .no
def stM (n : Nat) (xs ds : List Dt) : Ms := { sl := .mu 0 :: (ds.map Sv.im ++ List.replicate (n - 1 - ds.length) .no), mo := [.ob (.ls xs)] }
def runM (n : Nat) (m : Ms → O) (xs ds : List Dt) : FoM := (m (stM n xs ds)).foM

theorem paired_im {K : PySem.W.Frag} {F : Hp} {as : List Addr} : ∀ {vs : List V} {ds : List Dt}, RpA K F vs ds → ∀ {l : List (Option V)} {r : List Sv}, Paired (SvR K F as) l r → Paired (SvR K F as) (vs.map some ++ l) (ds.map Sv.im ++ r)
  | _, _, .nil, _, _, h => h
  | _, _, .cons h1 h2, _, _, h => .cons h1 (paired_im h2 h)
theorem paired_no {K : PySem.W.Frag} {F : Hp} {as : List Addr} : ∀ n : Nat, Paired (SvR K F as) (List.replicate n none) (List.replicate n Sv.no)
  | 0 => .nil
  | n + 1 => .cons trivial (paired_no n)
section
variable {P : Program} {w : World} {K : PySem.W.Frag} {mg : Str → Option Value} {base : Heap}
theorem defOk {x qual : Str} {st : Stmt} {f : Addr} {fd : FuncData} {N ps : List Str} {k : Nat} {m : Ms → O} (F : Fun K x qual st f fd) (S : FnScope N ps (defScope st))
    (hbody : ∀ (cdv : Value) (A : Around) (outer : List Env) (s : Shared) (H : Hp) (E : XK), Room k (A.deeper (envOfC qual (defScope st) s.heap.objs.size f cdv)) →
      PSs (cxOf (L2.CX P w) P w K mg base N qual (defScope st) f cdv A outer s H E) (defBody st) (sD K (fun cls d _ H' => E cls d H') m)) :
    FnOk P w K mg base (L2.CX P w) (k + 1) f fd ps (spD K ps.length (runD N.length m)) := by
  refine F.okX S (fun vs H Q E h => ?_) (fun cdv A outer s H vs Q E hr h => ⟨_, hbody cdv A outer s H E hr, ?_⟩)
  · obtain ⟨B, F, ds, hn, _, _, hv, _⟩ := h
    rw [hv.length, hn]
  · obtain ⟨B, F, ds, hn, e, kp, hv, q⟩ := h
    refine ⟨B, F, [], st0 N.length ds, ⟨e, kp, ?_, .nil, List.nodup_nil⟩, ?_⟩
    · unfold L2.start st0
      rw [hv.length]
      exact paired_im hv (paired_no _)
    · unfold runD at q
      revert q
      cases m (st0 N.length ds) with
      | nx S' => exact fun q σ' F' H' as' e' r => q .non F' H' e'.1 r.fh r.bh .non
      | rt d S' => exact fun q σ' F' H' as' v e' r hv => q v F' H' e'.1 r.fh r.bh hv
      | er e S' => exact fun q σ' F' H' as' dx fs e' r => q F' H' dx fs e'.1 r.fh r.bh
      | bk S' => exact fun q => q.elim
      | ct S' => exact fun q => q.elim
      | no => exact fun q => q
theorem defOkM {x qual : Str} {st : Stmt} {f : Addr} {fd : FuncData} {N ps : List Str} {p0 : Str} {k : Nat} {m : Ms → O} (F : Fun K x qual st f fd) (S : FnScope N (p0 :: ps) (defScope st))
    (hbody : ∀ (cdv : Value) (A : Around) (outer : List Env) (s : Shared) (H : Hp) (E : XK), Room k (A.deeper (envOfC qual (defScope st) s.heap.objs.size f cdv)) →
      PSs (cxOf (L2.CX P w) P w K mg base N qual (defScope st) f cdv A outer s H E) (defBody st) (sD K (fun cls d _ H' => E cls d H') m)) :
    FnOk P w K mg base (L2.CX P w) (k + 1) f fd (p0 :: ps) (spM K ps.length (runM N.length m)) := by
  refine F.okX S (fun vs H Q E h => ?_) (fun cdv A outer s H vs Q E hr h => ⟨_, hbody cdv A outer s H E hr, ?_⟩)
  · obtain ⟨B, F, a, ws, xs, vs', ds, rfl, hn, _, _, _, _, _, _, hv, _⟩ := h
    rw [List.length_cons, List.length_cons, hv.length, hn]
  · obtain ⟨B, F, a, ws, xs, vs', ds, rfl, hn, e, kp, b0, f0, ha, hw, hv, q⟩ := h
    have hend : ∀ {F' H' : Hp} {as' : List Addr} {σ' : L2.St} {S' : Ms} {ys : List Dt}, Ext F F' [a] as' → Rep K B F' H' as' σ' S' → mo0 S' = some ys → F' a = none ∧ ∃ us, H' a = some (.lst us) ∧ RpA K F' us ys := by
      intro F' H' as' σ' S' ys e' r hm
      obtain ⟨_, t, rfl⟩ := e'
      unfold mo0 at hm
      cases h0 : S'.mo[0]? with
      | none => rw [h0] at hm; cases hm
      | some mm =>
        rw [h0] at hm
        cases mm with
        | ob c =>
         cases c with
         | dc kvs => cases hm
         | io _ _ _ => cases hm
         | ls zs =>
          cases hm
          obtain ⟨p, hp, q1, q2, ob, q3, q4⟩ := pairedGet r.mo h0
          cases hp
          cases q4
          exact ⟨q2, _, q3, by assumption⟩
        | fz d => cases hm
    refine ⟨B, F, [a], stM N.length xs ds, ⟨e, kp, ?_, .cons ⟨b0, f0, _, ha, .ls hw⟩ .nil, by simp⟩, ?_⟩
    · have hl : ps.length + 1 ≤ N.length := by
        have := congrArg List.length S.pre
        rw [List.length_take, List.length_cons] at this
        omega
      unfold L2.start stM
      rw [List.map_cons, List.length_cons, hv.length]
      have e2 : N.length - (ds.length + 1) = N.length - 1 - ds.length := by omega
      rw [e2]
      exact .cons ⟨a, rfl, rfl⟩ (paired_im hv (paired_no _))
    · unfold runM at q
      revert q
      cases m (stM N.length xs ds) with
      | nx S' =>
        intro q
        unfold O.foM at q
        dsimp only at q
        cases hm : mo0 S' with
        | none => rw [hm] at q; exact q.elim
        | some ys =>
          rw [hm] at q
          intro σ' F' H' as' e' r
          obtain ⟨z1, us, z2, z3⟩ := hend e' r hm
          exact q .non F' H' us e'.1 r.fh r.bh z1 z2 z3 .non
      | rt d S' =>
        intro q
        unfold O.foM at q
        dsimp only at q
        cases hm : mo0 S' with
        | none => rw [hm] at q; exact q.elim
        | some ys =>
          rw [hm] at q
          intro σ' F' H' as' v e' r hv
          obtain ⟨z1, us, z2, z3⟩ := hend e' r hm
          exact q v F' H' us e'.1 r.fh r.bh z1 z2 z3 hv
      | er e S' =>
        intro q
        unfold O.foM at q
        dsimp only at q
        cases hm : mo0 S' with
        | none => rw [hm] at q; exact q.elim
        | some ys =>
          rw [hm] at q
          intro σ' F' H' as' dx fs e' r
          obtain ⟨z1, us, z2, z3⟩ := hend e' r hm
          exact q F' H' us dx fs e'.1 r.fh r.bh z1 z2 z3
      | bk S' => exact fun q => q.elim
      | ct S' => exact fun q => q.elim
      | no => exact fun q => q.elim
end
theorem FnOk.toF {P : Program} {w : World} {K : PySem.W.Frag} {mg : Str → Option Value} {base : Heap} {CX : CXT} {k : Nat} {f : Addr} {fd : FuncData} {ps : List Str} {n : Nat} {g h : List Dt → Fo} (F : FnOk P w K mg base CX k f fd ps (spD K n g)) (e : ∀ ds, h ds ≠ .no → g ds = h ds) :
    FnOk P w K mg base CX k f fd ps (spD K n h) := F.imp fun vs H Q E ⟨B, F, ds, hn, h1, h2, h3, h4⟩ => ⟨B, F, ds, hn, h1, h2, h3, by
      have : h ds ≠ .no := by intro z; rw [z] at h4; exact h4
      rw [e ds this]
      exact h4⟩
theorem FnOk.toM {P : Program} {w : World} {K : PySem.W.Frag} {mg : Str → Option Value} {base : Heap} {CX : CXT} {k : Nat} {f : Addr} {fd : FuncData} {ps : List Str} {n : Nat} {g h : List Dt → List Dt → FoM} (F : FnOk P w K mg base CX k f fd ps (spM K n g)) (e : ∀ xs ds, h xs ds ≠ .no → g xs ds = h xs ds) :
    FnOk P w K mg base CX k f fd ps (spM K n h) := F.imp fun vs H Q E ⟨B, F, a, ws, xs, vs', ds, h1, h2, h3, h4, h5, h6, h7, h8, h9, h10⟩ => ⟨B, F, a, ws, xs, vs', ds, h1, h2, h3, h4, h5, h6, h7, h8, h9, by
      have : h xs ds ≠ .no := by intro z; rw [z] at h10; exact h10
      rw [e xs ds this]
      exact h10⟩

def holdB (B F H : Hp) (as : List Addr) : Hp := fun a => if a ∈ as then (if F a = none then H a else none) else B a
theorem hold_kept {K : PySem.W.Frag} {B F H : Hp} {as : List Addr} {σ : L2.St} {S : Ms} (r : Rep K B F H as σ S) : Kept (holdB B F H as) F H := fun a o h => by
  unfold holdB at h
  split at h
  · split at h
    · rename_i hm q
      obtain ⟨i, hi⟩ := List.mem_iff_getElem?.mp hm
      obtain ⟨m, hmm, z⟩ := pairedGetL r.mo hi
      cases m with
      | ob c =>
        obtain ⟨z1, z2, u, z3, z4⟩ := z
        rw [z3] at h
        cases h
        exact ⟨z3, q, z4.nt⟩
      | fz d =>
        obtain ⟨⟨u, z1⟩, _⟩ := z
        rw [q] at z1; cases z1
    · cases h
  · exact r.bh a o h
theorem hold_back {K : PySem.W.Frag} {B F H F' H' : Hp} {as : List Addr} {σ : L2.St} {S : Ms} (r : Rep K B F H as σ S) (e : Ex F F') (e2 : Ex F' H') (k : Kept (holdB B F H as) F' H') : Rep K B F' H' as σ S := by
  have ee : Ext F F' as as := ⟨e, [], by simp⟩
  refine ⟨e2, fun a o h => ?_, r.sl.mono fun _ _ q => SvR.up q ee, ?_, r.nd⟩
  · refine k a o ?_
    unfold holdB
    split
    · rename_i hm
      obtain ⟨i, hi⟩ := List.mem_iff_getElem?.mp hm
      obtain ⟨m, hmm, z⟩ := pairedGetL r.mo hi
      obtain ⟨b1, b2, _⟩ := r.bh a o h
      cases m with
      | ob ds =>
        obtain ⟨z1, _⟩ := z
        rw [z1] at h; cases h
      | fz d =>
        obtain ⟨⟨u, z1⟩, _⟩ := z
        rw [b2] at z1; cases z1
    · exact h
  · have : ∀ {xs : List Addr} {ys : List Mo}, (∀ a ∈ xs, a ∈ as) → Paired (MoR K B F H) xs ys → Paired (MoR K B F' H') xs ys := by
      intro xs ys hn z
      induction z with
      | nil => exact .nil
      | @cons a b l1 l2 z zs ih =>
        refine .cons ?_ (ih fun a ha => hn a (List.mem_cons_of_mem _ ha))
        cases b with
        | ob ds =>
          obtain ⟨z1, z2, ws, z3, z4⟩ := z
          obtain ⟨q1, q2, _⟩ := k a ws (by unfold holdB; rw [if_pos (hn _ List.mem_cons_self), if_pos z2]; exact z3)
          exact ⟨z1, q2, ws, q1, z4.up e⟩
        | fz d =>
          obtain ⟨⟨u, z1⟩, z2⟩ := z
          exact ⟨⟨u, e _ _ z1⟩, z2.up e⟩
    exact this (fun _ h => h) r.mo
def funE (n : Nat) (fs : Ms → R (List Dt)) (f : List Dt → Fo) : Ms → R Dt := fun S => (fs S).bind fun ds S1 => if ds.length = n then (match f ds with | .ok d => .ok d S1 | .er e => .er e S1 | .no => .no) else .no
section
variable {X : Cx} {W : WX} {e o : Expr} {es : List Expr} {fs : Ms → R (List Dt)} {x : Str} {p pos : Pos} {k n i : Nat} {f : Addr} {fd : FuncData} {ps : List Str} {g : List Dt → Fo} {gm : List Dt → List Dt → FoM}
theorem call_run {K : PySem.W.Frag} {σ : L2.St} {H : Hp} {Q : VK} (q : tD K W (funE n fs g) σ H Q) : tCallS (spD K n g) (WE W) (tA K W fs) σ H Q := by
  obtain ⟨B, F, as, S, r, o⟩ := q
  refine ⟨B, F, as, S, r, Out.mono (Out.bind o) fun ds F1 H1 as1 S1 ⟨r1, e1, o1⟩ vs hv => ?_⟩
  split at o1
  · rename_i hn
    refine ⟨holdB B F1 H1 as1, F1, ds, hn, r1.fh, hold_kept r1, hv, ?_⟩
    cases hg : g ds with
    | ok d =>
      rw [hg] at o1
      exact fun v F' H' ee eh kp hv' => o1 F' H' as1 ⟨ee, [], by simp⟩ (hold_back r1 ee eh kp) v hv'
    | er x =>
      rw [hg] at o1
      exact fun F' H' dx fs ee eh kp h1 h2 h3 => o1 F' H' as1 dx fs ⟨ee, [], by simp⟩ (hold_back r1 ee eh kp) h1 h2 h3
    | no => rw [hg] at o1; exact o1.elim
  · exact o1.elim
theorem de_call (G : FnOk X.prog X.w X.K X.mg X.base (L2.CX X.prog X.w) k f fd ps (spD X.K n g)) (tk : Takes X W) (hr : Room k X.A) (hg : Gl X x) (hm : X.mg x = some (.ref f)) (hk : PySem.W.keepIn X.K (.ref f) = true) (hb : Binds X.K fd ps [])
    (ha : PA X (e :: es) (tA X.K W fs)) (hdb : (x == ("__debug__" : Str)) = false := by decide) (he : starEach (e :: es) X.env = (false, eval e X.env) :: starEach es X.env := by rfl) (hpl : (backTo pos (starEach es X.env)).any (·.1) = false := by rfl) :
    PE X (.Call (.Name x p) (e :: es) [] pos) (tD X.K W (funE n fs g)) := monoE (pe_callS G hr hg hm hk hb (fun σ => passAt tk σ) ha hdb he hpl) fun σ H Q q => call_run q
def funM (n : Nat) (i : Nat) (fs : Ms → R (List Dt)) (f : List Dt → List Dt → FoM) : Ms → R Dt := fun S => match muAt S i with
  | none => .no
  | some _ => (fs S).bind fun ds S1 => match muAt S1 i with
    | some (k, xs) => if ds.length = n then (match f xs ds with | .ok d ys => .ok d { S1 with mo := S1.mo.set k (.ob (.ls ys)) } | _ => .no) else .no
    | none => .no
theorem callM_run {K : PySem.W.Frag} {σ : L2.St} {H : Hp} {Q : VK} (q : tD K W (funM n i fs gm) σ H Q) : tCallS (spM K n gm) (WE W) (tCons (tVar i) (tA K W fs)) σ H Q := by
  obtain ⟨B, F, as, S, r, o⟩ := q
  unfold funM at o
  cases hm0 : muAt S i with
  | none => rw [hm0] at o; exact o.elim
  | some km =>
    rw [hm0] at o
    obtain ⟨k0, xs0⟩ := km
    obtain ⟨p, vs0, hp, hmo0, hp0, _, _, hH0, hv0⟩ := muAt_rp r hm0
    refine ⟨_, hp, ?_⟩
    refine ⟨B, F, as, S, r, Out.mono (Out.bind o) fun ds F1 H1 as1 S1 ⟨r1, e1, o1⟩ vs hv => ?_⟩
    cases hm : muAt S1 i with
    | none => rw [hm] at o1; exact o1.elim
    | some km =>
      rw [hm] at o1
      obtain ⟨k, xs⟩ := km
      obtain ⟨p', ws, hp', hmo, ha, hB, hF, hH, hws⟩ := muAt_rp r1 hm
      rw [hp] at hp'
      cases hp'
      dsimp only at o1
      split at o1
      · rename_i hn
        have hin : p ∈ as1 := List.mem_of_getElem? ha
        -- what is held besides
        refine ⟨fun a => if a = p then none else holdB B F1 H1 as1 a, F1, p, ws, xs, vs, ds, rfl, hn, r1.fh, fun a u hu => ?_, if_pos rfl, hF, hH, hws, hv, ?_⟩
        · dsimp only at hu
          by_cases q : a = p
          · rw [if_pos q] at hu; cases hu
          · rw [if_neg q] at hu
            exact hold_kept r1 a u hu
        · cases hg : gm xs ds with
          | ok d ys =>
            rw [hg] at o1
            intro v F' H' us ee eh kp fa ha' hus hv'
            dsimp only at o1
            have ex : Ext F1 F' as1 as1 := ⟨ee, [], by simp⟩
            refine o1 F' H' as1 ex ⟨eh, fun a u hu => ?_, r1.sl.mono fun _ _ q => SvR.up q ex, ?_, r1.nd⟩ v hv'
            · have hne : a ≠ p := by
                rintro rfl
                rw [hB] at hu; cases hu
              refine kp a u ?_
              show (if a = p then none else holdB B F1 H1 as1 a) = _
              rw [if_neg hne]
              unfold holdB
              split
              · rename_i hm2
                obtain ⟨j, hj⟩ := List.mem_iff_getElem?.mp hm2
                obtain ⟨mm, hmm, z⟩ := pairedGetL r1.mo hj
                obtain ⟨b1, b2, _⟩ := r1.bh a u hu
                cases mm with
                | ob ds =>
                  obtain ⟨z1, _⟩ := z
                  rw [z1] at hu; cases hu
                | fz d =>
                  obtain ⟨⟨u', z1⟩, _⟩ := z
                  rw [b2] at z1; cases z1
              · exact hu
            · refine pairedAt k r1.mo (fun j b mm hj hb hmm q => ?_) fun b hb => ?_
              · cases mm with
                | ob ds =>
                  obtain ⟨z1, z2, us', z3, z4⟩ := q
                  have hne : b ≠ p := fun z => by
                    subst z
                    exact hj (nd_ix r1.nd hb ha)
                  obtain ⟨q1, q2, _⟩ := kp b us' (by
                    show (if b = p then none else holdB B F1 H1 as1 b) = _
                    rw [if_neg hne]
                    unfold holdB
                    rw [if_pos (List.mem_of_getElem? hb), if_pos z2]
                    exact z3)
                  exact ⟨z1, q2, us', q1, z4.up ee⟩
                | fz d =>
                  obtain ⟨⟨u', z1⟩, z2⟩ := q
                  exact ⟨⟨u', ee _ _ z1⟩, z2.up ee⟩
              · rw [ha] at hb
                cases hb
                exact ⟨hB, fa, _, ha', .ls hus⟩
          | er x ys => rw [hg] at o1; exact o1.elim
          | no => rw [hg] at o1; exact o1.elim
      · exact o1.elim
theorem de_callM (G : FnOk X.prog X.w X.K X.mg X.base (L2.CX X.prog X.w) k f fd ps (spM X.K n gm)) (tk : Takes X W) (hr : Room k X.A) (hg : Gl X x) (hm : X.mg x = some (.ref f)) (hk : PySem.W.keepIn X.K (.ref f) = true) (hb : Binds X.K fd ps [])
    (ho : PE X o (tVar i)) (ha : PA X es (tA X.K W fs)) (hs : starEach (o :: es) X.env = (false, eval o X.env) :: starEach es X.env := by rfl) (hdb : (x == ("__debug__" : Str)) = false := by decide) (hpl : (backTo pos (starEach es X.env)).any (·.1) = false := by rfl) :
    PE X (.Call (.Name x p) (o :: es) [] pos) (tD X.K W (funM n i fs gm)) := monoE (pe_callS G hr hg hm hk hb (fun σ => passAt tk σ) (pa_cons ho ha hs) hdb hs hpl) fun σ H Q q => callM_run q
end
end Lq

namespace Lq
open PySem PySem.Spec PyProof.Rows L2
open Evl (Ex)
def Cal (P : Program) (w : World) (K : PySem.W.Frag) (mg : Str → Option Value) (base : Heap) (x : Str) (k : Nat) (ps : List Str) (sp : Sp) : Prop :=
  ∃ f fd, FnOk P w K mg base (L2.CX P w) k f fd ps sp ∧ mg x = some (.ref f) ∧ PySem.W.keepIn K (.ref f) = true ∧ Binds K fd ps []
theorem hu65_of {A : Around} {k : Nat} (hr : Room k A) : A.units + 65 < cLine := by have := hr.un; omega
section
variable {X : Cx} {W : WX} {e o : Expr} {es : List Expr} {fs : Ms → R (List Dt)} {x : Str} {p pos : Pos} {j k n i : Nat} {ps : List Str} {g : List Dt → Fo} {gm : List Dt → List Dt → FoM}
theorem de_cal (c : Cal X.prog X.w X.K X.mg X.base x k ps (spD X.K n g)) (tk : Takes X W) (hr : Room j X.A) (hk : k ≤ j) (hg : Gl X x)
    (ha : PA X (e :: es) (tA X.K W fs)) (hdb : (x == ("__debug__" : Str)) = false := by decide) (he : starEach (e :: es) X.env = (false, eval e X.env) :: starEach es X.env := by rfl) (hpl : (backTo pos (starEach es X.env)).any (·.1) = false := by rfl) :
    PE X (.Call (.Name x p) (e :: es) [] pos) (tD X.K W (funE n fs g)) := by
  obtain ⟨f, fd, G, hm, kp, hb⟩ := c
  exact de_call G tk (hr.mono hk) hg hm kp hb ha hdb he hpl
theorem de_calM (c : Cal X.prog X.w X.K X.mg X.base x k ps (spM X.K n gm)) (tk : Takes X W) (hr : Room j X.A) (hk : k ≤ j) (hg : Gl X x)
    (ho : PE X o (tVar i)) (ha : PA X es (tA X.K W fs)) (hs : starEach (o :: es) X.env = (false, eval o X.env) :: starEach es X.env := by rfl) (hdb : (x == ("__debug__" : Str)) = false := by decide) (hpl : (backTo pos (starEach es X.env)).any (·.1) = false := by rfl) :
    PE X (.Call (.Name x p) (o :: es) [] pos) (tD X.K W (funM n i fs gm)) := by
  obtain ⟨f, fd, G, hm, kp, hb⟩ := c
  exact de_callM G tk (hr.mono hk) hg hm kp hb ho ha hs hdb hpl
end
end Lq

namespace Lq
open PySem PySem.Spec PyProof.Rows L2
open Evl (Ex)
def Wd (ns : List Int) : Dt := .tup (ns.map .int)
def wordOf : Dt → Option (List Int) | .tup ds => intsOf ds | _ => none
theorem wordOf_eq {d : Dt} {ns : List Int} (h : wordOf d = some ns) : d = Wd ns := by
  cases d <;> simp only [wordOf] at h <;> try cases h
  rw [intsOf_eq h]; rfl
@[simp] theorem wordOf_Wd (ns : List Int) : wordOf (Wd ns) = some ns := intsOf_map ns
def asgM (i : Nat) (f : Ms → R Ob) : Ms → O := fun S => (f S).stmt fun c S1 => .nx { sl := S1.sl.set i (.mu S1.mo.length), mo := S1.mo ++ [.ob c] }
section
variable {X : Cx} {W : WX} {e : Expr} {pos pos' : Pos} {x : Str} {i : Nat} {fm : Ms → R Ob} {f g : Ms → R Dt}
end
end Lq

namespace HT
open PySem PySem.Spec PyProof.Rows L2
section
variable {prog : Program} {w : World} {A : Around} {E : Value → Shared → Prop} {s : Shared}
theorem rev_places (n : Nat) : (Builtin.Slice.sliceAdjust none none (-1) (n : Int)).1 = (n : Int) - 1 ∧ (Builtin.Slice.sliceAdjust none none (-1) (n : Int)).2 = -1 ∧ Builtin.Slice.slicePlaces ((n : Int) - 1) (-1) (-1) = n := by
  refine ⟨rfl, rfl, ?_⟩
  unfold Builtin.Slice.slicePlaces
  have h1 : ¬ (-1 : Int) > 0 := by omega
  simp only [h1, if_false, Int.neg_neg, Int.ediv_one]
  split <;> omega
theorem sliceApplied_rev {sl : Addr} {vl vu vs : Value} {n : Nat} {Q : Int × Int × Nat → Shared → Prop} (hs : s.heap.IsSliceOf sl vl vu vs) (pl : IsPart vl none) (pu : IsPart vu none) (ps : IsPart vs (some (-1)))
    (h : Q ((n : Int) - 1, -1, n) s) : wpAny (model prog w) A (Builtin.Slice.sliceApplied (.ref sl) (pure (n : Int))) Q E s := by
  obtain ⟨os, hos, hcs, hds⟩ := id hs
  unfold Builtin.Slice.sliceApplied Builtin.Slice.sliceFields
  refine wpAny_bind (wpAny_bind (wpAny_field hos hds (x := vl) rfl (wpAny_bind (wpAny_field hos hds (x := vu) rfl (wpAny_bind (wpAny_field hos hds (x := vs) rfl (wpAny_pure ?_)))))))
  refine wpAny_bind (slicePart_ ps ?_)
  show wpAny _ _ (if ((-1 : Int) == 0) = true then _ else _) _ _ s
  rw [if_neg (by decide)]
  refine wpAny_bind (slicePart_ pl (wpAny_bind (slicePart_ pu (wpAny_bind (wpAny_pure ?_)))))
  obtain ⟨h1, h2, h3⟩ := rev_places n
  show wpAny _ _ (pure ((Builtin.Slice.sliceAdjust none none (-1) (n : Int)).1, (-1 : Int), Builtin.Slice.slicePlaces (Builtin.Slice.sliceAdjust none none (-1) (n : Int)).1 (Builtin.Slice.sliceAdjust none none (-1) (n : Int)).2 (-1))) _ _ s
  rw [h1, h2, h3]
  exact wpAny_pure h
theorem pick_rev (xs : Array Value) : ((List.range xs.size).filterMap fun (m : Nat) => xs[(((xs.size : Int) - 1) + (m : Int) * (-1)).toNat]?).toArray = xs.toList.reverse.toArray := by
  congr 1
  apply List.ext_getElem?
  intro i
  have key : ∀ (k : Nat), k ≤ xs.size → ((List.range k).filterMap fun (m : Nat) => xs[(((xs.size : Int) - 1) + (m : Int) * (-1)).toNat]?) = xs.toList.reverse.take k := by
    intro k
    induction k with
    | zero => intro _; simp
    | succ k ih =>
      intro hk
      rw [List.range_succ, List.filterMap_append, ih (by omega)]
      have h1 : (((xs.size : Int) - 1) + (k : Int) * (-1)).toNat = xs.size - 1 - k := by omega
      have h2 : xs[(((xs.size : Int) - 1) + (k : Int) * (-1)).toNat]? = some (xs[xs.size - 1 - k]'(by omega)) := by
        rw [h1]; exact Array.getElem?_eq_getElem (by omega)
      rw [List.take_add_one]
      have h3 : xs.toList.reverse[k]? = some (xs[xs.size - 1 - k]'(by omega)) := by
        rw [List.getElem?_reverse (by simp; omega)]
        simp
      rw [h3]
      simp only [List.filterMap_cons, h2, List.filterMap_nil, Option.toList]
  rw [key xs.size (Nat.le_refl _), List.take_of_length_le (by simp)]
theorem getItem_tuple_rev {t sl : Addr} {items : Array Value} {vl vu vs : Value} {Q : Value → Shared → Prop} (ht : IsTup s.heap t items) (hs : s.heap.IsSliceOf sl vl vu vs) (pl : IsPart vl none) (pu : IsPart vu none) (ps : IsPart vs (some (-1)))
    (h : Q (.ref s.heap.objs.size) { s with heap := s.heap.push { cls := .type "tuple", data := .seq items.toList.reverse.toArray } })
    (hsz : items.size ≤ sizeLine) : wpAny (model prog w) A (getItem (.ref t) (.ref sl)) Q E s := by
  have htake : sizeOk (.seq items.toList.reverse.toArray) := by
    show items.toList.reverse.toArray.size ≤ sizeLine
    simpa using hsz
  obtain ⟨os, hos, hcs, hds⟩ := id hs
  have hTs : s.TypeIs (.ref sl) "slice" := ⟨os, hos, hcs⟩
  unfold getItem
  try with_reducible refine wpAny_holding ?_
  first | refine wpAny_bind (wpAny_pure ?_) | skip
  refine wpAny_bind (wpAny_sequenceKey ht.typeIs (by decide) ?_)
  refine wpAny_bind (wpAny_callSpecial?_slot (name := Str.ofString "__getitem__") ht.typeIs PyProof.Rows.slot_tuple_getitem
    (wpAny_call_entry PyProof.Rows.slot_tuple_getitem ht.typeIs entry_tuple_getitem ?_ (args_tuple_getitem _ _)))
  show wpAny _ _ (Builtin.Tuple.tupleItemsOf (.ref t) >>= _) _ _ s
  refine wpAny_bind (tupleItemsOf_ ht ?_)
  refine wpAny_bind (wpAny_typeOf hTs ?_)
  rw [if_pos (by decide)]
  refine wpAny_bind (sliceApplied_rev hs pl pu ps ?_)
  have hno : ¬ ((((items.size : Int) - 1) == 0 && (-1 : Int) == 1 && items.size == items.size) = true) := by
    intro q
    rw [Bool.and_eq_true, Bool.and_eq_true] at q
    exact absurd q.1.2 (by decide)
  show wpAny _ _ (if (((items.size : Int) - 1) == 0 && (-1 : Int) == 1 && items.size == items.size) = true then _ else _) _ _ s
  rw [if_neg hno, pick_rev]
  first
    | exact wpAny_bind (m := Builtin.Tuple.tupleExact _) (wpAny_newObj_type (wpAny_pure ⟨_, rfl, wpAny_pure h⟩) htake)
    | exact wpAny_bind (m := Builtin.Tuple.tupleExact _) (wpAny_newObj_type (wpAny_bind (wpAny_pure (wpAny_pure ⟨_, rfl, wpAny_pure h⟩))) htake)
    | exact wpAny_bind (wpAny_bind (m := Builtin.Tuple.tupleExact _) (wpAny_newObj_type (wpAny_pure (wpAny_pure ⟨_, rfl, wpAny_pure h⟩)) htake))
    | exact wpAny_bind (wpAny_bind (m := Builtin.Tuple.tupleExact _) (wpAny_newObj_type (wpAny_pure ⟨_, rfl, wpAny_pure h⟩) htake))
end
end HT
namespace Lq
open PySem PySem.Spec PyProof.Rows L2
open Evl (Ex)
section
variable {X : Cx} {W : WX} {e : Expr} {pos pos' : Pos} {x : Str} {i : Nat} {f g : Ms → R Dt}
def tRevT (K : PySem.W.Frag) (te : TE) : TE := fun σ H Q => te σ H fun x H1 => ∃ a xs, x = .ref a ∧ SqT K H1 a xs ∧ ∀ p, H1 p = none → Q (.ref p) (upd H1 p (.tup xs.reverse))
theorem pe_revT {e : Expr} {te : TE} {k : Nat} {p1 p2 p3 pos : Pos} (he : PE X e te) : PE X (.Subscript e (.Slice none none (some (.UnaryOp .USub (.Constant (.int 1) k p1) p2)) p3) pos) (tRevT X.K te) := by
  refine ⟨fun pins s σ H Q I h => ?_⟩
  refine Subscript_ (thn (he.run pins s σ H _ I h) fun v s1 ⟨x, H1, I1, r1, q1⟩ => ?_)
  obtain ⟨a, xs, ex, hx, q⟩ := q1
  subst ex
  cases r1
  have hst : PO X (some (.UnaryOp .USub (.Constant (.int 1) k p1) p2)) (tPart (tUn (rU fun i => .int (-i)) (tC (.int 1)))) := po_some (pe_un un_neg pe_int)
  refine wpAny_Slice (thn (po_none.run pins s1 σ H1 (fun o H2 => o = none ∧ H2 = H1) I1 ⟨rfl, rfl⟩) fun vl s2 ⟨l, H2, I2, pl, el, e2⟩ => ?_)
  subst el e2
  refine thn (po_none.run pins s2 σ H2 (fun o H3 => o = none ∧ H3 = H2) I2 ⟨rfl, rfl⟩) fun vu s3 ⟨u, H3, I3, pu, eu, e3⟩ => ?_
  subst eu e3
  refine thn (hst.run pins s3 σ H3 (fun o H4 => o = some (-1) ∧ H4 = H3) I3 ⟨1, rfl, -1, rfl, rfl, rfl⟩) fun vs s4 ⟨o, H4, I4, ps, eo, e4⟩ => ?_
  subst eo e4
  have I5 : Inv X pins σ H4 { s4 with heap := s4.heap.push { cls := .type "slice", data := .fields #[vl, vu, vs] } } := I4.kept (t' := s4.toks) fun b ob q => Heap.get?_push_of_some _ q
  obtain ⟨its, r, ht, hz⟩ := I5.tuple hx
  have hlen := r.length
  show wpAny (model X.prog X.w) X.A (subscriptTail e (.Slice none none (some (.UnaryOp .USub (.Constant (.int 1) k p1) p2)) p3) (.ref a) (.ref s4.heap.objs.size)) (EP X pins σ Q) X.xe { s4 with heap := s4.heap.push { cls := .type "slice", data := .fields #[vl, vu, vs] } }
  refine tail_any (ops := [.ref a, .ref s4.heap.objs.size]) ht.typeIs PyProof.Rows.slot_tuple_getitem.lookup ?_ (by with_unfolding_all rfl)
  refine HT.getItem_tuple_rev ht (Heap.IsSliceOf.new _ vl vu vs) pl pu ps ?_ (by rw [List.size_toArray, ← hlen]; exact hz)
  refine ⟨.ref _, _, I5.laid (t' := s4.toks) (o := .tup xs.reverse) (fun b ob q => Heap.get?_push_of_some _ q) (Nat.le_refl _) ?_, rfl, q _ (I5.hok.fresh (Nat.le_refl _))⟩
  exact ⟨by rw [List.length_reverse]; exact hz, _, r.reverse, IsTup.new _ _⟩
def revO : Dt → Option Dt | .tup xs => some (.tup xs.reverse) | _ => none
theorem de_revT {k : Nat} {p1 p2 p3 : Pos} (he : PE X e (tD X.K W f)) : PE X (.Subscript e (.Slice none none (some (.UnaryOp .USub (.Constant (.int 1) k p1) p2)) p3) pos) (tD X.K W (op1 f revO)) := monoE (pe_revT he) fun σ H Q q => by
  obtain ⟨B, F, as, S, r, o⟩ := q
  refine ⟨B, F, as, S, r, Out.mono (Out.bind o) fun d F1 H1 as1 S1 ⟨r1, e1, o1⟩ v hv => ?_⟩
  cases d with
  | tup ds =>
    cases hv with
    | tup hs ha => exact ⟨_, _, rfl, Evl.ex_t r1.fh hs.sq, fun p hp => (gv_of o1 r1).2 p _ hp (.tup upd_same (ha.rev.up (Ex.new (r1.fresh hp).1)))⟩
  | _ => exact o1.elim

end

def sortW (ws : List (List Int)) : List (List Int) := ws.mergeSort fun a b => decide (a ≤ b)
section
variable {X : Cx} {W : WX}
theorem isT_reads {h : Heap} {b : Addr} {us : List Value} {w : List Int} (hi : IntsAre us w) : ∃ as, ReadsAll h us (w.map PyData.int) as := by
  induction hi with
  | nil => exact ⟨_, .nil⟩
  | @cons i t us ns _ ih =>
    obtain ⟨as, q⟩ := ih
    exact ⟨_, .cons (.int i t) q⟩
def wordsOf : List Dt → Option (List (List Int))
  | [] => some []
  | d :: ds => match wordOf d, wordsOf ds with | some w, some ws => some (w :: ws) | _, _ => none
theorem wordsOf_eq : ∀ {ds : List Dt} {ws : List (List Int)}, wordsOf ds = some ws → ds = ws.map Wd
  | [], ws, h => by simp [wordsOf] at h; subst h; rfl
  | d :: ds, ws, h => by
    unfold wordsOf at h
    cases h1 : wordOf d with
    | none => rw [h1] at h; cases h
    | some w =>
      rw [h1] at h
      cases h2 : wordsOf ds with
      | none => rw [h2] at h; cases h
      | some r =>
        rw [h2] at h
        cases h
        rw [wordOf_eq h1, wordsOf_eq h2]; rfl
@[simp] theorem wordsOf_map : ∀ ws : List (List Int), wordsOf (ws.map Wd) = some ws
  | [] => rfl
  | w :: ws => by
    have := wordsOf_map ws
    simp [wordsOf, this]
end
end Lq

namespace Lq
open PySem PySem.Spec PyProof.Rows L2
class En (α : Type) [DecidableEq α] where
  en : α → Dt
  eqv : ∀ a b, PyData.eqv (toPy (en a)) (toPy (en b)) = decide (a = b)
  pl : ∀ a, plain (en a) = true
  lay : ∀ a, (toPy (en a)).canLay0 = true
  dep : Nat
  depth : ∀ a, (toPy (en a)).depth ≤ dep
open En (en)
section
variable {α β : Type} [DecidableEq α] [En α] [DecidableEq β] [En β]
theorem bdec {α : Type} [BEq α] [LawfulBEq α] [DecidableEq α] (a b : α) : (a == b) = decide (a = b) := by
  rw [Bool.eq_iff_iff, beq_iff_eq, decide_eq_true_eq]
instance : En Int where
  en := .int
  eqv a b := by simp only [toPy, PyData.eqv]; exact bdec a b
  pl _ := by simp [plain]
  lay _ := by simp [toPy, PyData.canLay0]
  dep := 0
  depth _ := by simp [toPy, PyData.depth]
instance : En Bool where
  en := .bl
  eqv a b := by simp only [toPy, PyData.eqv]; exact bdec a b
  pl _ := by simp [plain]
  lay _ := by simp [toPy, PyData.canLay0]
  dep := 0
  depth _ := by simp [toPy, PyData.depth]
theorem toPys_map : ∀ xs : List Dt, toPys xs = xs.map toPy
  | [] => by simp [toPys]
  | x :: xs => by rw [toPys, toPys_map xs]; rfl
theorem plains_all : ∀ xs : List α, plains (xs.map en) = true
  | [] => by simp [plains]
  | x :: xs => by rw [List.map_cons, plains, En.pl x, plains_all xs]; rfl
theorem lays_all : ∀ xs : List α, PyData.canLayAll0 (toPys (xs.map en)) = true
  | [] => by simp [toPys, PyData.canLayAll0]
  | x :: xs => by rw [List.map_cons, toPys, PyData.canLayAll0, En.lay x, lays_all xs]; rfl
theorem deps_all : ∀ xs : List α, PyData.depthAll (toPys (xs.map en)) ≤ En.dep α
  | [] => by simp [toPys, PyData.depthAll]
  | x :: xs => by
    rw [List.map_cons, toPys, PyData.depthAll]
    exact Nat.max_le.mpr ⟨En.depth x, deps_all xs⟩
theorem eqvs_all : ∀ xs ys : List α, PyData.eqvAll (toPys (xs.map en)) (toPys (ys.map en)) = decide (xs = ys)
  | [], [] => by simp [toPys, PyData.eqvAll]
  | [], _ :: _ => by simp [toPys, PyData.eqvAll]
  | _ :: _, [] => by simp [toPys, PyData.eqvAll]
  | x :: xs, y :: ys => by
    rw [List.map_cons, List.map_cons, toPys, toPys, PyData.eqvAll, En.eqv x y, eqvs_all xs ys, ← Bool.decide_and]
    exact decide_eq_decide.mpr (by rw [List.cons.injEq])
instance : En (List α) where
  en xs := .tup (xs.map en)
  eqv a b := by rw [toPy, toPy, PyData.eqv]; exact eqvs_all a b
  pl a := by rw [plain]; exact plains_all a
  lay a := by rw [toPy, PyData.canLay0]; exact lays_all a
  dep := En.dep α + 1
  depth a := by
    rw [toPy, PyData.depth]
    have := deps_all a
    omega
structure Ls (α : Type) where
  l : List α
  deriving DecidableEq
instance : En (Ls α) where
  en xs := .lst (xs.l.map en)
  eqv a b := by
    rw [toPy, toPy, PyData.eqv, eqvs_all]
    exact decide_eq_decide.mpr ⟨fun h => by cases a; cases b; simpa using h, fun h => by rw [h]⟩
  pl a := by rw [plain]; exact plains_all a.l
  lay a := by rw [toPy, PyData.canLay0]; exact lays_all a.l
  dep := En.dep α + 1
  depth a := by
    rw [toPy, PyData.depth]
    have := deps_all a.l
    omega
instance : En (α × β) where
  en p := .tup [en p.1, en p.2]
  eqv a b := by
    rw [toPy, toPy, PyData.eqv]
    simp only [toPys, PyData.eqvAll, En.eqv, Bool.and_true]
    rw [← Bool.decide_and]
    exact decide_eq_decide.mpr (by rw [Prod.ext_iff])
  pl p := by simp [plain, plains, En.pl]
  lay p := by simp [toPy, toPys, PyData.canLay0, PyData.canLayAll0, En.lay]
  dep := max (En.dep α) (En.dep β) + 1
  depth p := by
    have h1 := En.depth p.1
    have h2 := En.depth p.2
    simp only [toPy, toPys, PyData.depth, PyData.depthAll]
    omega
theorem shp_en (h : En.dep α ≤ 64 := by decide) (a : α) : shp (en a) = true := by
  have h1 := En.depth a
  unfold shp SeqAt.shaped
  rw [En.pl, En.lay]
  simp only [Bool.true_and, decide_eq_true_eq]
  omega
theorem eqO_en (a b : α) (h : En.dep α ≤ 64 := by decide) : eqO (en a) (en b) = some (.bl (decide (a = b))) := by
  unfold eqO
  rw [shp_en h a, shp_en h b, En.eqv]
  rfl
theorem neO_en (a b : α) (h : En.dep α ≤ 64 := by decide) : neO (en a) (en b) = some (.bl (!decide (a = b))) := by
  unfold neO
  rw [shp_en h a, shp_en h b, En.eqv]
  rfl
end
@[simp] theorem eqO_int (a b : Int) : eqO (.int a) (.int b) = some (.bl (decide (a = b))) := eqO_en a b
@[simp] theorem neO_int (a b : Int) : neO (.int a) (.int b) = some (.bl (!decide (a = b))) := neO_en a b
theorem nrfl {α : Type} {a b : α} (h : a = b) : a = b := h
@[simp] theorem cE_run (d : Dt) (S : Ms) : cE d S = .ok d S := nrfl rfl
@[simp] theorem varE_im {i : Nat} {S : Ms} {d : Dt} (h : S.sl[i]? = some (.im d)) : varE i S = .ok d S := by unfold varE; rw [h]
@[simp] theorem varE_mu {i k : Nat} {S : Ms} {xs : List Dt} (h : S.sl[i]? = some (.mu k)) (h2 : S.mo[k]? = some (.ob (.ls xs))) : varE i S = .ok (.lst xs) { S with mo := S.mo.set k (.fz (.lst xs)) } := by unfold varE; rw [h]; dsimp only; rw [h2]
@[simp] theorem frz_run' (f : Ms → R (List Dt)) (S : Ms) : frz f S = (f S).bind fun ds S1 => .ok (.lst ds) S1 := nrfl rfl
@[simp] theorem op2_run (f g : Ms → R Dt) (h : Dt → Dt → Option Dt) (S : Ms) : op2 f g h S = (f S).bind fun d S1 => (g S1).bind fun e S2 => R.of (h d e) S2 := nrfl rfl
@[simp] theorem opN_run (f g : Ms → R Dt) (h : Dt → Dt → Option (List Dt)) (S : Ms) : opN f g h S = (f S).bind fun d S1 => (g S1).bind fun e S2 => R.of (h d e) S2 := nrfl rfl
@[simp] theorem op1_run (f : Ms → R Dt) (h : Dt → Option Dt) (S : Ms) : op1 f h S = (f S).bind fun d S1 => R.of (h d) S1 := nrfl rfl
@[simp] theorem iOp_ii (g : Int → Int → Int) (i j : Int) : iOp g (.int i) (.int j) = some (.int (g i j)) := nrfl rfl
@[simp] theorem iOpC_ii (C : Int → Int → Prop) [∀ i j, Decidable (C i j)] (g : Int → Int → Int) (i j : Int) : iOpC C g (.int i) (.int j) = if C i j then some (.int (g i j)) else none := nrfl rfl
@[simp] theorem iCmp_ii (g : Int → Int → Bool) (i j : Int) : iCmp g (.int i) (.int j) = some (.bl (g i j)) := nrfl rfl
@[simp] theorem negO_i (i : Int) : negO (.int i) = some (.int (-i)) := nrfl rfl
@[simp] theorem ixO_lst (xs : List Dt) (i : Int) : ixO (.lst xs) (.int i) = atI xs i := nrfl rfl
@[simp] theorem ixO_tup (xs : List Dt) (i : Int) : ixO (.tup xs) (.int i) = atI xs i := nrfl rfl
@[simp] theorem aNil_run (S : Ms) : aNil S = .ok [] S := nrfl rfl
@[simp] theorem aCons_run (f : Ms → R Dt) (fs : Ms → R (List Dt)) (S : Ms) : aCons f fs S = (f S).bind fun d S1 => (fs S1).bind fun ds S2 => .ok (d :: ds) S2 := nrfl rfl
@[simp] theorem tupE_run (fs : Ms → R (List Dt)) (S : Ms) : tupE fs S = (fs S).bind fun ds S1 => if ds.length ≤ 100000 then .ok (.tup ds) S1 else .no := nrfl rfl
@[simp] theorem lstE_run (fs : Ms → R (List Dt)) (S : Ms) : lstE fs S = (fs S).bind fun ds S1 => if ds.length ≤ 100000 then .ok ds S1 else .no := nrfl rfl
@[simp] theorem calE_run (fs : Ms → R (List Dt)) (h : List Dt → Option Dt) (S : Ms) : calE fs h S = (fs S).bind fun ds S1 => R.of (h ds) S1 := nrfl rfl
@[simp] theorem calN_run (fs : Ms → R (List Dt)) (h : List Dt → Option (List Dt)) (S : Ms) : calN fs h S = (fs S).bind fun ds S1 => R.of (h ds) S1 := nrfl rfl
@[simp] theorem tst_run' (f : Ms → R Dt) (S : Ms) : tst f S = (f S).bind fun d S1 => match d with | .bl b => .ok b S1 | _ => .no := nrfl rfl
@[simp] theorem notT_run (p : Ms → R Bool) (S : Ms) : notT p S = (p S).bind fun b S1 => .ok (!b) S1 := nrfl rfl
@[simp] theorem andT_run (p q : Ms → R Bool) (S : Ms) : andT p q S = (p S).bind fun b S1 => if b then q S1 else .ok false S1 := nrfl rfl
@[simp] theorem orT_run (p q : Ms → R Bool) (S : Ms) : orT p q S = (p S).bind fun b S1 => if b then .ok true S1 else q S1 := nrfl rfl
@[simp] theorem truT_run (f : Ms → R Dt) (S : Ms) : truT f S = (f S).bind fun d S1 => R.of (truO d) S1 := nrfl rfl
@[simp] theorem andV_run (f g : Ms → R Dt) (S : Ms) : andV f g S = (f S).bind fun d S1 => match d with | .bl true => g S1 | .bl false => .ok (.bl false) S1 | _ => .no := nrfl rfl
@[simp] theorem orV_run (f g : Ms → R Dt) (S : Ms) : orV f g S = (f S).bind fun d S1 => match d with | .bl false => g S1 | .bl true => .ok (.bl true) S1 | _ => .no := nrfl rfl
@[simp] theorem yesT_run (S : Ms) : yesT S = .ok true S := nrfl rfl
@[simp] theorem itS_run (f : Ms → R Dt) (S : Ms) : itS f S = (f S).bind fun d S1 => R.of (seqOf d) S1 := nrfl rfl
@[simp] theorem seqOf_lst (xs : List Dt) : seqOf (.lst xs) = some xs := nrfl rfl
@[simp] theorem seqOf_tup (xs : List Dt) : seqOf (.tup xs) = some xs := nrfl rfl
theorem itR1_run {fs : Ms → R (List Dt)} {S S1 : Ms} {n : Nat} (h : fs S = .ok [.int (n : Int)] S1) (hn : n < 2 ^ 62) : itR1 fs S = .ok ((List.range n).map fun (i : Nat) => Dt.int (i : Int)) S1 := by
  unfold itR1
  rw [h, R.bind_ok]
  dsimp only
  rw [if_pos ⟨by omega, by omega⟩, Int.toNat_natCast]
@[simp] theorem itZ_run (fs : Ms → R (List Dt)) (S : Ms) : itZ fs S = (fs S).bind fun ds S1 => match ds with
  | [.lst xs, .lst ys] => .ok (zipD xs ys) S1
  | [.tup xs, .tup ys] => .ok (zipD xs ys) S1
  | _ => .no := nrfl rfl
@[simp] theorem lenO_lst (xs : List Dt) : lenO [.lst xs] = some (.int xs.length) := nrfl rfl
@[simp] theorem lenO_tup (xs : List Dt) : lenO [.tup xs] = some (.int xs.length) := nrfl rfl
@[simp] theorem intO_i (i : Int) : intO [.int i] = some (.int i) := nrfl rfl
@[simp] theorem intO_b (b : Bool) : intO [.bl b] = some (.int (if b then 1 else 0)) := nrfl rfl
@[simp] theorem absO_i (i : Int) : absO [.int i] = some (.int (if i < 0 then -i else i)) := nrfl rfl
@[simp] theorem tupO_lst (xs : List Dt) : tupO [.lst xs] = some (.tup xs) := nrfl rfl
@[simp] theorem tupO_tup (xs : List Dt) : tupO [.tup xs] = some (.tup xs) := nrfl rfl
@[simp] theorem lstO_lst (xs : List Dt) : lstO [.lst xs] = some xs := nrfl rfl
@[simp] theorem lstO_tup (xs : List Dt) : lstO [.tup xs] = some xs := nrfl rfl
@[simp] theorem revO_tup (xs : List Dt) : revO (.tup xs) = some (.tup xs.reverse) := nrfl rfl
@[simp] theorem seqS_run (m n : Ms → O) (S : Ms) : seqS m n S = (m S).seq n := nrfl rfl
@[simp] theorem nilS_run (S : Ms) : nilS S = .nx S := nrfl rfl
@[simp] theorem seq_nx (s : Ms) (f : Ms → O) : (O.nx s).seq f = f s := nrfl rfl
@[simp] theorem seq_rt (d : Dt) (s : Ms) (f : Ms → O) : (O.rt d s).seq f = .rt d s := nrfl rfl
@[simp] theorem seq_ct (s : Ms) (f : Ms → O) : (O.ct s).seq f = .ct s := nrfl rfl
@[simp] theorem seq_bk (s : Ms) (f : Ms → O) : (O.bk s).seq f = .bk s := nrfl rfl
@[simp] theorem asgS_run' (i : Nat) (f : Ms → R Dt) (S : Ms) : asgS i f S = (f S).stmt fun d S1 => .nx { S1 with sl := S1.sl.set i (.im d) } := nrfl rfl
@[simp] theorem asgN_run' (i : Nat) (f : Ms → R (List Dt)) (S : Ms) : asgN i f S = (f S).stmt fun ds S1 => .nx { sl := S1.sl.set i (.mu S1.mo.length), mo := S1.mo ++ [.ob (.ls ds)] } := nrfl rfl
@[simp] theorem asgM_run' (i : Nat) (f : Ms → R Ob) (S : Ms) : asgM i f S = (f S).stmt fun c S1 => .nx { sl := S1.sl.set i (.mu S1.mo.length), mo := S1.mo ++ [.ob c] } := nrfl rfl
@[simp] theorem asgT_run' (T : Tk) (f : Ms → R Dt) (S : Ms) : asgT T f S = (f S).stmt fun d S1 => match T.k d S1 with | some S2 => .nx S2 | none => .no := nrfl rfl
@[simp] theorem ifS_run (p : Ms → R Bool) (m n : Ms → O) (S : Ms) : ifS p m n S = (p S).stmt fun b S1 => if b then m S1 else n S1 := nrfl rfl
@[simp] theorem retS_run (f : Ms → R Dt) (S : Ms) : retS f S = (f S).stmt fun d S1 => .rt d S1 := nrfl rfl
@[simp] theorem dropS_run (f : Ms → R Dt) (S : Ms) : dropS f S = (f S).stmt fun _ S1 => .nx S1 := nrfl rfl
@[simp] theorem forS_run (it : Ms → R (List Dt)) (k : Dt → Ms → Option Ms) (b : Ms → O) (S : Ms) : forS it k b S = (it S).stmt fun ds S1 => forL k b ds S1 := nrfl rfl
@[simp] theorem kNm (i : Nat) (d : Dt) (S : Ms) : (Tk.nm i).k d S = some { S with sl := S.sl.set i (.im d) } := nrfl rfl
@[simp] theorem kTp (is : List Nat) (ds : List Dt) (S : Ms) : (Tk.tp is).k (.tup ds) S = kNames is ds S := nrfl rfl
theorem muAt_run {S : Ms} {i k : Nat} {xs : List Dt} (h : S.sl[i]? = some (.mu k)) (h2 : S.mo[k]? = some (.ob (.ls xs))) : muAt S i = some (k, xs) := by unfold muAt; rw [h]; dsimp only; rw [h2]
@[simp] theorem appS_run (i : Nat) (f : Ms → R Dt) (S : Ms) : appS i f S = match muAt S i with
  | none => .no
  | some _ => (f S).stmt fun d S1 => match muAt S1 i with | some (k, xs) => if xs.length < 100000 then .nx { S1 with mo := S1.mo.set k (.ob (.ls (xs ++ [d]))) } else .no | none => .no := nrfl rfl
@[simp] theorem funE_run (n : Nat) (fs : Ms → R (List Dt)) (f : List Dt → Fo) (S : Ms) : funE n fs f S = (fs S).bind fun ds S1 => if ds.length = n then (match f ds with | .ok d => .ok d S1 | .er e => .er e S1 | .no => .no) else .no := nrfl rfl
theorem atI_ofNat {α : Type} (xs : List α) (k : Nat) : atI xs (k : Int) = xs[k]? := by
  cases h : xs[k]? with
  | some v => exact atI_nat h
  | none =>
    have hk := List.getElem?_eq_none_iff.mp h
    unfold atI ixN
    rw [if_pos (by omega), if_neg (by omega)]; rfl

theorem lcF_flt {α : Type} {sl : List Sv} {k : Dt → Ms → Option Ms} {t : Ms → R Bool} {e : Ms → R Dt} {mo : List Mo} (enc : α → Dt) (b : α → Bool) (g : α → Dt) : ∀ (xs : List α) (acc : List Dt),
    (∀ x ∈ xs, ∃ S1 S2, k (enc x) { sl := sl, mo := mo } = some S1 ∧ t S1 = .ok (b x) S2 ∧ S2.mo = mo ∧ (b x = true → ∃ S3, e S2 = .ok (g x) S3 ∧ S3.mo = mo)) → acc.length + xs.length ≤ 100000 →
    lcF sl k t e (xs.map enc) mo acc = .ok (acc ++ (xs.filter b).map g) { sl := sl, mo := mo }
  | [], acc, _, _ => by simp [lcF]
  | x :: xs, acc, h, hl => by
    obtain ⟨S1, S2, h1, h2, h3, h4⟩ := h x List.mem_cons_self
    rw [List.map_cons]
    unfold lcF
    rw [h1]
    dsimp only
    rw [h2]
    have hl' : acc.length + (xs.length + 1) ≤ 100000 := hl
    cases hb : b x with
    | false =>
      dsimp only
      rw [h3, lcF_flt enc b g xs acc (fun y hy => h y (List.mem_cons_of_mem _ hy)) (by omega)]
      simp [hb]
    | true =>
      obtain ⟨S3, h5, h6⟩ := h4 hb
      dsimp only
      rw [h5]
      dsimp only
      rw [if_pos (by omega), h6, lcF_flt enc b g xs (acc ++ [g x]) (fun y hy => h y (List.mem_cons_of_mem _ hy)) (by simp; omega)]
      simp [hb]
theorem lcE_flt {α : Type} {it : Ms → R (List Dt)} {k : Dt → Ms → Option Ms} {t : Ms → R Bool} {e : Ms → R Dt} {own : List Nat} {S S1 : Ms} (enc : α → Dt) (b : α → Bool) (g : α → Dt) (xs : List α) (hi : it S = .ok (xs.map enc) S1)
    (h : ∀ x ∈ xs, ∃ T1 T2, k (enc x) { sl := wipeL S1.sl own, mo := S1.mo } = some T1 ∧ t T1 = .ok (b x) T2 ∧ T2.mo = S1.mo ∧ (b x = true → ∃ T3, e T2 = .ok (g x) T3 ∧ T3.mo = S1.mo)) (hl : xs.length ≤ 100000) :
    lcE it k t e own S = .ok ((xs.filter b).map g) S1 := by
  unfold lcE
  rw [hi]
  simp only [R.bind_ok]
  rw [lcF_flt enc b g xs [] h (by simpa using hl)]
  simp
theorem lcE_map {α : Type} {it : Ms → R (List Dt)} {k : Dt → Ms → Option Ms} {e : Ms → R Dt} {own : List Nat} {S S1 : Ms} (enc : α → Dt) (g : α → Dt) (xs : List α) (hi : it S = .ok (xs.map enc) S1)
    (h : ∀ x ∈ xs, ∃ T1, k (enc x) { sl := wipeL S1.sl own, mo := S1.mo } = some T1 ∧ ∃ T3, e T1 = .ok (g x) T3 ∧ T3.mo = S1.mo) (hk : ∀ d T T', k d T = some T' → T'.mo = T.mo) (hl : xs.length ≤ 100000) :
    lcE it k yesT e own S = .ok (xs.map g) S1 := by
  have := lcE_flt (t := yesT) enc (fun _ => true) g xs hi (fun x hx => by
    obtain ⟨T1, h1, T3, h2, h3⟩ := h x hx
    exact ⟨T1, T1, h1, rfl, by rw [hk _ _ _ h1], fun _ => ⟨T3, h2, h3⟩⟩) hl
  rw [this]
  congr 2
  simp
theorem kNames_mo : ∀ {is : List Nat} {ds : List Dt} {S S' : Ms}, kNames is ds S = some S' → S'.mo = S.mo
  | [], [], _, _, h => by cases h; rfl
  | [], _ :: _, _, _, h => by cases h
  | _ :: _, [], _, _, h => by cases h
  | i :: is, d :: ds, S, S', h => by
    have := kNames_mo (is := is) (ds := ds) (S := { S with sl := S.sl.set i (.im d) }) h
    exact this
theorem Tk.mo {T : Tk} {d : Dt} {S S' : Ms} (h : T.k d S = some S') : S'.mo = S.mo := by
  cases T with
  | nm i => cases h; rfl
  | tp is =>
    cases d with
    | tup ds => exact kNames_mo h
    | _ => cases h
theorem forL_inv {k : Dt → Ms → Option Ms} {body : Ms → O} : ∀ (items : List Dt) (I : Nat → Ms → Prop) (S : Ms), I 0 S → (∀ i d S, items[i]? = some d → I i S → ∃ S1 S2, k d S = some S1 ∧ (body S1 = .nx S2 ∨ body S1 = .ct S2) ∧ I (i + 1) S2) → ∃ S', forL k body items S = .nx S' ∧ I items.length S'
  | [], I, S, h0, _ => ⟨S, rfl, h0⟩
  | d :: ds, I, S, h0, h => by
    obtain ⟨S1, S2, h1, h2, h3⟩ := h 0 d S rfl h0
    obtain ⟨S', e1, e2⟩ := forL_inv ds (fun i => I (i + 1)) S2 h3 fun i d S hd hI => h (i + 1) d S (by simpa using hd) hI
    refine ⟨S', ?_, by simpa using e2⟩
    unfold forL
    rw [h1]
    dsimp only
    rcases h2 with h2 | h2 <;> rw [h2] <;> exact e1
end Lq

namespace Lq
open PySem PySem.Spec PyProof.Rows L2
open Evl (Ex)
theorem mul_once (l : Addr) (its : Array Value) (n : Nat) (dd : Option Addr) (sl : Array (Option Value)) (x : Int) (u : Tok) (c0 : (decide (x < -(2 ^ 63)) || decide (x ≥ 2 ^ 63)) = false) (c1 : (its.isEmpty || x == 1) = true) :
    Meets (Builtin.«tuple.__mul__» ⟨[.ref l, .int x u], []⟩) (fun _ R s => s.heap.get? l = some { cls := .type "tuple", dict := dd, data := .seq its n, slots := sl } ∧ R (.ok (.ret (.ref l))) s) :=
  .of_wp fun prog w A R s h => by
    obtain ⟨hp, gg, d, tk, os⟩ := s
    obtain ⟨hl, h⟩ := h
    have f1 := AutoSeq1.idx_int
    wp_walk using wpAny_loadPart' hl
    refine wpAny_ite_false (decide_eq_false fun z => by rw [c0] at z; exact Bool.noConfusion z) ?_
    wp_walk using wpAny_loadPart' hl
    exact ⟨_, rfl, h⟩
theorem mul_none (l : Addr) (its : Array Value) (n : Nat) (dd : Option Addr) (sl : Array (Option Value)) (x : Int) (u : Tok) (c0 : (decide (x < -(2 ^ 63)) || decide (x ≥ 2 ^ 63)) = false) (c1 : (its.isEmpty || x == 1) = false) (c2 : (decide (x ≤ 0) || its.isEmpty) = true) :
    Meets (Builtin.«tuple.__mul__» ⟨[.ref l, .int x u], []⟩) (fun _ R s => s.heap.get? l = some { cls := .type "tuple", dict := dd, data := .seq its n, slots := sl } ∧
      R (.ok (.ret (.ref s.heap.objs.size))) { s with heap := s.heap.push { cls := .type "tuple", data := .seq #[] } }) :=
  .of_wp fun prog w A R s h => by
    obtain ⟨hp, gg, d, tk, os⟩ := s
    obtain ⟨hl, h⟩ := h
    have f1 := AutoSeq1.idx_int
    wp_walk using wpAny_loadPart' hl
    refine wpAny_ite_false (decide_eq_false fun z => by rw [c0] at z; exact Bool.noConfusion z) ?_
    wp_walk using wpAny_loadPart' hl
    exact ⟨_, rfl, h⟩
section
variable {X : Cx}
def rRepA (K : PySem.W.Frag) : R2 := fun x y H Q => ∃ (l : Addr) (k : Int) (xs : List V), x = .ref l ∧ y = .int k ∧ SqT K H l xs ∧ xs ≠ [] ∧ 0 ≤ k ∧ k ≤ 1000 ∧ xs.length ≤ 1000 ∧ (k = 1 → Q (.ref l) H) ∧ (k ≠ 1 → ∀ p, H p = none → Q (.ref p) (upd H p (.tup (List.replicate k.toNat xs).flatten)))
theorem op_repA : OpR X (binaryOp .Mult) (rRepA X.K) := by
  intro pins s σ H x y v u Q I rx ry h
  obtain ⟨l, k, xs, ex, ey, hT, hne, h0, h1, hz, q1, q2⟩ := h
  by_cases hk : 2 ≤ k
  · exact op_repT pins s σ H x y v u Q I rx ry ⟨l, k, xs, ex, ey, hT, hne, hk, h1, hz, q2 (by omega)⟩
  · subst ex ey
    cases rx
    obtain ⟨t, rfl⟩ := ry
    obtain ⟨its, r, ⟨⟨cls, dd, data, sl⟩, ho, hc, n, hd⟩, hs⟩ := I.tuple hT
    simp only at hc hd
    subst hc hd
    have hle := r.length
    have hi : its.toArray.isEmpty = false := by
      cases its with
      | nil => exact absurd (List.eq_nil_of_length_eq_zero hle) hne
      | cons a b => rfl
    have c0 : (decide (k < -(2 ^ 63)) || decide (k ≥ 2 ^ 63)) = false := by
      have e1 : ¬ k < -(2 ^ 63) := by omega
      have e2 : ¬ k ≥ 2 ^ 63 := by omega
      rw [decide_eq_false e1, decide_eq_false e2]
      rfl
    by_cases h1 : k = 1
    · have c1 : (its.toArray.isEmpty || k == 1) = true := by rw [h1, hi]; rfl
      refine wpAny_binaryOp_repeat_ref (U := "int") (T := "tuple") (by decide) ⟨_, ho, rfl⟩ (fun z => typeIs_int z k t) noFill_tuple_mul F.fills_int_mul F.slot_int_rmul repeat_tuple F.slot_int_index.lookup ?_
      refine call_meets F.slot_int_rmul (typeIs_int s k t) F.entry_int_rmul (F.args_int_rmul_2 _ _) (int_rmul_tuple k t l its.toArray n dd sl) ⟨ho, rfl, ⟨_, ho, rfl⟩, ?_⟩
      exact call_meets F.slot_tuple_mul ⟨_, ho, rfl⟩ F.entry_tuple_mul (F.args_tuple_mul_2 _ _) (mul_once l its.toArray n dd sl k t c0 c1) ⟨ho, ⟨.ref l, H, I, rfl, q1 h1⟩⟩
    · have hk0 : k = 0 := by omega
      have c1 : (its.toArray.isEmpty || k == 1) = false := by rw [hk0, hi]; rfl
      have c2 : (decide (k ≤ 0) || its.toArray.isEmpty) = true := by rw [hk0]; rfl
      refine wpAny_binaryOp_repeat_ref (U := "int") (T := "tuple") (by decide) ⟨_, ho, rfl⟩ (fun z => typeIs_int z k t) noFill_tuple_mul F.fills_int_mul F.slot_int_rmul repeat_tuple F.slot_int_index.lookup ?_
      refine call_meets F.slot_int_rmul (typeIs_int s k t) F.entry_int_rmul (F.args_int_rmul_2 _ _) (int_rmul_tuple k t l its.toArray n dd sl) ⟨ho, rfl, ⟨_, ho, rfl⟩, ?_⟩
      refine call_meets F.slot_tuple_mul ⟨_, ho, rfl⟩ F.entry_tuple_mul (F.args_tuple_mul_2 _ _) (mul_none l its.toArray n dd sl k t c0 c1 c2) ⟨ho, ?_⟩
      refine ⟨.ref s.heap.objs.size, upd H s.heap.objs.size (.tup []), I.laid (t' := s.toks) (fun b ob q => Heap.get?_push_of_some _ q) (Nat.le_refl _) ?_, rfl, ?_⟩
      · exact ⟨Nat.zero_le _, [], .nil, IsTup.new _ _⟩
      · have := q2 h1 _ (I.hok.fresh (Nat.le_refl _))
        rw [hk0] at this
        exact this
end
section
variable {X : Cx} {W : WX} {a b e : Expr} {f g : Ms → R Dt} {p pos : Pos}
def repT : Dt → Dt → Option Dt | .tup xs, .int k => if xs ≠ [] ∧ xs.length ≤ 100 ∧ 0 ≤ k ∧ k ≤ 1000 then some (.tup (List.replicate k.toNat xs).flatten) else none | _, _ => none
theorem de_repT (ha : PE X a (tD X.K W f)) (hb : PE X b (tD X.K W g)) : PE X (.BinOp a .Mult b pos) (tD X.K W (op2 f g repT)) := de_op op_repA (fun F H v w d e z Q ex hv hw hz q => by
  unfold repT at hz
  split at hz <;> try cases hz
  split at hz <;> cases hz
  rename_i xs k hl
  obtain ⟨h1, h2, h3, h4⟩ := hl
  cases hw
  cases hv with
  | tup hs ha =>
    refine ⟨_, _, _, rfl, rfl, Evl.ex_t ex hs.sq, ?_, h3, h4, by rw [ha.length]; omega, fun hk => q.1 _ ?_, fun hk p hp => q.2 p _ hp ?_⟩
    · intro z
      rw [z] at ha
      cases ha
      exact h1 rfl
    · subst hk
      have e1 : (List.replicate (Int.toNat 1) xs).flatten = xs := by simp
      rw [e1]
      exact .tup hs ha
    · have hf : F p = none := by
        cases w : F p with
        | none => rfl
        | some o => rw [ex _ _ w] at hp; cases hp
      exact .tup upd_same (RpA.up (rp_flat ha _) (Ex.new hf))) ha hb
def blsOf : List Dt → Option (List Bool)
  | [] => some []
  | .bl b :: ds => (blsOf ds).map (b :: ·)
  | _ => none
theorem blsOf_eq : ∀ {ds : List Dt} {bs : List Bool}, blsOf ds = some bs → ds = bs.map Dt.bl
  | [], bs, h => by cases h; rfl
  | .bl b :: ds, bs, h => by
    unfold blsOf at h
    cases q : blsOf ds with
    | none => rw [q] at h; cases h
    | some cs => rw [q] at h; cases h; rw [blsOf_eq q]; rfl
  | .non :: _, _, h | .int _ :: _, _, h | .str _ :: _, _, h | .lst _ :: _, _, h | .tup _ :: _, _, h | .obj _ _ _ :: _, _, h | .scr _ _ :: _, _, h => by cases h
theorem blsOf_map : ∀ bs : List Bool, blsOf (bs.map Dt.bl) = some bs
  | [] => rfl
  | b :: bs => by rw [List.map_cons, blsOf, blsOf_map bs]; rfl
theorem blsv {K : PySem.W.Frag} {F : Hp} : ∀ {vs : List V} {bs : List Bool}, RpA K F vs (bs.map Dt.bl) → vs = bs.map V.bl
  | _, [], .nil => rfl
  | _, b :: bs, .cons h t => by rw [h.blv, blsv t]; rfl
def allO : List Dt → Option Dt | [.lst xs] => (blsOf xs).map fun bs => .bl (bs.all id) | _ => none
theorem de_all (hcalm : X.calm = true) (hg : Gl X "all") (hm : X.mg "all" = none) (ha : PE X a (tD X.K W f)) (hs : starEach [a] X.env = (false, eval a X.env) :: starEach [] X.env := by rfl) : PE X (.Call (.Name "all" p) [a] [] pos) (tD X.K W (calE (aCons f aNil) allO)) :=
  de_calB (fun F H vs ds z Q ex hv hz q => by
    unfold allO at hz
    split at hz <;> try cases hz
    rename_i xs
    cases hn : blsOf xs with
    | none => rw [hn] at hz; cases hz
    | some bs =>
      rw [hn] at hz
      cases hz
      have e1 := blsOf_eq hn
      subst e1
      obtain ⟨v, rfl, h1⟩ := rpa1 hv
      cases h1 with
      | lst hs ha =>
        rw [blsv ha] at hs
        exact ⟨_, _, rfl, Evl.ex_l ex (Evl.sq_of hs), q.1 _ (.bl _)⟩) (cr_all hcalm) hg hm (by decide +kernel) (da_cons ha da_nil hs) (by decide) (by decide) hs (by rfl)
end
@[simp] theorem allO_run (bs : List Bool) : allO [.lst (bs.map Dt.bl)] = some (.bl (bs.all id)) := by unfold allO; dsimp only; rw [blsOf_map]; rfl
end Lq

namespace Lq
open PySem PySem.Spec PyProof.Rows L2
section
variable {X : Cx} {W : WX} {a b : Expr} {f g : Ms → R Dt} {p pos : Pos}
end
end Lq

namespace Lq
open PySem PySem.Spec PyProof.Rows L2
structure ScC (N ps : List Str) (sc : Scope) : Prop where
  kind : sc.kind = .function
  co : sc.isCoroutine = false
  gen : sc.isGenerator = false
  nd : N.Nodup
  pre : N.take ps.length = ps
  par : ∀ x ∈ ps, sc.names.lookup x = some .local
  cell : ∀ y ∈ sc.names, y.2 ≠ .cell
  free : ∀ y ∈ sc.names, y.2 = .free → y.1 = "__class__"
  kcl : sc.names.lookup ("__class__" : Str) = some .free
abbrev envK (qual : Str) (sc : Scope) (L f : Addr) (cd : Value) (cc : Addr) : Env := PySem.W.envX qual sc L f cd [("__class__", cc)]
def cxK (CX : CXT) (P : Program) (w : World) (K : PySem.W.Frag) (mg : Str → Option Value) (base : Heap) (N : List Str) (qual : Str) (scope : Scope) (f : Addr) (cd : Value) (cc : Addr) (A : Around) (outer : List Env) (s : Shared) (H : Hp) (E : XK) : Cx where
  prog := P
  w := w
  K := K
  mg := mg
  base := base
  A := A.deeper (envK qual scope s.heap.objs.size f cd cc)
  N := N
  s_0 := s
  H_0 := H
  env := envK qual scope s.heap.objs.size f cd cc
  outer := outer
  stack := envK qual scope s.heap.objs.size f cd cc :: outer
  ex := []
  calm := true
  fn := fun x => !(x == "__class__")
  pn := []
  xe := fun e s' => wpAny (model P w) (A.deeper (envK qual scope s.heap.objs.size f cd cc)) (leaving (envK qual scope s.heap.objs.size f cd cc) e) (fun _ s'' => CX outer H s E e s'') (fun e' s'' => CX outer H s E e' s'') s'
theorem mfz {α β : Type} : ∀ {ps : List α} {us : List β}, ps.Nodup → ((ps.zip us).map (·.1)).Nodup
  | [], _, _ => by simp
  | _ :: _, [], _ => by simp
  | p :: ps, u :: us, h => by
    rw [List.zip_cons_cons, List.map_cons, List.nodup_cons]
    obtain ⟨h1, h2⟩ := List.nodup_cons.mp h
    refine ⟨fun hm => ?_, mfz h2⟩
    obtain ⟨q, hq, e⟩ := List.mem_map.mp hm
    have e' : q.1 = p := e
    exact h1 (e' ▸ (List.of_mem_zip hq).1)
theorem lookup_rev {ps : List Str} (hnd : ps.Nodup) : ∀ {us : List Value} {i : Nat} {y : Str} {u : Value}, ps[i]? = some y → us[i]? = some u → (ps.zip us).reverse.lookup y = some u := by
  intro us i y u h1 h2
  have hmem : (y, u) ∈ (ps.zip us).reverse := by
    rw [List.mem_reverse]
    have hi : i < ps.length := (List.getElem?_eq_some_iff.mp h1).1
    have hi2 : i < us.length := (List.getElem?_eq_some_iff.mp h2).1
    refine List.mem_iff_getElem?.mpr ⟨i, ?_⟩
    rw [List.getElem?_zip_eq_some]
    exact ⟨h1, h2⟩
  have hnd2 : (((ps.zip us).reverse).map (·.1)).Nodup := by
    rw [List.map_reverse]
    exact (List.reverse_perm _).nodup_iff.mpr (mfz hnd)
  generalize (ps.zip us).reverse = l at *
  induction l with
  | nil => cases hmem
  | cons a l ih =>
    obtain ⟨k, v⟩ := a
    rw [List.map_cons, List.nodup_cons] at hnd2
    rcases List.mem_cons.mp hmem with h | h
    · cases h
      simp [List.lookup]
    · have hne : y ≠ k := fun e => hnd2.1 (List.mem_map.mpr ⟨(y, u), h, e⟩)
      have : (y == k) = false := by simpa using hne
      rw [List.lookup_cons, this]
      exact ih h hnd2.2
section
variable {CX : CXT} {P : Program} {w : World} {K : PySem.W.Frag} {mg : Str → Option Value} {base : Heap} {N ps : List Str} {qual : Str} {scope : Scope} {f cc D : Addr} {cd cl : Value} {cld : Option Addr} {csl : Array (Option Value)} {A : Around} {outer : List Env} {s : Shared} {H : Hp} {E : XK} {us : List Value} {vs : List V} {h₀ : Heap} {t : Nat}
theorem inv_startK (S : ScC N ps scope) (hd : A.handled = none) (e0 : Env0 P w K mg base A outer s H) (hl : vs.length = ps.length) (r : Vals vs us) (hcell : K.lookup cc = some ⟨cl, cld, .cell (some (.ref D)), csl⟩)
    (hns : h₀.Ns s.heap.objs.size (fun x => (ps.zip us).reverse.lookup x)) (hk : ∀ b o, s.heap.get? b = some o → h₀.get? b = some o) :
    Inv (cxK CX P w K mg base N qual scope f cd cc A outer s H E) [] (L2.start N vs) H { s with heap := h₀, toks := t } := by
  have hpl : ps.length ≤ N.length := by have := congrArg List.length S.pre; rw [List.length_take] at this; omega
  have cl1 : ∀ {x : Str} {c : Addr}, List.lookup x [(("__class__" : Str), cc)] = some c → x = "__class__" ∧ c = cc := fun {x c} h => by
    rw [List.lookup_cons] at h
    split at h
    · rename_i hx
      cases h
      exact ⟨by simpa using hx, rfl⟩
    · cases h
  have cl2 : List.lookup ("__class__" : Str) [(("__class__" : Str), cc)] = some cc := by simp [List.lookup]
  have hb := e0.mod.kin _ _ hcell
  have hbc := e0.bs _ _ hb
  refine ⟨⟨e0.mod, S.kind, rfl, rfl, Nat.le_refl _, fun y z c h1 h2 => (cl1 h1).1.trans (cl1 h2).1.symm, fun y hy => ?_, fun y c hf h => ?_, fun _ => hd, Around.frames_deeper e0.frames, .inr ⟨rfl, rfl⟩, fun b z => absurd z (by exact List.not_mem_nil), e0.bs, e0.bsz, fun b _ _ => by exact List.not_mem_nil, fun b z => absurd z (by exact List.not_mem_nil), e0.funs, e0.frf⟩,
    rfl, e0.bare, Un.kept hk, ⟨_, hns, fun i y v h1 h2 h3 => ?_⟩, fun y c h => ?_, e0.hok.fresh (Nat.le_refl _), fun y c h => ?_, fun p hp => absurd (show p ∈ ([] : List (Addr × Obj)) from hp) (by simp), e0.hok.kept hk, ?_⟩
  · have hy : scope.names.lookup y = some .cell ∨ scope.names.lookup y = some .free := hy
    rcases hy with hy | hy
    · exact absurd rfl (S.cell _ (PySem.mem_of_lookup hy))
    · have e := S.free _ (PySem.mem_of_lookup hy) rfl
      dsimp only at e
      rw [e]
      exact ⟨cc, cl2⟩
  · have e := (cl1 h).1
    rw [e] at hf
    have hf' : (!(("__class__" : Str) == "__class__")) = true := hf
    exact absurd hf' (by decide)
  · have hi : i < vs.length := by
      unfold L2.start at h2
      by_cases hi : i < vs.length
      · exact hi
      · rw [List.getElem?_append_right (by simpa using hi)] at h2
        rw [List.getElem?_replicate] at h2
        split at h2 <;> cases h2
    have ha : vs[i]? = some v := by
      unfold L2.start at h2
      rw [List.getElem?_append_left (by simpa using hi), List.getElem?_map] at h2
      cases e : vs[i]? with
      | none => rw [e] at h2; cases h2
      | some a => rw [e] at h2; cases h2; rfl
    obtain ⟨u, hu, rv⟩ := r.get ha
    have hp : ps[i]? = some y := by
      rw [← S.pre, List.getElem?_take_of_lt (by omega)]
      exact h1
    have ndP : ps.Nodup := by
      rw [← S.pre]
      exact S.nd.sublist (List.take_sublist _ _)
    exact ⟨u, rv, .inl ⟨S.par y (List.mem_of_getElem? hp), lookup_rev ndP hp hu⟩⟩
  · have e := (cl1 h).2
    rw [e]
    exact ⟨some (.ref D), _, hk _ _ hbc.1, rfl⟩
  · have e := (cl1 h).2
    rw [e]
    exact hbc.2
  · unfold L2.start
    show _ = N.length
    rw [List.length_append, List.length_map, List.length_replicate]
    omega
theorem fnK_of {k : Nat} {x : Str} {params : Arguments} {body : List Stmt} {kV doc pm ct oc : Value} {an od : Option Addr} {osl : Array (Option Value)} {sp : Sp} (lk : K.lookup f = some ⟨oc, od, .func (PySem.W.ksFn x qual params body scope .none kV doc pm an cd ct cc), osl⟩) (hcd : PySem.W.codeIn K cd qual = true)
    (S : ScC N ps scope) (hcell : K.lookup cc = some ⟨cl, cld, .cell (some (.ref D)), csl⟩) (len : ∀ vs H Q E, sp vs H Q E → vs.length = ps.length)
    (hbody : ∀ (A : Around) (outer : List Env) (s s1 : Shared) (H : Hp) (vs : List V) (Q : VK) (E : XK), Room k (A.deeper (envK qual scope s.heap.objs.size f cd cc)) → sp vs H Q E → Inv (cxK CX P w K mg base N qual scope f cd cc A outer s H E) [] (L2.start N vs) H s1 →
      _root_.PySem.wpAt (model P w) (A.deeper (envK qual scope s.heap.objs.size f cd cc)) (.func body (envK qual scope s.heap.objs.size f cd cc)) (execs body (envK qual scope s.heap.objs.size f cd cc)) (SP (cxK CX P w K mg base N qual scope f cd cc A outer s H E) [] { nx := fun _ H' => Q .non H', rt := Q }) (cxK CX P w K mg base N qual scope f cd cc A outer s H E).xe s1) :
    FnOk P w K mg base CX (k + 1) f (PySem.W.ksFn x qual params body scope .none kV doc pm an cd ct cc) ps sp := by
  refine ⟨len, fun A outer s H args us vs Q E hr e0 hb r hsp => ?_⟩
  have hl := len _ _ _ _ hsp
  have KX : K.In s.heap := e0.mod.kin.keeps fun b o e => (e0.bs b o e).1
  have lim : s.heap.NoLimit := e0.mod.nolimit.keeps fun b o e => (e0.bs b o e).1
  refine PySem.ks_codeAny_call_defAt (body := body) (binds := ps.zip us) hr.depth (KX _ _ lk) rfl lim (PySem.W.codeRec_of KX hcd) rfl hb S.cell (fun y hy => S.par _ (List.of_mem_zip (show (y.1, y.2) ∈ ps.zip us from hy)).1) (fun h₀ hns hk => ?_) S.co S.gen S.kind
  have I := inv_startK (CX := CX) (E := E) (qual := qual) (f := f) (cd := cd) (t := s.toks + (ps.zip us).length) S hr.hd e0 hl r hcell hns hk
  refine _root_.PySem.wpAt_mono (hbody A outer s _ H vs Q E (hr.deeper _) hsp I) (fun fl s' hs => ?_) fun e s' hs => hs
  have fin : ∀ {σ' : L2.St} {H' : Hp} {v : V} {u : Value}, Inv (cxK CX P w K mg base N qual scope f cd cc A outer s H E) [] σ' H' s' → RelV v u → Q v H' → CE outer P w H s Q u s' :=
    fun {σ' H' v u} J rv q => ⟨v, H', J.os, J.bare, J.base, J.hok, rv, q⟩
  cases fl with
  | ret u =>
    obtain ⟨v, σ', H', J, rv, q⟩ := hs
    exact fin J rv q
  | next =>
    obtain ⟨σ', H', J, q⟩ := hs
    exact fin (v := V.non) (u := Value.none) J rfl q
  | brk =>
    obtain ⟨_, _, _, q⟩ := hs
    exact False.elim q
  | cont =>
    obtain ⟨_, _, _, q⟩ := hs
    exact False.elim q
end
end Lq

namespace Lq
open PySem PySem.Spec PyProof.Rows L2
structure SupF (P : Program) (K : PySem.W.Frag) (mg : Str → Option Value) (f cda cc D C : Addr) (sc : Scope) (me : Str) : Prop where
  fn : ∃ oc od fd osl ar, K.lookup f = some ⟨oc, od, .func fd, osl⟩ ∧ (fd.params.posonlyargs ++ fd.params.args).head? = some ar ∧ ar.arg = me
  code : ∃ ccl cdd vs ccs file tf, K.lookup cda = some ⟨ccl, cdd, .fields vs, ccs⟩ ∧ vs[2]? = some (.str file tf) ∧ ((P.main.file : Str) == file) = true
  cell : ∃ cl cld csl, K.lookup cc = some ⟨cl, cld, .cell (some (.ref D)), csl⟩
  clD : ∃ cdD, PySem.W.clsIn K D = some cdD
  sub : PySem.W.mroIn K C (.ref D) = some true
  up : PySem.W.ks_superIn K C D "__init__" = some (some (.builtin "ValueError.__init__"))
  bas : PySem.W.subIn K (.ref C) (.type "ValueError") = some true
  any : PySem.W.nsIn K PySem.cStatics "thirdparty.any" = some none
  sup : mg "super" = none
  ksu : sc.names.lookup ("super" : Str) = some .globalImplicit
  kcl : sc.names.lookup ("__class__" : Str) = some .free
  ksl : sc.names.lookup me = some .local
  top : (P.main.scope.names.lookup ("super" : Str)).isSome = false
theorem cls_at {K : PySem.W.Frag} {h : Heap} {D : Addr} {cd : ClassData} (X : K.In h) (e : PySem.W.clsIn K D = some cd) : ∃ o, h.get? D = some o ∧ o.data = .cls cd := by
  unfold PySem.W.clsIn at e
  split at e
  · rename_i c d cd' sl ho
    cases e
    exact ⟨_, X _ _ ho, rfl⟩
  · cases e
section
variable {X : Cx} {pins : List (Addr × Obj)} {σ : L2.St} {H : Hp} {s : Shared} {a C : Addr}
theorem exo_inst (T : OexC X.K C) (I : Inv X pins σ H s) (e : H a = some (exo a C none)) : ∃ t1 : Addr, s.heap.get? a = some ({ cls := .ref C, dict := none, data := .fields #[.ref t1, .none, .none, .none, .bool false, .none] } : Obj) := exo_at I.hok e
theorem fresh_fs (I : Inv X pins σ H s) {b : Addr} (hb : s.heap.objs.size ≤ b) : b ≠ X.env.locals ∧ b ∉ X.fs := by
  obtain ⟨m, ⟨oL, es, ep, hL, _⟩, _⟩ := I.loc
  have l1 : X.env.locals < s.heap.objs.size := Heap.lt_size hL
  have l2 := I.ok.above
  refine ⟨fun z => ?_, fun z => ?_⟩
  · rw [z] at hb
    exact absurd l1 (Nat.not_lt.mpr hb)
  · obtain ⟨_, o, ho, _⟩ := I.ok.funs.mem z
    have l3 : b < X.s_0.heap.objs.size := Heap.lt_size ho
    exact absurd (Nat.lt_of_lt_of_le l3 (Nat.le_trans l2 (Nat.le_of_lt l1))) (Nat.not_lt.mpr hb)
end
theorem call_mw {prog : Program} {w : World} {A : Around} {E : Value → Shared → Prop} {h : Heap} {g : Array GenState} {d : Drawn} {t : Nat} {os : OsState} {nm q : Str} {C N u x t0 : Addr} {bs bm : List Value} {hdct : Bool} {sn : List Str} {sub : List Value} {ab : Bool} {col : Option Bool} {dd : Option Addr} {k0 k1 k2 k3 k5 : Option Value} {us : List Value} {Q : Value → Shared → Prop}
    (hC : h.get? C = some (excClassObj nm q C N bs bm hdct sn sub ab col dd k0 k1 k2 k3 k5 "ValueError.__new__")) (hx : h.get? x = some (PySem.HandSPX.excO C t0)) (hu : h.get? u = some (PySem.W.kxs_mw "ValueError.__init__" x)) (hz : us.length ≤ sizeLine)
    (hq : ∀ h' t1, (∀ b o, b ≠ x → h.get? b = some o → h'.get? b = some o) → h'.get? x = some (PySem.HandSPX.excO C t1) → Q .none ⟨h', g, d, t, os⟩) :
    wpAny (model prog w) A (call (.ref u) us) Q E ⟨h, g, d, t, os⟩ := by
  refine (wpAny_call (codeAny_of_tree (?_ : wpAny (model prog w) A.in1 (callAny (.ref u) ⟨us, []⟩) _ _ _)))
  simp only [callAny]
  refine wpAny_bind (wpAny_load hu (?_ : wpAny _ _ _ _ _ _))
  simp only [PySem.W.kxs_mw, show (Value.type "method-wrapper" == Value.type "method" || Value.type "method-wrapper" == Value.type "builtin_function_or_method" || Value.type "method-wrapper" == Value.type "method-wrapper") = true from by decide, if_true]
  refine PySem.W.KFB.if_so (by decide) (wpAny_bind (PySem.W.check_bound_init F.excBase_ValueError.toExcCallFacts hC hx rfl (wpAny_bind (wpAny_pure (wpAny_pure ?_)))))
  refine ⟨Code.quiet_builtin _ (by decide +kernel), codeAny_builtin (F.excBase_ValueError.initEntry) (?_ : wpAny _ _ _ _ _ _)⟩
  rw [Around.under_plainId (F.excBase_ValueError.init.plain) _]
  wp_walk
  refine hq _ h.objs.size (fun b o hb ho => (Heap.get?_update_other _ _ (Ne.symm hb)).trans (Heap.get?_push_of_some _ ho)) ((Heap.get?_update_self _ (Heap.get?_push_of_some _ hx) rfl).trans rfl)
section
variable {CX : CXT} {P : Program} {w : World} {K : PySem.W.Frag} {mg : Str → Option Value} {base : Heap} {N : List Str} {qual me : Str} {scope : Scope} {f cda cc D C a : Addr} {A : Around} {outer : List Env} {s0 s : Shared} {H0 H : Hp} {E : XK} {pins : List (Addr × Obj)} {σ : L2.St} {body : List Stmt} {e : Expr} {p0 p1 p2 p3 p4 : Pos} {ta : TA} {Rr : Hp → Prop} {pl : Sem Bool}
theorem super_run (S : SupF P K mg f cda cc D C scope me) (hk : scope.kind = .function) (T : OexC K C) (I : Inv (cxK CX P w K mg base N qual scope f (.ref cda) cc A outer s0 H0 E) pins σ H s) (hN : N[0]? = some me) (hσ : σ[0]? = some (some (.ref a))) (he : H a = some (exo a C none))
    (ha : PA (cxK CX P w K mg base N qual scope f (.ref cda) cc A outer s0 H0 E) [e] ta) (h : ta σ H fun vs H1 => vs.length ≤ 1000 ∧ H1 a = some (exo a C none) ∧ Rr H1)
    (hev : eval (.Call (.Attribute (.Call (.Name "super" p0) [] [] p1) "__init__" p2) [e] [] p3) (envK qual scope s0.heap.objs.size f (.ref cda) cc) = (do
      let ov ← attributeBase (.Call (.Name "super" p0) [] [] p1) "__init__" (envK qual scope s0.heap.objs.size f (.ref cda) cc) (eval (.Call (.Name "super" p0) [] [] p1) (envK qual scope s0.heap.objs.size f (.ref cda) cc))
      standAt p2.atName
      let (g1, first) ← holding [ov] (getMethod ov "__init__" pl)
      callWith p3 g1 first (backTo p3 (starEach [e] (envK qual scope s0.heap.objs.size f (.ref cda) cc))) []) := by rfl)
    (hi : interactive (envK qual scope s0.heap.objs.size f (.ref cda) cc) = false := by rfl) (hsw : swapsWith (.Call (.Attribute (.Call (.Name "super" p0) [] [] p1) "__init__" p2) [e] [] p3) none p4.line (envK qual scope s0.heap.objs.size f (.ref cda) cc) = pure false := by rfl) (hst : starEach [e] (envK qual scope s0.heap.objs.size f (.ref cda) cc) = (false, eval e (envK qual scope s0.heap.objs.size f (.ref cda) cc)) :: starEach [] (envK qual scope s0.heap.objs.size f (.ref cda) cc) := by rfl) :
    _root_.PySem.wpAt (model P w) (A.deeper (envK qual scope s0.heap.objs.size f (.ref cda) cc)) (.func body (envK qual scope s0.heap.objs.size f (.ref cda) cc)) (exec (.Expr (.Call (.Attribute (.Call (.Name "super" p0) [] [] p1) "__init__" p2) [e] [] p3) p4) (envK qual scope s0.heap.objs.size f (.ref cda) cc))
      (fun fl s' => fl = .next ∧ ∃ H1, Inv (cxK CX P w K mg base N qual scope f (.ref cda) cc A outer s0 H0 E) pins σ H1 s' ∧ Rr H1) (cxK CX P w K mg base N qual scope f (.ref cda) cc A outer s0 H0 E).xe s := by
  obtain ⟨oc, od, fd, osl, ar, lf, hp, har⟩ := S.fn
  obtain ⟨ccl, cdd, vs, ccs, file, tf, lc, hvs, hfile⟩ := S.code
  obtain ⟨cl, cld, csl, lcc⟩ := S.cell
  obtain ⟨cdD, hD⟩ := S.clD
  have KX : K.In s.heap := I.kIn
  obtain ⟨oD, hD1, hD2⟩ := cls_at KX hD
  obtain ⟨t1, hx⟩ := exo_inst T I he
  refine PySem.ks_wpAt_Expr_any (PySem.ks_wpAt_MethodCall (PySem.ks_wpAt_super_base S.ksu S.kcl (by decide) rfl (KX _ _ lf) rfl hp rfl (KX _ _ lc) rfl hvs hfile S.top ?_) hev) hi hsw
  obtain ⟨mb, hb1, hb2⟩ := I.mod.blt
  refine PySem.W.ks_loadName_global hk S.ksu (PySem.Calls.loadGlobal_builtin (I.mod.glob.keeps I.bk) S.sup (hb1.keeps I.bk) ((hb2 _ (by decide +kernel)).trans (by decide +kernel)) ⟨rfl, ?_⟩)
  refine wpAny_loadName_free hk S.kcl rfl ⟨_, KX _ _ lcc, rfl⟩ ?_
  obtain ⟨m, hm1, hm2⟩ := I.loc
  obtain ⟨u, hu1, hu2⟩ := hm2 0 me (.ref a) hN hσ (.inl S.ksl)
  cases hu1
  have hml : m me = some (.ref a) := by
    rcases hu2 with ⟨_, z⟩ | ⟨z, _⟩
    · exact z
    · have k1 : scope.names.lookup me = some .cell ∨ scope.names.lookup me = some .free := z
      rw [S.ksl] at k1
      rcases k1 with k1 | k1 <;> cases k1
  refine wpAny_loadName_local hk (by rw [har]; exact S.ksl) hm1 (by rw [har]; exact hml) ?_
  obtain ⟨hh, g, d, t, os⟩ := s
  refine PySem.ks_wpAny_isType_cls hD1 hD2 ⟨rfl, ?_⟩
  refine PySem.ks_wpAny_call_super hD1 hD2 hx rfl (fun c z => by cases z) (PySem.W.looks_mroIn KX S.sub) (fun h1 e1 k1 => ?_)
  have I1 := I.kept (h' := h1) (t' := t) k1
  obtain ⟨t2, hx1⟩ := exo_inst T I1 he
  have KX1 : K.In h1 := I1.kIn
  obtain ⟨cdC, hcC, hal⟩ : ∃ cdC, PySem.W.clsIn K C = some cdC ∧ PySem.W.alongIn K "__init__" ((cdC.mro.dropWhile (· != .ref D)).drop 1) = some (some (.builtin "ValueError.__init__")) := by
    have q := S.up
    unfold PySem.W.ks_superIn at q
    cases hc : PySem.W.clsIn K C with
    | none => rw [hc] at q; cases q
    | some cd => rw [hc] at q; exact ⟨cd, rfl, q⟩
  obtain ⟨oC, hC1, hC2⟩ := cls_at KX1 hcC
  have inst : PySem.W.InstAt h1 a _ C none := ⟨hx1, rfl, rfl, trivial⟩
  have aC : a ≠ C := fun z => by
    rw [z, hC1] at hx1
    cases hx1
    cases hC2
  refine PySem.W.kxs_getMethod PySem.W.kxs_ValueError e1 (PySem.W.looks_opaque KX1 S.any) (l₀ := cdC.mro) (fun A Q E s k q => wpAny_bind ((PySem.W.looks_clsIn KX1 hcC) A _ E s k (wpAny_pure q))) rfl KX1 hal (inst.type.andThen (PySem.W.looks_subIn KX1 S.bas)) aC (by decide) ?_
  have I2 := I1.kept (h' := h1.push (PySem.W.kxs_mw "ValueError.__init__" a)) (t' := t + 1) (fun b o z => Heap.get?_push_of_some _ z)
  have hu : (h1.push (PySem.W.kxs_mw "ValueError.__init__" a)).get? h1.objs.size = some (PySem.W.kxs_mw "ValueError.__init__" a) := Heap.get?_push_at rfl rfl
  have fr := fresh_fs I1 (Nat.le_refl h1.objs.size)
  have I3 := I2.pins_of (pins' := (h1.objs.size, PySem.W.kxs_mw "ValueError.__init__" a) :: pins) (fun p hp => by
    rcases List.mem_cons.mp hp with rfl | hp
    · exact ⟨hu, I1.hok.fresh (Nat.le_refl _), fr.1, fr.2, fun v z => by cases z⟩
    · exact I2.pin p (List.mem_append_right _ hp))
  refine PySem.W.kxs_callWith (i := "ValueError.__init__") (x := a) (by rw [hst]; rfl) ?_
  rw [hst]
  refine PySem.Calls.evalArgs_plain ?_
  suffices key : wpAny (model P w) (A.deeper (envK qual scope s0.heap.objs.size f (.ref cda) cc)) (spliced (backTo p3 (starEach [e] (envK qual scope s0.heap.objs.size f (.ref cda) cc)))) (fun vs s' => PySem.W.KxsAt "ValueError.__init__" h1.objs.size a s'.heap ∧ wpAny (model P w) (A.deeper (envK qual scope s0.heap.objs.size f (.ref cda) cc)) (call (.ref h1.objs.size) vs) (fun _ s' => Flow.next = Flow.next ∧ ∃ H1, Inv (cxK CX P w K mg base N qual scope f (.ref cda) cc A outer s0 H0 E) pins σ H1 s' ∧ Rr H1) (cxK CX P w K mg base N qual scope f (.ref cda) cc A outer s0 H0 E).xe s') (cxK CX P w K mg base N qual scope f (.ref cda) cc A outer s0 H0 E).xe ⟨h1.push (PySem.W.kxs_mw "ValueError.__init__" a), g, d, t + 1, os⟩ by
    rw [hst] at key
    exact key
  refine thn (ha.run p3 _ _ σ H _ I3 h) fun us s4 ⟨ws, H1, I4, rv, hz, he1, hr⟩ => ?_
  have hu4 := (I4.pin _ (List.mem_append_right _ List.mem_cons_self)).1
  refine ⟨hu4, ?_⟩
  obtain ⟨nm, qn, N', bs, bm, sn, sub, ab, col, dd, k0, k1', k2, k3, k5, hC, hbm⟩ := T.cls
  obtain ⟨t3, hx4⟩ := exo_inst T I4 he1
  obtain ⟨h4, g4, d4, t4, os4⟩ := s4
  refine call_mw (I4.kIn _ _ hC) hx4 hu4 (by rw [← rv.length]; exact Nat.le_trans hz (by decide)) (fun h5 t5 k5' hx5 => ⟨rfl, H1, ?_, hr⟩)
  have J := I4.write (t' := t4) (x := a) (e := a) (o := exo a C none) (by rw [he1]; trivial) (.inl rfl) k5' ⟨_, hx5⟩ (exo_ok hx5)
  have same : upd H1 a (exo a C none) = H1 := funext fun b => by
    by_cases hb : b = a
    · rw [hb, upd_same, he1]
    · exact upd_ne hb
  rw [same] at J
  exact J.pins_of fun p hp => J.pin p (List.mem_append_right _ (List.mem_cons_of_mem _ hp))
end
end Lq

namespace Lq
open PySem PySem.Spec PyProof.Rows L2
open Evl (Ex)
def spI1 (C : Addr) (fld : Str) : Sp := fun vs H Q _ => ∃ (a : Addr) (y : Str), vs = [.ref a, .str y] ∧ y.length ≤ 1000 ∧ H a = some (exo a C none) ∧ ∀ dx, H dx = none → dx ≠ a → Q .non (upd (upd H dx (exd dx [(fld, .str y)])) a (exo a C (some dx)))
def raiseS (e : Er) : Ms → O := fun S => .er e S
theorem ds_raise1 {X : Cx} {W : WX} {CX : CXT} {x m fld : Str} {j : Nat} {p p2 pos pos' : Pos} {C fI : Addr} {k : Nat} {fd : FuncData} (hc : X.calm = true) (tk : Takes X W) (T : OexC X.K C) (iC : PySem.W.findIn X.K (.ref C) "__init__" = some (some (.ref fI))) (tI : PySem.W.typeIn X.K (.ref fI) = some (.type "function"))
    (F1 : FnOk X.prog X.w X.K X.mg X.base CX k fI fd ["self", fld] (spI1 C fld)) (hr : Room (k + 1) X.A) (hb : Binds X.K fd ["self", fld] []) (hx : Passes CX X (fun _ _ _ => False)) (hg : Gl X x) (hm : X.mg x = some (.ref C)) (hl : m.length ≤ 1000) (hdb : (x == ("__debug__" : Str)) = false := by decide)
    (hst : starEach [Expr.Constant (.str m) j p2] X.env = (false, eval (.Constant (.str m) j p2) X.env) :: starEach [] X.env := by rfl) (hpl : (backTo pos (starEach [] X.env)).any (·.1) = false := by rfl) :
    PS X (.Raise (some (.Call (.Name x p) [.Constant (.str m) j p2] [] pos)) none pos') (sD X.K W (raiseS ⟨C, [fld], [.str m]⟩)) :=
  monoS (ps_raise hc tk (pmk_oex T iC tI F1 hr hb .nil hx hg hm (pa_cons pe_str pa_nil hst) hdb hst hpl)) fun D σ H q => by
    obtain ⟨B, F, as, S, r, o⟩ := q
    refine ⟨(show 1 ≤ 1000 by decide), fun a na => ⟨a, m, rfl, hl, upd_same, fun dx h1 h2 => ⟨rfl, dx, [(fld, .str m)], upd_same, (upd_ne h2).trans upd_same, ?_, ?_⟩⟩⟩
    · rwa [upd_ne h2] at h1
    · have h3 : H dx = none := by rwa [upd_ne h2] at h1
      have e : upd (del (upd (upd (upd H a (exo a C none)) dx (exd dx [(fld, .str m)])) a (exo a C (some dx))) a) dx (.xd [(fld, .str m)]) = upd H dx (.xd [(fld, .str m)]) := funext fun b => by
        by_cases hb : b = dx
        · rw [hb, upd_same, upd_same]
        · rw [upd_ne hb, upd_ne hb]
          by_cases ha : b = a
          · rw [ha, del_same, na]
          · rw [del_ne ha, upd_ne ha, upd_ne hb, upd_ne ha]
      rw [e]
      obtain ⟨ee, r2⟩ := r.new h3 (.xd [(fld, .str m)])
      exact o σ _ _ as (some dx) [(fld, .str m)] ee r2 upd_same rfl (.cons (.str m) .nil)
end Lq

namespace PySem.W
open PySem PySem.Spec PySem.Calls PyProof.Rows
section
variable {prog : Program} {w : World} {A : Around} {E : Value → Shared → Prop} {s : Shared} {K : Frag} {x D : Addr} {ox : Obj} {od : Option Obj}
end
end PySem.W
namespace Lq
open PySem PySem.Spec PyProof.Rows L2
section
variable {X : Cx} {a D dx : Addr} {oe : Obj} {pn : List (Addr × Obj)}
end
end Lq

namespace Lq
open PySem PySem.Spec PyProof.Rows L2
open Evl (Ex)
section
variable {X : Cx} {W : WX} {a b c e : Expr} {pos : Pos} {f g : Ms → R Dt}
end
end Lq

namespace Lq
open PySem PySem.Spec PyProof.Rows L2
end Lq

namespace Lq
open PySem PySem.Spec PyProof.Rows L2
open Evl (Ex)
section
variable {prog : Program} {w : World} {A : Around} {E : Value → Shared → Prop} {s : Shared}
end
section
variable {X : Cx}
end
end Lq

namespace Lq
open PySem PySem.Spec PyProof.Rows L2
open Evl (Ex)
section
variable {X : Cx} {W : WX} {a b c e o : Expr} {pos p : Pos} {f g : Ms → R Dt} {i : Nat}
instance : ∀ i j, Decidable (CPow i j) := fun i j => by unfold CPow; infer_instance
end
inductive FoN where | ok (ys : List Dt) | er (e : Er) | no
def spN (K : PySem.W.Frag) (n : Nat) (f : List Dt → FoN) : Sp := fun vs H Q E => ∃ B F ds, ds.length = n ∧ Ex F H ∧ Kept B F H ∧ RpA K F vs ds ∧ match f ds with
  | .ok ys => ∀ a F' H' us, Ex F F' → Ex F' H' → Kept B F' H' → B a = none → F' a = none → H' a = some (.lst us) → RpA K F' us ys → Q (.ref a) H'
  | .er e => ∀ F' H' dx fs, Ex F F' → Ex F' H' → Kept B F' H' → DictR H' dx fs → fs.map (·.1) = e.ks → RpA K F' (fs.map (·.2)) e.ds → E (.ref e.C) dx H'
  | .no => False
inductive ON where | rt (ys : List Dt) (s : Ms) | er (e : Er) (s : Ms) | no
def sN (K : PySem.W.Frag) (W : WX) (m : Ms → ON) : TS := fun D σ H => ∃ B F as S, Rep K B F H as σ S ∧ match m S with
  | .rt ys S' => ∀ σ' F' H' as' p us, Ext F F' as as' → Rep K B F' H' as' σ' S' → B p = none → F' p = none → H' p = some (.lst us) → RpA K F' us ys → D.rt (.ref p) H'
  | .er e S' => ∀ σ', OutE K W B F as σ' e S'
  | .no => False
def seqN (m : Ms → O) (n : Ms → ON) : Ms → ON := fun S => match m S with | .nx S1 => n S1 | .er e S1 => .er e S1 | _ => .no
def retNV (i : Nat) : Ms → ON := fun S => match muAt S i with | some (_, xs) => .rt xs S | none => .no
def retNL (f : Ms → R (List Dt)) : Ms → ON := fun S => match f S with | .ok ys S1 => .rt ys S1 | .er e S1 => .er e S1 | .no => .no
section
variable {X : Cx} {W : WX} {e o : Expr} {st : Stmt} {rest : List Stmt} {m : Ms → O} {n : Ms → ON} {f : Ms → R (List Dt)} {i : Nat} {pos : Pos}
theorem dsN_cons (h1 : PS X st (sD X.K W m)) (h2 : PSs X rest (sN X.K W n)) : PSs X (st :: rest) (sN X.K W (seqN m n)) := monoSs (pss_cons h1 h2) fun D σ H q => by
  obtain ⟨B, F, as, S, r, o⟩ := q
  refine ⟨B, F, as, S, r, ?_⟩
  unfold seqN at o
  revert o
  cases m S with
  | nx S1 =>
    intro o σ1 F1 H1 as1 e1 r1
    refine ⟨B, F1, as1, S1, r1, ?_⟩
    revert o
    show (match n S1 with | .rt _ _ => _ | .er _ _ => _ | .no => _) → _
    cases n S1 with
    | rt ys S2 => exact fun o σ' F' H' as' p us e' r' => o σ' F' H' as' p us (e1.trans e') r'
    | er x S2 => exact fun o σ' F' H' as' dx fs e' r' => o σ' F' H' as' dx fs (e1.trans e') r'
    | no => exact fun o => o
  | er x S1 => exact fun o => o
  | rt d S1 => exact fun o => o.elim
  | bk S1 => exact fun o => o.elim
  | ct S1 => exact fun o => o.elim
  | no => exact fun o => o.elim
theorem dsN_retL (h : PE X e (tN X.K W f)) : PSs X [.Return (some e) pos] (sN X.K W (retNL f)) := monoSs (pss_one (ps_ret h)) fun D σ H q => by
  obtain ⟨B, F, as, S, r, o⟩ := q
  refine ⟨B, F, as, S, r, ?_⟩
  unfold retNL at o
  revert o
  cases f S with
  | ok ys S1 => exact fun o F' H' as' e' r' p vs h1 h2 h3 h4 h5 => o σ F' H' as' p vs e' r' h2 h1 h4 h5
  | er x S1 => exact fun o => o σ
  | no => exact fun o => o
end
def ON.fo : ON → FoN | .rt ys _ => .ok ys | .er e _ => .er e | .no => .no
def runN (n : Nat) (m : Ms → ON) (ds : List Dt) : FoN := (m (st0 n ds)).fo
section
variable {P : Program} {w : World} {K : PySem.W.Frag} {mg : Str → Option Value} {base : Heap}
theorem defOkN {x qual : Str} {st : Stmt} {f : Addr} {fd : FuncData} {N ps : List Str} {k : Nat} {m : Ms → ON} (F : Fun K x qual st f fd) (S : FnScope N ps (defScope st))
    (hbody : ∀ (cdv : Value) (A : Around) (outer : List Env) (s : Shared) (H : Hp) (E : XK), Room k (A.deeper (envOfC qual (defScope st) s.heap.objs.size f cdv)) →
      PSs (cxOf (L2.CX P w) P w K mg base N qual (defScope st) f cdv A outer s H E) (defBody st) (sN K (fun cls d _ H' => E cls d H') m)) :
    FnOk P w K mg base (L2.CX P w) (k + 1) f fd ps (spN K ps.length (runN N.length m)) := by
  refine F.okX S (fun vs H Q E h => ?_) (fun cdv A outer s H vs Q E hr h => ⟨_, hbody cdv A outer s H E hr, ?_⟩)
  · obtain ⟨B, F, ds, hn, _, _, hv, _⟩ := h
    rw [hv.length, hn]
  · obtain ⟨B, F, ds, hn, e, kp, hv, q⟩ := h
    refine ⟨B, F, [], st0 N.length ds, ⟨e, kp, ?_, .nil, List.nodup_nil⟩, ?_⟩
    · unfold L2.start st0
      rw [hv.length]
      exact paired_im hv (paired_no _)
    · unfold runN at q
      revert q
      cases m (st0 N.length ds) with
      | rt ys S' => exact fun q σ' F' H' as' p us e' r h1 h2 h3 h4 => q p F' H' us e'.1 r.fh r.bh h1 h2 h3 h4
      | er e S' => exact fun q σ' F' H' as' dx fs e' r => q F' H' dx fs e'.1 r.fh r.bh
      | no => exact fun q => q
end
theorem FnOk.toN {P : Program} {w : World} {K : PySem.W.Frag} {mg : Str → Option Value} {base : Heap} {CX : CXT} {k : Nat} {f : Addr} {fd : FuncData} {ps : List Str} {n : Nat} {g h : List Dt → FoN} (F : FnOk P w K mg base CX k f fd ps (spN K n g)) (e : ∀ ds, h ds ≠ .no → g ds = h ds) :
    FnOk P w K mg base CX k f fd ps (spN K n h) := F.imp fun vs H Q E ⟨B, F, ds, hn, h1, h2, h3, h4⟩ => ⟨B, F, ds, hn, h1, h2, h3, by
      have : h ds ≠ .no := by intro z; rw [z] at h4; exact h4
      rw [e ds this]
      exact h4⟩
def funN (n : Nat) (fs : Ms → R (List Dt)) (f : List Dt → FoN) : Ms → R (List Dt) := fun S => (fs S).bind fun ds S1 => if ds.length = n then (match f ds with | .ok ys => .ok ys S1 | .er e => .er e S1 | .no => .no) else .no
section
variable {X : Cx} {W : WX} {e : Expr} {es : List Expr} {fs : Ms → R (List Dt)} {x : Str} {p pos : Pos} {j k n : Nat} {ps : List Str} {g : List Dt → FoN}
theorem callN_run {K : PySem.W.Frag} {σ : L2.St} {H : Hp} {Q : VK} (q : tN K W (funN n fs g) σ H Q) : tCallS (spN K n g) (WE W) (tA K W fs) σ H Q := by
  obtain ⟨B, F, as, S, r, o⟩ := q
  refine ⟨B, F, as, S, r, Out.mono (Out.bind o) fun ds F1 H1 as1 S1 ⟨r1, e1, o1⟩ vs hv => ?_⟩
  split at o1
  · rename_i hn
    refine ⟨holdB B F1 H1 as1, F1, ds, hn, r1.fh, hold_kept r1, hv, ?_⟩
    cases hg : g ds with
    | ok ys =>
      rw [hg] at o1
      intro a F' H' us ee eh kp hB hF hH hu
      refine o1 F' H' as1 ⟨ee, [], by simp⟩ (hold_back r1 ee eh kp) a us hF ?_ ?_ hH hu
      · unfold holdB at hB
        split at hB
        · rename_i hin
          obtain ⟨i, hi⟩ := List.mem_iff_getElem?.mp hin
          obtain ⟨mm, hmm, z⟩ := pairedGetL r1.mo hi
          cases mm with
          | ob c => exact z.1
          | fz d =>
            obtain ⟨⟨u, z1⟩, _⟩ := z
            rw [ee _ _ z1] at hF
            cases hF
        · exact hB
      · intro hin
        unfold holdB at hB
        rw [if_pos hin] at hB
        obtain ⟨i, hi⟩ := List.mem_iff_getElem?.mp hin
        obtain ⟨mm, hmm, z⟩ := pairedGetL r1.mo hi
        cases mm with
        | ob c =>
          obtain ⟨_, z2, u, z3, _⟩ := z
          rw [if_pos z2, z3] at hB
          cases hB
        | fz d =>
          obtain ⟨⟨u, z1⟩, _⟩ := z
          rw [ee _ _ z1] at hF
          cases hF
    | er x =>
      rw [hg] at o1
      exact fun F' H' dx fs ee eh kp h1 h2 h3 => o1 F' H' as1 dx fs ⟨ee, [], by simp⟩ (hold_back r1 ee eh kp) h1 h2 h3
    | no => rw [hg] at o1; exact o1.elim
  · exact o1.elim
theorem dn_cal (c : Cal X.prog X.w X.K X.mg X.base x k ps (spN X.K n g)) (tk : Takes X W) (hr : Room j X.A) (hk : k ≤ j) (hg : Gl X x)
    (ha : PA X (e :: es) (tA X.K W fs)) (hdb : (x == ("__debug__" : Str)) = false := by decide) (he : starEach (e :: es) X.env = (false, eval e X.env) :: starEach es X.env := by rfl) (hpl : (backTo pos (starEach es X.env)).any (·.1) = false := by rfl) :
    PE X (.Call (.Name x p) (e :: es) [] pos) (tN X.K W (funN n fs g)) := by
  obtain ⟨f, fd, G, hm, kp, hb⟩ := c
  exact monoE (pe_callS G (hr.mono hk) hg hm kp hb (fun σ => passAt tk σ) ha hdb he hpl) fun σ H Q q => callN_run q
end
def spLaw (K : PySem.W.Frag) : Sp := fun vs H Q _ => ∃ (a : Addr) (ns : List Int), vs = [.ref a] ∧ SqL K H a (ns.map V.int) ∧ ns.length ≤ 63 ∧ ∀ H', Q (.bl true) H'
def scrD (ns : List Int) : Dt := .scr false (ns.map Dt.int)
theorem sql_one {K : PySem.W.Frag} {H : Hp} {a : Addr} {xs : List V} (h : SqL K H a xs) : SqL K (fun b => if b = a then H a else none) a xs := by
  rcases h with h | h
  · refine .inl ?_
    unfold Rd at *
    simp only [if_pos rfl]
    exact h
  · exact .inr h
section
variable {P : Program} {w : World} {K : PySem.W.Frag} {mg : Str → Option Value} {base : Heap}
theorem lawOk {st : Stmt} {f : Addr} {fd : FuncData} {N : List Str} {k : Nat} {m : Ms → O} (F : Fun K "law" "law" st f fd) (S : FnScope N ["script"] (defScope st))
    (hrun : ∀ ns : List Int, ns.length ≤ 63 → ∃ S', m (st0 N.length [scrD ns]) = .rt (.bl true) S')
    (hbody : ∀ (cdv : Value) (A : Around) (outer : List Env) (s : Shared) (H : Hp) (E : XK), Room k (A.deeper (envOfC "law" (defScope st) s.heap.objs.size f cdv)) →
      PSs (cxOf (L2.CX P w) P w K mg base N "law" (defScope st) f cdv A outer s H E) (defBody st) (sD K (fun cls d _ H' => E cls d H') m)) :
    FnOk P w K mg base (L2.CX P w) (k + 1) f fd ["script"] (spLaw K) := by
  refine F.okX S (fun vs H Q E h => ?_) (fun cdv A outer s H vs Q E hr h => ⟨_, hbody cdv A outer s H E hr, ?_⟩)
  · obtain ⟨a, ns, rfl, _⟩ := h
    rfl
  · obtain ⟨a, ns, rfl, hS, hlen, q⟩ := h
    obtain ⟨S', e⟩ := hrun ns hlen
    have hv : RpA K (fun b => if b = a then H a else none) [V.ref a] [scrD ns] := .cons (.scr false (sql_one hS) (RpA.ints ns)) .nil
    refine ⟨fun _ => none, fun b => if b = a then H a else none, [], st0 N.length [scrD ns], ⟨fun b o z => ?_, fun b o z => (nomatch z), ?_, .nil, List.nodup_nil⟩, ?_⟩
    · by_cases hb : b = a
      · rw [if_pos hb] at z
        rw [hb]; exact z
      · rw [if_neg hb] at z
        cases z
    · unfold L2.start st0
      exact paired_im hv (paired_no _)
    · rw [e]
      intro σ' F' H2 as' v e' r hv
      have hv' := hv.blv
      subst hv'
      exact q _
end
end Lq

namespace Lq
open PySem PySem.Spec PyProof.Rows L2
open Evl (Ex)
section
variable {X : Cx} {W : WX} {a b c e o tg : Expr} {pos p apos : Pos} {f g : Ms → R Dt} {i : Nat} {x : Str}
end
def spI1i (C : Addr) (fld : Str) : Sp := fun vs H Q _ => ∃ (a : Addr) (y : Int), vs = [.ref a, .int y] ∧ y = 0 ∧ H a = some (exo a C none) ∧ ∀ dx, H dx = none → dx ≠ a → Q .non (upd (upd H dx (exd dx [(fld, .int y)])) a (exo a C (some dx)))
structure RaI (P : Program) (w : World) (K : PySem.W.Frag) (mg : Str → Option Value) (base : Heap) (x : Str) (C : Addr) (fld : Str) : Prop where
  T : OexC K C
  ini : ∃ fI fd, PySem.W.findIn K (.ref C) "__init__" = some (some (.ref fI)) ∧ PySem.W.typeIn K (.ref fI) = some (.type "function") ∧ FnOk P w K mg base CX0 1 fI fd ["self", fld] (spI1i C fld) ∧ Binds K fd ["self", fld] []
  gC : mg x = some (.ref C)
  xc : XfC K C
  nf : PySem.W.findIn K (.ref C) fld = some none
  e1 : PySem.W.exmOne K (.ref C) (.ref C) = some true
structure RaS (P : Program) (w : World) (K : PySem.W.Frag) (mg : Str → Option Value) (base : Heap) (x : Str) (C : Addr) (fld : Str) : Prop where
  T : OexC K C
  ini : ∃ fI fd, PySem.W.findIn K (.ref C) "__init__" = some (some (.ref fI)) ∧ PySem.W.typeIn K (.ref fI) = some (.type "function") ∧ FnOk P w K mg base CX0 1 fI fd ["self", fld] (spI1 C fld) ∧ Binds K fd ["self", fld] []
  gC : mg x = some (.ref C)
  xc : XfC K C
  nf : PySem.W.findIn K (.ref C) fld = some none
  e1 : PySem.W.exmOne K (.ref C) (.ref C) = some true
section
variable {X : Cx} {W : WX} {x fld : Str} {C : Addr} {i : Int} {j : Nat} {p p2 pos pos' : Pos}
end
section
variable {X : Cx} {W : WX} {x n fld : Str} {C : Addr} {i : Nat} {m : Ms → O} {body : List Stmt} {np pos pos' p1 p2 p3 : Pos}
end
end Lq

namespace Lq
open PySem PySem.Spec PyProof.Rows L2
open Evl (Ex)
end Lq

namespace Lq
open PySem PySem.Spec PyProof.Rows L2
open Evl (Ex)
theorem meets_enumT (l : Addr) (items : Array Value) : Meets (Builtin.«enumerate.__new__» { pos := [.type "enumerate", .ref l] }) fun _ R s => s.heap.IsTuple l items ∧
    R (Except.ok (Flow.ret (Value.ref (s.heap.push { cls := Value.type "tuple_iterator", data := Data.fields #[Value.ref l, Value.int 0 0] }).objs.size)))
      { heap := (s.heap.push { cls := Value.type "tuple_iterator", data := Data.fields #[Value.ref l, Value.int 0 0] }).push { cls := Value.type "enumerate", data := Data.fields #[Value.none, Value.bool false, Value.ref s.heap.objs.size, rawInt 0, Value.none, Value.none] }, gens := s.gens, drawn := s.drawn, toks := s.toks, os := s.os } := by
  refine Meets.of_wp fun prog w A R s h => ?_
  obtain ⟨hl, h⟩ := h
  have hsub := sub_enumerate
  obtain ⟨hp, g, d, tk, os⟩ := s
  refine wpAny_bind ?_
  refine wpAny_bind ?_
  refine wpAny_pure ?_
  refine wpAny_ite_false rfl ?_
  refine wpAny_bind ?_
  refine wpAny_of_eq hsub ?_
  refine wpAny_ite_false rfl ?_
  refine wpAny_pure ?_
  refine wpAny_ite_true rfl ?_
  refine wpAny_bind ?_
  refine wpAny_bind ?_
  refine wpAny_stack_any fun st => ?_
  refine wpAny_pure ?_
  have tail : wpAny (model prog w) A.in1 (pyIter (Value.ref l) >>= fun x => Builtin.SmallTypes.newRecord (Value.type "enumerate") (Builtin.SmallTypes.ownedTupleFields ++ [x, rawInt 0, Value.none, Value.none]) >>= fun y => ret y) (fun fin s' => ∃ v, fin = Fin.done (Flow.ret v) ∧ R (Except.ok (Flow.ret v)) s') (fun e s' => R (Except.error e) s') { heap := hp, gens := g, drawn := d, toks := tk, os := os } := by
    refine wpAny_bind ?_
    refine wpAny_pyIter_tuple hl ?_
    refine wpAny_bind ?_
    unfold Builtin.SmallTypes.newRecord
    show wpAny _ _ (newObj _ _) _ _ _
    unfold newObj

    refine wpAny_ite_false rfl ?_
    refine wpAny_bind ?_
    refine wpAny_alloc' ?_
    refine wpAny_pure ?_
    refine wpAny_pure ?_
    exact ⟨_, rfl, h⟩
  split
  · rename_i c _ _ _ _ _
    generalize (c == Value.type "enumerate") = b
    cases b with
    | false =>
      refine wpAny_ite_false rfl ?_
      refine wpAny_bind (wpAny_of_eq (show _ = pure (Value.ref l, (none : Option Value)) from rfl) ?_)
      exact tail
    | true =>
      refine wpAny_ite_true rfl ?_
      refine wpAny_bind (wpAny_of_eq (show _ = pure (Value.ref l, (none : Option Value)) from rfl) ?_)
      exact tail
  · refine wpAny_ite_false rfl ?_
    refine wpAny_bind (wpAny_of_eq (show _ = pure (Value.ref l, (none : Option Value)) from rfl) ?_)
    exact tail
end Lq

namespace Lq
open PySem PySem.Spec PyProof.Rows L2
open Evl (Ex)
theorem nextOf_tup_item {prog : Program} {w : World} {A : Around} {E : Value → Shared → Prop} {s : Shared} {it l : Addr} {i : Nat} {items : Array Value} {x : Value} {Q : Value → Shared → Prop}
    (hit : s.heap.IsTupleIter it l i) (ht : s.heap.IsTuple l items) (hx : items[i]? = some x)
    (hQ : ∀ h' : Heap, h'.IsTupleIter it l (i + 1) → Heap.SameBut it s.heap h' → Q x { heap := h', gens := s.gens, drawn := s.drawn, toks := s.toks, os := s.os }) :
    wpAny (model prog w) A (Builtin.SmallTypes.nextOf (Value.ref it)) Q E s := by
  obtain ⟨o, ho, hc, hd⟩ := id hit
  obtain ⟨ol, hol, _, nl, hdl⟩ := ht
  refine wpAny_bind (wpAny_callSpecial?_slot (Heap.IsTupleIter.typeIs hit) F.slot_tuple_iterator_next (wpAny_call_entry F.slot_tuple_iterator_next (Heap.IsTupleIter.typeIs hit) F.entry_tuple_iterator_next ?_ (F.args_tuple_iterator_next_1 (Value.ref it))))
  refine wpAny_bind (wpAny_of_eq (show slotArgs "__next__" 0 { pos := [Value.ref it] } = pure (Value.ref it, []) from rfl) ?_)
  refine wpAny_bind (wpAny_field ho hd rfl ?_)
  rw [if_neg (by simp)]
  refine wpAny_bind (wpAny_field ho hd rfl ?_)
  refine wpAny_bind (wpAny_seqItems hol hdl ?_)
  simp only [Int.toNat_natCast, hx]
  refine wpAny_bind (wpAny_setField (i := 1) (x := rawInt ((i : Int) + 1)) ho hd (by simp) ?_)
  refine wpAny_pure (?_)
  refine (⟨x, rfl, wpAny_pure (hQ _ ⟨_, Heap.get?_update_self _ ho (Obj.isFreed_of_fields (Obj.data_mapFields hd _)), (Obj.cls_mapFields o _).trans hc, ?_⟩ (Heap.SameBut.update s.heap it _))⟩)
  rw [Obj.data_mapFields hd]
  simp
  rfl
theorem nextOf_tup_end {prog : Program} {w : World} {A : Around} {E : Value → Shared → Prop} {s : Shared} {it l : Addr} {i : Nat} {items : Array Value} {Q : Value → Shared → Prop}
    (hh : A.handled = none) (hit : s.heap.IsTupleIter it l i) (ht : s.heap.IsTuple l items) (hx : items[i]? = none)
    (hE : ∀ (h' : Heap) (e : Addr), Heap.ExtBut it s.heap h' → (∃ o, h'.get? e = some o ∧ o.cls = Value.type "StopIteration") → E (Value.ref e) { heap := h', gens := s.gens, drawn := s.drawn, toks := s.toks, os := s.os }) :
    wpAny (model prog w) A (Builtin.SmallTypes.nextOf (Value.ref it)) Q E s := by
  obtain ⟨o, ho, hc, hd⟩ := id hit
  obtain ⟨ol, hol, _, nl, hdl⟩ := ht
  refine wpAny_bind (wpAny_callSpecial?_slot (Heap.IsTupleIter.typeIs hit) F.slot_tuple_iterator_next (wpAny_call_entry F.slot_tuple_iterator_next (Heap.IsTupleIter.typeIs hit) F.entry_tuple_iterator_next ?_ (F.args_tuple_iterator_next_1 (Value.ref it))))
  refine wpAny_bind (wpAny_of_eq (show slotArgs "__next__" 0 { pos := [Value.ref it] } = pure (Value.ref it, []) from rfl) ?_)
  refine wpAny_bind (wpAny_field ho hd rfl ?_)
  rw [if_neg (by simp)]
  refine wpAny_bind (wpAny_field ho hd rfl ?_)
  refine wpAny_bind (wpAny_seqItems hol hdl ?_)
  simp only [Int.toNat_natCast, hx]
  refine wpAny_bind (wpAny_rule ?_)
  refine wpAny_bind (wpAny_setField (i := 0) (x := Value.none) ho hd (by simp) ?_)
  refine wpAny_bind ?_
  refine wpAny_bind (wpAny_newObj_type (wpAny_bind (wpAny_of_eq (Eq.refl (firstArgMember (Value.type "StopIteration") [])) (wpAny_newObj_type ?_ ?_))) ?_)
  · unfold raiseNew
    refine wpAny_bind (wpAny_handled ?_)
    rw [show A.in1.handled = none from hh]
    refine wpAny_bind (wpAny_pure ?_)
    exact wpAny_throw (hE _ _ (Heap.ExtBut.push (Heap.ExtBut.push (Heap.SameBut.extBut (Heap.SameBut.update s.heap it _)) _) _) ⟨_, Heap.get?_push_size _ rfl, rfl⟩)
  · exact sizeOk_excFields _ _ _ _ _ _ _ _
  · show (#[] : Array Value).size ≤ sizeLine
    decide

theorem drawsT {prog : Program} {w : World} {A : Around} (hh : A.handled = none) (it l : Addr) (hne : l ≠ it) (items : Array Value) :
    Draws prog w A it [it, l] items.size (fun i v => items[i]? = some v) fun i h => h.IsTupleIter it l i ∧ h.IsTuple l items where
  live := fun _ _ st => by obtain ⟨o, ho, _⟩ := st.1; exact ⟨o, ho⟩
  frame := fun _ _ _ st hk => ⟨Heap.IsTupleIter.at st.1 fun o e => hk it (by simp) o e, by
    obtain ⟨o, ho, hc⟩ := st.2
    exact ⟨o, hk l (by simp) o ho, hc⟩⟩
  item := fun i s Q E hi st hQ => nextOf_tup_item st.1 st.2 (show items[i]? = some items[i] by simp [hi]) fun h' hit' hs' => hQ items[i] h' s.toks (by simp [hi]) ⟨hit', by
    obtain ⟨o, ho, hc⟩ := st.2
    exact ⟨o, by rw [hs'.2 l hne]; exact ho, hc⟩⟩ hs'
  done := fun s Q E st hE => nextOf_tup_end hh st.1 st.2 (by simp) hE
theorem drawsE {prog : Program} {w : World} {A : Around} (hh : A.handled = none) (it l : Addr) (items : Array Value) (i : Nat) (hx : items[i]? = none) :
    Draws prog w A it [it, l] 0 (fun _ _ => False) fun _ h => h.IsTupleIter it l i ∧ h.IsTuple l items where
  live := fun _ _ st => by obtain ⟨o, ho, _⟩ := st.1; exact ⟨o, ho⟩
  frame := fun _ _ _ st hk => ⟨Heap.IsTupleIter.at st.1 fun o e => hk it (by simp) o e, by
    obtain ⟨o, ho, hc⟩ := st.2
    exact ⟨o, hk l (by simp) o ho, hc⟩⟩
  item := fun i s Q E hi => absurd hi (Nat.not_lt_zero _)
  done := fun s Q E st hE => nextOf_tup_end hh st.1 st.2 hx hE
theorem call_enumT {prog : Program} {w : World} {A : Around} {E : Value → Shared → Prop} {s : Shared} {l : Addr} {items : Array Value} {Q : Value → Shared → Prop} (hl : s.heap.IsTuple l items)
    (h : ∀ h' : Heap, IsEnum h' (s.heap.objs.size + 1) s.heap.objs.size 0 Value.none → h'.IsTupleIter s.heap.objs.size l 0 → h'.objs.size = s.heap.objs.size + 2 → (∀ (b : Addr) (o : Obj), s.heap.get? b = some o → h'.get? b = some o) →
      Q (Value.ref (s.heap.objs.size + 1)) { heap := h', gens := s.gens, drawn := s.drawn, toks := s.toks, os := s.os }) :
    wpAny (model prog w) A (call (Value.type "enumerate") [Value.ref l]) Q E s := by
  refine callType_new F.called_enumerate (by decide) (F.typeCall_enumerate_1 (Value.ref l)) (F.newCall_enumerate_1 (Value.ref l)) (fun obj => F.args_object_init_2 obj (Value.ref l)) F.entry_enumerate_new (meets_enumT l items) ⟨hl, ?_⟩
  have hz := Heap.size_push s.heap { cls := Value.type "tuple_iterator", data := Data.fields #[Value.ref l, Value.int 0 0] }
  have he := Heap.get?_push_size (s.heap.push { cls := Value.type "tuple_iterator", data := Data.fields #[Value.ref l, Value.int 0 0] }) (o := { cls := Value.type "enumerate", data := Data.fields #[Value.none, Value.bool false, Value.ref s.heap.objs.size, rawInt 0, Value.none, Value.none] }) rfl
  show _ ∧ _
  rw [hz] at he ⊢
  refine ⟨⟨_, he, rfl⟩, h _ he ⟨_, Heap.get?_push_of_some _ (Heap.get?_push_size s.heap rfl), rfl, rfl⟩ ?_ fun b o q => Heap.get?_push_of_some _ (Heap.get?_push_of_some _ q)⟩
  rw [Heap.size_push, hz]
def IteT (K : PySem.W.Frag) (a : Addr) : It := { go := fun i H => ∃ xs x, SqT K H a xs ∧ xs[i]? = some x, yld := fun i H v H' => ∃ T x, v = V.ref T ∧ H T = none ∧ H' = upd H T (HO.tup [V.int i, x]) ∧ ∀ xs : List V, SqT K H a xs → xs[i]? = some x, stop := fun i H => ∃ xs, SqT K H a xs ∧ xs.length ≤ i }
theorem turn_enumT {P : Program} {w : World} {K : PySem.W.Frag} {elts : List Expr} {kk : Nat} {tpos : Pos} (a e it : Addr) :
    Turn P w K (Expr.Tuple elts kk tpos) (IteT K a) [e, it] e fun i h => (∃ old, IsEnum h e it i old) ∧ h.IsTupleIter it a i ∧ e ≠ it where
  mem := by simp
  obj := fun i h st b hb => by
    obtain ⟨⟨old, he⟩, ⟨o, ho, hc, hd⟩, hne⟩ := st
    have e' : b = e ∨ b = it := by simpa using hb
    rcases e' with z | z
    · rw [z]; exact ⟨_, he, fun v q => nomatch q⟩
    · rw [z]; exact ⟨o, ho, fun v q => by rw [hd] at q; cases q⟩
  keep := fun i h h' st k => by
    obtain ⟨⟨old, he⟩, hi, hne⟩ := st
    exact ⟨⟨old, k e (by simp) _ he⟩, Heap.IsTupleIter.at hi fun o q => k it (by simp) o q, hne⟩
  item := fun X hP hw hK hc i pins s σ H E I hf st hg => by
    subst hP hw hK
    obtain ⟨⟨old, he⟩, hit, hne⟩ := st
    obtain ⟨xs, x, hq, hx⟩ := hg
    obtain ⟨its, rv, p, hz⟩ := Inv.tuple I hq
    obtain ⟨u, hu, ru⟩ := Vals.get rv hx
    have hel := Heap.lt_size he
    have hil : it < s.heap.objs.size := by obtain ⟨w, q, _⟩ := hit; exact Heap.lt_size q
    have p' : s.heap.IsTuple a its.toArray := p
    have hae : e ≠ a := by
      rintro rfl
      obtain ⟨o, ho, hc, _⟩ := p'
      rw [he] at ho
      cases ho
      exact absurd (Value.type.inj hc) (by decide)
    have hai : a ≠ it := by
      rintro rfl
      obtain ⟨o, ho, hc, _⟩ := p'
      obtain ⟨o2, ho2, hc2, _⟩ := hit
      rw [ho] at ho2
      cases ho2
      rw [hc] at hc2
      exact absurd (Value.type.inj hc2) (by decide)
    have hul : i < its.toArray.size := by
      rcases Nat.lt_or_ge i its.length with q | q
      · simpa using q
      · rw [List.getElem?_eq_none q] at hu; cases hu
    have hh : X.A.in1.handled = none := I.ok.hd hc
    refine wpAny_pyNext_enum_itemD (drawsT hh it a hai its.toArray) he ⟨hit, p'⟩ hul hne (by simp [hne, hae]) fun x' h' tk hx' ho hst hT hsz hk => ?_
    have ex : x' = u := by
      rw [List.getElem?_toArray, hu] at hx'
      exact (Option.some.inj hx').symm
    subst ex
    refine ⟨_, rfl, wpAny_letOwnedTupleGo_enum ho fun h'' he' sb => ?_⟩
    have hT2 := (sb.2 s.heap.objs.size (Nat.ne_of_gt hel)).trans hT
    have I1 := Inv.turnedNew (T := s.heap.objs.size) (ob := HO.tup [V.int i, x]) (h' := h'') (t' := tk + 1) (ch := [e, it]) I (fun b ob hb q => by
      have h1 : b ≠ e := fun z => hb (by simp [z])
      have h2 : b ≠ it := fun z => hb (by simp [z])
      exact (sb.2 b h1).trans (hk b ob h1 h2 q)) hf (Nat.le_refl _) ⟨show 2 ≤ sizeLine by decide, [Value.int i tk, x'], .cons ⟨tk, rfl⟩ (.cons ru .nil), _, hT2, rfl, 0, rfl⟩
    refine ⟨V.ref s.heap.objs.size, _, I1, rfl, ⟨s.heap.objs.size, x, rfl, HOk.fresh I.hok (Nat.le_refl _), rfl, fun ys hy => by rw [Inv.tuple_inj I hy hq]; exact hx⟩, ⟨⟨x', ?_⟩, Heap.IsTupleIter.at hst.1 fun o q => (sb.2 it (Ne.symm hne)).trans q, hne⟩, fun b hb => ?_⟩
    · have e1 : ((i + 1 : Nat) : Int) = (i : Int) + 1 := by omega
      rw [e1]
      exact he'
    · have e' : b = e ∨ b = it := by simpa using hb
      have hlt : b < s.heap.objs.size := by rcases e' with z | z <;> rw [z] <;> assumption
      rw [upd_ne (Nat.ne_of_lt hlt)]
      exact (hf b hb).1
  done := fun X hP hw hK hc i pins s σ H E I hf st hg => by
    subst hP hw hK
    obtain ⟨⟨old, he⟩, hit, hne⟩ := st
    obtain ⟨xs, hq, hx⟩ := hg
    obtain ⟨its, rv, p, hz⟩ := Inv.tuple I hq
    obtain ⟨f0, f1, f2, f3, f4, f5⟩ := hf it (by simp)
    have hl := Vals.length rv
    have p' : s.heap.IsTuple a its.toArray := p
    have hh : X.A.in1.handled = none := I.ok.hd hc
    have hn : its.toArray[i]? = none := by
      rw [List.getElem?_toArray, List.getElem?_eq_none]
      omega
    exact wpAny_pyNext_enum_endD (drawsE hh it a its.toArray i hn) he ⟨hit, p'⟩ fun h' eb => ⟨rfl, Inv.turned I (fun b o hb q => eb b o hb q) f0 f1 f3 f4 f5⟩
  self := fun A i s Q E st h => by
    obtain ⟨⟨old, he⟩, _⟩ := st
    exact wpAny_pyIter_enum he h
end Lq

namespace Lq
open PySem PySem.Spec PyProof.Rows L2
open Evl (Ex)
def iEnumT (K : PySem.W.Frag) (ta : TA) : TI := fun σ H R => ta σ H fun vs H1 => ∃ a xs, vs = [V.ref a] ∧ SqT K H1 a xs ∧ R (IteT K a) H1
theorem pi_enumT {X : Cx} {e : Expr} {ta : TA} {p pos tpos : Pos} {elts : List Expr} {kk : Nat} (hg : Gl X "enumerate") (hm : X.mg "enumerate" = none) (ha : PA X [e] ta) (hs : starEach [e] X.env = [(false, eval e X.env)] := by rfl) :
    PI X (.Tuple elts kk tpos) (.Call (.Name "enumerate" p) [e] [] pos) (iEnumT X.K ta) :=
  ⟨fun pins s σ H R I h => Call_ (ld_blt I hg hm boot_enumerate (PyProof.Rows.callWith_type1 (thn (ha.run pos pins s σ H (fun vs H1 => ∃ a xs, vs = [V.ref a] ∧ SqT X.K H1 a xs ∧ R (IteT X.K a) H1) I h) fun us s1 x => by
    obtain ⟨vs, H1, I1, r1, a, xs, rfl, hq, q⟩ := x
    have hu := Vals.ref1 r1
    subst hu
    obtain ⟨its, rv, p', hz⟩ := Inv.tuple I1 hq
    refine call_enumT p' fun h' he hit hsz hk => wpAny_pyIter_enum he ?_
    have I2 := Inv.kept (t' := s1.toks) I1 hk
    refine ⟨_, [s1.heap.objs.size + 1, s1.heap.objs.size], _, IteT X.K a, H1, rfl, I2, turn_enumT a _ _, ⟨⟨Value.none, he⟩, hit, Nat.succ_ne_self _⟩, fun b hb => ?_, q⟩
    have hle : s1.heap.objs.size ≤ b := by
      have e' : b = s1.heap.objs.size + 1 ∨ b = s1.heap.objs.size := by simpa using hb
      rcases e' with z | z <;> rw [z]
      · exact Nat.le_succ _
      · exact Nat.le_refl _
    exact Inv.fpOk I1 hle (HOk.fresh I1.hok hle)) hs rfl) (by decide) (by decide)) rfl⟩
def enumD (xs : List Dt) : List Dt := xs.zipIdx.map fun x => Dt.tup [.int (x.2 : Int), x.1]
theorem enumD_len (xs : List Dt) : (enumD xs).length = xs.length := by simp [enumD]
theorem enumD_get {xs : List Dt} {i : Nat} {d : Dt} (h : xs[i]? = some d) : (enumD xs)[i]? = some (.tup [.int (i : Int), d]) := by
  unfold enumD
  rw [List.getElem?_map, List.getElem?_zipIdx, h]
  simp
def itEn (f : Ms → R (List Dt)) : Ms → R (List Dt) := fun S => (f S).bind fun ds S1 => match ds with | [.tup xs] => .ok (enumD xs) S1 | _ => .no
theorem walksEn {K : PySem.W.Frag} {F : Hp} {a : Addr} {xs : List V} {ds : List Dt} (hs : TupAt K F a xs) (ha : RpA K F xs ds) : Lq.Walks K F (IteT K a) (enumD ds) := by
  have hl : (enumD ds).length = xs.length := by rw [enumD_len, ha.length]
  refine ⟨fun i H hi e => ?_, fun H e => ⟨xs, Evl.ex_t e hs.sq, by rw [hl]; exact Nat.le_refl _⟩, fun i H x H' F1 hi e e2 y => ?_⟩
  · rw [hl] at hi
    exact ⟨xs, xs[i], Evl.ex_t e hs.sq, by simp [hi]⟩
  · obtain ⟨T, u, rfl, h1, rfl, h2⟩ := y
    obtain ⟨d, d1, d2⟩ := ha.getv (h2 _ (Evl.ex_t (e.trans e2) hs.sq))
    refine ⟨_, enumD_get d1, .inr ⟨T, .tup [.int i, u], h1, rfl, ?_⟩⟩
    have ht : F1 T = none := by
      cases w : F1 T with
      | none => rfl
      | some o => rw [e2 _ _ w] at h1; cases h1
    exact .tup upd_same (.cons (.int _) (.cons ((d2.up e).up (Ex.new ht)) .nil))
section
variable {X : Cx} {W : WX} {a b c e o tg : Expr} {pos p tpos apos : Pos} {f g : Ms → R Dt} {fs : Ms → R (List Dt)} {i : Nat} {x : Str}
theorem di_enum {elts : List Expr} {kk : Nat} (hg : Gl X "enumerate") (hm : X.mg "enumerate" = none) (ha : PA X [e] (tA X.K W fs)) (hs : starEach [e] X.env = [(false, eval e X.env)] := by rfl) :
    PI X (.Tuple elts kk tpos) (.Call (.Name "enumerate" p) [e] [] pos) (tI X.K W (itEn fs)) := monoI1 (pi_enumT hg hm ha hs) fun σ H R q => by
  obtain ⟨B, F, as, S, r, o⟩ := q
  refine ⟨B, F, as, S, r, Out.mono (Out.bind o) fun ds F1 H1 as1 S1 ⟨r1, e1, o1⟩ vs hv => ?_⟩
  split at o1
  · obtain ⟨v, rfl, h1⟩ := rpa1 hv
    cases h1 with
    | tup hs ha => exact ⟨_, _, rfl, Evl.ex_t r1.fh hs.sq, Out.now o1 r1 _ (walksEn hs ha)⟩
  · exact o1.elim
def anyO : List Dt → Option Dt | [.lst xs] => (blsOf xs).map fun bs => .bl (bs.any id) | _ => none
@[simp] theorem anyO_run (bs : List Bool) : anyO [.lst (bs.map Dt.bl)] = some (.bl (bs.any id)) := by unfold anyO; dsimp only; rw [blsOf_map]; rfl
end
section
variable {X : Cx} {W : WX} {a : Expr} {pos p : Pos} {f : Ms → R Dt}
def sumT : List Dt → Option Dt | [.tup xs] => (intsOf xs).map fun ns => .int ns.sum | _ => none
@[simp] theorem sumT_run (ns : List Int) : sumT [.tup (ns.map Dt.int)] = some (.int ns.sum) := by unfold sumT; dsimp only; rw [intsOf_map]; rfl
end
end Lq

namespace Lq
open PySem PySem.Spec PyProof.Rows L2
open Evl (Ex)
structure RaN (P : Program) (w : World) (K : PySem.W.Frag) (mg : Str → Option Value) (base : Heap) (x : Str) (C : Addr) : Prop where
  gC : mg x = some (.ref C)
  kC : PySem.W.keepIn K (.ref C) = true
  xC : PySem.W.excIn K C [.type "ValueError", .type "Exception", .type "BaseException", .type "object"] "ValueError.__new__" = true
  eC : PySem.W.subIn K (.ref C) (.type "BaseException") = some true
  tC : PySem.W.typeIn K (.ref C) = some (.type "type")
  e1 : PySem.W.exmOne K (.ref C) (.ref C) = some true
section
variable {X : Cx} {W : WX} {x y fld : Str} {C : Addr} {j : Nat} {p p2 pos pos' : Pos} {m : Str}
theorem ds_raiseN (T : RaN X.prog X.w X.K X.mg X.base x C) (hc : X.calm = true) (tk : Takes X W) (hr : Room 2 X.A) (hg : Gl X x) (hdb : (x == ("__debug__" : Str)) = false := by decide) :
    PS X (.Raise (some (.Call (.Name x p) [.Constant (.str m) j p2] [] pos)) none pos') (sD X.K W (raiseS ⟨C, [], []⟩)) :=
  monoS (ps_raise hc tk (pmk_own PySem.F.excBase_ValueError T.xC T.gC T.kC (raises_own T.eC T.tC) hg hdb)) fun D σ H q => by
    obtain ⟨B, F, as, S, r, o⟩ := q
    exact o σ F H as none [] Ext.refl r rfl rfl .nil
theorem ds_raiseS (T : RaS X.prog X.w X.K X.mg X.base x C fld) (hc : X.calm = true) (tk : Takes X W) (hr : Room 2 X.A) (hg : Gl X x) (hl : m.length ≤ 1000) (hdb : (x == ("__debug__" : Str)) = false := by decide)
    (hst : starEach [Expr.Constant (.str m) j p2] X.env = (false, eval (.Constant (.str m) j p2) X.env) :: starEach [] X.env := by rfl) (hpl : (backTo pos (starEach [] X.env)).any (·.1) = false := by rfl) :
    PS X (.Raise (some (.Call (.Name x p) [.Constant (.str m) j p2] [] pos)) none pos') (sD X.K W (raiseS ⟨C, [fld], [.str m]⟩)) := by
  obtain ⟨fI, fd, iC, tI, F1, hb⟩ := T.ini
  exact ds_raise1 hc tk T.T iC tI F1 hr hb pass0 hg T.gC hl hdb hst hpl
end
section
variable {X : Cx} {W : WX} {x x2 n fld y : Str} {C C2 : Addr} {i j : Nat} {m : Ms → O} {body : List Stmt} {np np2 pos pos' pos2 p1 p2 p3 q1 q2 : Pos}
end
end Lq

namespace Lq
open PySem PySem.Spec PyProof.Rows L2
open Evl (Ex)
def fldO (C : Addr) (f : Str) : Dt → Option Dt | .obj C' ks ds => if C' = C then (ks.zip ds).lookup f else none | _ => none
theorem fld_look {K : PySem.W.Frag} {F : Hp} {f : Str} : ∀ {fs : List (Str × V)} {ds : List Dt} {d : Dt}, RpA K F (fs.map (·.2)) ds → ((fs.map (·.1)).zip ds).lookup f = some d → ∃ v, fs.lookup f = some v ∧ Rp K F v d
  | [], _, d, _, h => by simp at h
  | (k, v) :: fs, d0 :: ds, d, .cons h1 t, h => by
    rw [List.map_cons, List.zip_cons_cons] at h
    simp only [List.lookup_cons] at h ⊢
    cases q : f == k with
    | true =>
      simp only [q] at h ⊢
      cases h
      exact ⟨v, rfl, h1⟩
    | false =>
      simp only [q] at h ⊢
      exact fld_look t h
def fldE (C : Addr) (f : Str) (m : Ms → R Dt) : Ms → R Dt := op1 m (fldO C f)
section
variable {X : Cx} {W : WX} {e o : Expr} {es : List Expr} {m : Ms → R Dt} {fs : Ms → R (List Dt)} {x f : Str} {C : Addr} {p pos apos : Pos} {j k n i : Nat} {ps : List Str} {g : List Dt → Fo}
theorem de_fld (c : Cls X.K C) (na : NoAttr X.K C f) (he : PE X e (tD X.K W m)) (hb : attributeBase e f X.env (eval e X.env) = eval e X.env := by rfl) : PE X (.Attribute e f pos) (tD X.K W (fldE C f m)) :=
  monoE (pe_fld he hb) fun σ H Q q => by
    obtain ⟨B, F, as, S, r, o⟩ := q
    refine ⟨B, F, as, S, r, Out.mono (Out.bind (show Out X.K W B F as σ ((m S).bind fun d S1 => R.of (fldO C f d) S1) _ from o)) fun d F1 H1 as1 S1 ⟨r1, e1, o1⟩ v hv => ?_⟩
    cases d with
    | obj C' ks ds =>
      unfold fldO at o1
      dsimp only at o1
      by_cases hC : C' = C
      · subst hC
        rw [if_pos rfl] at o1
        cases hk : (ks.zip ds).lookup f with
        | none => rw [hk] at o1; exact o1.elim
        | some d =>
          rw [hk] at o1
          cases hv with
          | obj hs hks ha =>
            subst hks
            obtain ⟨v, hv1, hv2⟩ := fld_look ha hk
            exact ⟨_, _, _, _, v, rfl, r1.fh _ _ hs, c, na, hv1, Out.now o1 r1 _ hv2⟩
      · rw [if_neg hC] at o1
        exact o1.elim
    | _ => exact o1.elim
def CalM (P : Program) (w : World) (K : PySem.W.Frag) (mg : Str → Option Value) (base : Heap) (C : Addr) (x : Str) (k : Nat) (ps : List Str) (sp : Sp) : Prop :=
  ∃ f fd, FnOk P w K mg base (L2.CX P w) k f fd ps sp ∧ Cls K C ∧ Meth K C x f ∧ Binds K fd ps []
def metE (C : Addr) (x : Str) (n : Nat) (m : Ms → R Dt) (fs : Ms → R (List Dt)) (g : List Dt → Fo) : Ms → R Dt := fun S => (m S).bind fun d S1 => match d with
  | .obj C' ks xs => if C' = C ∧ x ∉ ks then (fs S1).bind fun ds S2 => if ds.length + 1 = n then (match g (.obj C' ks xs :: ds) with | .ok d => .ok d S2 | .er e => .er e S2 | .no => .no) else .no else .no
  | _ => .no
theorem no_look {x : Str} : ∀ {fs : List (Str × V)}, x ∉ fs.map (·.1) → fs.lookup x = none
  | [], _ => rfl
  | (k, v) :: fs, h => by
    rw [List.map_cons, List.mem_cons, not_or] at h
    rw [List.lookup_cons]
    have : (x == k) = false := by simpa using h.1
    rw [this]
    exact no_look h.2
theorem met_run {K : PySem.W.Frag} {dvs : List V} (hd : dvs = []) {σ : L2.St} {H : Hp} {Q : VK} (q : tD K W (metE C x n m fs g) σ H Q) : tMeth C x (spD K n g) dvs (WE W σ) (tD K W m) (tA K W fs) σ H Q := by
  subst hd
  obtain ⟨B, F, as, S, r, o⟩ := q
  refine ⟨B, F, as, S, r, Out.mono (Out.bind o) fun d F1 H1 as1 S1 ⟨r1, e1, o1⟩ v hv => ?_⟩
  cases d with
  | obj C' ks xs =>
    dsimp only at o1
    split at o1
    · rename_i hc
      obtain ⟨hC, hx⟩ := hc
      subst hC
      cases hv with
      | obj hs hks ha =>
        subst hks
        refine ⟨_, _, _, rfl, r1.fh _ _ hs, no_look hx, B, F1, as1, S1, r1, Out.mono (Out.bind o1) fun ds F2 H2 as2 S2 ⟨r2, e2, o2⟩ vs hvs => ?_⟩
        split at o2
        · rename_i hn
          refine ⟨holdB B F2 H2 as2, F2, _ :: ds, hn, r2.fh, hold_kept r2, .cons (.obj (e2.1 _ _ hs) rfl (ha.up e2.1)) (by rw [List.append_nil]; exact hvs), ?_⟩
          cases hg : g (.obj C' _ xs :: ds) with
          | ok d =>
            rw [hg] at o2
            exact fun v F' H' ee eh kp hv' => o2 F' H' as2 ⟨ee, [], by simp⟩ (hold_back r2 ee eh kp) v hv'
          | er x =>
            rw [hg] at o2
            exact fun F' H' dx fs ee eh kp h1 h2 h3 => o2 F' H' as2 dx fs ⟨ee, [], by simp⟩ (hold_back r2 ee eh kp) h1 h2 h3
          | no => rw [hg] at o2; exact o2.elim
        · exact o2.elim
    · exact o1.elim
  | _ => exact o1.elim
theorem pe_methZ {CX : CXT} {k : Nat} {f C : Addr} {fd : FuncData} {ps : List Str} {sp : Sp} {E : L2.St → XK} {m : Str} {pos apos : Pos} {o : Expr} {ta : TE} {pl : Sem Bool} (he : PE X o ta) (c : Cls X.K C) (hm : Meth X.K C m f) (F : FnOk X.prog X.w X.K X.mg X.base CX k f fd ps sp) (hr : Room k X.A) (hb : Binds X.K fd ps []) (hx : ∀ σ, PassesAt CX X σ (E σ))
    (ht : eval ((o.Attribute m apos).Call [] [] pos) X.env = (do
      let ov ← eval o X.env
      standAt apos.atName
      let (f, first) ← holding [ov] (getMethod ov m pl)
      callWith pos f first (backTo pos (starEach [] X.env)) (backToKw pos (keywordEach [] X.env))) := by rfl) :
    PE X (.Call (.Attribute o m apos) [] [] pos) (fun σ H Q => tMeth C m sp [] (E σ) ta tNil σ H Q) :=
  ⟨fun pins s σ H Q I h => W.methodCall_KW (thn (he.run pins s σ H (fun x H1 => ∃ a dx fs, x = V.ref a ∧ H1 a = some (HO.ins C dx fs) ∧ List.lookup m fs = none ∧ tNil σ H1 fun vs H2 => sp (x :: (vs ++ [])) H2 Q (E σ)) I h) fun u s1 x => by
    obtain ⟨x1, H1, I1, rx, a, dx, fs, rfl, ea, l, q⟩ := x
    have hu : u = .ref a := rx
    subst hu
    exact getmeth_ok I1 ea c hm l (W.callWith_K0 (Inv.kIn I1) hm.kp (run_fnS F hr hb (hx σ) I1 (Paired.cons (show L2.RelV (V.ref a) (Value.ref a) from rfl) Paired.nil) q))) ht⟩
theorem pe_methY {CX : CXT} {k : Nat} {f C : Addr} {fd : FuncData} {ps : List Str} {sp : Sp} {E : L2.St → XK} {m : Str} {pos apos : Pos} {e o : Expr} {es : List Expr} {ta : TE} {t : TA} {pl : Sem Bool} (he : PE X o ta) (c : Cls X.K C) (hm : Meth X.K C m f) (F : FnOk X.prog X.w X.K X.mg X.base CX k f fd ps sp) (hr : Room k X.A) (hb : Binds X.K fd ps []) (hx : ∀ σ, PassesAt CX X σ (E σ)) (ha : PA X (e :: es) t)
    (hst : starEach (e :: es) X.env = (false, eval e X.env) :: starEach es X.env := by rfl) (hpl : (backTo pos (starEach es X.env)).any (·.1) = false := by rfl)
    (ht : eval ((o.Attribute m apos).Call (e :: es) [] pos) X.env = (do
      let ov ← eval o X.env
      standAt apos.atName
      let (f, first) ← holding [ov] (getMethod ov m pl)
      callWith pos f first (backTo pos (starEach (e :: es) X.env)) (backToKw pos (keywordEach [] X.env))) := by rfl) :
    PE X (.Call (.Attribute o m apos) (e :: es) [] pos) (fun σ H Q => tMeth C m sp [] (E σ) ta t σ H Q) :=
  ⟨fun pins s σ H Q I h => W.methodCall_KW (thn (he.run pins s σ H (fun x H1 => ∃ a dx fs, x = V.ref a ∧ H1 a = some (HO.ins C dx fs) ∧ List.lookup m fs = none ∧ t σ H1 fun vs H2 => sp (x :: (vs ++ [])) H2 Q (E σ)) I h) fun u s1 x => by
    obtain ⟨x1, H1, I1, rx, a, dx, fs, rfl, ea, l, q⟩ := x
    have hu : u = .ref a := rx
    subst hu
    refine getmeth_ok I1 ea c hm l (W.callWith_K I.ok.mod.kin hm.kp (thn (ha.run pos pins s1 σ H1 (fun vs H2 => sp (V.ref a :: (vs ++ [])) H2 Q (E σ)) I1 q) fun us s2 x => ?_) hst hpl)
    obtain ⟨vs, H2, I2, r, q2⟩ := x
    rw [List.append_nil] at q2
    exact ⟨Inv.kIn I2, run_fnS F hr hb (hx σ) I2 (Paired.cons (show L2.RelV (V.ref a) (Value.ref a) from rfl) r) q2⟩) ht⟩
theorem de_met0 {pl : Sem Bool} (c : CalM X.prog X.w X.K X.mg X.base C x k ps (spD X.K n g)) (tk : Takes X W) (hr : Room j X.A) (hk : k ≤ j) (ho : PE X o (tD X.K W m))
    (heq : eval ((o.Attribute x apos).Call [] [] pos) X.env = (do
      let ov ← eval o X.env
      standAt apos.atName
      let (f, first) ← holding [ov] (getMethod ov x pl)
      callWith pos f first (backTo pos (starEach [] X.env)) (backToKw pos (keywordEach [] X.env))) := by rfl) :
    PE X (.Call (.Attribute o x apos) [] [] pos) (tD X.K W (metE C x n m aNil g)) := by
  obtain ⟨f, fd, F, cl, mt, hb⟩ := c
  exact monoE (pe_methZ (E := fun σ => WE W σ) ho cl mt F (hr.mono hk) hb (fun σ => passAt tk σ) heq) fun σ H Q q => by
    obtain ⟨B, F, as, S, r, o⟩ := met_run rfl q
    exact ⟨B, F, as, S, r, Out.mono o fun d F1 H1 as1 S1 h v hv => by
      obtain ⟨a, dx, fs, h1, h2, h3, B2, F2, as2, S2, r2, o2⟩ := h v hv
      exact ⟨a, dx, fs, h1, h2, h3, o2 F2 H1 as2 Ext.refl r2 [] .nil⟩⟩
theorem de_met {pl : Sem Bool} (c : CalM X.prog X.w X.K X.mg X.base C x k ps (spD X.K n g)) (tk : Takes X W) (hr : Room j X.A) (hk : k ≤ j) (ho : PE X o (tD X.K W m)) (ha : PA X (e :: es) (tA X.K W fs))
    (he : starEach (e :: es) X.env = (false, eval e X.env) :: starEach es X.env := by rfl) (hpl : (backTo pos (starEach es X.env)).any (·.1) = false := by rfl)
    (heq : eval ((o.Attribute x apos).Call (e :: es) [] pos) X.env = (do
      let ov ← eval o X.env
      standAt apos.atName
      let (f, first) ← holding [ov] (getMethod ov x pl)
      callWith pos f first (backTo pos (starEach (e :: es) X.env)) (backToKw pos (keywordEach [] X.env))) := by rfl) :
    PE X (.Call (.Attribute o x apos) (e :: es) [] pos) (tD X.K W (metE C x n m fs g)) := by
  obtain ⟨f, fd, F, cl, mt, hb⟩ := c
  exact monoE (pe_methY (E := fun σ => WE W σ) ho cl mt F (hr.mono hk) hb (fun σ => passAt tk σ) ha he hpl heq) fun σ H Q q => met_run rfl q
end
end Lq

namespace Lq
open PySem PySem.Spec PyProof.Rows L2
open Evl (Ex)
theorem run_makeS {X : Cx} {CX : CXT} {k : Nat} {f C : Addr} {fd : FuncData} {ps : List Str} {sp : Sp} {E : XK} {pins : List (Addr × Obj)} {σ : L2.St} {H : Hp} {s : Shared} {Q : VK} {us : List Value} {vs : List V}
    (M : Mk X.K C f) (F : FnOk X.prog X.w X.K X.mg X.base CX k f fd ps sp) (hr : Room (k + 1) X.A) (hb : L2.Binds X.K fd ps []) (hx : PassesAt CX X σ E) (I : L2.Inv X pins σ H s) (r : Vals vs us)
    (h : ∀ (x dx : Addr), H x = none → H dx = none → dx ≠ x → sp (V.ref x :: vs) (upd (upd H dx (HO.own x)) x (HO.ins C dx [])) (fun v H2 => v = V.non ∧ Q (V.ref x) H2) E) :
    wpAny (model X.prog X.w) X.A (call (Value.ref C) us) (EP X pins σ Q) X.xe s := by
  have hq := h (s.heap.objs.size + 1) s.heap.objs.size (HOk.fresh I.hok (Nat.le_succ s.heap.objs.size)) (HOk.fresh I.hok (Nat.le_refl s.heap.objs.size)) (Nat.ne_of_lt (Nat.lt_succ_self s.heap.objs.size))
  have I2 := Inv.made (C := C) I
  have r2 : Vals (V.ref (s.heap.objs.size + 1) :: vs) (Value.ref (s.heap.objs.size + 1) :: us) := Paired.cons (show L2.RelV (V.ref (s.heap.objs.size + 1)) (Value.ref (s.heap.objs.size + 1)) from rfl) r
  have hl : ((Value.ref (s.heap.objs.size + 1) :: us) ++ ([] : List Value)).length = ps.length := by
    have e := Vals.length r2
    rw [F.len _ _ _ _ hq] at e
    rw [List.append_nil]
    exact e.symm
  have hb2 := hb { heap := (s.heap.push W.emptyDict).push (W.instObj C s.heap.objs.size), gens := s.gens, drawn := s.drawn, toks := s.toks, os := s.os } (Value.ref (s.heap.objs.size + 1) :: us) (Inv.kIn I2) hl
  rw [List.append_nil] at hb2
  refine wpAny_call (make_map (Inv.kIn I) M.makes M.init (beq_iff_eq.mp M.fn) (codeAny_mono (F.run (X.A.under (Code.builtin "type.__call__" { pos := Value.ref C :: us })) X.stack { heap := (s.heap.push W.emptyDict).push (W.instObj C s.heap.objs.size), gens := s.gens, drawn := s.drawn, toks := s.toks, os := s.os } (upd (upd H s.heap.objs.size (HO.own (s.heap.objs.size + 1))) (s.heap.objs.size + 1) (HO.ins C s.heap.objs.size [])) { pos := Value.ref (s.heap.objs.size + 1) :: us } (Value.ref (s.heap.objs.size + 1) :: us) (V.ref (s.heap.objs.size + 1) :: vs) (fun v H2 => v = V.non ∧ Q (V.ref (s.heap.objs.size + 1)) H2) E (Room.make hr C us []) (Env0.make (Inv.env0 I2) C us []) hb2 r2 hq) fun r s' hq' => ?_))
  cases r with
  | error e => exact hx pins _ _ e s' I2 hq'
  | ok fl =>
    cases fl with
    | ret u =>
      obtain ⟨v, H', I3, rv, ev, q3⟩ := Inv.after I2 hq'
      subst ev
      exact ⟨rv, V.ref (s.heap.objs.size + 1), H', I3, rfl, q3⟩
    | _ => exact hq'.elim
theorem pe_makeZ {X : Cx} {CX : CXT} {k : Nat} {f C : Addr} {fd : FuncData} {ps : List Str} {sp : Sp} {E : L2.St → XK} {x : Str} {p pos : Pos} {e : Expr} {es : List Expr} {t : TA} (M : Mk X.K C f) (F : FnOk X.prog X.w X.K X.mg X.base CX k f fd ps sp) (hr : Room (k + 1) X.A) (hg : Gl X x) (hm : X.mg x = some (.ref C)) (hb : L2.Binds X.K fd ps []) (hx : ∀ σ, PassesAt CX X σ (E σ)) (ha : PA X (e :: es) t)
    (hdb : (x == ("__debug__" : Str)) = false := by decide) (he : starEach (e :: es) X.env = (false, eval e X.env) :: starEach es X.env := by rfl) (hpl : (backTo pos (starEach es X.env)).any (·.1) = false := by rfl) :
    PE X (.Call (.Name x p) (e :: es) [] pos) (fun σ H Q => t σ H fun vs H1 => ∀ x dx, H1 x = none → H1 dx = none → dx ≠ x → sp (.ref x :: vs) (upd (upd H1 dx (.own x)) x (.ins C dx [])) (fun v H2 => v = .non ∧ Q (.ref x) H2) (E σ)) :=
  ⟨fun pins s σ H Q I h => wpAny_Call_Name_kw (ld_glob I hg hm (W.callWith_K I.ok.mod.kin M.kp (thn (ha.run pos pins s σ H (fun vs H1 => ∀ (x dx : Addr), H1 x = none → H1 dx = none → dx ≠ x → sp (V.ref x :: vs) (upd (upd H1 dx (HO.own x)) x (HO.ins C dx [])) (fun v H2 => v = V.non ∧ Q (V.ref x) H2) (E σ)) I h) fun us s1 x => by
    obtain ⟨vs, H1, I1, r, q⟩ := x
    exact ⟨Inv.kIn I1, run_makeS M F hr hb (hx σ) I1 r q⟩) he hpl) hdb)⟩
end Lq

namespace Lq
open PySem PySem.Spec PyProof.Rows L2
open Evl (Ex)
def ioAt (S : Ms) (i : Nat) : Option (Nat × Addr × List Str × List Dt) := match S.sl[i]? with | some (.mu k) => (match S.mo[k]? with | some (.ob (.io C ks ds)) => some (k, C, ks, ds) | _ => none) | _ => none
theorem ioAt_rp {K : PySem.W.Frag} {B F H : Hp} {as : List Addr} {σ : L2.St} {S : Ms} (r : Rep K B F H as σ S) {i k : Nat} {C : Addr} {ks : List Str} {ds : List Dt} (h : ioAt S i = some (k, C, ks, ds)) :
    ∃ p dx fs, σ[i]? = some (some (.ref p)) ∧ S.mo[k]? = some (.ob (.io C ks ds)) ∧ as[k]? = some p ∧ B p = none ∧ F p = none ∧ H p = some (.ins C dx fs) ∧ fs.map (·.1) = ks ∧ RpA K F (fs.map (·.2)) ds := by
  unfold ioAt at h
  cases hs : S.sl[i]? with
  | none => rw [hs] at h; cases h
  | some s =>
    rw [hs] at h
    cases s with
    | mu k' =>
      dsimp only at h
      cases hm : S.mo[k']? with
      | none => rw [hm] at h; cases h
      | some mm =>
        rw [hm] at h
        cases mm with
        | ob c =>
          cases c with
          | io C ks ds =>
            cases h
            obtain ⟨ov, hv, z⟩ := pairedGet r.sl hs
            cases ov with
            | none => exact z.elim
            | some v =>
              obtain ⟨p, hp, rfl⟩ := z
              obtain ⟨p', hp', q1, q2, ob, q3, q4⟩ := pairedGet r.mo hm
              rw [hp] at hp'
              cases hp'
              cases q4 with
              | io h1 h2 => exact ⟨p, _, _, hv, hm, hp, q1, q2, q3, h1, h2⟩
          | _ => cases h
        | fz d => cases h
    | _ => cases h
theorem putF_new {f : Str} {v : V} : ∀ {fs : List (Str × V)}, f ∉ fs.map (·.1) → putF f v fs = fs ++ [(f, v)]
  | [], _ => rfl
  | (k, x) :: r, h => by
    rw [List.map_cons, List.mem_cons, not_or] at h
    have e := putF_new (v := v) h.2
    simp only [putF]
    rw [e]
    have h1 : ¬ f = k := h.1
    have h2 : ¬ k = f := fun z => h1 z.symm
    simp [h1, h2]
theorem RpA.snoc1 {K : PySem.W.Frag} {F : Hp} {v : V} {d : Dt} (h : Rp K F v d) : ∀ {vs : List V} {ds : List Dt}, RpA K F vs ds → RpA K F (vs ++ [v]) (ds ++ [d])
  | _, _, .nil => .cons h .nil
  | _, _, .cons h1 t => .cons h1 (RpA.snoc1 h t)
def fldS (C : Addr) (f : Str) (i : Nat) (m : Ms → R Dt) : Ms → O := fun S => (m S).stmt fun d S1 => match ioAt S1 i with
  | some (k, C', ks, ds) => if C' = C ∧ f ∉ ks ∧ ks.length < 100 then .nx { S1 with mo := S1.mo.set k (.ob (.io C (ks ++ [f]) (ds ++ [d]))) } else .no
  | none => .no
theorem ds_fldS {X : Cx} {W : WX} {o value : Expr} {f : Str} {C : Addr} {i : Nat} {m : Ms → R Dt} {pos pos' : Pos} (c : Cls X.K C) (na : NoAttr X.K C f) (ho : PE X o (tVar i)) (hv : PE X value (tD X.K W m)) (hs : swapsWith value (some (o.Attribute f pos')) pos.line X.env = pure false := by rfl) :
    PS X (.Assign [.Attribute o f pos'] value pos) (sD X.K W (fldS C f i m)) := monoS (ps_fld ho hv hs) fun D σ H q => by
  obtain ⟨B, F, as, S, r, o⟩ := q
  refine ⟨B, F, as, S, r, Out.mono (OutS.stmt o) fun d F1 H1 as1 S1 ⟨r1, e1, o1⟩ v hv => ?_⟩
  cases hi : ioAt S1 i with
  | none => rw [hi] at o1; exact o1.elim
  | some z =>
    obtain ⟨k, C', ks, ds⟩ := z
    rw [hi] at o1
    dsimp only at o1
    split at o1
    · rename_i hc
      obtain ⟨hC, hn, hl⟩ := hc
      subst hC
      obtain ⟨p, dx, fs, h1, h2, h3, h4, h5, h6, h7, h8⟩ := ioAt_rp r1 hi
      subst h7
      refine ⟨_, h1, p, _, dx, fs, rfl, h6, c, na, by rw [List.length_map] at hl; omega, ?_⟩
      rw [putF_new hn]
      refine o1 σ F1 _ as1 Ext.refl (r1.put h2 h3 (.io ?_ ?_))
      · simp
      · rw [List.map_append]
        exact RpA.snoc1 hv h8
    · exact o1.elim
def mo0I (S : Ms) : Option (Addr × List Str × List Dt) := match S.mo[(0 : Nat)]? with | some (Mo.ob (Ob.io C ks ds)) => some (C, ks, ds) | _ => none
def stI (C : Addr) (n : Nat) (ds : List Dt) : Ms := { sl := .mu 0 :: (ds.map Sv.im ++ List.replicate (n - 1 - ds.length) .no), mo := [.ob (.io C [] [])] }
def O.foI : O → Fo
  | .nx S => match mo0I S with | some (C, ks, ds) => .ok (.obj C ks ds) | none => .no
  | .er e _ => .er e
  | _ => .no
def runI (C : Addr) (n : Nat) (m : Ms → O) (ds : List Dt) : Fo := (m (stI C n ds)).foI
def spI (K : PySem.W.Frag) (C : Addr) (n : Nat) (f : List Dt → Fo) : Sp := fun vs H Q E => ∃ B F a dx vs' ds, vs = .ref a :: vs' ∧ ds.length = n ∧ Ex F H ∧ Kept B F H ∧ B a = none ∧ F a = none ∧ H a = some (.ins C dx []) ∧ RpA K F vs' ds ∧ match f ds with
  | .ok (.obj C' ks xs) => C' = C ∧ ∀ F' H' dx' fs, Ex F F' → Ex F' H' → Kept B F' H' → F' a = none → H' a = some (.ins C dx' fs) → fs.map (·.1) = ks → RpA K F' (fs.map (·.2)) xs → Q .non H'
  | .er e => ∀ F' H' dx fs, Ex F F' → Ex F' H' → Kept B F' H' → DictR H' dx fs → fs.map (·.1) = e.ks → RpA K F' (fs.map (·.2)) e.ds → E (.ref e.C) dx H'
  | _ => False
section
variable {P : Program} {w : World} {K : PySem.W.Frag} {mg : Str → Option Value} {base : Heap}
theorem defOkI {x qual : Str} {st : Stmt} {f : Addr} {fd : FuncData} {N ps : List Str} {p0 : Str} {k : Nat} {m : Ms → O} {C : Addr} (F : Fun K x qual st f fd) (S : FnScope N (p0 :: ps) (defScope st))
    (hbody : ∀ (cdv : Value) (A : Around) (outer : List Env) (s : Shared) (H : Hp) (E : XK), Room k (A.deeper (envOfC qual (defScope st) s.heap.objs.size f cdv)) →
      PSs (cxOf (L2.CX P w) P w K mg base N qual (defScope st) f cdv A outer s H E) (defBody st) (sD K (fun cls d _ H' => E cls d H') m)) :
    FnOk P w K mg base (L2.CX P w) (k + 1) f fd (p0 :: ps) (spI K C ps.length (runI C N.length m)) := by
  refine F.okX S (fun vs H Q E h => ?_) (fun cdv A outer s H vs Q E hr h => ⟨_, hbody cdv A outer s H E hr, ?_⟩)
  · obtain ⟨B, F, a, dx, vs', ds, rfl, hn, _, _, _, _, _, hv, _⟩ := h
    rw [List.length_cons, List.length_cons, hv.length, hn]
  · obtain ⟨B, F, a, dx, vs', ds, rfl, hn, e, kp, b0, f0, ha, hv, q⟩ := h
    refine ⟨B, F, [a], stI C N.length ds, ⟨e, kp, ?_, .cons ⟨b0, f0, _, ha, .io rfl .nil⟩ .nil, by simp⟩, ?_⟩
    · have hl : ps.length + 1 ≤ N.length := by
        have := congrArg List.length S.pre
        rw [List.length_take, List.length_cons] at this
        omega
      unfold L2.start stI
      rw [List.map_cons, List.length_cons, hv.length]
      have e2 : N.length - (ds.length + 1) = N.length - 1 - ds.length := by omega
      rw [e2]
      exact .cons ⟨a, rfl, rfl⟩ (paired_im hv (paired_no _))
    · unfold runI at q
      revert q
      cases hm : m (stI C N.length ds) with
      | nx S' =>
        intro q σ' F' H' as' e' r
        unfold O.foI at q
        dsimp only at q
        obtain ⟨e1, t, rfl⟩ := e'
        cases h0 : mo0I S' with
        | none => rw [h0] at q; exact q.elim
        | some z =>
          obtain ⟨C', ks, xs⟩ := z
          rw [h0] at q
          obtain ⟨hCC, q⟩ := q
          subst hCC
          unfold mo0I at h0
          cases h1 : S'.mo[0]? with
          | none => rw [h1] at h0; cases h0
          | some mm =>
            rw [h1] at h0
            cases mm with
            | fz d => cases h0
            | ob c =>
              cases c with
              | io C2 ks2 ds2 =>
                cases h0
                obtain ⟨p, hp, q1, q2, ob, q3, q4⟩ := pairedGet r.mo h1
                cases hp
                cases q4 with
                | io g1 g2 => exact q F' H' _ _ e1 r.fh r.bh q2 q3 g1 g2
              | _ => cases h0
      | er e S' => exact fun q σ' F' H' as' dx fs e' r => q F' H' dx fs e'.1 r.fh r.bh
      | rt d S' => exact fun q => q.elim
      | bk S' => exact fun q => q.elim
      | ct S' => exact fun q => q.elim
      | no => exact fun q => q.elim
end

theorem Rep.knowX {K : PySem.W.Frag} {B F H : Hp} {as : List Addr} {σ : L2.St} {S : Ms} (r : Rep K B F H as σ S) {p : Addr} {o : HO} (h : H p = some o) (hf : F p = none) (hb : B p = none) (ha : p ∉ as) : Ext F (upd F p o) as as ∧ Rep K B (upd F p o) H as σ S := by
  have e : Ex F (upd F p o) := Ex.new hf
  have ee : Ext F (upd F p o) as as := ⟨e, [], by simp⟩
  refine ⟨ee, fun a u hu => ?_, fun a u hu => ?_, r.sl.mono fun _ _ q => SvR.up q ee, ?_, r.nd⟩
  · by_cases q : a = p
    · subst q
      rw [upd_same] at hu
      rw [h]; exact hu
    · rw [upd_ne q] at hu
      exact r.fh _ _ hu
  · obtain ⟨q1, q2, q3⟩ := r.bh a u hu
    have n : a ≠ p := by
      rintro rfl
      rw [hb] at hu; cases hu
    rw [upd_ne n]
    exact ⟨q1, q2, q3⟩
  · have : ∀ {l : List Addr} {ms : List Mo}, (∀ a ∈ l, a ≠ p) → Paired (MoR K B F H) l ms → Paired (MoR K B (upd F p o) H) l ms := by
      intro l ms hl hp
      induction hp with
      | nil => exact .nil
      | cons h1 t ih =>
        rename_i a m l ms
        refine .cons ?_ (ih fun b hb => hl b (List.mem_cons_of_mem _ hb))
        have n := hl a List.mem_cons_self
        cases m with
        | ob c =>
          obtain ⟨q1, q2, o2, q3, q4⟩ := h1
          exact ⟨q1, by rw [upd_ne n]; exact q2, o2, q3, q4.up e⟩
        | fz d =>
          obtain ⟨⟨u, q1⟩, q2⟩ := h1
          exact ⟨⟨u, e _ _ q1⟩, q2.up e⟩
    exact this (fun a hal => by rintro rfl; exact ha hal) r.mo
def CalI (P : Program) (w : World) (K : PySem.W.Frag) (mg : Str → Option Value) (base : Heap) (x : Str) (C : Addr) (k : Nat) (ps : List Str) (n : Nat) (g : List Dt → Fo) : Prop :=
  ∃ f fd, FnOk P w K mg base (L2.CX P w) k f fd ps (spI K C n g) ∧ Mk K C f ∧ mg x = some (.ref C) ∧ Binds K fd ps []
def makE (C : Addr) (n : Nat) (fs : Ms → R (List Dt)) (f : List Dt → Fo) : Ms → R Dt := fun S => (fs S).bind fun ds S1 => if ds.length = n then (match f ds with | .ok (.obj C' ks xs) => if C' = C then .ok (.obj C ks xs) S1 else .no | .er e => .er e S1 | _ => .no) else .no
theorem de_make {X : Cx} {W : WX} {e : Expr} {es : List Expr} {fs : Ms → R (List Dt)} {x : Str} {p pos : Pos} {j k n : Nat} {ps : List Str} {g : List Dt → Fo} {C : Addr} (c : CalI X.prog X.w X.K X.mg X.base x C k ps n g) (tk : Takes X W) (hr : Room j X.A) (hk : k + 1 ≤ j) (hg : Gl X x)
    (ha : PA X (e :: es) (tA X.K W fs)) (hdb : (x == ("__debug__" : Str)) = false := by decide) (he : starEach (e :: es) X.env = (false, eval e X.env) :: starEach es X.env := by rfl) (hpl : (backTo pos (starEach es X.env)).any (·.1) = false := by rfl) :
    PE X (.Call (.Name x p) (e :: es) [] pos) (tD X.K W (makE C n fs g)) := by
  obtain ⟨f, fd, F, M, hm, hb⟩ := c
  exact monoE (pe_makeZ (E := fun σ => WE W σ) M F (hr.mono hk) hg hm hb (fun σ => passAt tk σ) ha hdb he hpl) fun σ H Q q => by
    obtain ⟨B, F, as, S, r, o⟩ := q
    refine ⟨B, F, as, S, r, Out.mono (Out.bind o) fun ds F1 H1 as1 S1 ⟨r1, e1, o1⟩ vs hv a dx hx hdx hne => ?_⟩
    split at o1
    · rename_i hn
      have hF : F1 a = none := by
        cases q : F1 a with
        | none => rfl
        | some u => rw [r1.fh _ _ q] at hx; cases hx
      have hFd : F1 dx = none := by
        cases q : F1 dx with
        | none => rfl
        | some u => rw [r1.fh _ _ q] at hdx; cases hdx
      have hB0 : ∀ b u, holdB B F1 H1 as1 b = some u → H1 b = some u := fun b u hu => (hold_kept r1 b u hu).1
      have hBa : holdB B F1 H1 as1 a = none := by
        cases q : holdB B F1 H1 as1 a with
        | none => rfl
        | some u => rw [hB0 a u q] at hx; cases hx
      have hup : ∀ b u, H1 b = some u → upd (upd H1 dx (.own a)) a (.ins C dx []) b = some u := fun b u hu => by
        have n1 : b ≠ a := by rintro rfl; rw [hx] at hu; cases hu
        have n2 : b ≠ dx := by rintro rfl; rw [hdx] at hu; cases hu
        rw [upd_ne n1, upd_ne n2]
        exact hu
      have hBo : B a = none := by
        cases q : B a with
        | none => rfl
        | some u => rw [(r1.bh a u q).1] at hx; cases hx
      have has : a ∉ as1 := fun hin => by
        obtain ⟨i, hi⟩ := List.mem_iff_getElem?.mp hin
        obtain ⟨mm, hmm, z⟩ := pairedGetL r1.mo hi
        cases mm with
        | ob c =>
          obtain ⟨_, _, u, z3, _⟩ := z
          rw [z3] at hx; cases hx
        | fz d =>
          obtain ⟨⟨u, z1⟩, _⟩ := z
          rw [hF] at z1; cases z1
      refine ⟨holdB B F1 H1 as1, F1, a, dx, vs, ds, rfl, hn, fun b u hu => hup b u (r1.fh _ _ hu), fun b u hu => ?_, hBa, hF, upd_same, hv, ?_⟩
      · obtain ⟨z1, z2, z3⟩ := hold_kept r1 b u hu
        exact ⟨hup b u z1, z2, z3⟩
      · revert o1
        cases hgd : g ds with
        | er y => exact fun o1 F' H' dx' fs' ee eh kp h1 h2 h3 => o1 F' H' as1 dx' fs' ⟨ee, [], by simp⟩ (hold_back r1 ee eh kp) h1 h2 h3
        | no => exact fun o1 => o1.elim
        | ok d =>
          cases d with
          | obj C' ks xs =>
            intro o1
            dsimp only at o1 ⊢
            by_cases hC : C' = C
            · subst hC
              rw [if_pos rfl] at o1
              refine ⟨rfl, fun F' H' dx' fs' ee eh kp f0 h1 h2 h3 => ⟨rfl, ?_⟩⟩
              have r2 := hold_back r1 ee eh kp
              obtain ⟨e3, r3⟩ := r2.knowX h1 f0 hBo has
              exact o1 _ H' as1 (Ext.trans (show Ext F1 F' as1 as1 from ⟨ee, [], by simp⟩) e3) r3 _ (.obj upd_same h2 (h3.up e3.1))
            · rw [if_neg hC] at o1
              exact o1.elim
          | _ => exact fun o1 => o1.elim
    · exact o1.elim
end Lq

namespace Lq
open PySem PySem.Spec PyProof.Rows L2
open Evl (Ex)
end Lq

namespace Lq
open PySem
open Sem (wp)
def san : Frame → Frame
  | .gen _ _ l c p => .ret (fun _ => .unsupported "") none false l c p []
  | f => f
def psn : GenState → GenState
  | .suspended _ l c p fs cl => .suspended (fun _ => .unsupported "") l c p (fs.map san) cl
  | x => x
def isSus : GenState → Bool
  | .suspended .. => true
  | _ => false
theorem psn_bare (x : GenState) : (psn x).bare = x.bare := by cases x <;> rfl
def Psn (s : Shared) : Shared := { s with gens := s.gens.map psn }
def Wf (s : Shared) : Prop := ∀ (i : Nat) (k : Resume → Sem PySem.Fin) (l : List Value) (c : Code) (p : Pos) (fs : List Frame) (cl : Bool), s.gens[i]? = some (GenState.suspended k l c p fs cl) → splitAtGen fs = none
def Pd (D : Nat → Option GenState) (s : Shared) : Prop := ∀ i x, D i = some x → isSus x = true ∧ s.gens[i]? = some (psn x)
def Rst (D : Nat → Option GenState) (s : Shared) : Shared := { s with gens := s.gens.mapIdx fun i y => (D i).getD y }
section
variable {D : Nat → Option GenState} {s : Shared} {g : Nat} {x y : GenState}
theorem Pd.none (h : Pd D s) (hg : s.gens[g]? = some x) (hx : isSus x = false) : D g = none := by
  cases e : D g with
  | none => rfl
  | some y =>
    obtain ⟨h1, h2⟩ := h g y e
    rw [hg] at h2; cases h2
    cases y <;> simp [psn, isSus] at hx h1
theorem Pd.at (h : Pd D s) (hd : D g = some x) : (Rst D s).gens[g]? = some x := by
  show (s.gens.mapIdx fun i y => (D i).getD y)[g]? = _
  rw [Array.getElem?_mapIdx, (h g x hd).2, hd]; rfl
theorem Pd.set (h : Pd D s) (hd : D g = .none) : Pd D (s.setGen g x) := fun i y e => by
  have ne : i ≠ g := by rintro rfl; rw [hd] at e; cases e
  refine ⟨(h i y e).1, ?_⟩
  show (s.gens.setIfInBounds g x)[i]? = _
  rw [Array.getElem?_setIfInBounds_ne (Ne.symm ne)]
  exact (h i y e).2
theorem Pd.push (h : Pd D s) : Pd D { s with gens := s.gens.push x } := fun i y e => by
  refine ⟨(h i y e).1, ?_⟩
  have h2 := (h i y e).2
  have hl : i < s.gens.size := (Array.getElem?_eq_some_iff.mp h2).1
  show (s.gens.push x)[i]? = _
  rw [Array.getElem?_push_lt hl, ← h2, Array.getElem?_eq_getElem hl]
theorem Wf.set (h : Wf s) (hx : ∀ k l c p fs cl, x = .suspended k l c p fs cl → splitAtGen fs = none) : Wf (s.setGen g x) := fun i k l c p fs cl e => by
  have e : (s.gens.setIfInBounds g x)[i]? = some (.suspended k l c p fs cl) := e
  by_cases z : i = g
  · subst z
    rw [Array.getElem?_setIfInBounds_self] at e
    split at e
    · exact hx _ _ _ _ _ _ (Option.some.inj e)
    · cases e
  · rw [Array.getElem?_setIfInBounds_ne (Ne.symm z)] at e
    exact h _ _ _ _ _ _ _ e
theorem Wf.push (h : Wf s) (hx : isSus x = false) : Wf { s with gens := s.gens.push x } := fun i k l c p fs cl e => by
  have e : (s.gens.push x)[i]? = some (.suspended k l c p fs cl) := e
  rw [Array.getElem?_push] at e
  split at e
  · cases e; cases hx
  · exact h _ _ _ _ _ _ _ e
end
def EndF : End → Prop
  | .ret _ => True
  | .susp _ _ _ _ _ _ fs => splitAtGen fs = none
theorem EndF.state {e : End} (h : EndF e) : ∀ k l c p fs cl, e.genState = .suspended k l c p fs cl → splitAtGen fs = none := fun k l c p fs cl q => by
  cases e with
  | ret r => cases q
  | susp v g l' k' c' p' fs' =>
    cases q
    exact h
section
variable {M : Model} {D : Nat → Option GenState}
structure Slp (s s1 s0 : Shared) : Prop where
  heap : s1.heap = s0.heap
  os : s1.os = s0.os
  bare : PyProof.Rows.AllBare s.gens → PyProof.Rows.AllBare s0.gens → PyProof.Rows.AllBare s1.gens
  kept : ∀ (g : Nat) (x : GenState), s.gens[g]? = some x → isSus x = true → s1.gens[g]? = some x
end
theorem psn_allBare {s : Shared} (h : PyProof.Rows.AllBare s.gens) : PyProof.Rows.AllBare (Psn s).gens := fun y hy => by
  obtain ⟨x, hx, rfl⟩ := Array.mem_map.mp (show y ∈ s.gens.map psn from hy)
  rw [psn_bare]; exact h x hx
end Lq

namespace Lq
open PySem PySem.Spec PyProof.Rows L2 GenW
open Evl (Ex)
def Fu (M : Model) (A : Around) (Φ : End → Shared → Prop) (c : Code) (t : Sem PySem.Fin) (fs : List Frame) (s : Shared) : Prop :=
  ∀ (Γ : PySem.Ctx) (p : Pos), Γ.code = c → Γ.Woken A → ∃ e s', Runs M Γ p t fs s e s' ∧ Φ e s'
section
variable {M : Model} {A : Around} {Φ : End → Shared → Prop} {c : Code} {fs : List Frame} {s : Shared}
end
section
variable {prog : Program} {w : World} {A : Around} {Φ : End → Shared → Prop} {fs : List Frame} {s : Shared} {env : Env}
end

def LSt (it l : Addr) (xs : List V) (j : Nat) (h : Heap) : Prop := h.IsListIter it l j ∧ ∃ its : List Value, Vals xs its ∧ h.IsList l its.toArray
def Trn (it : Addr) (s s' : Shared) : Prop := ∃ (h' : Heap) (tk : Nat), s' = { s with heap := h', toks := tk } ∧ ∀ b o, b ≠ it → s.heap.get? b = some o → h'.get? b = some o
def TR (it : Addr) (xs : List V) : GenEnd := fun n s₀ r s1 => ((r = .ok (.ret .none) ∨ r = .ok .next) ∧ (n + xs.length = sizeLine ∧ Trn it s₀ s1)) ∨ ∃ e, r = .error e ∧ False
def TY (it l : Addr) (xs : List V) : Protocol := fun n s₀ v s1 kap => ∃ j x, n + 1 + j = sizeLine ∧ xs[j]? = some x ∧ RelV x v ∧ Trn it s₀ s1 ∧ LSt it l xs (j + 1) s1.heap ∧ ∀ s'', LSt it l xs (j + 1) s''.heap → kap (.send .none) s''
end Lq

namespace Lq
open PySem PySem.Spec PyProof.Rows L2 GenW
open Evl (Ex)
abbrev SpY := List V → Hp → (List V → Addr → Hp → Prop) → Prop
def YF (P : Program) (w : World) (outer : List Env) (H : Hp) (s : Shared) (pins : List (Addr × Obj)) (a : Addr) (g : Nat) (Q : List V → Addr → Hp → Prop) (it l : Addr) (xs : List V) (s1 : Shared) : Prop :=
  ∃ H', s1.os = s.os ∧ AllBare s1.gens ∧ s1.heap.NoLimit ∧ Un (frs outer) [] H H' s.heap s1.heap ∧ HOk P w H' s1.heap ∧ H' l = some (.lst xs) ∧ LSt it l xs 0 s1.heap ∧ s.heap.objs.size ≤ it ∧ it ∉ frs outer ∧ a ≠ it ∧ (∀ b o, s.heap.get? b = some o → b ≠ it) ∧ (∀ p ∈ pins, p.1 ≠ it) ∧ l ≠ it ∧ H' it = none ∧ H' a = none ∧
    (∀ p ∈ pins, s1.heap.get? p.1 = some p.2 ∧ H' p.1 = none) ∧ s1.heap.IsGen a g ∧ xs.length ≤ sizeLine ∧ Q xs l H'
def YP (P : Program) (w : World) (A : Around) (outer : List Env) (H : Hp) (s : Shared) (pins : List (Addr × Obj)) (a : Addr) (g : Nat) (Q : List V → Addr → Hp → Prop) (e : End) (s' : Shared) : Prop :=
  ∃ it l xs s1, YF P w outer H s pins a g Q it l xs s1 ∧ SegEnd (TR it xs) (TY it l xs) sizeLine (Seg.next (model P w) A (TR it xs) (TY it l xs) sizeLine) s1 e s'
def YMade (P : Program) (w : World) (k : Nat) (outer : List Env) (H : Hp) (s : Shared) (sp : SpY) (vs : List V) (u : Value) (s' : Shared) : Prop :=
  ∃ (a : Addr) (g : Nat) (c : Code), u = .ref a ∧ s.heap.objs.size ≤ a ∧ a < s'.heap.objs.size ∧ s'.heap.IsGen a g ∧ s'.gens[g]? = some (.fresh c) ∧ s'.os = s.os ∧ AllBare s'.gens ∧ s'.heap.NoLimit ∧ (∀ b o, s.heap.get? b = some o → s'.heap.get? b = some o) ∧
    ∀ (A : Around) (s2 : Shared) (H2 : Hp) (pins : List (Addr × Obj)) (Q : List V → Addr → Hp → Prop), Room k A → A.frames = some outer → (∀ b o, s'.heap.get? b = some o → s2.heap.get? b = some o) → s2.os = s.os → AllBare s2.gens → HOk P w H2 s2.heap →
      (∀ b o, H b = some o → H2 b = some o) → (∀ b, b < s'.heap.objs.size → H b = none → H2 b = none) → (∀ p ∈ pins, s2.heap.get? p.1 = some p.2 ∧ H2 p.1 = none ∧ s'.heap.objs.size ≤ p.1 ∧ ∀ v, p.2.data ≠ .cell v) → sp vs H2 Q →
      Fu (model P w) A (YP P w A outer H s pins a g Q) c ((model P w).den c) [] s2
structure GFnY (P : Program) (w : World) (K : PySem.W.Frag) (mg : Str → Option Value) (base : Heap) (k : Nat) (f : Addr) (fd : FuncData) (ps : List Str) (sp : SpY) : Prop where
  run : ∀ (A : Around) (outer : List Env) (s : Shared) (H : Hp) (args : Args) (us : List Value) (vs : List V), Room k A → Env0 P w K mg base A outer s H → BindsTo s fd args (ps.zip us) → Vals vs us → vs.length = ps.length →
    codeAny (model P w) A (.call (.ref f) args) (fun r s' => match r with | .ok (.ret u) => YMade P w k outer H s sp vs u s' | _ => False) s
end Lq

namespace Lq
open PySem PySem.Spec PyProof.Rows L2 GenW
open Evl (Ex)
section
variable {P : Program} {w : World} {A : Around} {E : Value → Shared → Prop} {s : Shared}
structure YAt (P : Program) (w : World) (A : Around) (a : Addr) (g : Nat) (it l : Addr) (xs : List V) (j : Nat) (s : Shared) : Prop where
  gen : s.heap.IsGen a g
  at_ : LSt it l xs j s.heap
  len : xs.length ≤ sizeLine
  sus : ∃ k l0 c p fs cl m, s.gens[g]? = some (.suspended k l0 c p fs cl) ∧ m + j = sizeLine ∧ ∀ s'', LSt it l xs j s''.heap → Seg (model P w) A.in1 (TR it xs) (TY it l xs) m s'' c (k (.send .none)) fs s''
structure YTrn (it : Addr) (s s1 : Shared) : Prop where
  os : s1.os = s.os
  bare : AllBare s.gens → AllBare s1.gens
  keep : ∀ b o, b ≠ it → s.heap.get? b = some o → s1.heap.get? b = some o
theorem Trn.y {it : Addr} {s s1 : Shared} {g : Nat} {x y : GenState} (h : Trn it (s.setGen g x) s1) (hx : x.bare = true) (hy : y.bare = true) : YTrn it s (s1.setGen g y) := by
  obtain ⟨h', tk, rfl, hk⟩ := h
  exact ⟨rfl, fun z => allBare_setGen (s := { (s.setGen g x) with heap := h', toks := tk }) (allBare_setGen z hx) hy, fun b o hb e => hk b o hb e⟩
end
end Lq

namespace Lq
open PySem PySem.Spec PyProof.Rows L2 GenW
open Evl (Ex)
def Kg (s s1 : Shared) : Prop := ∀ (g : Nat) (x : GenState), s.gens[g]? = some x → isSus x = true → s1.gens[g]? = some x
theorem Kg.trans {s s1 s2 : Shared} (a : Kg s s1) (b : Kg s1 s2) : Kg s s2 := fun g x h hx => b g x (a g x h hx) hx
section
variable {X : Cx} {pins : List (Addr × Obj)} {σ : L2.St} {H H' : Hp} {s s0 s1 : Shared}
theorem Inv.psn (I : L2.Inv X pins σ H s) : L2.Inv X pins σ H (Psn s) := ⟨I.ok, I.os, psn_allBare I.bare, I.base, I.loc, I.cell, I.free, I.freeC, I.pin, I.hok, I.len⟩
end
section
variable {X : Cx} {pins : List (Addr × Obj)} {σ σ' : L2.St} {H1 H3 H6 : Hp} {sc s3 s4 s6 : Shared} {scope : Scope} {ce : Env}
end
abbrev TyG := L2.St → Hp → (List V → Hp → Prop) → Prop
structure PYG (X : Cx) (k : Nat) (e : Expr) (sp : SpY) (ty : TyG) : Prop where
  run : ∀ (pins : List (Addr × Obj)) (s : Shared) (σ : L2.St) (H : Hp) (R : List V → Hp → Prop), L2.Inv X pins σ H s → ty σ H R →
    wpAny (model X.prog X.w) X.A (eval e X.env) (fun u s' => ∃ H1 sc vs, L2.Inv X pins σ H1 sc ∧ R vs H1 ∧ YMade X.prog X.w k X.stack H1 sc sp vs u s') X.xe s
end Lq

namespace Lq
open PySem PySem.Spec PyProof.Rows L2 GenW
open Evl (Ex)
section
variable {X : Cx}
end
end Lq

namespace Lq
open PySem PySem.Spec PyProof.Rows L2 GenW
open Evl (Ex)
section
variable {X : Cx} {k : Nat} {elt tg iter : Expr} {ifs : List Expr} {scope : Scope} {own : List (Str × Nat)} {pos : Pos} {sp : SpY} {ty : TyG} {g : TG} {tt : TT} {te : TE}
end
section
variable {X : Cx} {k : Nat} {f C : Addr} {fd : FuncData} {ps : List Str} {sp : SpY} {m : Str} {p pos pos' apos : Pos} {o : Expr} {ta : TE}
end
end Lq

namespace Lq
open PySem PySem.Spec PyProof.Rows L2 GenW
open Evl (Ex)
theorem Out.later {K : PySem.W.Frag} {W : WX} {B F F' : Hp} {as as' : List Addr} {σ : L2.St} {α : Type} {r : R α} {Q : α → Hp → Hp → List Addr → Ms → Prop} (h : Out K W B F as σ r Q) (e : Ext F F' as as') : Out K W B F' as' σ r Q := by
  cases r with
  | ok a S => exact fun F2 H2 as2 e2 r2 => h F2 H2 as2 (e.trans e2) r2
  | er x S => exact fun F2 H2 as2 dx fs e2 r2 => h F2 H2 as2 dx fs (e.trans e2) r2
  | no => exact h
section
variable {X : Cx} {W : WX} {m : Ms → R Dt} {T : Tk} {t : Ms → R Bool} {e : Ms → R Dt} {own : List Nat} {C : Addr} {x : Str} {g : List Dt → FoN}
end
section
variable {X : Cx} {W : WX} {m : Ms → R Dt} {T : Tk} {t : Ms → R Bool} {fe : Ms → R Dt} {own : List (Str × Nat)} {C : Addr} {x y : Str} {g : List Dt → FoN} {k j : Nat} {p0 : Str} {o elt tg : Expr} {ifs : List Expr} {scope : Scope} {pos pos' apos : Pos} {i : Nat} {pl : Sem Bool}
end
end Lq

namespace Lq
open PySem PySem.Spec PyProof.Rows L2
open Evl (Ex)
theorem lc_coreA {X : Cx} {W : WX} {T : Tk} {t : Ms → R Bool} {e : Ms → R Dt} {own : List Nat} (hi : ∀ i ∈ T.is, i ∈ own) {σ : L2.St} {H1 : Hp} {Z : Hp → Prop} {B F1 : Hp} {as1 : List Addr} {S1 : Ms} {ds acc0 : List Dt} {accV0 : List V} {J : It} {D : Addr} (f2 : B D = none) (r1 : Rep X.K B F1 H1 as1 σ S1)
    (h1 : F1 D = none) (h2 : D ∉ as1) (h3 : H1 D = some (.lst accV0)) (h4 : RpA X.K F1 accV0 acc0) (w : Walks X.K F1 J ds)
    (o : Out X.K W B F1 as1 σ (lcF (wipeL S1.sl own) T.k t e ds S1.mo acc0) fun ys F' H' as' S' => ∀ vs, (Rep X.K B F' H' as' σ { S1 with mo := S'.mo }) → F' D = none → D ∉ as' → H' D = some (.lst vs) → RpA X.K F' vs ys → Z H') :
    ∃ W : Nat → Nat → Hp → Prop, (∃ m, W 0 m H1) ∧ ∀ i m H, W i m H →
      (J.stop i H ∧ Z H) ∨ (J.go i H ∧ ∃ Nx : Hp → Prop, (∀ H', Nx H' → ∃ m', m' < m ∧ W (i + 1) m' H') ∧ ∀ x H', J.yld i H x H' → T.g X.K x (wipe σ own) H' fun σ2 H2 => wipe σ2 own = wipe σ own ∧ tT X.K W0 t σ2 H2 fun b H3 =>
        if b = true then tD X.K W0 e σ2 H3 fun y H4 => ∃ acc, H4 D = some (.lst acc) ∧ acc.length < sizeLine ∧ Nx (upd H4 D (.lst (acc ++ [y]))) else Nx H3) := by
  refine ⟨fun i m H => m = ds.length - i ∧ i ≤ ds.length ∧ ∃ F2 as2 mo acc accV, Ext F1 F2 as1 as2 ∧ Rep X.K B F2 H as2 σ { S1 with mo := mo } ∧ F2 D = none ∧ D ∉ as2 ∧ H D = some (.lst accV) ∧ RpA X.K F2 accV acc ∧
    Out X.K W B F2 as2 σ (lcF (wipeL S1.sl own) T.k t e (ds.drop i) mo acc) fun ys F' H' as' S' => ∀ vs, (Rep X.K B F' H' as' σ { S1 with mo := S'.mo }) → F' D = none → D ∉ as' → H' D = some (.lst vs) → RpA X.K F' vs ys → Z H', ⟨ds.length, by simp, Nat.zero_le _, F1, as1, S1.mo, acc0, accV0, Ext.refl, r1, h1, h2, h3, h4, by rw [List.drop_zero]; exact o⟩, ?_⟩
  rintro i m H ⟨rfl, hle, F2, as2, mo, acc, accV, e2, r2, hF, hA, hH, hacc, o3⟩
  by_cases hlt : i < ds.length
  · refine .inr ⟨w.go i H hlt (e2.1.trans r2.fh), ?_⟩
    obtain ⟨d, hd⟩ : ∃ d, ds[i]? = some d := ⟨ds[i], by simp [hlt]⟩
    have hdrop : ds.drop i = d :: ds.drop (i + 1) := by
      rw [List.drop_eq_getElem_cons hlt]
      congr 1
      rw [List.getElem?_eq_getElem hlt] at hd
      exact Option.some.inj hd
    rw [hdrop] at o3
    refine ⟨fun H' => ∃ F2 as2 mo acc accV, Ext F1 F2 as1 as2 ∧ Rep X.K B F2 H' as2 σ { S1 with mo := mo } ∧ F2 D = none ∧ D ∉ as2 ∧ H' D = some (.lst accV) ∧ RpA X.K F2 accV acc ∧
      Out X.K W B F2 as2 σ (lcF (wipeL S1.sl own) T.k t e (ds.drop (i + 1)) mo acc) fun ys F' H' as' S' => ∀ vs, (Rep X.K B F' H' as' σ { S1 with mo := S'.mo }) → F' D = none → D ∉ as' → H' D = some (.lst vs) → RpA X.K F' vs ys → Z H', fun H' h => ⟨ds.length - (i + 1), by omega, rfl, hlt, h⟩, fun x H' hy => ?_⟩
    obtain ⟨d', hd', hx⟩ := w.yld i H x H' F2 hlt e2.1 r2.fh hy
    rw [hd] at hd'
    cases hd'
    have rh : Rep X.K (upd B D (.lst accV)) F2 H as2 σ { S1 with mo := mo } := r2.hold hH hF hA trivial
    -- the state at the turn
    obtain ⟨F3, e3, r3, hv3⟩ : ∃ F3, Ext F2 F3 as2 as2 ∧ Rep X.K (upd B D (.lst accV)) F3 H' as2 σ { S1 with mo := mo } ∧ Rp X.K F3 x d := by
      rcases hx with ⟨rfl, hx⟩ | ⟨T, ob, hT, rfl, hx⟩
      · exact ⟨F2, Ext.refl, rh, hx⟩
      · obtain ⟨ee, rr⟩ := rh.new hT ob
        exact ⟨_, ee, rr, hx⟩
    have r4 : Rep X.K (upd B D (.lst accV)) F3 H' as2 (wipe σ own) { sl := wipeL S1.sl own, mo := mo } := ⟨r3.fh, r3.bh, wipe_rp r3.sl own, r3.mo, r3.nd⟩
    unfold lcF at o3
    cases hk : T.k d { sl := wipeL S1.sl own, mo := mo } with
    | none => rw [hk] at o3; exact o3.elim
    | some S4 =>
      rw [hk] at o3
      dsimp only at o3
      refine T.run r4 hv3 hk fun σ4 r5 hw => ⟨by rw [hw own hi, wipe_wipe], ?_⟩
      refine ⟨_, F3, as2, S4, r5, ?_⟩
      cases ht : t S4 with
      | no => rw [ht] at o3; exact o3.elim
      | er x S5 => rw [ht] at o3; exact o3.elim
      | ok b S5 =>
        rw [ht] at o3
        intro F5 H5 as5 e5 r6
        cases b with
        | false =>
          show ∃ F2 as2 mo acc accV, _
          dsimp only at o3
          obtain ⟨r7, h7, h8, h9⟩ := (Rep.back r6 r3.sl e5).unhold f2
          have e25 := e3.trans e5
          exact ⟨F5, as5, S5.mo, acc, accV, e2.trans e25, r7, h8, h9, h7, hacc.up e25.1, by
            revert o3
            cases lcF (wipeL S1.sl own) T.k t e (ds.drop (i + 1)) S5.mo acc with
            | ok ys S' => exact fun o3 F' H' as' ee rr => o3 F' H' as' (e25.trans ee) rr
            | er y S' => exact fun o3 F' H' as' dx fs ee rr => o3 F' H' as' dx fs (e25.trans ee) rr
            | no => exact fun o3 => o3⟩
        | true =>
          show tD X.K W0 e σ4 H5 _
          dsimp only at o3
          refine ⟨_, F5, as5, S5, r6, ?_⟩
          cases he : e S5 with
          | no => rw [he] at o3; exact o3.elim
          | er x S6 => rw [he] at o3; exact o3.elim
          | ok y S6 =>
            rw [he] at o3
            dsimp only at o3
            split at o3
            · rename_i hlen
              intro F6 H6 as6 e6 r7 v hv
              obtain ⟨r8, h7, h8, h9⟩ := (Rep.back r7 r3.sl (e5.trans e6)).unhold f2
              have e26 := (e3.trans e5).trans e6
              refine ⟨accV, h7, Evl.sz_lt (by rw [hacc.length]; exact hlen), F6, as6, S6.mo, acc ++ [y], accV ++ [v], e2.trans e26, ?_, h8, h9, upd_same, (hacc.up e26.1).snoc hv, ?_⟩
              · refine ⟨fun a u hu => ?_, fun a u hu => ?_, r8.sl, ?_, r8.nd⟩
                · have n : a ≠ D := by
                    rintro rfl
                    rw [h8] at hu; cases hu
                  rw [upd_ne n]
                  exact r8.fh _ _ hu
                · have n : a ≠ D := by
                    rintro rfl
                    rw [f2] at hu; cases hu
                  rw [upd_ne n]
                  exact r8.bh a u hu
                · have : ∀ {xs : List Addr} {ys : List Mo}, (∀ a ∈ xs, a ≠ D) → Paired (MoR X.K B F6 H6) xs ys → Paired (MoR X.K B F6 (upd H6 D (.lst (accV ++ [v])))) xs ys := by
                    intro xs ys hn z
                    induction z with
                    | nil => exact .nil
                    | @cons a b l1 l2 z zs ih =>
                      refine .cons ?_ (ih fun a ha => hn a (List.mem_cons_of_mem _ ha))
                      cases b with
                      | ob ds =>
                        obtain ⟨z1, z2, ws, z3, z4⟩ := z
                        exact ⟨z1, z2, ws, by rw [upd_ne (hn _ List.mem_cons_self)]; exact z3, z4⟩
                      | fz d => exact z
                  exact this (fun a ha z => h9 (z ▸ ha)) r8.mo
              · revert o3
                cases lcF (wipeL S1.sl own) T.k t e (ds.drop (i + 1)) S6.mo (acc ++ [y]) with
                | ok ys S' => exact fun o3 F' H' as' ee rr => o3 F' H' as' (e26.trans ee) rr
                | er y S' => exact fun o3 F' H' as' dx fs ee rr => o3 F' H' as' dx fs (e26.trans ee) rr
                | no => exact fun o3 => o3
            · exact o3.elim
  · have e : i = ds.length := by omega
    subst e
    rw [List.drop_length] at o3
    unfold lcF at o3
    refine .inl ⟨w.stop H (e2.1.trans r2.fh), ?_⟩
    exact o3 F2 H as2 Ext.refl ⟨r2.fh, r2.bh, wipeL_rp r2.sl own, r2.mo, r2.nd⟩ accV r2 hF hA hH hacc
theorem Rep.newD {K : PySem.W.Frag} {B F1 H1 : Hp} {as1 : List Addr} {σ : L2.St} {S1 : Ms} (r1 : Rep K B F1 H1 as1 σ S1) {D : Addr} {o : HO} (hD : H1 D = none) : Rep K B F1 (upd H1 D o) as1 σ S1 := by
  refine ⟨fun a u hu => ?_, fun a u hu => ?_, r1.sl, r1.mo.mono fun a m z => ?_, r1.nd⟩
  · rw [upd_ne (ne_of_none (r1.fh _ _ hu) hD)]
    exact r1.fh _ _ hu
  · obtain ⟨z1, z2, z3⟩ := r1.bh a u hu
    exact ⟨by rw [upd_ne (ne_of_none z1 hD)]; exact z1, z2, z3⟩
  · cases m with
    | ob ds =>
      obtain ⟨z1, z2, ws, z3, z4⟩ := z
      exact ⟨z1, z2, ws, by rw [upd_ne (ne_of_none z3 hD)]; exact z3, z4⟩
    | fz d => exact z
def lcF2 (sl : List Sv) (k : Dt → Ms → Option Ms) (t : Ms → R Bool) (it1 : Ms → R (List Dt)) (k1 : Dt → Ms → Option Ms) (t1 : Ms → R Bool) (e : Ms → R Dt) (vs1 : List Nat) : List Dt → List Mo → List Dt → R (List Dt)
  | [], mo, acc => .ok acc { sl := sl, mo := mo }
  | d :: ds, mo, acc => match k d { sl := sl, mo := mo } with
    | none => .no
    | some S1 => match t S1 with
      | .ok false S2 => lcF2 sl k t it1 k1 t1 e vs1 ds S2.mo acc
      | .ok true S2 => (match it1 S2 with
        | .ok ds1 S3 => (match lcF (wipeL S3.sl vs1) k1 t1 e ds1 S3.mo acc with
          | .ok acc' S4 => lcF2 sl k t it1 k1 t1 e vs1 ds S4.mo acc'
          | _ => .no)
        | _ => .no)
      | _ => .no
def lcE2 (it : Ms → R (List Dt)) (k : Dt → Ms → Option Ms) (t : Ms → R Bool) (it1 : Ms → R (List Dt)) (k1 : Dt → Ms → Option Ms) (t1 : Ms → R Bool) (e : Ms → R Dt) (own vs1 : List Nat) : Ms → R (List Dt) := fun S => (it S).bind fun ds S1 => (lcF2 (wipeL S1.sl own) k t it1 k1 t1 e vs1 ds S1.mo []).bind fun ys S2 => .ok ys { sl := S1.sl, mo := S2.mo }
theorem lc2_run {X : Cx} {W : WX} {it it1 : Ms → R (List Dt)} {T T1 : Tk} {t t1 : Ms → R Bool} {e : Ms → R Dt} {own vs1 : List Nat} (hi : ∀ i ∈ T.is, i ∈ own) (hi1 : ∀ i ∈ T1.is, i ∈ vs1) {σ : L2.St} {H : Hp} {Q : VK}
    (q : tN X.K W (lcE2 it T.k t it1 T1.k t1 e own vs1) σ H Q) : tLc2 (tI X.K W it) (T.g X.K) (tT X.K W0 t) (tI X.K W0 it1) (T1.g X.K) (tT X.K W0 t1) (tD X.K W0 e) own vs1 σ H Q := by
  obtain ⟨B, F, as, S, r, o⟩ := q
  refine ⟨B, F, as, S, r, Out.mono (Out.bind o) fun ds F1 H1 as1 S1 ⟨r1, e1, o1⟩ J w => ?_⟩
  intro D hD
  obtain ⟨f1, f2, f3⟩ := r1.fresh hD
  have o2 := Out.bind o1
  refine ⟨fun i m H => m = ds.length - i ∧ i ≤ ds.length ∧ ∃ F2 as2 mo acc accV, Ext F1 F2 as1 as2 ∧ Rep X.K B F2 H as2 σ { S1 with mo := mo } ∧ F2 D = none ∧ D ∉ as2 ∧ H D = some (.lst accV) ∧ RpA X.K F2 accV acc ∧
    Out X.K W B F2 as2 σ (lcF2 (wipeL S1.sl own) T.k t it1 T1.k t1 e vs1 (ds.drop i) mo acc) fun ys F' H' as' S' => ∀ vs, (Rep X.K B F' H' as' σ { S1 with mo := S'.mo }) → F' D = none → D ∉ as' → H' D = some (.lst vs) → RpA X.K F' vs ys → Q (.ref D) H', ⟨ds.length, by simp, Nat.zero_le _, F1, as1, S1.mo, [], [], Ext.refl, r1.newD hD, f1, f3, upd_same, .nil, ?_⟩, ?_⟩
  · refine Out.mono o2 fun ys F' H' as' S' ⟨r', e', o3⟩ vs r'' hF hA hH hv => ?_
    exact o3 F' H' as' Ext.refl r'' D vs hF f2 hA hH hv
  · rintro i m H ⟨rfl, hle, F2, as2, mo, acc, accV, e2, r2, hF, hA, hH, hacc, o3⟩
    by_cases hlt : i < ds.length
    · refine .inr ⟨w.go i H hlt (e2.1.trans r2.fh), ?_⟩
      obtain ⟨d, hd⟩ : ∃ d, ds[i]? = some d := ⟨ds[i], by simp [hlt]⟩
      have hdrop : ds.drop i = d :: ds.drop (i + 1) := by
        rw [List.drop_eq_getElem_cons hlt]
        congr 1
        rw [List.getElem?_eq_getElem hlt] at hd
        exact Option.some.inj hd
      rw [hdrop] at o3
      refine ⟨fun H' => ∃ F2 as2 mo acc accV, Ext F1 F2 as1 as2 ∧ Rep X.K B F2 H' as2 σ { S1 with mo := mo } ∧ F2 D = none ∧ D ∉ as2 ∧ H' D = some (.lst accV) ∧ RpA X.K F2 accV acc ∧
        Out X.K W B F2 as2 σ (lcF2 (wipeL S1.sl own) T.k t it1 T1.k t1 e vs1 (ds.drop (i + 1)) mo acc) fun ys F' H' as' S' => ∀ vs, (Rep X.K B F' H' as' σ { S1 with mo := S'.mo }) → F' D = none → D ∉ as' → H' D = some (.lst vs) → RpA X.K F' vs ys → Q (.ref D) H', fun H' h => ⟨ds.length - (i + 1), by omega, rfl, hlt, h⟩, fun x H' hy => ?_⟩
      obtain ⟨d', hd', hx⟩ := w.yld i H x H' F2 hlt e2.1 r2.fh hy
      rw [hd] at hd'
      cases hd'
      have rh : Rep X.K (upd B D (.lst accV)) F2 H as2 σ { S1 with mo := mo } := r2.hold hH hF hA trivial
      -- the state at the turn
      obtain ⟨F3, e3, r3, hv3⟩ : ∃ F3, Ext F2 F3 as2 as2 ∧ Rep X.K (upd B D (.lst accV)) F3 H' as2 σ { S1 with mo := mo } ∧ Rp X.K F3 x d := by
        rcases hx with ⟨rfl, hx⟩ | ⟨T, ob, hT, rfl, hx⟩
        · exact ⟨F2, Ext.refl, rh, hx⟩
        · obtain ⟨ee, rr⟩ := rh.new hT ob
          exact ⟨_, ee, rr, hx⟩
      have r4 : Rep X.K (upd B D (.lst accV)) F3 H' as2 (wipe σ own) { sl := wipeL S1.sl own, mo := mo } := ⟨r3.fh, r3.bh, wipe_rp r3.sl own, r3.mo, r3.nd⟩
      unfold lcF2 at o3
      cases hk : T.k d { sl := wipeL S1.sl own, mo := mo } with
      | none => rw [hk] at o3; exact o3.elim
      | some S4 =>
        rw [hk] at o3
        dsimp only at o3
        refine T.run r4 hv3 hk fun σ4 r5 hw => ⟨by rw [hw own hi, wipe_wipe], ?_⟩
        refine ⟨_, F3, as2, S4, r5, ?_⟩
        cases ht : t S4 with
        | no => rw [ht] at o3; exact o3.elim
        | er x S5 => rw [ht] at o3; exact o3.elim
        | ok b S5 =>
          rw [ht] at o3
          intro F5 H5 as5 e5 r6
          cases b with
          | false =>
            show ∃ F2 as2 mo acc accV, _
            dsimp only at o3
            obtain ⟨r7, h7, h8, h9⟩ := (Rep.back r6 r3.sl e5).unhold f2
            have e25 := e3.trans e5
            exact ⟨F5, as5, S5.mo, acc, accV, e2.trans e25, r7, h8, h9, h7, hacc.up e25.1, by
              revert o3
              cases lcF2 (wipeL S1.sl own) T.k t it1 T1.k t1 e vs1 (ds.drop (i + 1)) S5.mo acc with
              | ok ys S' => exact fun o3 F' H' as' ee rr => o3 F' H' as' (e25.trans ee) rr
              | er y S' => exact fun o3 F' H' as' dx fs ee rr => o3 F' H' as' dx fs (e25.trans ee) rr
              | no => exact fun o3 => o3⟩
          | true =>
            show tI X.K W0 it1 σ4 H5 _
            dsimp only at o3
            refine ⟨_, F5, as5, S5, r6, ?_⟩
            cases hit : it1 S5 with
            | no => rw [hit] at o3; exact o3.elim
            | er x S6 => rw [hit] at o3; exact o3.elim
            | ok ds1 S6 =>
              rw [hit] at o3
              dsimp only at o3
              intro F6 H6 as6 e6 r7 J1 w1
              obtain ⟨r8, h7, h8, h9⟩ := r7.unhold f2
              have e26 := (e3.trans e5).trans e6
              refine lc_coreA (W := W) hi1 f2 r8 h8 h9 h7 (hacc.up e26.1) w1 ?_
              cases hl : lcF (wipeL S6.sl vs1) T1.k t1 e ds1 S6.mo acc with
              | no => rw [hl] at o3; exact o3.elim
              | er x S7 => rw [hl] at o3; exact o3.elim
              | ok acc' S7 =>
                rw [hl] at o3
                dsimp only at o3
                intro F7 H7 as7 e7 r9 vs r10 q1 q2 q3 q4
                have e27 := e26.trans e7
                refine ⟨F7, as7, S7.mo, acc', vs, e2.trans e27, Rep.back (S := { sl := S6.sl, mo := S7.mo }) r10 r3.sl ((e5.trans e6).trans e7), q1, q2, q3, q4, ?_⟩
                revert o3
                cases lcF2 (wipeL S1.sl own) T.k t it1 T1.k t1 e vs1 (ds.drop (i + 1)) S7.mo acc' with
                | ok ys S' => exact fun o3 F' H' as' ee rr => o3 F' H' as' (e27.trans ee) rr
                | er y S' => exact fun o3 F' H' as' dx fs ee rr => o3 F' H' as' dx fs (e27.trans ee) rr
                | no => exact fun o3 => o3
    · have e : i = ds.length := by omega
      subst e
      rw [List.drop_length] at o3
      unfold lcF2 at o3
      refine .inl ⟨w.stop H (e2.1.trans r2.fh), ?_⟩
      exact o3 F2 H as2 Ext.refl ⟨r2.fh, r2.bh, wipeL_rp r2.sl own, r2.mo, r2.nd⟩ accV r2 hF hA hH hacc
section
variable {X : Cx} {W : WX} {T T1 : Tk} {it it1 : Ms → R (List Dt)} {t t1 : Ms → R Bool} {fe : Ms → R Dt} {own : List (Str × Nat)} {y : Str} {elt tg iter tg1 iter1 : Expr} {ifs ifs1 : List Expr} {scope : Scope} {pos : Pos} {i : Nat}
theorem ds_lc2N {py spos : Pos} (hc : X.calm = true) (hN : X.N.Nodup) (hy : X.N[i]? = some y) (hyl : X.env.scope.names.lookup y = some .local)
    (hsw : swapsWith (.ListComp elt [⟨tg, iter, ifs, 0⟩, ⟨tg1, iter1, ifs1, 0⟩] scope pos) (some (.Name y py)) spos.line X.env = pure true) (hi : PI X tg iter (tI X.K W it)) (ok : BlkOk X.N X.env.scope scope own) {vs vs1 : List Nat} (hsub : ∀ i ∈ T.is, i ∈ vs) (hsub1 : ∀ i ∈ T1.is, i ∈ vs1) (hv : ∀ i ∈ vs1, i ∈ vs)
    (hg : ∀ (s : Shared) (H : Hp) (C : Addr) (cl : List (Str × Addr)) (fp : List Addr), DG (X.blk s H scope (compEnvC scope cl C X.env) fp) tg T) (ht : ∀ (s : Shared) (H : Hp) (C : Addr) (cl : List (Str × Addr)) (fp : List Addr), PTs (X.blk s H scope (compEnvC scope cl C X.env) fp) ifs (tT X.K W0 t))
    (hi1 : ∀ (s : Shared) (H : Hp) (C : Addr) (cl : List (Str × Addr)) (fp : List Addr), PI (X.blk s H scope (compEnvC scope cl C X.env) fp) tg1 iter1 (tI X.K W0 it1))
    (hg1 : ∀ (s : Shared) (H : Hp) (C : Addr) (cl : List (Str × Addr)) (fp : List Addr), DG (X.blk s H scope (compEnvC scope cl C X.env) fp) tg1 T1) (ht1 : ∀ (s : Shared) (H : Hp) (C : Addr) (cl : List (Str × Addr)) (fp : List Addr), PTs (X.blk s H scope (compEnvC scope cl C X.env) fp) ifs1 (tT X.K W0 t1))
    (he : ∀ (s : Shared) (H : Hp) (C : Addr) (cl : List (Str × Addr)) (fp : List Addr), PE (X.blk s H scope (compEnvC scope cl C X.env) fp) elt (tD X.K W0 fe)) (hs : ∀ x, foldedSetIterable iter X.env x = pure x := by intro _; rfl) (hs1 : ∀ env x, foldedSetIterable iter1 env x = pure x := by intro _ _; rfl) (hvs : own.map (·.2) = vs := by rfl) :
    PS X (.Assign [.Name y py] (.ListComp elt [⟨tg, iter, ifs, 0⟩, ⟨tg1, iter1, ifs1, 0⟩] scope pos) spos) (sD X.K W (asgN i (lcE2 it T.k t it1 T1.k t1 fe vs vs1))) := by
  subst hvs
  exact ⟨fun pins s σ H D I q => (ps_setLc2 hc hN hy hyl hsw hi ok hv (fun s H C cl fp => (hg s H C cl fp).pg) ht hi1 (fun s H C cl fp => (hg1 s H C cl fp).pg) ht1 he hs hs1).run pins s σ H D I (lc2_run (Q := fun x H1 => D.nx (σ.set i (some x)) H1) hsub hsub1 (asgN_run q))⟩
end
end Lq

namespace Lq
open PySem PySem.Spec PyProof.Rows L2 GenW
open Evl (Ex)
section
variable {X : Cx} {W : WX} {a b e o ix : Expr} {pos p p2 tpos : Pos} {f g : Ms → R Dt} {i : Nat} {x : Str}
def isi2O (T U : String) (d : Dt) : Option Dt := (tyN d).bind fun n => (kitB n T).bind fun b => (kitB n U).map fun c => .bl (b || c)
theorem de_isi2 {T U : String} {y z : Str} {k1 : Nat} {py pz : Pos} (hT : bootBuiltins y = some (.type T)) (hU : bootBuiltins z = some (.type U)) (hg : Gl X "isinstance") (hm : X.mg "isinstance" = none) (hgT : Gl X y) (hmT : X.mg y = none) (hgU : Gl X z) (hmU : X.mg z = none) (ha : PE X a (tD X.K W f))
    (hyn : y ≠ "__name__" := by decide) (hyd : (y == ("__debug__" : Str)) = false := by decide) (hzn : z ≠ "__name__" := by decide) (hzd : (z == ("__debug__" : Str)) = false := by decide)
    (ht : starEach [.Name y py, .Name z pz] X.env = (false, eval (.Name y py) X.env) :: starEach [.Name z pz] X.env := by rfl) (ht2 : starEach [.Name z pz] X.env = (false, eval (.Name z pz) X.env) :: starEach [] X.env := by rfl)
    (hs : ∀ t k q, starEach [a, .Tuple t k q] X.env = (false, eval a X.env) :: starEach [.Tuple t k q] X.env := by intros; rfl) (hs2 : ∀ t k q, starEach [.Tuple t k q] X.env = (false, eval (.Tuple t k q) X.env) :: starEach [] X.env := by intros; rfl) (hpl : ∀ t k q, (backTo pos (starEach [.Tuple t k q] X.env)).any (·.1) = false := by intros; rfl) :
    PE X (.Call (.Name "isinstance" p) [a, .Tuple [.Name y py, .Name z pz] k1 tpos] [] pos) (tD X.K W (op1 f (isi2O T U))) := by
  have hy : PE X (.Name y py) (tC (.ty T)) := pe_bltn hgT hmT hT rfl hyn hyd
  have hz : PE X (.Name z pz) (tC (.ty U)) := pe_bltn hgU hmU hU rfl hzn hzd
  refine monoE (pe_callB call_isiT hg hm (by decide +kernel) (pa_cons ha (pa_cons (pe_tup (pa_cons hy (pa_cons hz pa_nil ht2) ht)) pa_nil (hs2 _ _ _)) (hs _ _ _)) (by decide) (by decide) (hs _ _ _) (hpl _ _ _)) fun σ H Q q => ?_
  obtain ⟨B, F, as, S, r, o⟩ := q
  refine ⟨B, F, as, S, r, Out.mono (Out.bind o) fun d F1 H1 as1 S1 ⟨r1, e1, o1⟩ v hv => ?_⟩
  refine ⟨(by decide : 2 ≤ sizeLine), fun tp htp => ?_⟩
  show rIsiT X.K [v, .ref tp] _ Q
  unfold isi2O at o1
  cases hn : tyN d with
  | none => rw [hn] at o1; exact o1.elim
  | some n =>
    rw [hn] at o1
    dsimp only [Option.bind] at o1
    cases hk : kitB n T with
    | none => rw [hk] at o1; exact o1.elim
    | some k =>
      rw [hk] at o1
      dsimp only at o1
      cases hk2 : kitB n U with
      | none => rw [hk2] at o1; exact o1.elim
      | some k2 =>
        rw [hk2] at o1
        obtain ⟨e2, r2⟩ := r1.new htp (.tup [.ty T, .ty U])
        refine ⟨v, tp, _, .type n, [.type T, .type U], k || k2, rfl, upd_same, .cons (.ty T) (.cons (.ty U) .nil), tyx_of r2.fh (hv.up e2.1) hn, ?_, Out.now (o1.later e2) r2 _ (.bl _)⟩
        unfold PySem.W.kitAny
        rw [kit_ty hk]
        cases k with
        | true => rfl
        | false =>
          dsimp only
          unfold PySem.W.kitAny
          rw [kit_ty hk2]
          cases k2 <;> rfl
theorem de_gtup {q : Addr} {ds : List Dt} {vs : List V} {its : Array Value} {n : Nat} {dd : Option Addr} {sl : Array (Option Value)} (hg : Gl X x) (hm : X.mg x = some (.ref q)) (hk : X.K.lookup q = some ⟨.type "tuple", dd, .seq its n, sl⟩) (hz : its.size ≤ sizeLine) (hv : Vals vs its.toList) (hr : ∀ F, RpA X.K F vs ds)
    (hdb : (x == ("__debug__" : Str)) = false := by decide) : PE X (.Name x pos) (tD X.K W (cE (.scr true ds))) :=
  de_c (pe_glob (v := .ref q) hg hm rfl hdb) fun F => .scr true (show SqT X.K F q vs from .inr ⟨_, its, n, hk, rfl, rfl, hz, hv⟩) (hr F)
def KTup (K : PySem.W.Frag) (mg : Str → Option Value) (x : Str) (ds : List Dt) : Prop := ∃ (q : Addr) (dd : Option Addr) (its : Array Value) (n : Nat) (sl : Array (Option Value)) (vs : List V),
  mg x = some (.ref q) ∧ K.lookup q = some ⟨.type "tuple", dd, .seq its n, sl⟩ ∧ its.size ≤ sizeLine ∧ Vals vs its.toList ∧ ∀ F, RpA K F vs ds
theorem de_ktup {ds : List Dt} (h : KTup X.K X.mg x ds) (hg : Gl X x) (hdb : (x == ("__debug__" : Str)) = false := by decide) : PE X (.Name x pos) (tD X.K W (cE (.scr true ds))) := by
  obtain ⟨q, dd, its, n, sl, vs, h1, h2, h3, h4, h5⟩ := h
  exact de_gtup hg h1 h2 h3 h4 h5 hdb
theorem de_gint {t : Tok} {n : Int} (hg : Gl X x) (hm : X.mg x = some (.int n t)) (hdb : (x == ("__debug__" : Str)) = false := by decide) : PE X (.Name x pos) (tD X.K W (cE (.int n))) := de_c (pe_glob (v := .int n) hg hm ⟨t, rfl⟩ hdb) fun _ => .int n
end
end Lq

namespace Lq
open PySem PySem.Spec PyProof.Rows L2
open Evl (Ex)
inductive HdG (X : Cx) : List ExceptHandler → List (Value × Option Nat × (Addr → Value → Option Addr → TS)) → Prop
  | nil : HdG X [] []
  | cons {x : Str} {c : Value} {ts : Addr → Value → Option Addr → TS} {b₀ : Stmt} {suite : List Stmt} {np pos' : Pos} {hds : List ExceptHandler} {l : List (Value × Option Nat × (Addr → Value → Option Addr → TS))} (hc : Names X x c)
      (hsu : ∀ (a : Addr) (oe : Obj) (cls : Value) (d : Option Addr) (pn : List (Addr × Obj)), Zc cls d oe → (∃ vs, oe.data = Data.fields vs) → PSs (X.suite a ((a, oe) :: pn)) (b₀ :: suite) (ts a cls d)) (r : HdG X hds l) :
      HdG X (.ExceptHandler (some (.Name x np)) none (b₀ :: suite) pos' :: hds) ((c, none, ts) :: l)
  | nam {i : Nat} {x n : Str} {c : Value} {ts : Addr → Value → Option Addr → TS} {b₀ : Stmt} {suite : List Stmt} {np pos' : Pos} {hds : List ExceptHandler} {l : List (Value × Option Nat × (Addr → Value → Option Addr → TS))} (hN : X.N.Nodup) (hi : X.N[i]? = some n) (hln : X.env.kindOf n = some NameKind.local) (hc : Names X x c)
      (hsu : ∀ (a : Addr) (oe : Obj) (cls : Value) (d : Option Addr) (pn : List (Addr × Obj)), Zc cls d oe → (∃ vs, oe.data = Data.fields vs) → PSs (X.suite a ((a, oe) :: pn)) (b₀ :: suite) (ts a cls d)) (r : HdG X hds l) :
      HdG X (.ExceptHandler (some (.Name x np)) (some n) (b₀ :: suite) pos' :: hds) ((c, some i, ts) :: l)
inductive Hk where | st (h : Ms → O) | rf (f : Str) (i : Nat) | ap (f : Str) (i j : Nat)
structure Hc where
  C : Addr
  yes : List Addr
  nos : List Addr
  k : Hk
def Hk.ts (K : PySem.W.Frag) (C : Addr) : Hk → Addr → Value → Option Addr → TS
  | .st h => fun _ _ _ => sD K W0 h
  | .rf f i => fun a cls d D σ H => ∃ dx, cls = .ref C ∧ d = some dx ∧ tRet (tXf a (.ref C) (some dx) C f (tVar i)) D σ H
  | .ap f i j => fun a cls d D σ H => ∃ dx, cls = .ref C ∧ d = some dx ∧ ∃ p xs fs v, σ[j]? = some (some (.ref p)) ∧ H p = some (.lst xs) ∧ xs.length < sizeLine ∧ σ[i]? = some (some (.ref a)) ∧ H dx = some (.xd fs) ∧ fs.lookup f = some v ∧ D.nx σ (upd H p (.lst (xs ++ [v])))
def Hk.sl : Hk → Option Nat | .st _ => none | .rf _ i => some i | .ap _ i _ => some i
structure HcOk (K : PySem.W.Frag) (c : Hc) : Prop where
  yes : ∀ A ∈ c.yes, PySem.W.exmOne K (.ref A) (.ref c.C) = some true
  nos : ∀ A ∈ c.nos, PySem.W.exmOne K (.ref A) (.ref c.C) = some false
  sole : c.k.sl ≠ none → ∀ A ∈ c.yes, A = c.C
section
variable {X : Cx} {x n f : Str} {C : Addr} {i j : Nat} {h : Ms → O} {b₀ : Stmt} {suite : List Stmt} {np pos' p1 p2 p3 apos cpos : Pos} {hds : List ExceptHandler} {l : List (Value × Option Nat × (Addr → Value → Option Addr → TS))}
end
end Lq

namespace Lq
open PySem PySem.Spec PyProof.Rows L2
@[simp] theorem fldE_run' (C : Addr) (f : Str) (m : Ms → R Dt) (S : Ms) : fldE C f m S = (m S).bind fun d S1 => R.of (fldO C f d) S1 := nrfl rfl
theorem fldO_self (C : Addr) (f : Str) (ks : List Str) (ds : List Dt) : fldO C f (.obj C ks ds) = (ks.zip ds).lookup f := by unfold fldO; exact if_pos rfl
theorem makE_run {C : Addr} {n : Nat} {fs : Ms → R (List Dt)} {f : List Dt → Fo} {S S1 : Ms} {ds xs : List Dt} {ks : List Str} (h : fs S = .ok ds S1) (hn : ds.length = n) (hf : f ds = .ok (.obj C ks xs)) : makE C n fs f S = .ok (.obj C ks xs) S1 := by
  unfold makE
  rw [h, R.bind_ok, if_pos hn, hf]
  dsimp only
  rw [if_pos rfl]
theorem fldS_run {C : Addr} {f : Str} {i k : Nat} {m : Ms → R Dt} {S S1 : Ms} {d : Dt} {ks : List Str} {ds : List Dt} (h : m S = .ok d S1) (hi : ioAt S1 i = some (k, C, ks, ds)) (hf : f ∉ ks) (hl : ks.length < 100) : fldS C f i m S = .nx { S1 with mo := S1.mo.set k (.ob (.io C (ks ++ [f]) (ds ++ [d]))) } := by
  unfold fldS
  rw [h, R.stmt_ok, hi]
  dsimp only
  rw [if_pos ⟨rfl, hf, hl⟩]
theorem metE_run {C : Addr} {x : Str} {n : Nat} {m : Ms → R Dt} {fs : Ms → R (List Dt)} {g : List Dt → Fo} {S S1 S2 : Ms} {ks : List Str} {xs ds : List Dt} {d : Dt} (h : m S = .ok (.obj C ks xs) S1) (hx : x ∉ ks) (hf : fs S1 = .ok ds S2) (hn : ds.length + 1 = n) (hg : g (.obj C ks xs :: ds) = .ok d) : metE C x n m fs g S = .ok d S2 := by
  unfold metE
  rw [h, R.bind_ok]
  dsimp only
  rw [if_pos ⟨rfl, hx⟩, hf, R.bind_ok, if_pos hn, hg]
end Lq

namespace Lq
open PySem PySem.Spec PyProof.Rows L2
open Evl (Ex)
theorem fmin_spec : ∀ (ns : List Int) (n : Int), ns.foldl min n ∈ n :: ns ∧ ∀ y ∈ n :: ns, ns.foldl min n ≤ y
  | [], n => ⟨by simp, by simp⟩
  | m :: ns, n => by
    obtain ⟨h1, h2⟩ := fmin_spec ns (min n m)
    rw [List.foldl_cons]
    have hm := h2 (min n m) List.mem_cons_self
    refine ⟨?_, fun y hy => ?_⟩
    · rcases List.mem_cons.mp h1 with h | h
      · rw [h]
        rcases Int.le_total n m with q | q
        · rw [Int.min_eq_left q]; simp
        · rw [Int.min_eq_right q]; simp
      · exact List.mem_cons_of_mem _ (List.mem_cons_of_mem _ h)
    · rcases List.mem_cons.mp hy with rfl | hy
      · omega
      · rcases List.mem_cons.mp hy with rfl | hy
        · omega
        · exact h2 y (List.mem_cons_of_mem _ hy)
theorem fmax_spec : ∀ (ns : List Int) (n : Int), ns.foldl max n ∈ n :: ns ∧ ∀ y ∈ n :: ns, y ≤ ns.foldl max n
  | [], n => ⟨by simp, by simp⟩
  | m :: ns, n => by
    obtain ⟨h1, h2⟩ := fmax_spec ns (max n m)
    rw [List.foldl_cons]
    have hm := h2 (max n m) List.mem_cons_self
    refine ⟨?_, fun y hy => ?_⟩
    · rcases List.mem_cons.mp h1 with h | h
      · rw [h]
        rcases Int.le_total n m with q | q
        · rw [Int.max_eq_right q]; simp
        · rw [Int.max_eq_left q]; simp
      · exact List.mem_cons_of_mem _ (List.mem_cons_of_mem _ h)
    · rcases List.mem_cons.mp hy with rfl | hy
      · omega
      · rcases List.mem_cons.mp hy with rfl | hy
        · omega
        · exact h2 y (List.mem_cons_of_mem _ hy)
def minF : List Int → Option Int | [] => none | n :: ns => some (ns.foldl min n)
def maxF : List Int → Option Int | [] => none | n :: ns => some (ns.foldl max n)
def minLO : List Dt → Option Dt | [.lst xs] => (intsOf xs).bind fun ns => (minF ns).map .int | _ => none
def maxLO : List Dt → Option Dt | [.lst xs] => (intsOf xs).bind fun ns => (maxF ns).map .int | _ => none
section
variable {X : Cx} {W : WX} {a e : Expr} {p pos p2 kp : Pos} {f : Ms → R Dt}
theorem de_minL (hcalm : X.calm = true) (hg : Gl X "min") (hm : X.mg "min" = none) (ha : PE X a (tD X.K W f)) (hs : starEach [a] X.env = (false, eval a X.env) :: starEach [] X.env := by rfl) : PE X (.Call (.Name "min" p) [a] [] pos) (tD X.K W (calE (aCons f aNil) minLO)) :=
  de_calB (fun F H vs ds z Q ex hv hz q => by
    unfold minLO at hz
    split at hz <;> try cases hz
    rename_i xs
    cases hn : intsOf xs with
    | none => rw [hn] at hz; cases hz
    | some ns =>
      rw [hn] at hz
      cases ns with
      | nil => cases hz
      | cons n ns =>
        cases hz
        have e1 := intsOf_eq hn
        subst e1
        obtain ⟨v, rfl, h1⟩ := rpa1 hv
        cases h1 with
        | lst hs ha =>
          rw [ha.intsv] at hs
          refine ⟨_, _, rfl, Evl.ex_l ex (Evl.sq_of hs), by simp, fun m h2 h3 => ?_⟩
          obtain ⟨s1, s2⟩ := fmin_spec ns n
          have : m = ns.foldl min n := Int.le_antisymm (h3 _ s1) (s2 _ h2)
          rw [this]
          exact q.1 _ (.int _)) (cr_min hcalm) hg hm (by decide +kernel) (da_cons ha da_nil hs) (by decide) (by decide) hs (by rfl)
theorem de_maxL (hcalm : X.calm = true) (hg : Gl X "max") (hm : X.mg "max" = none) (ha : PE X a (tD X.K W f)) (hs : starEach [a] X.env = (false, eval a X.env) :: starEach [] X.env := by rfl) : PE X (.Call (.Name "max" p) [a] [] pos) (tD X.K W (calE (aCons f aNil) maxLO)) :=
  de_calB (fun F H vs ds z Q ex hv hz q => by
    unfold maxLO at hz
    split at hz <;> try cases hz
    rename_i xs
    cases hn : intsOf xs with
    | none => rw [hn] at hz; cases hz
    | some ns =>
      rw [hn] at hz
      cases ns with
      | nil => cases hz
      | cons n ns =>
        cases hz
        have e1 := intsOf_eq hn
        subst e1
        obtain ⟨v, rfl, h1⟩ := rpa1 hv
        cases h1 with
        | lst hs ha =>
          rw [ha.intsv] at hs
          refine ⟨_, _, rfl, Evl.ex_l ex (Evl.sq_of hs), by simp, fun m h2 h3 => ?_⟩
          obtain ⟨s1, s2⟩ := fmax_spec ns n
          have : m = ns.foldl max n := Int.le_antisymm (s2 _ h2) (h3 _ s1)
          rw [this]
          exact q.1 _ (.int _)) (cr_max hcalm) hg hm (by decide +kernel) (da_cons ha da_nil hs) (by decide) (by decide) hs (by rfl)
theorem ints_reads {h : Heap} {us : List Value} {w : List Int} (hi : IntsAre us w) : ∃ as, ReadsAll h us (w.map PyData.int) as := isT_reads (b := 0) hi
def rAnyT (K : PySem.W.Frag) : List V → Hp → VK → Prop := fun vs H Q => ∃ (a : Addr) (ns : List Int), vs = [V.ref a] ∧ SqT K H a (ns.map V.int) ∧ Q (.bl (ns.any fun n => n != 0)) H
theorem plain_ints : ∀ ns : List Int, PyData.plainAll (ns.map PyData.int) = true
  | [] => by simp [PyData.plainAll]
  | n :: ns => by simp [PyData.plainAll, PyData.plain, plain_ints ns]
theorem cr_anyT (hc : X.calm = true) : CallR X (.builtin "any") (rAnyT X.K) := by
  intro pins s σ H vs us Q I r h
  obtain ⟨a, ns, rfl, hs, q⟩ := h
  obtain ⟨its, rv, hl, hz⟩ := Inv.tuple I hs
  rw [Vals.ref1 r]
  have hl' : s.heap.IsTuple a its.toArray := hl
  obtain ⟨as, hrd⟩ := ints_reads rv.ints
  refine PySem.W.any_tuple_data (I.ok.hd hc) hl' hrd (plain_ints ns) (fun x hx => ?_) fun h' tk hk => ?_
  · obtain ⟨i, _, rfl⟩ := List.mem_map.mp hx
    trivial
  · refine ⟨.bl _, H, I.kept hk, ?_, q⟩
    show Value.bool _ = Value.bool _
    rw [List.any_map]
    rfl
def anyT : List Dt → Option Dt | [.tup xs] => (intsOf xs).map fun ns => .bl (ns.any fun n => n != 0) | _ => none
theorem de_anyT (hcalm : X.calm = true) (hg : Gl X "any") (hm : X.mg "any" = none) (ha : PE X a (tD X.K W f)) (hs : starEach [a] X.env = (false, eval a X.env) :: starEach [] X.env := by rfl) : PE X (.Call (.Name "any" p) [a] [] pos) (tD X.K W (calE (aCons f aNil) anyT)) :=
  de_calB (fun F H vs ds z Q ex hv hz q => by
    unfold anyT at hz
    split at hz <;> try cases hz
    rename_i xs
    cases hn : intsOf xs with
    | none => rw [hn] at hz; cases hz
    | some ns =>
      rw [hn] at hz
      cases hz
      have e1 := intsOf_eq hn
      subst e1
      obtain ⟨v, rfl, h1⟩ := rpa1 hv
      cases h1 with
      | tup hs ha =>
        rw [ha.intsv] at hs
        exact ⟨_, _, rfl, Evl.ex_t ex hs.sq, q.1 _ (.bl _)⟩) (cr_anyT hcalm) hg hm (by decide +kernel) (da_cons ha da_nil hs) (by decide) (by decide) hs (by rfl)
@[simp] theorem anyT_run (ns : List Int) : anyT [.tup (ns.map Dt.int)] = some (.bl (ns.any fun n => n != 0)) := by unfold anyT; dsimp only; rw [intsOf_map]; rfl
theorem minLO_run (ns : List Int) : minLO [.lst (ns.map Dt.int)] = (minF ns).map .int := by unfold minLO; dsimp only; rw [intsOf_map]; rfl
theorem maxLO_run (ns : List Int) : maxLO [.lst (ns.map Dt.int)] = (maxF ns).map .int := by unfold maxLO; dsimp only; rw [intsOf_map]; rfl
end
end Lq

namespace Lq
open PySem PySem.Spec PyProof.Rows L2
open Evl (Ex)
section
variable {X : Cx} {W W1 : WX} {a b : Expr} {pos : Pos} {f g : Ms → R Dt} {C : Addr} {j k : Nat} {ps : List Str} {e : List Dt → Fo}
structure IsC (K : PySem.W.Frag) (C : Addr) : Prop where
  cl : Cls K C
  ha : PySem.W.findIn K (.ref C) "__class__" = some (some (.builtin "object.__class__"))
  hn : PySem.W.specialIn K (.builtin "object.__class__") "__get__" = some (some (.builtin "getset_descriptor.__get__"))
  htk : PySem.W.takesIn K (.builtin "object.__class__") = some true
  hm : PySem.W.mroIn K C (.type "object") = some true
end
end Lq

namespace Lq
open PySem PySem.Spec PyProof.Rows L2
end Lq

namespace Lq
open PySem PySem.Spec PyProof.Rows L2
section
variable {X : Cx} {W : WX} {e : Expr} {x : Str} {i : Nat} {f : Ms → R Dt} {pos pos' : Pos}
end
end Lq

namespace Lq
open PySem PySem.Spec PyProof.Rows L2
section
variable {X : Cx} {W : WX} {o e : Expr} {i : Nat} {fn : Ms → R (List Dt)} {pos apos cpos : Pos}
theorem RpA.init {K : PySem.W.Frag} {F : Hp} : ∀ {vs : List V} {ds : List Dt}, RpA K F vs ds → RpA K F vs.dropLast ds.dropLast
  | _, _, .nil => .nil
  | _, _, .cons h .nil => .nil
  | _, _, .cons h (.cons h2 t) => .cons h (RpA.init (.cons h2 t))
end
end Lq

namespace Lq
open PySem PySem.Spec PyProof.Rows L2
open Evl (Ex)
section
variable {X : Cx} {W : WX} {tg : Expr} {p pos : Pos}
theorem walksD {K : PySem.W.Frag} {F : Hp} {lo c : Int} {n : Nat} {ds : List Dt} (h : ds = (List.range n).map fun (k : Nat) => Dt.int (lo + (k : Int) * c)) : Walks K F (Itc lo c n) ds := by
  subst h
  have hl : ((List.range n).map fun (k : Nat) => Dt.int (lo + (k : Int) * c)).length = n := by simp
  refine ⟨fun i H hi e => by rw [hl] at hi; exact hi, fun H e => by rw [hl]; exact Nat.le_refl _, fun i H x H' F1 hi e e2 y => ?_⟩
  rw [hl] at hi
  obtain ⟨rfl, rfl⟩ := y
  refine ⟨.int (lo + i * c), ?_, .inl ⟨rfl, .int _⟩⟩
  rw [List.getElem?_map, List.getElem?_range hi]
  rfl
theorem rpa3 {K : PySem.W.Frag} {F : Hp} {vs : List V} {d e g : Dt} (h : RpA K F vs [d, e, g]) : ∃ v w u, vs = [v, w, u] ∧ Rp K F v d ∧ Rp K F w e ∧ Rp K F u g := by
  cases h with
  | cons h1 h2 =>
    obtain ⟨w, u, rfl, h3, h4⟩ := rpa2 h2
    exact ⟨_, w, u, rfl, h1, h3, h4⟩
def itR3 (fs : Ms → R (List Dt)) : Ms → R (List Dt) := fun S => (fs S).bind fun ds S1 => match ds with
  | [.int i, .int j, .int c] => if -(2 ^ 62) ≤ i ∧ i < 2 ^ 62 ∧ -(2 ^ 62) ≤ j ∧ j < 2 ^ 62 ∧ c = -1 then .ok ((List.range (i - j).toNat).map fun (k : Nat) => Dt.int (i + (k : Int) * c)) S1 else .no
  | _ => .no
theorem di_range3 {a b c : Expr} (hg : Gl X "range") (hm : X.mg "range" = none) (ha : PA X [a, b, c] (tA X.K W fs)) (hs : starEach [a, b, c] X.env = (false, eval a X.env) :: starEach [b, c] X.env := by rfl) (hpl : (backTo pos (starEach [b, c] X.env)).any (·.1) = false := by rfl) : PI X tg (.Call (.Name "range" p) [a, b, c] [] pos) (tI X.K W (itR3 fs)) := monoI1 (pi_range3 hg hm ha hs hpl) fun σ H R q => by
  obtain ⟨B, F, as, S, r, o⟩ := q
  refine ⟨B, F, as, S, r, Out.mono (Out.bind o) fun ds F1 H1 as1 S1 ⟨r1, e1, o1⟩ vs hv => ?_⟩
  split at o1
  · rename_i i j c
    split at o1
    · rename_i hj
      obtain ⟨v, w, u, rfl, h1, h2, h3⟩ := rpa3 hv
      cases h1; cases h2; cases h3
      obtain ⟨j1, j2, j3, j4, rfl⟩ := hj
      exact ⟨_, _, _, _, rfl, RgC.neg j1 j2 j3 j4, Out.now o1 r1 _ (walksD rfl)⟩
    · exact o1.elim
  · exact o1.elim
def itRv (f : Ms → R Dt) : Ms → R (List Dt) := fun S => (f S).bind fun d S1 => match d with
  | .int j => if -(2 ^ 62) ≤ j ∧ j < 2 ^ 62 then .ok ((List.range j.toNat).map fun (k : Nat) => Dt.int ((j.toNat : Int) - 1 - (k : Int))) S1 else .no
  | _ => .no
theorem di_revR {a : Expr} {p2 pos2 : Pos} (hg2 : Gl X "reversed") (hm2 : X.mg "reversed" = none) (hg : Gl X "range") (hm : X.mg "range" = none) (ha : PE X a (tD X.K W f)) (na : starEach [a] X.env = (false, eval a X.env) :: starEach [] X.env := by rfl)
    (hs : starEach [.Call (.Name "range" p2) [a] [] pos2] X.env = (false, eval (.Call (.Name "range" p2) [a] [] pos2) X.env) :: starEach [] X.env := by rfl) : PI X tg (.Call (.Name "reversed" p) [.Call (.Name "range" p2) [a] [] pos2] [] pos) (tI X.K W (itRv f)) := monoI1 (pi_revR hg2 hm2 (prg_1 hg hm ha na) hs) fun σ H R q => by
  obtain ⟨B, F, as, S, r, o⟩ := q
  refine ⟨B, F, as, S, r, Out.mono (Out.bind o) fun d F1 H1 as1 S1 ⟨r1, e1, o1⟩ v hv => ?_⟩
  cases d with
  | int j =>
    cases hv
    dsimp only at o1
    split at o1
    · rename_i hj
      refine ⟨j, rfl, by decide, by decide, hj.1, hj.2, Out.now o1 r1 _ ?_⟩
      rw [Int.sub_zero]
      refine walksD ?_
      apply List.map_congr_left
      intro k _
      congr 1
      omega
    · exact o1.elim
  | _ => exact o1.elim
def revL (f : Ms → R Dt) : Ms → R (List Dt) := fun S => (f S).bind fun d S1 => match d with | .lst xs => .ok xs.reverse S1 | _ => .no
theorem dn_revL {e : Expr} {k : Nat} {p1 p2 p3 : Pos} (he : PE X e (tD X.K W f)) : PE X (.Subscript e (.Slice none none (some (.UnaryOp .USub (.Constant (.int 1) k p1) p2)) p3) pos) (tN X.K W (revL f)) := monoE (pe_revL he) fun σ H Q q => by
  obtain ⟨B, F, as, S, r, o⟩ := q
  refine ⟨B, F, as, S, r, Out.mono (Out.bind o) fun d F1 H1 as1 S1 ⟨r1, e1, o1⟩ v hv => ?_⟩
  cases d with
  | lst xs =>
    cases hv with
    | lst hs ha => exact ⟨_, _, rfl, Evl.ex_l r1.fh (Evl.sq_of hs), fun p hp => gvl_of o1 r1 p _ hp (RpA.rev ha)⟩
  | _ => exact o1.elim
theorem monoE2 {X : Cx} {e : Expr} {t t1 t2 : TE} (h1 : PE X e t1) (h2 : PE X e t2) (m : ∀ σ H Q, t σ H Q → t1 σ H Q ∨ t2 σ H Q) : PE X e t := ⟨fun pins s σ H Q I q => (m σ H Q q).elim (h1.run pins s σ H Q I) (h2.run pins s σ H Q I)⟩
def itEnL (f : Ms → R (List Dt)) : Ms → R (List Dt) := fun S => (f S).bind fun ds S1 => match ds with | [.lst xs] => .ok (enumD xs) S1 | _ => .no
theorem walksEnL {K : PySem.W.Frag} {F : Hp} {a : Addr} {xs : List V} {ds : List Dt} (hs : SqL K F a xs) (ha : RpA K F xs ds) : Lq.Walks K F (Ite K a) (enumD ds) := by
  have hl : (enumD ds).length = xs.length := by rw [enumD_len, ha.length]
  refine ⟨fun i H hi e => ?_, fun H e => ⟨xs, Evl.ex_l e hs, by rw [hl]; exact Nat.le_refl _⟩, fun i H x H' F1 hi e e2 y => ?_⟩
  · rw [hl] at hi
    exact ⟨xs, xs[i], Evl.ex_l e hs, by simp [hi]⟩
  · obtain ⟨T, u, rfl, h1, rfl, h2⟩ := y
    obtain ⟨d, d1, d2⟩ := ha.getv (h2 _ (Evl.ex_l (e.trans e2) hs))
    refine ⟨_, enumD_get d1, .inr ⟨T, .tup [.int i, u], h1, rfl, ?_⟩⟩
    have ht : F1 T = none := by
      cases w : F1 T with
      | none => rfl
      | some o => rw [e2 _ _ w] at h1; cases h1
    exact .tup upd_same (.cons (.int _) (.cons ((d2.up e).up (Ex.new ht)) .nil))
theorem di_enumL {e : Expr} {tpos : Pos} {elts : List Expr} {kk : Nat} (hg : Gl X "enumerate") (hm : X.mg "enumerate" = none) (ha : PA X [e] (tA X.K W fs)) (hs : starEach [e] X.env = [(false, eval e X.env)] := by rfl) :
    PI X (.Tuple elts kk tpos) (.Call (.Name "enumerate" p) [e] [] pos) (tI X.K W (itEnL fs)) := monoI1 (pi_enum hg hm ha hs) fun σ H R q => by
  obtain ⟨B, F, as, S, r, o⟩ := q
  refine ⟨B, F, as, S, r, Out.mono (Out.bind o) fun ds F1 H1 as1 S1 ⟨r1, e1, o1⟩ vs hv => ?_⟩
  split at o1
  · obtain ⟨v, rfl, h1⟩ := rpa1 hv
    cases h1 with
    | lst hs ha => exact ⟨_, _, rfl, Evl.ex_l r1.fh (Evl.sq_of hs), Out.now o1 r1 _ (walksEnL (Evl.sq_of hs) ha)⟩
  · exact o1.elim
def itEnA (f : Ms → R (List Dt)) : Ms → R (List Dt) := fun S => match f S with | .ok [.lst _] _ => itEnL f S | _ => itEn f S
theorem di_enumA {e : Expr} {tpos : Pos} {elts : List Expr} {kk : Nat} (hg : Gl X "enumerate") (hm : X.mg "enumerate" = none) (ha : PA X [e] (tA X.K W fs)) (hs : starEach [e] X.env = [(false, eval e X.env)] := by rfl) :
    PI X (.Tuple elts kk tpos) (.Call (.Name "enumerate" p) [e] [] pos) (tI X.K W (itEnA fs)) := monoI (di_enumL hg hm ha hs) (di_enum hg hm ha hs) fun σ H R q => by
  obtain ⟨B, F, as, S, r, o⟩ := q
  unfold itEnA at o
  split at o
  · exact .inl ⟨B, F, as, S, r, o⟩
  · exact .inr ⟨B, F, as, S, r, o⟩
def slA (f : Ms → R Dt) (lo hi : Ms → R (Option Int)) : Ms → R Dt := fun S => match f S with | .ok (.lst _) _ => frz (slL f lo hi) S | _ => slT f lo hi S
theorem de_sliceA {e : Expr} {lo hi : Option Expr} {fl fh : Ms → R (Option Int)} {p2 : Pos} (he : PE X e (tD X.K W f)) (hl : PO X lo (tO X.K W fl)) (hu : PO X hi (tO X.K W fh)) : PE X (.Subscript e (.Slice lo hi none p2) pos) (tD X.K W (slA f fl fh)) := monoE2 (de_frz (dn_sliceL he hl hu)) (de_sliceT he hl hu) fun σ H Q q => by
  obtain ⟨B, F, as, S, r, o⟩ := q
  unfold slA at o
  split at o
  · exact .inl ⟨B, F, as, S, r, o⟩
  · exact .inr ⟨B, F, as, S, r, o⟩
@[simp] theorem itEnA_lst {f : Ms → R (List Dt)} {S S1 : Ms} {xs : List Dt} (h : f S = .ok [.lst xs] S1) : itEnA f S = .ok (enumD xs) S1 := by
  unfold itEnA
  rw [h]
  dsimp only
  unfold itEnL
  rw [h, R.bind_ok]
@[simp] theorem itEnA_tup {f : Ms → R (List Dt)} {S S1 : Ms} {xs : List Dt} (h : f S = .ok [.tup xs] S1) : itEnA f S = .ok (enumD xs) S1 := by
  unfold itEnA
  rw [h]
  dsimp only
  unfold itEn
  rw [h, R.bind_ok]
end
end Lq

namespace Lq
open PySem PySem.Spec PyProof.Rows L2
open Evl (Ex)
section
variable {X : Cx} {W : WX} {x n fld y : Str} {C : Addr} {i : Nat} {m : Ms → O} {body : List Stmt} {np pos pos' p1 p2 p3 p4 p5 : Pos} {k5 : Nat}
end
end Lq

namespace Lq
open PySem PySem.Spec PyProof.Rows L2
open Evl (Ex)
section
variable {X : Cx} {W : WX} {e : Expr} {p pos : Pos} {f : Ms → R Dt}
end
section
variable {X : Cx} {W : WX} {x n fld y : Str} {C : Addr} {i : Nat} {m : Ms → O} {body : List Stmt} {np pos pos' p1 p2 p3 p4 p5 : Pos} {k5 kt : Nat}
end
end Lq

namespace Lq
open PySem PySem.Spec PyProof.Rows L2
open Evl (Ex)
open PySem.W (alike dataLt dataLe AllAlike Sortable EachIs)
section
variable {X : Cx} {W : WX} {e a b : Expr} {p pos : Pos}
def sortG (ds : List Dt) : List Dt := ds.mergeSort (dataLe false toPy)
def okS (ds : List Dt) : Prop := (∀ d ∈ ds, shp d = true ∧ (toPy d).depth ≤ 32) ∧ AllAlike (ds.map toPy) ∧ Sortable (ds.map toPy)
open Classical in
noncomputable def sortGO : List Dt → Option (List Dt)
  | [.lst ds] => if okS ds ∧ ds.length ≤ 100000 then some (sortG ds) else none
  | _ => none
theorem sortGO_run {ds : List Dt} (h : okS ds) (hl : ds.length ≤ 100000) : sortGO [.lst ds] = some (sortG ds) := by
  unfold sortGO
  dsimp only
  rw [if_pos ⟨h, hl⟩]
def rSortG (K : PySem.W.Frag) : List V → Hp → VK → Prop := fun vs H Q => ∃ (a : Addr) (xs : List V) (F : Hp) (ds : List Dt), vs = [V.ref a] ∧ SqL K H a xs ∧ Ex F H ∧ RpA K F xs ds ∧ okS ds ∧ ds.length ≤ 100000 ∧
  ∀ (ys : List V) (p : Addr), RpA K F ys (sortG ds) → H p = none → Q (.ref p) (upd H p (.lst ys))
theorem each_in {K : PySem.W.Frag} {F : Hp} : ∀ {xs : List V} {us : List Value} {ds : List Dt}, Vals xs us → RpA K F xs ds → EachIs (fun (u : Value) (d : Dt) => ∃ x, RelV x u ∧ Rp K F x d) us ds
  | _, _, _, .nil, .nil => .nil
  | _, _, _, .cons h t, .cons r rs => .cons ⟨_, h, r⟩ (each_in t rs)
theorem each_out {K : PySem.W.Frag} {F : Hp} : ∀ {us : List Value} {ds : List Dt}, EachIs (fun (u : Value) (d : Dt) => ∃ x, RelV x u ∧ Rp K F x d) us ds → ∃ ys : List V, Vals ys us ∧ RpA K F ys ds
  | _, _, .nil => ⟨[], .nil, .nil⟩
  | _, _, .cons h t => by
    obtain ⟨ys, e1, e2⟩ := each_out t
    obtain ⟨x, h1, h2⟩ := h
    exact ⟨x :: ys, .cons h1 e1, .cons h2 e2⟩
theorem cr_sortG (hu : X.A.units + 64 < cLine) : CallR X (.builtin "sorted") (rSortG X.K) := by
  intro pins s σ H vs us Q I r h
  obtain ⟨a, xs, F, ds, rfl, hs, ex, hr, hok, hlen, q⟩ := h
  obtain ⟨its, rv, hl, hz⟩ := I.list hs
  obtain ⟨u, rfl, ru⟩ := vals1 r
  obtain rfl : u = Value.ref a := ru
  have hE := each_in rv hr
  have hReads : EachIs (fun (v : Value) (d : Dt) => ∃ as, Reads s.heap v (toPy d) as) its ds := by
    have : ∀ {us : List Value} {es : List Dt}, (∀ d ∈ es, shp d = true) → EachIs (fun (u : Value) (d : Dt) => ∃ x, RelV x u ∧ Rp X.K F x d) us es → EachIs (fun (v : Value) (d : Dt) => ∃ as, Reads s.heap v (toPy d) as) us es := by
      intro us es hes h
      induction h with
      | nil => exact .nil
      | @cons u d us es hd t ih =>
        obtain ⟨x, h1, h2⟩ := hd
        have hsd := hes d List.mem_cons_self
        unfold shp at hsd
        rw [Bool.and_eq_true] at hsd
        exact .cons (Dp.reads I _ x u (Dp.up ex hsd.1 h2) h1) (ih fun d hd => hes d (List.mem_cons_of_mem _ hd))
    exact this (fun d hd => (hok.1 d hd).1) hE
  have hlx : xs.length = ds.length := hr.length
  have hsz : (100000 : Nat) ≤ sizeLine := by decide
  refine PySem.W.sorted_data (enc := toPy) hl.isList hE hReads hok.2.1 hok.2.2 (by omega) (fun d hd => by have := (hok.1 d hd).2; omega) fun out ho he => ?_
  obtain ⟨ys, h1, h2⟩ := each_out he
  have hyl : ys.length = ds.length := by
    have := h2.length
    rw [this]
    exact List.length_mergeSort _
  obtain ⟨n, hn⟩ : ∃ n, (PyProof.Rows.sortedAll s.heap its (List.toArray out)).get? (s.heap.objs.size + 1) = some (PyProof.Rows.seqObj "list" out.toArray n) := PyProof.Rows.sortedAll_at s.heap _ _
  refine ⟨.ref (s.heap.objs.size + 1), upd H (s.heap.objs.size + 1) (.lst ys), I.laid (t' := s.toks) (fun b o e => PyProof.Rows.sortedAll_old e) (Nat.le_succ _) ⟨by omega, out, n, h1, hn⟩, rfl, q ys _ h2 (I.hok.fresh (Nat.le_succ _))⟩
theorem dn_sortedG {f : Ms → R Dt} (hu : X.A.units + 64 < cLine) (hg : Gl X "sorted") (hm : X.mg "sorted" = none) (ha : PE X e (tD X.K W f)) (hs : starEach [e] X.env = (false, eval e X.env) :: starEach [] X.env := by rfl) : PE X (.Call (.Name "sorted" p) [e] [] pos) (tN X.K W (calN (aCons f aNil) sortGO)) :=
  monoE (pe_callB (cr_sortG hu) hg hm (by decide +kernel) (da_cons ha da_nil hs) (by decide) (by decide) hs (by rfl)) fun σ H Q q => by
    obtain ⟨B, F, as, S, r0, o⟩ := q
    refine ⟨B, F, as, S, r0, Out.mono (Out.bind o) fun ds F1 H1 as1 S1 ⟨r1, e1, o1⟩ vs hv => ?_⟩
    cases hz : sortGO ds with
    | none => rw [hz] at o1; exact o1.elim
    | some z =>
      rw [hz] at o1
      unfold sortGO at hz
      split at hz
      · rename_i xs _
        split at hz
        · rename_i hc
          cases hz
          obtain ⟨v, rfl, h1⟩ := rpa1 hv
          cases h1 with
          | lst hs ha => exact ⟨_, _, F1, xs, rfl, Evl.ex_l r1.fh (Evl.sq_of hs), r1.fh, ha, hc.1, hc.2, fun ys p h2 hp => gvl_of o1 r1 p _ hp h2⟩
        · cases hz
      · cases hz
def encQ (q : Int × List Int) : Dt := .tup [.int q.1, Wd q.2]
def pairOf : Dt → Option (Int × List Int) | .tup [.int i, d] => (wordOf d).map fun w => (i, w) | _ => none
theorem pairOf_eq {d : Dt} {q : Int × List Int} (h : pairOf d = some q) : d = encQ q := by
  unfold pairOf at h
  split at h
  · rename_i i d
    cases hw : wordOf d with
    | none => rw [hw] at h; cases h
    | some w =>
      rw [hw] at h
      cases h
      rw [wordOf_eq hw]
      rfl
  · cases h
def pairsOf : List Dt → Option (List (Int × List Int))
  | [] => some []
  | d :: ds => match pairOf d, pairsOf ds with | some q, some qs => some (q :: qs) | _, _ => none
theorem pairsOf_eq : ∀ {ds : List Dt} {qs : List (Int × List Int)}, pairsOf ds = some qs → ds = qs.map encQ
  | [], qs, h => by simp [pairsOf] at h; subst h; rfl
  | d :: ds, qs, h => by
    unfold pairsOf at h
    cases h1 : pairOf d with
    | none => rw [h1] at h; cases h
    | some q =>
      rw [h1] at h
      cases h2 : pairsOf ds with
      | none => rw [h2] at h; cases h
      | some r =>
        rw [h2] at h
        cases h
        rw [pairOf_eq h1, pairsOf_eq h2]; rfl
def ltQ (q r : Int × List Int) : Bool := decide (q.1 < r.1) || (decide (q.1 = r.1) && decide (q.2 < r.2))
def leQ (q r : Int × List Int) : Bool := !ltQ r q
def insQ (q : Int × List Int) : List (Int × List Int) → List (Int × List Int)
  | [] => [q]
  | r :: rs => if leQ q r = true then q :: r :: rs else r :: insQ q rs
def isortQ : List (Int × List Int) → List (Int × List Int)
  | [] => []
  | q :: qs => insQ q (isortQ qs)
theorem leQ_iff {q r : Int × List Int} : leQ q r = true ↔ q.1 < r.1 ∨ (q.1 = r.1 ∧ q.2 ≤ r.2) := by
  unfold leQ ltQ
  have h : ¬ r.2 < q.2 ↔ q.2 ≤ r.2 := List.not_lt
  rw [Bool.not_eq_true', Bool.or_eq_false_iff, Bool.and_eq_false_iff, decide_eq_false_iff_not, decide_eq_false_iff_not, decide_eq_false_iff_not, h]
  constructor
  · rintro ⟨h1, h2⟩
    by_cases e : q.1 = r.1
    · rcases h2 with h2 | h2
      · exact absurd e.symm h2
      · exact .inr ⟨e, h2⟩
    · exact .inl (by omega)
  · rintro (h1 | ⟨h1, h2⟩)
    · exact ⟨by omega, .inl (by omega)⟩
    · exact ⟨by omega, .inr h2⟩
theorem leQ_trans {q r s : Int × List Int} (h1 : leQ q r = true) (h2 : leQ r s = true) : leQ q s = true := by
  rw [leQ_iff] at *
  rcases h1 with h1 | ⟨h1, g1⟩ <;> rcases h2 with h2 | ⟨h2, g2⟩
  · exact .inl (by omega)
  · exact .inl (by omega)
  · exact .inl (by omega)
  · exact .inr ⟨by omega, List.le_trans g1 g2⟩
theorem leQ_total (q r : Int × List Int) : leQ q r = true ∨ leQ r q = true := by
  rw [leQ_iff, leQ_iff]
  rcases Int.lt_trichotomy q.1 r.1 with h | h | h
  · exact .inl (.inl h)
  · rcases List.le_total q.2 r.2 with g | g
    · exact .inl (.inr ⟨h, g⟩)
    · exact .inr (.inr ⟨h.symm, g⟩)
  · exact .inr (.inl h)
theorem leQ_anti {q r : Int × List Int} (h1 : leQ q r = true) (h2 : leQ r q = true) : q = r := by
  rw [leQ_iff] at *
  rcases h1 with h1 | ⟨h1, g1⟩ <;> rcases h2 with h2 | ⟨h2, g2⟩
  · omega
  · omega
  · omega
  · exact Prod.ext h1 (List.le_antisymm g1 g2)
theorem insQ_perm (q : Int × List Int) : ∀ rs, (insQ q rs).Perm (q :: rs)
  | [] => List.Perm.refl _
  | r :: rs => by
    unfold insQ
    split
    · exact List.Perm.refl _
    · exact ((insQ_perm q rs).cons r).trans (List.Perm.swap q r rs)
theorem isortQ_perm : ∀ qs, (isortQ qs).Perm qs
  | [] => List.Perm.refl _
  | q :: qs => (insQ_perm q _).trans ((isortQ_perm qs).cons q)
theorem insQ_pw (q : Int × List Int) : ∀ rs, rs.Pairwise (fun a b => leQ a b = true) → (insQ q rs).Pairwise fun a b => leQ a b = true
  | [], _ => List.pairwise_singleton _ _
  | r :: rs, h => by
    have hc := List.pairwise_cons.mp h
    unfold insQ
    split
    · rename_i hq
      refine List.pairwise_cons.mpr ⟨fun x hx => ?_, h⟩
      rcases List.mem_cons.mp hx with rfl | hx
      · exact hq
      · exact leQ_trans hq (hc.1 x hx)
    · rename_i hq
      refine List.pairwise_cons.mpr ⟨fun x hx => ?_, insQ_pw q rs hc.2⟩
      rcases List.mem_cons.mp ((insQ_perm q rs).mem_iff.mp hx) with rfl | hx
      · exact (leQ_total x r).resolve_left hq
      · exact hc.1 x hx
theorem isortQ_pw : ∀ qs, (isortQ qs).Pairwise fun a b => leQ a b = true
  | [] => List.Pairwise.nil
  | q :: qs => insQ_pw q _ (isortQ_pw qs)
theorem sortQ_unique : ∀ {xs ys : List (Int × List Int)}, xs.Perm ys → xs.Pairwise (fun a b => leQ a b = true) → ys.Pairwise (fun a b => leQ a b = true) → xs = ys
  | [], _, h, _, _ => h.nil_eq
  | x :: xs, [], h, _, _ => absurd h.symm.nil_eq (by simp)
  | x :: xs, y :: ys, h, h1, h2 => by
    have c1 := List.pairwise_cons.mp h1
    have c2 := List.pairwise_cons.mp h2
    have e : x = y := by
      rcases List.mem_cons.mp (h.mem_iff.mp (List.mem_cons_self (a := x) (l := xs))) with e | hx
      · exact e
      · rcases List.mem_cons.mp (h.mem_iff.mpr (List.mem_cons_self (a := y) (l := ys))) with e | hy
        · exact e.symm
        · exact leQ_anti (c1.1 y hy) (c2.1 x hx)
    subst e
    rw [sortQ_unique h.cons_inv c1.2 c2.2]
theorem mergeQ (qs : List (Int × List Int)) : qs.mergeSort leQ = isortQ qs :=
  sortQ_unique ((List.mergeSort_perm _ _).trans (isortQ_perm qs).symm) (List.pairwise_mergeSort (le := leQ) (fun a b c => leQ_trans) (fun a b => (Bool.or_eq_true _ _).mpr (leQ_total a b)) qs) (isortQ_pw qs)
theorem dataLt_encQ (q r : Int × List Int) : dataLt (toPy (encQ q)) (toPy (encQ r)) = ltQ q r := by
  have e : ∀ q : Int × List Int, toPy (encQ q) = .tuple [.int q.1, .tuple (q.2.map .int)] := fun q => by
    unfold encQ Wd
    simp only [toPy, toPys]
    rw [toPys_map, List.map_map]
    rfl
  rw [e, e, PySem.W.dataLt_tuple]
  have ha : PySem.W.alike (.int q.1) (.int r.1) = true := by simp [PySem.W.alike]
  have hb : PySem.W.alike (.tuple (q.2.map PyData.int)) (.tuple (r.2.map PyData.int)) = true := by
    simp only [PySem.W.alike]
    have : ∀ a b : List Int, PySem.W.alikeAll (a.map PyData.int) (b.map PyData.int) = true := by
      intro a
      induction a with
      | nil => intro b; simp [PySem.W.alikeAll]
      | cons x a ih => intro b; cases b with
        | nil => simp [PySem.W.alikeAll]
        | cons y b => simp [PySem.W.alikeAll, PySem.W.alike, ih]
    exact this _ _
  have hd : dataLt (.tuple (q.2.map PyData.int)) (.tuple (r.2.map PyData.int)) = decide (q.2 < r.2) := by
    rw [PySem.W.dataLt_tuple]
    exact PySem.W.dataLt_ints _ _
  unfold ltQ
  by_cases h : q.1 = r.1
  · rw [PySem.W.dataLt_all_yes ha (by simp [PyData.eqv, h])]
    by_cases h2 : q.2 = r.2
    · have h3 : ∀ a : List Int, PyData.eqv (.tuple (a.map PyData.int)) (.tuple (a.map PyData.int)) = true := by
        intro a
        simp only [PyData.eqv]
        induction a with
        | nil => simp [PyData.eqvAll]
        | cons x a ih => simp [PyData.eqvAll, PyData.eqv, ih]
      rw [PySem.W.dataLt_all_yes hb (by rw [h2]; exact h3 _)]
      have hirr : ¬ q.2 < r.2 := by rw [h2]; exact List.lt_irrefl _
      simp only [decide_eq_false hirr, Bool.and_false, Bool.or_false]
      rw [h]
      simp
      exact PyProof.Rows.lex_irrefl _
    · have h4 : PyData.eqv (.tuple (q.2.map PyData.int)) (.tuple (r.2.map PyData.int)) = false := by
        have := En.eqv (α := List Int) q.2 r.2
        rw [decide_eq_false h2] at this
        have e2 : ∀ w : List Int, toPy (En.en w) = .tuple (w.map PyData.int) := fun w => by
          show toPy (Wd w) = _
          unfold Wd
          simp only [toPy]
          rw [toPys_map, List.map_map]
          rfl
        rw [e2, e2] at this
        exact this
      rw [PySem.W.dataLt_all_no hb h4, hd, h]
      simp
  · have h5 : PyData.eqv (.int q.1) (.int r.1) = false := by simp [PyData.eqv, h]
    rw [PySem.W.dataLt_all_no ha h5]
    rw [PySem.W.dataLt_int]
    simp [h]
theorem sortG_encQ (qs : List (Int × List Int)) : sortG (qs.map encQ) = (isortQ qs).map encQ := by
  unfold sortG
  rw [← mergeQ]
  refine (List.map_mergeSort (fun a _ b _ => ?_)).symm
  show leQ a b = !dataLt (toPy (encQ b)) (toPy (encQ a))
  rw [dataLt_encQ]
  rfl
theorem okS_encQ {qs : List (Int × List Int)} (h : ∀ q ∈ qs, q.2.length ≤ 1000) : okS (qs.map encQ) := by
  have e : ∀ q : Int × List Int, toPy (encQ q) = .tuple [.int q.1, .tuple (q.2.map .int)] := fun q => by
    unfold encQ Wd
    simp only [toPy, toPys]
    rw [toPys_map, List.map_map]
    rfl
  refine ⟨fun d hd => ?_, fun d hd d' hd' => ?_, .inl fun d hd => ?_⟩
  · obtain ⟨q, hq, rfl⟩ := List.mem_map.mp hd
    have h1 : shp (En.en (α := Int × List Int) q) = true := shp_en (by decide) q
    have h2 := En.depth (α := Int × List Int) q
    exact ⟨h1, Nat.le_trans h2 (by decide)⟩
  · rw [List.map_map] at hd hd'
    obtain ⟨q, hq, rfl⟩ := List.mem_map.mp hd
    obtain ⟨r, hr, rfl⟩ := List.mem_map.mp hd'
    show alike (toPy (encQ q)) (toPy (encQ r)) = true
    rw [e, e]
    have : ∀ a b : List Int, PySem.W.alikeAll (a.map PyData.int) (b.map PyData.int) = true := by
      intro a
      induction a with
      | nil => intro b; simp [PySem.W.alikeAll]
      | cons x a ih => intro b; cases b with
        | nil => simp [PySem.W.alikeAll]
        | cons y b => simp [PySem.W.alikeAll, PySem.W.alike, ih]
    simp [PySem.W.alike, PySem.W.alikeAll, this]
  · rw [List.map_map] at hd
    obtain ⟨q, hq, rfl⟩ := List.mem_map.mp hd
    exact ⟨_, _, e q⟩
def sortPO : List Dt → Option (List Dt)
  | [.lst ds] => (pairsOf ds).bind fun qs => if (qs.all fun q => decide (q.2.length ≤ 1000)) = true ∧ qs.length ≤ 100000 then some ((isortQ qs).map encQ) else none
  | _ => none
theorem sortPO_G {ds : List Dt} {z : List Dt} (h : sortPO ds = some z) : sortGO ds = some z := by
  unfold sortPO at h
  split at h
  · rename_i xs
    cases hp : pairsOf xs with
    | none => rw [hp] at h; cases h
    | some qs =>
      rw [hp] at h
      dsimp only [Option.bind] at h
      split at h
      · rename_i hc
        cases h
        have e := pairsOf_eq hp
        subst e
        rw [sortGO_run (okS_encQ fun q hq => by have := List.all_eq_true.mp hc.1 q hq; simpa using this) (by rw [List.length_map]; exact hc.2), sortG_encQ]
      · cases h
  · cases h
theorem dn_sortedP {f : Ms → R Dt} (hu : X.A.units + 64 < cLine) (hg : Gl X "sorted") (hm : X.mg "sorted" = none) (ha : PE X e (tD X.K W f)) (hs : starEach [e] X.env = (false, eval e X.env) :: starEach [] X.env := by rfl) : PE X (.Call (.Name "sorted" p) [e] [] pos) (tN X.K W (calN (aCons f aNil) sortPO)) :=
  monoE (dn_sortedG (W := W) hu hg hm ha hs) fun σ H Q q => by
    obtain ⟨B, F, as, S, r0, o⟩ := q
    refine ⟨B, F, as, S, r0, ?_⟩
    unfold calN at o ⊢
    revert o
    cases aCons f aNil S with
    | ok ds S1 =>
      simp only [R.bind_ok]
      cases hz : sortPO ds with
      | none => intro o; exact o.elim
      | some z => rw [sortPO_G hz]; exact fun o => o
    | er e S1 => exact fun o => o
    | no => exact fun o => o
end
end Lq

namespace Lq
open PySem PySem.Spec PyProof.Rows L2
def addW (p : Int) (v w : List Int) : List Int := List.zipWith (fun a b => (a + b) % p) v w
def scW (p a : Int) (v : List Int) : List Int := v.map fun x => x * a % p
def okP (p : Int) : Bool := decide (0 < p ∧ p ≤ 1000)
def okW (p : Int) (v : List Int) : Bool := decide (v.length ≤ 1000) && v.all fun x => decide (0 ≤ x ∧ x < p)
theorem okP_iff {p : Int} : okP p = true ↔ 0 < p ∧ p ≤ 1000 := by simp [okP]
theorem okW_iff {p : Int} {v : List Int} : okW p v = true ↔ v.length ≤ 1000 ∧ ∀ x ∈ v, 0 ≤ x ∧ x < p := by simp [okW]

def m_add : Ms → O := (retS (calE (aCons (frz (lcE (itZ (aCons (varE 0) (aCons (varE 1) aNil))) (Tk.tp [3, 4]).k yesT (op2 (op2 (varE 3) (varE 4) addO) (varE 2) modO) [3, 4])) aNil) tupO))
def m_scaled : Ms → O := (retS (calE (aCons (frz (lcE (itS (varE 0)) (Tk.nm 3).k yesT (op2 (op2 (varE 3) (varE 1) mulO) (varE 2) modO) [3])) aNil) tupO))
def m__law_scaled : Ms → O := (retS (calE (aCons (frz (lcE (itS (varE 0)) (Tk.nm 3).k yesT (op2 (calE (aCons (op2 (varE 3) (varE 1) mulO) aNil) intO) (varE 2) modO) [3])) aNil) tupO))
def m__law_take : Ms → O := (seqS (ifS (tst (op2 (ixV 0 (cE (.int 0))) (cE (.int 0)) gtO)) (seqS (asgS 2 (op2 (calE (aCons (ixV 0 (cE (.int 0))) aNil) intO) (varE 1) modO))
  (seqS (setS 0 (op2 (ixV 0 (cE (.int 0))) (varE 1) divO) (cE (.int 0)))
  (retS (varE 2)))) nilS)
  (seqS (setS 0 (op2 (calE (aCons (op2 (op2 (ixV 0 (cE (.int 1))) (cE (.int 48271)) mulO) (cE (.int 11)) addO) aNil) intO) (cE (.int 2147483647)) modO) (cE (.int 1)))
  (retS (op2 (calE (aCons (op2 (ixV 0 (cE (.int 1))) (cE (.int 7)) divO) aNil) intO) (varE 1) modO))))
def FaddW : List Dt → Fo
  | [d, e, .int p] => match wordOf d, wordOf e with
    | some v, some w => if (okP p && okW p v && okW p w && decide (v.length = w.length)) = true then .ok (Wd (addW p v w)) else .no
    | _, _ => .no
  | _ => .no
theorem FaddW_inv {ds : List Dt} (h : FaddW ds ≠ .no) : ∃ v w p, ds = [Wd v, Wd w, .int p] ∧ okP p = true ∧ okW p v = true ∧ okW p w = true ∧ v.length = w.length ∧ FaddW ds = .ok (Wd (addW p v w)) := by
  unfold FaddW at h
  split at h
  · rename_i d e p
    split at h
    · rename_i v w h1 h2
      split at h
      · rename_i hc
        have := wordOf_eq h1
        have := wordOf_eq h2
        subst_vars
        simp only [Bool.and_eq_true, decide_eq_true_eq] at hc
        refine ⟨v, w, p, rfl, hc.1.1.1, hc.1.1.2, hc.1.2, hc.2, ?_⟩
        simp only [FaddW, wordOf_Wd]
        rw [if_pos (by simp [hc])]
      · exact absurd rfl h
    · exact absurd rfl h
  · exact absurd rfl h
def FscW : List Dt → Fo
  | [d, .int a, .int p] => match wordOf d with
    | some v => if (okP p && okW p v) = true then .ok (Wd (scW p a v)) else .no
    | _ => .no
  | _ => .no
theorem FscW_inv {ds : List Dt} (h : FscW ds ≠ .no) : ∃ v a p, ds = [Wd v, .int a, .int p] ∧ okP p = true ∧ okW p v = true ∧ FscW ds = .ok (Wd (scW p a v)) := by
  unfold FscW at h
  split at h
  · rename_i d a p
    split at h
    · rename_i v h1
      split at h
      · rename_i hc
        have := wordOf_eq h1
        subst_vars
        simp only [Bool.and_eq_true] at hc
        refine ⟨v, a, p, rfl, hc.1, hc.2, ?_⟩
        simp only [FscW, wordOf_Wd]
        rw [if_pos (by simp [hc])]
      · exact absurd rfl h
    · exact absurd rfl h
  · exact absurd rfl h
theorem zipD_ints : ∀ (v w : List Int), zipD (v.map Dt.int) (w.map Dt.int) = (v.zip w).map fun q => Dt.tup [.int q.1, .int q.2]
  | [], _ => by simp [zipD]
  | _ :: _, [] => by simp [zipD]
  | a :: v, b :: w => by
    have := zipD_ints v w
    unfold zipD at this ⊢
    simp [this]
theorem cmul_w {p x a : Int} (hp : p ≤ 1000) (hx : 0 ≤ x ∧ x < p) : CMul x a := by
  have h1 : (1000 : Int) < 2 ^ 64 := by decide
  have h2 : -(2 : Int) ^ 64 < 0 := by decide
  exact .inl ⟨by omega, by omega⟩
theorem run_add (ds : List Dt) (h : FaddW ds ≠ .no) : runD 5 m_add ds = FaddW ds := by
  obtain ⟨v, w, p, rfl, hp, hv, hw, hl, e⟩ := FaddW_inv h
  rw [e]
  obtain ⟨hp1, hp2⟩ := okP_iff.mp hp
  obtain ⟨hv1, hv2⟩ := okW_iff.mp hv
  have key : (lcE (itZ (aCons (varE 0) (aCons (varE 1) aNil))) (Tk.tp [3, 4]).k yesT (op2 (op2 (varE 3) (varE 4) addO) (varE 2) modO) [3, 4]) (st0 5 [Wd v, Wd w, .int p]) = .ok ((v.zip w).map fun q => Dt.int ((q.1 + q.2) % p)) (st0 5 [Wd v, Wd w, .int p]) := by
    refine lcE_map (fun q : Int × Int => Dt.tup [.int q.1, .int q.2]) _ (v.zip w) ?_ (fun q hq => ?_) (fun d T T' => Tk.mo) (by simp; omega)
    · simp [st0, Wd, zipD_ints]
    · simp [st0, wipeL, kNames, hp1]
  unfold runD m_add
  simp only [retS_run, calE_run, aCons_run, frz_run']
  rw [key]
  simp only [R.bind_ok, aNil_run, tupO_lst, R.of_some, R.stmt_ok, O.fo, Wd, addW]
  congr 2
  rw [List.map_zipWith, List.zip, List.map_zipWith]
theorem run_scaled (ds : List Dt) (h : FscW ds ≠ .no) : runD 4 m_scaled ds = FscW ds := by
  obtain ⟨v, a, p, rfl, hp, hv, e⟩ := FscW_inv h
  rw [e]
  obtain ⟨hp1, hp2⟩ := okP_iff.mp hp
  obtain ⟨hv1, hv2⟩ := okW_iff.mp hv
  have key : (lcE (itS (varE 0)) (Tk.nm 3).k yesT (op2 (op2 (varE 3) (varE 1) mulO) (varE 2) modO) [3]) (st0 4 [Wd v, .int a, .int p]) = .ok (v.map fun x => Dt.int (x * a % p)) (st0 4 [Wd v, .int a, .int p]) := by
    refine lcE_map Dt.int _ v ?_ (fun x hx => ?_) (fun d T T' => Tk.mo) (by omega)
    · simp [st0, Wd]
    · have := cmul_w (a := a) hp2 (hv2 x hx)
      simp [st0, wipeL, hp1, this]
  unfold runD m_scaled
  simp only [retS_run, calE_run, aCons_run, frz_run']
  rw [key]
  simp only [R.bind_ok, aNil_run, tupO_lst, R.of_some, R.stmt_ok, O.fo, Wd, scW, List.map_map]
  rfl
theorem run__law_scaled (ds : List Dt) (h : FscW ds ≠ .no) : runD 4 m__law_scaled ds = FscW ds := by
  obtain ⟨v, a, p, rfl, hp, hv, e⟩ := FscW_inv h
  rw [e]
  obtain ⟨hp1, hp2⟩ := okP_iff.mp hp
  obtain ⟨hv1, hv2⟩ := okW_iff.mp hv
  have key : (lcE (itS (varE 0)) (Tk.nm 3).k yesT (op2 (calE (aCons (op2 (varE 3) (varE 1) mulO) aNil) intO) (varE 2) modO) [3]) (st0 4 [Wd v, .int a, .int p]) = .ok (v.map fun x => Dt.int (x * a % p)) (st0 4 [Wd v, .int a, .int p]) := by
    refine lcE_map Dt.int _ v ?_ (fun x hx => ?_) (fun d T T' => Tk.mo) (by omega)
    · simp [st0, Wd]
    · have := cmul_w (a := a) hp2 (hv2 x hx)
      simp [st0, wipeL, hp1, this]
  unfold runD m__law_scaled
  simp only [retS_run, calE_run, aCons_run, frz_run']
  rw [key]
  simp only [R.bind_ok, aNil_run, tupO_lst, R.of_some, R.stmt_ok, O.fo, Wd, scW, List.map_map]
  rfl
end Lq

namespace Lq
open PySem PySem.Spec PyProof.Rows L2
def takeF (m : Int) (q : Int × Int) : Int × (Int × Int) :=
  if 0 < q.1 then (q.1 % m, (q.1 / m, q.2)) else ((q.2 * 48271 + 11) % 2147483647 / 7 % m, (q.1, (q.2 * 48271 + 11) % 2147483647))
theorem takeF_range {m : Int} (hm : 0 < m) (q : Int × Int) : 0 ≤ (takeF m q).1 ∧ (takeF m q).1 < m := by
  unfold takeF
  split
  · exact ⟨Int.emod_nonneg _ (by omega), Int.emod_lt_of_pos _ hm⟩
  · exact ⟨Int.emod_nonneg _ (by omega), Int.emod_lt_of_pos _ hm⟩
def stD (q : Int × Int) : List Dt := [.int q.1, .int q.2]
def Ftake : List Dt → List Dt → FoM
  | [.int s, .int t], [.int m] => if 0 < m ∧ m < 1073741824 then .ok (.int (takeF m (s, t)).1) (stD (takeF m (s, t)).2) else .no
  | _, _ => .no
theorem Ftake_run {m : Int} (q : Int × Int) (h : 0 < m ∧ m < 1073741824) : Ftake (stD q) [.int m] = .ok (.int (takeF m q).1) (stD (takeF m q).2) := by
  unfold Ftake stD
  dsimp only
  rw [if_pos h]
theorem atI0 {α : Type} (a b : α) : atI [a, b] 0 = some a := rfl
theorem atI1 {α : Type} (a b : α) : atI [a, b] 1 = some b := rfl
theorem run__law_take (xs ds : List Dt) (h : Ftake xs ds ≠ .no) : runM 3 m__law_take xs ds = Ftake xs ds := by
  unfold Ftake at h
  split at h
  · rename_i s t m
    split at h
    · rename_i hm
      have e : Ftake [.int s, .int t] [.int m] = .ok (.int (takeF m (s, t)).1) (stD (takeF m (s, t)).2) := Ftake_run (s, t) hm
      rw [e]
      have c1 : CMul t 48271 := .inr (by decide)
      have c2 : CDiv s m := hm
      have c3 : ∀ z : Int, CDiv z 7 := fun z => ⟨by decide, by decide⟩
      have i0 : ixN 2 0 = some 0 := by decide
      have i1 : ixN 2 1 = some 1 := by decide
      unfold runM m__law_take takeF
      by_cases hs : 0 < s
      · simp [stM, ixV, muAt, setS, atI0, atI1, hs, hm.1, c2, i0, O.foM, mo0, stD]
      · simp [stM, ixV, muAt, setS, atI0, atI1, hs, hm.1, c1, c3, i1, O.foM, mo0, stD]
    · exact absurd rfl h
  · exact absurd rfl h
def m__law_prime : Ms → O := (retS (op2 (frz (lstE (aCons (cE (.int 2)) (aCons (cE (.int 2)) (aCons (cE (.int 3)) (aCons (cE (.int 3)) (aCons (cE (.int 5)) (aCons (cE (.int 7)) aNil)))))))) (funM 1 0 (aCons (cE (.int 6)) aNil) Ftake) ixO))
def primeF (q : Int × Int) : Int := [2, 2, 3, 3, 5, 7].getD (takeF 6 q).1.toNat 2
theorem primeF_mem (q : Int × Int) : primeF q = 2 ∨ primeF q = 3 ∨ primeF q = 5 ∨ primeF q = 7 := by
  obtain ⟨h1, h2⟩ := takeF_range (m := 6) (by decide) q
  unfold primeF
  generalize hv : (takeF 6 q).1 = v at h1 h2
  obtain ⟨k, rfl⟩ : ∃ k : Nat, v = (k : Int) := ⟨v.toNat, by omega⟩
  have : k < 6 := by omega
  match k, this with
  | 0, _ => decide
  | 1, _ => decide
  | 2, _ => decide
  | 3, _ => decide
  | 4, _ => decide
  | 5, _ => decide
def Fprime : List Dt → List Dt → FoM
  | [.int s, .int t], [] => .ok (.int (primeF (s, t))) (stD (takeF 6 (s, t)).2)
  | _, _ => .no
theorem run__law_prime (xs ds : List Dt) (h : Fprime xs ds ≠ .no) : runM 1 m__law_prime xs ds = Fprime xs ds := by
  unfold Fprime at h
  split at h
  · rename_i s t
    have e : Fprime [.int s, .int t] [] = .ok (.int (primeF (s, t))) (stD (takeF 6 (s, t)).2) := rfl
    rw [e]
    have h0 : Ftake [.int s, .int t] [.int 6] = _ := Ftake_run (s, t) (by decide)
    have hv : atI [Dt.int 2, Dt.int 2, Dt.int 3, Dt.int 3, Dt.int 5, Dt.int 7] (takeF 6 (s, t)).1 = some (.int (primeF (s, t))) := by
      obtain ⟨h1, h2⟩ := takeF_range (m := 6) (by decide) (s, t)
      unfold primeF
      generalize hv : (takeF 6 (s, t)).1 = v at h1 h2
      obtain ⟨k, rfl⟩ : ∃ k : Nat, v = (k : Int) := ⟨v.toNat, by omega⟩
      have : k < 6 := by omega
      rw [atI_ofNat]
      match k, this with
      | 0, _ => rfl
      | 1, _ => rfl
      | 2, _ => rfl
      | 3, _ => rfl
      | 4, _ => rfl
      | 5, _ => rfl
    unfold runM m__law_prime
    simp [stM, funM, muAt, h0, hv, O.foM, mo0]
  · exact absurd rfl h
theorem cmul_r {p a : Int} (h1 : -1000 ≤ p) (h2 : p ≤ 1000) : CMul a p := by
  have e1 : (1000 : Int) < 2 ^ 64 := by decide
  have e2 : -(2 : Int) ^ 64 < -1000 := Int.neg_lt_neg e1
  exact .inr ⟨Int.lt_of_lt_of_le e2 h1, Int.lt_of_le_of_lt h2 e1⟩
end Lq

namespace Lq
open PySem PySem.Spec PyProof.Rows L2
def m_inverse : Ms → O := (seqS (forS (itR2 (aCons (cE (.int 1)) (aCons (varE 1) aNil))) (Tk.nm 2).k (ifS (tst (op2 (op2 (op2 (varE 0) (varE 2) mulO) (varE 1) modO) (cE (.int 1)) eqO)) (retS (varE 2)) nilS))
  noS)
def invF (p a : Int) : Option Nat := (List.range (p - 1).toNat).find? fun c => decide (a * (1 + (c : Int)) % p = 1)
def Finverse : List Dt → Fo
  | [.int a, .int p] => if okP p = true then (match invF p a with | some c => .ok (.int (1 + (c : Int))) | none => .no) else .no
  | _ => .no
theorem forL_find {α : Type} {k : Dt → Ms → Option Ms} {body : Ms → O} (enc : α → Dt) (b : α → Bool) (res : α → Dt) (I : Ms → Prop) : ∀ (xs : List α) (S : Ms), I S →
    (∀ x ∈ xs, ∀ S, I S → ∃ S1, k (enc x) S = some S1 ∧ (b x = true → ∃ S2, body S1 = .rt (res x) S2) ∧ (b x = false → ∃ S2, body S1 = .nx S2 ∧ I S2)) → ∀ y, xs.find? b = some y → ∃ S', forL k body (xs.map enc) S = .rt (res y) S'
  | [], _, _, _, y, h => by simp at h
  | x :: xs, S, hI, hs, y, h => by
    obtain ⟨S1, h1, h2, h3⟩ := hs x List.mem_cons_self S hI
    rw [List.map_cons]
    unfold forL
    rw [h1]
    dsimp only
    cases hb : b x with
    | true =>
      rw [List.find?_cons, hb] at h
      cases h
      obtain ⟨S2, e⟩ := h2 hb
      rw [e]
      exact ⟨S2, rfl⟩
    | false =>
      rw [List.find?_cons, hb] at h
      obtain ⟨S2, e, hI2⟩ := h3 hb
      rw [e]
      exact forL_find enc b res I xs S2 hI2 (fun z hz => hs z (List.mem_cons_of_mem _ hz)) y h
theorem itR2_run {fs : Ms → R (List Dt)} {S S1 : Ms} {i j : Int} (h : fs S = .ok [.int i, .int j] S1) (hi : -1000000 ≤ i ∧ i ≤ 1000000) (hj : -1000000 ≤ j ∧ j ≤ 1000000) : itR2 fs S = .ok ((List.range (j - i).toNat).map fun (k : Nat) => Dt.int (i + (k : Int))) S1 := by
  unfold itR2
  rw [h, R.bind_ok]
  dsimp only
  have e1 : (1000000 : Int) < 2 ^ 62 := by decide
  have e2 : -(2 : Int) ^ 62 < -1000000 := Int.neg_lt_neg e1
  rw [if_pos ⟨Int.le_of_lt (Int.lt_of_lt_of_le e2 hi.1), Int.lt_of_le_of_lt hi.2 e1, Int.le_of_lt (Int.lt_of_lt_of_le e2 hj.1), Int.lt_of_le_of_lt hj.2 e1⟩]
theorem run_inverse (ds : List Dt) (h : Finverse ds ≠ .no) : runD 3 m_inverse ds = Finverse ds := by
  unfold Finverse at h
  split at h
  · rename_i a p
    split at h
    · rename_i hp
      obtain ⟨hp1, hp2⟩ := okP_iff.mp hp
      cases hc : invF p a with
      | none => rw [hc] at h; exact absurd rfl h
      | some c =>
        have e : Finverse [.int a, .int p] = .ok (.int (1 + (c : Int))) := by
          unfold Finverse
          dsimp only
          rw [if_pos hp, hc]
        rw [e]
        have hit : itR2 (aCons (cE (.int 1)) (aCons (varE 1) aNil)) (st0 3 [.int a, .int p]) = .ok ((List.range (p - 1).toNat).map fun (k : Nat) => Dt.int (1 + (k : Int))) (st0 3 [.int a, .int p]) := itR2_run (by simp [st0]) (by omega) (by omega)
        obtain ⟨S', hS'⟩ := forL_find (k := (Tk.nm 2).k) (body := ifS (tst (op2 (op2 (op2 (varE 0) (varE 2) mulO) (varE 1) modO) (cE (.int 1)) eqO)) (retS (varE 2)) nilS) (fun (k : Nat) => Dt.int (1 + (k : Int))) (fun c => decide (a * (1 + (c : Int)) % p = 1)) (fun c : Nat => .int (1 + (c : Int)))
          (fun S => ∃ x, S = { sl := [.im (.int a), .im (.int p), x], mo := [] }) (List.range (p - 1).toNat) (st0 3 [.int a, .int p]) ⟨.no, rfl⟩ (fun x hx S hI => by
            obtain ⟨y, rfl⟩ := hI
            have hx' := List.mem_range.mp hx
            have hcm : CMul a (1 + (x : Int)) := cmul_r (by omega) (by omega)
            refine ⟨_, kNm _ _ _, fun hb => ?_, fun hb => ?_⟩
            · have hb' := of_decide_eq_true hb
              simp [hcm, hp1, hb']
            · have hb' := of_decide_eq_false hb
              refine ⟨{ sl := [.im (.int a), .im (.int p), .im (.int (1 + (x : Int)))], mo := [] }, ?_, _, rfl⟩
              simp [hcm, hp1, hb']) c hc
        unfold runD m_inverse
        rw [seqS_run, forS_run, hit, R.stmt_ok, hS', seq_rt]
        rfl
    · exact absurd rfl h
  · exact absurd rfl h
def m__cleared : Ms → O := (retS (funE 3 (aCons (varE 0) (aCons (funE 3 (aCons (varE 1) (aCons (op1 (op2 (varE 0) (varE 2) ixO) negO) (aCons (varE 3) aNil))) FscW) (aCons (varE 3) aNil))) FaddW))
def clr (p : Int) (h : List Int) (at_ : Nat) (r : List Int) : List Int := addW p r (scW p (-(r.getD at_ 0)) h)
theorem okW_scW {p a : Int} {v : List Int} (hp : okP p = true) (hv : okW p v = true) : okW p (scW p a v) = true := by
  obtain ⟨hp1, hp2⟩ := okP_iff.mp hp
  obtain ⟨hv1, hv2⟩ := okW_iff.mp hv
  refine okW_iff.mpr ⟨by simpa [scW] using hv1, fun x hx => ?_⟩
  obtain ⟨y, _, rfl⟩ := List.mem_map.mp hx
  exact ⟨Int.emod_nonneg _ (by omega), Int.emod_lt_of_pos _ hp1⟩
theorem mem_zipWith {α β γ : Type} {f : α → β → γ} : ∀ {xs : List α} {ys : List β} {z : γ}, z ∈ List.zipWith f xs ys → ∃ a b, z = f a b
  | [], _, _, h => by simp at h
  | _ :: _, [], _, h => by simp at h
  | a :: xs, b :: ys, z, h => by
    rw [List.zipWith_cons_cons, List.mem_cons] at h
    rcases h with h | h
    · exact ⟨a, b, h⟩
    · exact mem_zipWith h
theorem okW_addW {p : Int} {v w : List Int} (hp : okP p = true) (hv : okW p v = true) : okW p (addW p v w) = true := by
  obtain ⟨hp1, hp2⟩ := okP_iff.mp hp
  obtain ⟨hv1, hv2⟩ := okW_iff.mp hv
  refine okW_iff.mpr ⟨by simp [addW]; omega, fun x hx => ?_⟩
  obtain ⟨a, b, rfl⟩ := mem_zipWith hx
  exact ⟨Int.emod_nonneg _ (by omega), Int.emod_lt_of_pos _ hp1⟩
theorem scW_len (p a : Int) (v : List Int) : (scW p a v).length = v.length := by simp [scW]
theorem addW_len (p : Int) (v w : List Int) (h : v.length = w.length) : (addW p v w).length = v.length := by simp [addW, h]
theorem clr_len (p : Int) (h : List Int) (at_ : Nat) (r : List Int) (e : h.length = r.length) : (clr p h at_ r).length = r.length := addW_len _ _ _ (by rw [scW_len, e])
theorem okW_clr {p : Int} {h : List Int} {at_ : Nat} {r : List Int} (hp : okP p = true) (hr : okW p r = true) : okW p (clr p h at_ r) = true := okW_addW hp hr
def Fcleared : List Dt → Fo
  | [d, e, .int at_, .int p] => match wordOf d, wordOf e with
    | some r, some h => if (okP p && okW p r && okW p h && decide (r.length = h.length) && decide (0 ≤ at_ ∧ at_ < r.length)) = true then .ok (Wd (clr p h at_.toNat r)) else .no
    | _, _ => .no
  | _ => .no
theorem Fcleared_run {p : Int} {r h : List Int} {at_ : Nat} (hp : okP p = true) (hr : okW p r = true) (hh : okW p h = true) (e : r.length = h.length) (ha : at_ < r.length) : Fcleared [Wd r, Wd h, .int at_, .int p] = .ok (Wd (clr p h at_ r)) := by
  unfold Fcleared
  simp only [wordOf_Wd]
  rw [if_pos (by simp [hp, hr, hh, e]; omega), Int.toNat_natCast]
theorem FscW_run {p a : Int} {v : List Int} (hp : okP p = true) (hv : okW p v = true) : FscW [Wd v, .int a, .int p] = .ok (Wd (scW p a v)) := by
  unfold FscW
  simp only [wordOf_Wd]
  rw [if_pos (by simp [hp, hv])]
theorem FaddW_run {p : Int} {v w : List Int} (hp : okP p = true) (hv : okW p v = true) (hw : okW p w = true) (e : v.length = w.length) : FaddW [Wd v, Wd w, .int p] = .ok (Wd (addW p v w)) := by
  unfold FaddW
  simp only [wordOf_Wd]
  rw [if_pos (by simp [hp, hv, hw, e])]
theorem run__cleared (ds : List Dt) (h : Fcleared ds ≠ .no) : runD 4 m__cleared ds = Fcleared ds := by
  unfold Fcleared at h
  split at h
  · rename_i d e at_ p
    split at h
    · rename_i r hd h1 h2
      split at h
      · rename_i hc
        have := wordOf_eq h1
        have := wordOf_eq h2
        subst_vars
        simp only [Bool.and_eq_true, decide_eq_true_eq] at hc
        obtain ⟨⟨⟨⟨hp, hr⟩, hh⟩, hl⟩, ha⟩ := hc
        obtain ⟨at_, rfl⟩ : ∃ k : Nat, at_ = (k : Int) := ⟨at_.toNat, by omega⟩
        have ha' : at_ < r.length := by omega
        rw [Fcleared_run hp hr hh hl ha']
        have e1 := FscW_run (a := -(r.getD at_ 0)) hp hh
        have e2 := FaddW_run (w := scW p (-(r.getD at_ 0)) hd) hp hr (okW_scW hp hh) (by rw [scW_len, hl])
        have e3 : atI (r.map Dt.int) (at_ : Int) = some (.int (r.getD at_ 0)) := by
          rw [atI_ofNat, List.getElem?_map, List.getElem?_eq_getElem ha', List.getD_eq_getElem?_getD, List.getElem?_eq_getElem ha']
          rfl
        have w1 : ixO (Wd r) (.int (at_ : Int)) = some (.int (r.getD at_ 0)) := e3
        unfold runD m__cleared
        have hst : st0 4 [Wd r, Wd hd, .int at_, .int p] = { sl := [.im (Wd r), .im (Wd hd), .im (.int at_), .im (.int p)], mo := [] } := rfl
        rw [hst]
        unfold clr
        generalize r.getD at_ 0 = z at *
        simp [w1, e1, e2, O.fo]
      · exact absurd rfl h
    · exact absurd rfl h
  · exact absurd rfl h

def m_reduced : Ms → O := (seqS (asgS 3 (frz (lstE aNil)))
  (seqS (asgN 4 (lstE aNil))
  (seqS (moveS 5 0)
  (seqS (forS (itR1 (aCons (varE 1) aNil)) (Tk.nm 6).k (seqS (asgS 7 (frz (lcE (itS (varE 5)) (Tk.nm 9).k (tst (op2 (op2 (varE 9) (varE 6) ixO) (cE (.int 0)) neO)) (varE 9) [9])))
  (ifS (truT (varE 7)) (seqS (asgS 8 (funE 3 (aCons (op2 (varE 7) (cE (.int 0)) ixO) (aCons (funE 2 (aCons (op2 (op2 (varE 7) (cE (.int 0)) ixO) (varE 6) ixO) (aCons (varE 2) aNil)) Finverse) (aCons (varE 2) aNil))) FscW))
  (seqS (asgS 3 (frz (opN (frz (lcE (itS (varE 3)) (Tk.nm 9).k yesT (funE 4 (aCons (varE 9) (aCons (varE 8) (aCons (varE 6) (aCons (varE 2) aNil)))) Fcleared) [9])) (frz (lstE (aCons (varE 8) aNil))) catL)))
  (seqS (asgS 5 (frz (lcE (itS (varE 5)) (Tk.nm 9).k yesT (funE 4 (aCons (varE 9) (aCons (varE 8) (aCons (varE 6) (aCons (varE 2) aNil)))) Fcleared) [9])))
  (appS 4 (varE 6))))) nilS)))
  (retS (tupE (aCons (calE (aCons (varE 3) aNil) tupO) (aCons (calE (aCons (varE 4) aNil) tupO) aNil))))))))
structure Red where
  T : List (List Int)
  P : List Nat
  L : List (List Int)
def invP (p a : Int) : Int := match invF p a with | some c => 1 + (c : Int) | none => 0
def redHead (p : Int) (at_ : Nat) (r : List Int) : List Int := scW p (invP p (r.getD at_ 0)) r
def redStep (p : Int) (s : Red) (at_ : Nat) : Red := match s.L.filter fun r => decide (r.getD at_ 0 ≠ 0) with
  | [] => s
  | r :: _ => ⟨s.T.map (clr p (redHead p at_ r) at_) ++ [redHead p at_ r], s.P ++ [at_], s.L.map (clr p (redHead p at_ r) at_)⟩
def redN (p : Int) (rows : List (List Int)) : Nat → Red
  | 0 => ⟨[], [], rows⟩
  | k + 1 => redStep p (redN p rows k) k
def isP (p : Int) : Bool := decide (p = 2 ∨ p = 3 ∨ p = 5 ∨ p = 7)
theorem isP_okP {p : Int} (h : isP p = true) : okP p = true := by
  have := of_decide_eq_true h
  exact okP_iff.mpr (by omega)
theorem invF_some {p : Int} (h : isP p = true) {a : Int} (ha : a % p ≠ 0) : ∃ c, invF p a = some c ∧ a * (1 + (c : Int)) % p = 1 ∧ (c : Int) < p - 1 := by
  have hp := of_decide_eq_true h
  have ex : ∃ c ∈ List.range (p - 1).toNat, decide (a * (1 + (c : Int)) % p = 1) = true := by
    have hm : ∀ c : Int, a * c % p = ((a % p) * c) % p := fun c => by
      conv => lhs; rw [Int.mul_emod]
      conv => rhs; rw [Int.mul_emod, Int.emod_emod]
    have h0 : 0 ≤ a % p := Int.emod_nonneg _ (by omega)
    have h1 : a % p < p := Int.emod_lt_of_pos _ (by omega)
    generalize a % p = b at *
    rcases hp with rfl | rfl | rfl | rfl
    · refine ⟨0, by decide, decide_eq_true ?_⟩
      rw [hm]
      have : b = 1 := by omega
      subst this; decide
    · have : b = 1 ∨ b = 2 := by omega
      rcases this with rfl | rfl
      · exact ⟨0, by decide, decide_eq_true (by rw [hm]; decide)⟩
      · exact ⟨1, by decide, decide_eq_true (by rw [hm]; decide)⟩
    · have : b = 1 ∨ b = 2 ∨ b = 3 ∨ b = 4 := by omega
      rcases this with rfl | rfl | rfl | rfl
      · exact ⟨0, by decide, decide_eq_true (by rw [hm]; decide)⟩
      · exact ⟨2, by decide, decide_eq_true (by rw [hm]; decide)⟩
      · exact ⟨1, by decide, decide_eq_true (by rw [hm]; decide)⟩
      · exact ⟨3, by decide, decide_eq_true (by rw [hm]; decide)⟩
    · have : b = 1 ∨ b = 2 ∨ b = 3 ∨ b = 4 ∨ b = 5 ∨ b = 6 := by omega
      rcases this with rfl | rfl | rfl | rfl | rfl | rfl
      · exact ⟨0, by decide, decide_eq_true (by rw [hm]; decide)⟩
      · exact ⟨3, by decide, decide_eq_true (by rw [hm]; decide)⟩
      · exact ⟨4, by decide, decide_eq_true (by rw [hm]; decide)⟩
      · exact ⟨1, by decide, decide_eq_true (by rw [hm]; decide)⟩
      · exact ⟨2, by decide, decide_eq_true (by rw [hm]; decide)⟩
      · exact ⟨5, by decide, decide_eq_true (by rw [hm]; decide)⟩
  have hs : (invF p a).isSome = true := by
    unfold invF
    rw [List.find?_isSome]
    obtain ⟨c, hc, hd⟩ := ex
    exact ⟨c, hc, hd⟩
  obtain ⟨c, hc⟩ := Option.isSome_iff_exists.mp hs
  have hc' : (List.range (p - 1).toNat).find? (fun c : Nat => decide (a * (1 + (c : Int)) % p = 1)) = some c := hc
  have h2 := List.find?_some hc'
  refine ⟨c, hc, of_decide_eq_true h2, ?_⟩
  have := List.mem_range.mp (List.mem_of_find?_eq_some hc')
  omega
theorem invP_mul {p : Int} (h : isP p = true) {a : Int} (ha : a % p ≠ 0) : a * invP p a % p = 1 := by
  obtain ⟨c, h1, h2, _⟩ := invF_some h ha
  unfold invP
  rw [h1]
  exact h2
theorem Finverse_run {p : Int} (h : isP p = true) {a : Int} (ha : a % p ≠ 0) : Finverse [.int a, .int p] = .ok (.int (invP p a)) := by
  obtain ⟨c, h1, h2, _⟩ := invF_some h ha
  unfold Finverse invP
  dsimp only
  rw [if_pos (isP_okP h), h1]
def okR (p : Int) (n : Nat) (rows : List (List Int)) : Prop := ∀ r ∈ rows, okW p r = true ∧ r.length = n
theorem okR_map {p : Int} {n : Nat} {rows : List (List Int)} {h : List Int} {at_ : Nat} (hp : okP p = true) (hr : okR p n rows) (hh : h.length = n) : okR p n (rows.map (clr p h at_)) := fun r hm => by
  obtain ⟨q, hq, rfl⟩ := List.mem_map.mp hm
  obtain ⟨h1, h2⟩ := hr q hq
  exact ⟨okW_clr hp h1, by rw [clr_len _ _ _ _ (by rw [hh, h2])]; exact h2⟩
theorem okR_head {p : Int} {n at_ : Nat} {r : List Int} (hp : okP p = true) (hr : okW p r = true ∧ r.length = n) : okW p (redHead p at_ r) = true ∧ (redHead p at_ r).length = n := ⟨okW_scW hp hr.1, by unfold redHead; rw [scW_len]; exact hr.2⟩
theorem redStep_ok {p : Int} {n at_ : Nat} {s : Red} (hp : okP p = true) (hT : okR p n s.T) (hL : okR p n s.L) : okR p n (redStep p s at_).T ∧ okR p n (redStep p s at_).L := by
  unfold redStep
  split
  · exact ⟨hT, hL⟩
  · rename_i r rs hf
    have hr : r ∈ s.L := (List.mem_filter.mp (by rw [hf]; exact List.mem_cons_self)).1
    have hh := okR_head (at_ := at_) hp (hL r hr)
    refine ⟨fun q hq => ?_, okR_map hp hL hh.2⟩
    rcases List.mem_append.mp hq with hq | hq
    · exact okR_map hp hT hh.2 q hq
    · rw [List.mem_singleton] at hq
      subst hq
      exact hh
theorem redN_ok {p : Int} {n : Nat} {rows : List (List Int)} (hp : okP p = true) (h : okR p n rows) : ∀ k, okR p n (redN p rows k).T ∧ okR p n (redN p rows k).L
  | 0 => ⟨fun r hr => absurd hr (List.not_mem_nil), h⟩
  | k + 1 => redStep_ok hp (redN_ok hp h k).1 (redN_ok hp h k).2
theorem redN_lens {p : Int} {rows : List (List Int)} : ∀ k, (redN p rows k).T.length = (redN p rows k).P.length ∧ (redN p rows k).P.length ≤ k ∧ (redN p rows k).L.length = rows.length
  | 0 => ⟨rfl, Nat.le_refl _, rfl⟩
  | k + 1 => by
    obtain ⟨h1, h2, h3⟩ := redN_lens (p := p) (rows := rows) k
    show ((redStep p (redN p rows k) k).T.length = (redStep p (redN p rows k) k).P.length ∧ (redStep p (redN p rows k) k).P.length ≤ k + 1 ∧ (redStep p (redN p rows k) k).L.length = rows.length)
    unfold redStep
    split
    · exact ⟨h1, by omega, h3⟩
    · simp [h1, h3]
      omega
end Lq

namespace Lq
open PySem PySem.Spec PyProof.Rows L2
def redD (s : Red) : Dt := .tup [.tup (s.T.map Wd), .tup (s.P.map fun (c : Nat) => Dt.int (c : Int))]
def okRb (p : Int) (n : Nat) (rows : List (List Int)) : Bool := rows.all fun r => okW p r && decide (r.length = n)
theorem okRb_iff {p : Int} {n : Nat} {rows : List (List Int)} : okRb p n rows = true ↔ okR p n rows := by simp [okRb, okR]
def Freduced : List Dt → Fo
  | [d, .int w, .int p] => match (seqOf d).bind wordsOf with
    | some rows => if (isP p && decide (0 ≤ w ∧ w ≤ 1000) && decide (rows.length ≤ 1000) && okRb p w.toNat rows) = true then .ok (redD (redN p rows w.toNat)) else .no
    | none => .no
  | _ => .no
theorem Freduced_run {p : Int} {n : Nat} {rows : List (List Int)} {d : Dt} (hd : seqOf d = some (rows.map Wd)) (hp : isP p = true) (hn : n ≤ 1000) (hl : rows.length ≤ 1000) (h : okR p n rows) : Freduced [d, .int n, .int p] = .ok (redD (redN p rows n)) := by
  unfold Freduced
  dsimp only
  rw [hd]
  simp only [Option.bind, wordsOf_map, Int.toNat_natCast]
  rw [if_pos]
  simp [hp, okRb_iff.mpr h, hl]
  omega
def redSt (d : Dt) (n : Nat) (p : Int) (s : Red) (ld : Dt) (x6 x7 x8 x9 : Sv) : Ms :=
  { sl := [.im d, .im (.int n), .im (.int p), .im (.lst (s.T.map Wd)), .mu 0, .im ld, x6, x7, x8, x9], mo := [.ob (.ls (s.P.map fun (c : Nat) => Dt.int (c : Int)))] }
theorem wd_ix {r : List Int} {k : Nat} (h : k < r.length) : ixO (Wd r) (.int (k : Int)) = some (.int (r.getD k 0)) := by
  show atI (r.map Dt.int) (k : Int) = _
  rw [atI_ofNat, List.getElem?_map, List.getElem?_eq_getElem h, List.getD_eq_getElem?_getD, List.getElem?_eq_getElem h]
  rfl
def redBody : Ms → O := (seqS (asgS 7 (frz (lcE (itS (varE 5)) (Tk.nm 9).k (tst (op2 (op2 (varE 9) (varE 6) ixO) (cE (.int 0)) neO)) (varE 9) [9])))
  (ifS (truT (varE 7)) (seqS (asgS 8 (funE 3 (aCons (op2 (varE 7) (cE (.int 0)) ixO) (aCons (funE 2 (aCons (op2 (op2 (varE 7) (cE (.int 0)) ixO) (varE 6) ixO) (aCons (varE 2) aNil)) Finverse) (aCons (varE 2) aNil))) FscW))
  (seqS (asgS 3 (frz (opN (frz (lcE (itS (varE 3)) (Tk.nm 9).k yesT (funE 4 (aCons (varE 9) (aCons (varE 8) (aCons (varE 6) (aCons (varE 2) aNil)))) Fcleared) [9])) (frz (lstE (aCons (varE 8) aNil))) catL)))
  (seqS (asgS 5 (frz (lcE (itS (varE 5)) (Tk.nm 9).k yesT (funE 4 (aCons (varE 9) (aCons (varE 8) (aCons (varE 6) (aCons (varE 2) aNil)))) Fcleared) [9])))
  (appS 4 (varE 6))))) nilS))
theorem lcF_clr {d td ld x7 : Dt} {n : Nat} {p : Int} {mo : List Mo} {h : List Int} {at_ : Nat} {rows : List (List Int)} (hp : okP p = true) (hr : okR p n rows) (hh : okW p h = true ∧ h.length = n) (ha : at_ < n) (hl : rows.length ≤ 100000) (src : Nat) {x9 : Sv}
    {S : Ms} (hS : S = { sl := [.im d, .im (.int n), .im (.int p), .im td, .mu 0, .im ld, .im (.int at_), .im x7, .im (Wd h), x9], mo := mo }) (hsrc : itS (varE src) S = .ok (rows.map Wd) S) :
    lcE (itS (varE src)) (Tk.nm 9).k yesT (funE 4 (aCons (varE 9) (aCons (varE 8) (aCons (varE 6) (aCons (varE 2) aNil)))) Fcleared) [9] S = .ok ((rows.map (clr p h at_)).map Wd) S := by
  rw [List.map_map]
  refine lcE_map Wd _ rows hsrc (fun r hr' => ?_) (fun d T T' => Tk.mo) hl
  obtain ⟨h1, h2⟩ := hr r hr'
  have e := Fcleared_run (at_ := at_) hp h1 hh.1 (by rw [h2, hh.2]) (by rw [h2]; exact ha)
  subst hS
  refine ⟨_, kNm _ _ _, ?_⟩
  simp [wipeL, e]
theorem redBody_run {d ld : Dt} {n : Nat} {p : Int} {s : Red} {y7 y8 y9 : Sv} {i : Nat} (hp : isP p = true) (hn : n ≤ 1000) (hi : i < n) (hT : okR p n s.T) (hL : okR p n s.L) (hTl : s.T.length ≤ 1000) (hLl : s.L.length ≤ 1000) (hPl : s.P.length ≤ 1000) (hd : seqOf ld = some (s.L.map Wd)) :
    ∃ ld' x7 x8 x9, redBody (redSt d n p s ld (.im (.int i)) y7 y8 y9) = .nx (redSt d n p (redStep p s i) ld' (.im (.int i)) x7 x8 x9) ∧ seqOf ld' = some ((redStep p s i).L.map Wd) := by
  have hp' := isP_okP hp
  obtain ⟨hp1, hp2⟩ := okP_iff.mp hp'
  -- found
  have h1 : lcE (itS (varE 5)) (Tk.nm 9).k (tst (op2 (op2 (varE 9) (varE 6) ixO) (cE (.int 0)) neO)) (varE 9) [9] (redSt d n p s ld (.im (.int i)) y7 y8 y9) = .ok ((s.L.filter fun r => decide (r.getD i 0 ≠ 0)).map Wd) (redSt d n p s ld (.im (.int i)) y7 y8 y9) := by
    refine lcE_flt Wd (fun r => decide (r.getD i 0 ≠ 0)) Wd s.L (by simp [redSt, hd]) (fun r hr => ?_) (by omega)
    obtain ⟨_, h2⟩ := hL r hr
    have e := wd_ix (r := r) (k := i) (by rw [h2]; exact hi)
    have key : ∃ T2, (tst (op2 (op2 (varE 9) (varE 6) ixO) (cE (.int 0)) neO)) { sl := [.im d, .im (.int n), .im (.int p), .im (.lst (s.T.map Wd)), .mu 0, .im ld, .im (.int i), y7, y8, .im (Wd r)], mo := [.ob (.ls (s.P.map fun (c : Nat) => Dt.int (c : Int)))] } = .ok (decide (r.getD i 0 ≠ 0)) T2 ∧ T2 = { sl := [.im d, .im (.int n), .im (.int p), .im (.lst (s.T.map Wd)), .mu 0, .im ld, .im (.int i), y7, y8, .im (Wd r)], mo := [.ob (.ls (s.P.map fun (c : Nat) => Dt.int (c : Int)))] } := by
      refine ⟨_, ?_, rfl⟩
      generalize r.getD i 0 = z at *
      simp [e]
    obtain ⟨T2, k1, k2⟩ := key
    refine ⟨_, T2, kNm _ _ _, k1, by rw [k2]; rfl, fun _ => ⟨T2, ?_, by rw [k2]; rfl⟩⟩
    rw [k2]
    simp
  unfold redBody
  rw [seqS_run, asgS_run', frz_run', h1, R.bind_ok, R.stmt_ok, seq_nx, ifS_run, truT_run]
  have hS1 : ({ sl := (redSt d n p s ld (.im (.int i)) y7 y8 y9).sl.set 7 (.im (.lst ((s.L.filter fun r => decide (r.getD i 0 ≠ 0)).map Wd))), mo := (redSt d n p s ld (.im (.int i)) y7 y8 y9).mo } : Ms) = redSt d n p s ld (.im (.int i)) (.im (.lst ((s.L.filter fun r => decide (r.getD i 0 ≠ 0)).map Wd))) y8 y9 := rfl
  rw [hS1]
  have hv7 : varE 7 (redSt d n p s ld (.im (.int i)) (.im (.lst ((s.L.filter fun r => decide (r.getD i 0 ≠ 0)).map Wd))) y8 y9) = .ok (.lst ((s.L.filter fun r => decide (r.getD i 0 ≠ 0)).map Wd)) (redSt d n p s ld (.im (.int i)) (.im (.lst ((s.L.filter fun r => decide (r.getD i 0 ≠ 0)).map Wd))) y8 y9) := varE_im rfl
  rw [hv7, R.bind_ok]
  unfold redStep
  cases hf : s.L.filter fun r => decide (r.getD i 0 ≠ 0) with
  | nil =>
    refine ⟨ld, .im (.lst []), y8, y9, ?_, hd⟩
    simp only [List.map_nil, truO, List.isEmpty_nil, Bool.not_true]
    rw [R.of_some, R.stmt_ok]
    rfl
  | cons r rs =>
    have hr : r ∈ s.L := (List.mem_filter.mp (by rw [hf]; exact List.mem_cons_self)).1
    have hr0 : r.getD i 0 ≠ 0 := of_decide_eq_true (List.mem_filter.mp (show r ∈ s.L.filter (fun r => decide (r.getD i 0 ≠ 0)) by rw [hf]; exact List.mem_cons_self)).2
    obtain ⟨hr1, hr2⟩ := hL r hr
    have hm : r.getD i 0 % p ≠ 0 := by
      have hx : r.getD i 0 ∈ r := by
        rw [List.getD_eq_getElem?_getD, List.getElem?_eq_getElem (by rw [hr2]; exact hi)]
        exact List.getElem_mem _
      obtain ⟨a, b⟩ := (okW_iff.mp hr1).2 _ hx
      rw [Int.emod_eq_of_lt a b]
      exact hr0
    have hh := okR_head (at_ := i) hp' ⟨hr1, hr2⟩
    have e1 := Finverse_run hp hm
    have e2 := FscW_run (a := invP p (r.getD i 0)) hp' hr1
    have e3 := wd_ix (r := r) (k := i) (by rw [hr2]; exact hi)
    have tr : truO (.lst ((r :: rs).map Wd)) = some true := rfl
    rw [tr, R.of_some, R.stmt_ok, if_pos rfl]
    -- head
    have e4 : (funE 3 (aCons (op2 (varE 7) (cE (.int 0)) ixO) (aCons (funE 2 (aCons (op2 (op2 (varE 7) (cE (.int 0)) ixO) (varE 6) ixO) (aCons (varE 2) aNil)) Finverse) (aCons (varE 2) aNil))) FscW) (redSt d n p s ld (.im (.int i)) (.im (.lst ((r :: rs).map Wd))) y8 y9) = .ok (Wd (redHead p i r)) (redSt d n p s ld (.im (.int i)) (.im (.lst ((r :: rs).map Wd))) y8 y9) := by
      unfold redHead
      have a0 : atI (Wd r :: rs.map Wd) 0 = some (Wd r) := atI_ofNat (Wd r :: rs.map Wd) 0
      generalize r.getD i 0 = z at *
      simp [redSt, a0, e3, e1, e2]
    rw [seqS_run, asgS_run', e4, R.stmt_ok, seq_nx]
    have hS2 : ({ sl := (redSt d n p s ld (.im (.int i)) (.im (.lst ((r :: rs).map Wd))) y8 y9).sl.set 8 (.im (Wd (redHead p i r))), mo := (redSt d n p s ld (.im (.int i)) (.im (.lst ((r :: rs).map Wd))) y8 y9).mo } : Ms) = { sl := [.im d, .im (.int n), .im (.int p), .im (.lst (s.T.map Wd)), .mu 0, .im ld, .im (.int i), .im (.lst ((r :: rs).map Wd)), .im (Wd (redHead p i r)), y9], mo := [.ob (.ls (s.P.map fun (c : Nat) => Dt.int (c : Int)))] } := rfl
    rw [hS2]
    -- table
    have e5 := lcF_clr (d := d) (td := .lst (s.T.map Wd)) (ld := ld) (x7 := .lst ((r :: rs).map Wd)) (mo := [.ob (.ls (s.P.map fun (c : Nat) => Dt.int (c : Int)))]) (x9 := y9) hp' hT hh hi (by omega) 3 rfl (by simp)
    rw [seqS_run, asgS_run', frz_run', opN_run, frz_run', e5, R.bind_ok, R.bind_ok, frz_run', lstE_run, aCons_run, varE_im (i := 8) rfl, R.bind_ok, aNil_run, R.bind_ok, R.bind_ok]
    have hl1 : ([Wd (redHead p i r)] : List Dt).length ≤ 100000 := by simp
    rw [if_pos hl1, R.bind_ok, R.bind_ok]
    have hcat : catL (.lst ((s.T.map (clr p (redHead p i r) i)).map Wd)) (.lst [Wd (redHead p i r)]) = some ((s.T.map (clr p (redHead p i r) i) ++ [redHead p i r]).map Wd) := by
      have hl2 : ((s.T.map (clr p (redHead p i r) i)).map Wd).length + ([Wd (redHead p i r)] : List Dt).length ≤ 100000 := by simp; omega
      show (if _ then _ else _) = _
      rw [if_pos hl2]
      simp
    rw [hcat, R.of_some, R.bind_ok, R.stmt_ok, seq_nx]
    -- left
    have e6 := lcF_clr (d := d) (td := .lst ((s.T.map (clr p (redHead p i r) i) ++ [redHead p i r]).map Wd)) (ld := ld) (x7 := .lst ((r :: rs).map Wd)) (mo := [.ob (.ls (s.P.map fun (c : Nat) => Dt.int (c : Int)))]) (x9 := y9) hp' hL hh hi (by omega) 5 rfl (by simp [hd])
    have hS3 : ({ sl := ([.im d, .im (.int n), .im (.int p), .im (.lst (s.T.map Wd)), .mu 0, .im ld, .im (.int i), .im (.lst ((r :: rs).map Wd)), .im (Wd (redHead p i r)), y9] : List Sv).set 3 (.im (.lst ((s.T.map (clr p (redHead p i r) i) ++ [redHead p i r]).map Wd))), mo := [.ob (.ls (s.P.map fun (c : Nat) => Dt.int (c : Int)))] } : Ms) =
      { sl := [.im d, .im (.int n), .im (.int p), .im (.lst ((s.T.map (clr p (redHead p i r) i) ++ [redHead p i r]).map Wd)), .mu 0, .im ld, .im (.int i), .im (.lst ((r :: rs).map Wd)), .im (Wd (redHead p i r)), y9], mo := [.ob (.ls (s.P.map fun (c : Nat) => Dt.int (c : Int)))] } := rfl
    rw [hS3, seqS_run, asgS_run', frz_run', e6, R.bind_ok, R.stmt_ok, seq_nx]
    -- pivots
    refine ⟨.lst ((s.L.map (clr p (redHead p i r) i)).map Wd), .im (.lst ((r :: rs).map Wd)), .im (Wd (redHead p i r)), y9, ?_, rfl⟩
    rw [appS_run]
    rw [muAt_run (k := 0) (xs := s.P.map fun (c : Nat) => Dt.int (c : Int)) rfl rfl]
    dsimp only
    rw [varE_im (i := 6) (d := .int i) rfl, R.stmt_ok, muAt_run (k := 0) (xs := s.P.map fun (c : Nat) => Dt.int (c : Int)) rfl rfl]
    dsimp only
    rw [if_pos (by simp; omega)]
    simp [redSt]
theorem run_reduced (ds : List Dt) (h : Freduced ds ≠ .no) : runD 10 m_reduced ds = Freduced ds := by
  unfold Freduced at h
  split at h
  · rename_i d w p
    split at h
    · rename_i rows hrows
      split at h
      · rename_i hc
        simp only [Bool.and_eq_true, decide_eq_true_eq] at hc
        obtain ⟨⟨⟨hp, hw⟩, hl⟩, hk⟩ := hc
        obtain ⟨n, rfl⟩ : ∃ k : Nat, w = (k : Int) := ⟨w.toNat, by omega⟩
        rw [Int.toNat_natCast] at hk
        have hok := okRb_iff.mp hk
        obtain ⟨xs, hx1, hx2⟩ := Option.bind_eq_some_iff.mp hrows
        have hx3 := wordsOf_eq hx2
        subst hx3
        have hn : n ≤ 1000 := by omega
        rw [Freduced_run hx1 hp hn hl hok]
        have hp' := isP_okP hp
        have hlen := fun k => redN_lens (p := p) (rows := rows) k
        have hoks := fun k => redN_ok (n := n) hp' hok k
        have hit : itR1 (aCons (varE 1) aNil) (redSt d n p ⟨[], [], rows⟩ d .no .no .no .no) = .ok ((List.range n).map fun (k : Nat) => Dt.int (k : Int)) (redSt d n p ⟨[], [], rows⟩ d .no .no .no .no) := by
          have := itR1_run (fs := aCons (varE 1) aNil) (S := redSt d n p ⟨[], [], rows⟩ d .no .no .no .no) (S1 := redSt d n p ⟨[], [], rows⟩ d .no .no .no .no) (n := n) (by simp [redSt]) (by omega)
          simpa using this
        obtain ⟨S', hS', ld', x6, x7, x8, x9, hI, hseq⟩ := forL_inv (k := (Tk.nm 6).k) (body := redBody) ((List.range n).map fun (k : Nat) => Dt.int (k : Int))
          (fun i S => ∃ ld x6 x7 x8 x9, S = redSt d n p (redN p rows i) ld x6 x7 x8 x9 ∧ seqOf ld = some ((redN p rows i).L.map Wd)) (redSt d n p ⟨[], [], rows⟩ d .no .no .no .no) ⟨d, .no, .no, .no, .no, rfl, hx1⟩
          (fun i e S hi hI => by
            obtain ⟨ld, x6, x7, x8, x9, rfl, hseq⟩ := hI
            rw [List.getElem?_map] at hi
            have hin : i < n := by
              rcases Nat.lt_or_ge i n with h | h
              · exact h
              · rw [List.getElem?_eq_none (by simpa using h)] at hi
                cases hi
            rw [List.getElem?_range hin] at hi
            cases hi
            have l1 := hlen i
            obtain ⟨ld', y7, y8, y9, r1, r2⟩ := redBody_run (d := d) (s := redN p rows i) (y7 := x7) (y8 := x8) (y9 := x9) hp hn hin (hoks i).1 (hoks i).2 (by omega) (by omega) (by omega) hseq
            exact ⟨_, _, kNm _ _ _, Or.inl r1, ld', .im (.int i), y7, y8, y9, rfl, r2⟩)
        rw [List.length_map, List.length_range] at hI hseq
        have l1 := hlen n
        have hS0 : st0 10 [d, .int (n : Int), .int p] = { sl := [.im d, .im (.int n), .im (.int p), .no, .no, .no, .no, .no, .no, .no], mo := [] } := rfl
        unfold runD
        rw [hS0]
        have hm : m_reduced = seqS (asgS 3 (frz (lstE aNil))) (seqS (asgN 4 (lstE aNil)) (seqS (moveS 5 0) (seqS (forS (itR1 (aCons (varE 1) aNil)) (Tk.nm 6).k redBody) (retS (tupE (aCons (calE (aCons (varE 3) aNil) tupO) (aCons (calE (aCons (varE 4) aNil) tupO) aNil))))))) := rfl
        have hpre : ∀ k, seqS (asgS 3 (frz (lstE aNil))) (seqS (asgN 4 (lstE aNil)) (seqS (moveS 5 0) k)) { sl := [.im d, .im (.int n), .im (.int p), .no, .no, .no, .no, .no, .no, .no], mo := [] } = k (redSt d n p ⟨[], [], rows⟩ d .no .no .no .no) := fun k => by
          simp [redSt]
          rfl
        rw [hm, hpre, seqS_run, forS_run, hit, R.stmt_ok, hS', seq_nx, hI]
        simp [redSt, redD]
        rfl
      · exact absurd rfl h
    · exact absurd rfl h
  · exact absurd rfl h
end Lq

namespace Lq
open PySem PySem.Spec PyProof.Rows L2
theorem forL_fold {α σ : Type} {k : Dt → Ms → Option Ms} {body : Ms → O} (enc : α → Dt) (I : Nat → σ → Ms → Prop) (g : σ → α → σ) : ∀ (xs : List α) (i : Nat) (q : σ) (S : Ms), I i q S →
    (∀ j q x S, x ∈ xs → j < i + xs.length → I j q S → ∃ S1 S2, k (enc x) S = some S1 ∧ (body S1 = .nx S2 ∨ body S1 = .ct S2) ∧ I (j + 1) (g q x) S2) → ∃ S', forL k body (xs.map enc) S = .nx S' ∧ I (i + xs.length) (xs.foldl g q) S'
  | [], i, q, S, h, _ => ⟨S, rfl, h⟩
  | x :: xs, i, q, S, h, hs => by
    have hl : (x :: xs).length = xs.length + 1 := rfl
    obtain ⟨S1, S2, h1, h2, h3⟩ := hs i q x S List.mem_cons_self (by omega) h
    obtain ⟨S', e1, e2⟩ := forL_fold enc I g xs (i + 1) (g q x) S2 h3 (fun j q y S hy hj hI => hs j q y S (List.mem_cons_of_mem _ hy) (by omega) hI)
    refine ⟨S', ?_, ?_⟩
    · rw [List.map_cons]
      unfold forL
      rw [h1]
      dsimp only
      rcases h2 with h2 | h2 <;> rw [h2] <;> exact e1
    · rw [hl, Nat.add_comm xs.length 1, ← Nat.add_assoc]
      exact e2
def insW (ws : List (List Int)) (w : List Int) : List (List Int) := if w ∈ ws then ws else ws ++ [w]
def inn (p : Int) (r w : List Int) (acc : List (List Int)) : List (List Int) := (List.range p.toNat).foldl (fun acc (a : Nat) => insW acc (addW p w (scW p (a : Int) r))) acc
def widen (p : Int) (r : List Int) (ws : List (List Int)) : List (List Int) := ws.foldl (fun acc w => inn p r w acc) []
def spanL (p : Int) (n : Nat) (rows : List (List Int)) : List (List Int) := rows.foldl (fun ws r => widen p r ws) [List.replicate n 0]
end Lq

namespace Lq
open PySem PySem.Spec PyProof.Rows L2
def g (v : List Int) (j : Nat) : Int := v.getD j 0
def ok1 (p : Int) (n : Nat) (v : List Int) : Prop := okW p v = true ∧ v.length = n
theorem g_lt {p : Int} {n : Nat} {v : List Int} (h : ok1 p n v) {j : Nat} (hj : j < n) : 0 ≤ g v j ∧ g v j < p := by
  have hl := h.2
  have hj' : j < v.length := by omega
  unfold g
  rw [List.getD_eq_getElem?_getD, List.getElem?_eq_getElem hj']
  exact (okW_iff.mp h.1).2 _ (List.getElem_mem _)
theorem g_mod {p : Int} {n : Nat} {v : List Int} (h : ok1 p n v) {j : Nat} (hj : j < n) : g v j % p = g v j := Int.emod_eq_of_lt (g_lt h hj).1 (g_lt h hj).2
theorem g_ext {n : Nat} {v w : List Int} (hv : v.length = n) (hw : w.length = n) (h : ∀ j < n, g v j = g w j) : v = w := by
  apply List.ext_getElem (by omega)
  intro j h1 h2
  have := h j (by omega)
  unfold g at this
  rw [List.getD_eq_getElem?_getD, List.getD_eq_getElem?_getD, List.getElem?_eq_getElem h1, List.getElem?_eq_getElem h2] at this
  exact this
theorem g_zero {n j : Nat} : g (List.replicate n 0) j = 0 := by
  unfold g
  rw [List.getD_eq_getElem?_getD, List.getElem?_replicate]
  split <;> rfl
theorem g_sc {p a : Int} {v : List Int} {n j : Nat} (hv : v.length = n) (hj : j < n) : g (scW p a v) j = g v j * a % p := by
  unfold g scW
  have hj' : j < v.length := by omega
  rw [List.getD_eq_getElem?_getD, List.getD_eq_getElem?_getD, List.getElem?_map, List.getElem?_eq_getElem hj']
  rfl
def lin (p : Int) (v w : List Int) (a : Int) : List Int := addW p v (scW p a w)
theorem lin_len {p a : Int} {v w : List Int} {n : Nat} (hv : v.length = n) (hw : w.length = n) : (lin p v w a).length = n := by
  unfold lin
  rw [addW_len _ _ _ (by rw [scW_len, hv, hw]), hv]
theorem emod_lin (p x y a : Int) : (x + y * a % p) % p = (x + y * a) % p := Int.add_emod_emod _ _ _
theorem g_lin {p a : Int} {v w : List Int} {n j : Nat} (hv : v.length = n) (hw : w.length = n) (hj : j < n) : g (lin p v w a) j = (g v j + g w j * a) % p := by
  have h2 := g_sc (p := p) (a := a) hw hj
  unfold lin
  rw [← emod_lin, ← h2]
  unfold g addW
  have h1 : j < v.length := by omega
  have h3 : j < (scW p a w).length := by rw [scW_len]; omega
  rw [List.getD_eq_getElem?_getD, List.getD_eq_getElem?_getD, List.getD_eq_getElem?_getD, List.getElem?_zipWith, List.getElem?_eq_getElem h1, List.getElem?_eq_getElem h3]
  rfl
theorem ok_lin {p a : Int} {v w : List Int} {n : Nat} (hp : okP p = true) (hv : ok1 p n v) (hw : ok1 p n w) : ok1 p n (lin p v w a) := ⟨okW_addW hp hv.1, lin_len hv.2 hw.2⟩
theorem ok_zero {p : Int} {n : Nat} (hp : okP p = true) (hn : n ≤ 1000) : ok1 p n (List.replicate n 0) := by
  refine ⟨okW_iff.mpr ⟨by simpa using hn, fun x hx => ?_⟩, by simp⟩
  have := (List.mem_replicate.mp hx).2
  have := (okP_iff.mp hp).1
  omega
theorem clr_lin (p : Int) (h : List Int) (at_ : Nat) (r : List Int) : clr p h at_ r = lin p r h (-(g r at_)) := rfl
theorem m1 (p u x a : Int) : (u + x % p * a) % p = (u + x * a) % p := by
  rw [Int.add_emod, Int.mul_emod, Int.emod_emod, ← Int.mul_emod, ← Int.add_emod]
inductive Sp (p : Int) (n : Nat) (rows : List (List Int)) : List Int → Prop
  | zero : Sp p n rows (List.replicate n 0)
  | step {w r : List Int} (a : Int) : Sp p n rows w → r ∈ rows → Sp p n rows (lin p w r a)
section
variable {p : Int} {n : Nat} {rows : List (List Int)}
theorem Sp_ok (hp : okP p = true) (hn : n ≤ 1000) (h : okR p n rows) {y : List Int} (q : Sp p n rows y) : ok1 p n y := by
  induction q with
  | zero => exact ok_zero hp hn
  | step a _ hr ih => exact ok_lin hp ih (h _ hr)
theorem lin_zero {u : List Int} {a : Int} (hu : ok1 p n u) : lin p u (List.replicate n 0) a = u := by
  refine g_ext (lin_len hu.2 (by simp)) hu.2 fun j hj => ?_
  rw [g_lin hu.2 (by simp) hj, g_zero, Int.zero_mul, Int.add_zero, g_mod hu hj]
theorem lin_none {u w : List Int} (hu : ok1 p n u) (hw : w.length = n) : lin p u w 0 = u := by
  refine g_ext (lin_len hu.2 hw) hu.2 fun j hj => ?_
  rw [g_lin hu.2 hw hj, Int.mul_zero, Int.add_zero, g_mod hu hj]
theorem zero_lin {u : List Int} (hu : ok1 p n u) : lin p (List.replicate n 0) u 1 = u := by
  refine g_ext (lin_len (by simp) hu.2) hu.2 fun j hj => ?_
  rw [g_lin (by simp) hu.2 hj, g_zero, Int.mul_one, Int.zero_add, g_mod hu hj]
theorem lin_lin {u v r : List Int} {a b : Int} (hu : u.length = n) (hv : v.length = n) (hr : r.length = n) : lin p u (lin p v r b) a = lin p (lin p u v a) r (b * a) := by
  refine g_ext (lin_len hu (lin_len hv hr)) (lin_len (lin_len hu hv) hr) fun j hj => ?_
  rw [g_lin hu (lin_len hv hr) hj, g_lin hv hr hj, g_lin (lin_len hu hv) hr hj, g_lin hu hv hj, m1, Int.emod_add_emod, Int.add_mul, Int.mul_assoc, Int.add_assoc]
theorem lin_twice {u v : List Int} {a b : Int} (hu : u.length = n) (hv : v.length = n) : lin p (lin p u v b) v a = lin p u v (b + a) := by
  refine g_ext (lin_len (lin_len hu hv) hv) (lin_len hu hv) fun j hj => ?_
  rw [g_lin (lin_len hu hv) hv hj, g_lin hu hv hj, g_lin hu hv hj, Int.emod_add_emod, Int.mul_add, Int.add_assoc]
theorem Sp_row (hp : okP p = true) (h : okR p n rows) {r : List Int} (hr : r ∈ rows) : Sp p n rows r := by
  have := Sp.step (p := p) (n := n) (rows := rows) 1 .zero hr
  rwa [zero_lin (h r hr)] at this
theorem Sp_lin (hp : okP p = true) (hn : n ≤ 1000) (h : okR p n rows) {u v : List Int} {a : Int} (hu : Sp p n rows u) (hv : Sp p n rows v) : Sp p n rows (lin p u v a) := by
  induction hv with
  | zero => rw [lin_zero (Sp_ok hp hn h hu)]; exact hu
  | @step w r b hw hr ih =>
    rw [lin_lin (Sp_ok hp hn h hu).2 (Sp_ok hp hn h hw).2 (h r hr).2]
    exact .step _ ih hr
theorem Sp_of (hp : okP p = true) (hn : n ≤ 1000) {rows' : List (List Int)} (h : okR p n rows') (hs : ∀ r ∈ rows, Sp p n rows' r) {y : List Int} (q : Sp p n rows y) : Sp p n rows' y := by
  induction q with
  | zero => exact .zero
  | step a _ hr ih => exact Sp_lin hp hn h ih (hs _ hr)
end
end Lq

namespace Lq
open PySem PySem.Spec PyProof.Rows L2
def tk (T : List (List Int)) (k : Nat) : List Int := T.getD k []
def pk (P : List Nat) (k : Nat) : Nat := P.getD k 0
structure Rr (at_ : Nat) (T : List (List Int)) (P : List Nat) : Prop where
  len : T.length = P.length
  lt : ∀ k < P.length, pk P k < at_
  asc : ∀ i k, i < k → k < P.length → pk P i < pk P k
  one : ∀ k < P.length, g (tk T k) (pk P k) = 1
  zro : ∀ j k, j < P.length → k < P.length → j ≠ k → g (tk T j) (pk P k) = 0
  low : ∀ k < P.length, ∀ c < pk P k, g (tk T k) c = 0
theorem tk_mem {T : List (List Int)} {k : Nat} (h : k < T.length) : tk T k ∈ T := by
  unfold tk
  rw [List.getD_eq_getElem?_getD, List.getElem?_eq_getElem h]
  exact List.getElem_mem _
theorem tk_map {T : List (List Int)} {f : List Int → List Int} {h : List Int} {k : Nat} (hk : k < T.length) : tk (T.map f ++ [h]) k = f (tk T k) := by
  unfold tk
  rw [List.getD_eq_getElem?_getD, List.getD_eq_getElem?_getD, List.getElem?_append_left (by simpa using hk), List.getElem?_map, List.getElem?_eq_getElem hk]
  rfl
theorem tk_last {T : List (List Int)} {h : List Int} : tk (T ++ [h]) T.length = h := by
  unfold tk
  rw [List.getD_eq_getElem?_getD, List.getElem?_concat_length]
  rfl
theorem pk_app {P : List Nat} {a k : Nat} (hk : k < P.length) : pk (P ++ [a]) k = pk P k := by
  unfold pk
  rw [List.getD_eq_getElem?_getD, List.getD_eq_getElem?_getD, List.getElem?_append_left hk]
theorem pk_last {P : List Nat} {a : Nat} : pk (P ++ [a]) P.length = a := by
  unfold pk
  rw [List.getD_eq_getElem?_getD, List.getElem?_concat_length]
  rfl
structure RI (p : Int) (n at_ : Nat) (rows : List (List Int)) (s : Red) : Prop where
  rr : Rr at_ s.T s.P
  zl : ∀ r ∈ s.L, ∀ c < at_, g r c = 0
  sp : ∀ y, Sp p n (s.T ++ s.L) y ↔ Sp p n rows y
section
variable {p : Int} {n at_ : Nat} {rows : List (List Int)} {s : Red}
theorem g_clr {h q : List Int} {c : Nat} (hh : ok1 p n h) (hq : ok1 p n q) (hc : c < n) : g (clr p h at_ q) c = (g q c + g h c * -(g q at_)) % p := by
  rw [clr_lin, g_lin hq.2 hh.2 hc]
theorem okR_app {A B : List (List Int)} (h1 : okR p n A) (h2 : okR p n B) : okR p n (A ++ B) := fun r hr => by
  rcases List.mem_append.mp hr with h | h
  · exact h1 r h
  · exact h2 r h
theorem RI_step (hp : isP p = true) (hn : n ≤ 1000) (hT : okR p n s.T) (hL : okR p n s.L) (hat : at_ < n) (h : RI p n at_ rows s) : RI p n (at_ + 1) rows (redStep p s at_) := by
  have hp' := isP_okP hp
  have hp1 := (okP_iff.mp hp').1
  have hst := redStep_ok (at_ := at_) hp' hT hL
  revert hst
  unfold redStep
  cases hf : s.L.filter fun r => decide (r.getD at_ 0 ≠ 0) with
  | nil =>
    intro _
    refine ⟨⟨h.rr.len, fun k hk => Nat.lt_succ_of_lt (h.rr.lt k hk), h.rr.asc, h.rr.one, h.rr.zro, h.rr.low⟩, fun r hr c hc => ?_, h.sp⟩
    rcases Nat.lt_or_ge c at_ with h1 | h1
    · exact h.zl r hr c h1
    · have hca : c = at_ := by omega
      subst hca
      rw [List.filter_eq_nil_iff] at hf
      have := hf r hr
      simpa [g] using this
  | cons r rs =>
    intro hst
    dsimp only at hst ⊢
    have hr : r ∈ s.L := (List.mem_filter.mp (by rw [hf]; exact List.mem_cons_self)).1
    have hr0 : g r at_ ≠ 0 := of_decide_eq_true (List.mem_filter.mp (show r ∈ s.L.filter (fun r => decide (r.getD at_ 0 ≠ 0)) by rw [hf]; exact List.mem_cons_self)).2
    have hrk := hL r hr
    have hm : g r at_ % p ≠ 0 := by rw [g_mod hrk hat]; exact hr0
    have hh : ok1 p n (redHead p at_ r) := okR_head hp' hrk
    have gh : ∀ c < n, g (redHead p at_ r) c = g r c * invP p (g r at_) % p := fun c hc => g_sc hrk.2 hc
    have gh0 : ∀ c < at_, g (redHead p at_ r) c = 0 := fun c hc => by rw [gh c (by omega), h.zl r hr c hc, Int.zero_mul]; exact Int.zero_emod _
    have gh1 : g (redHead p at_ r) at_ = 1 := by rw [gh at_ hat]; exact invP_mul hp hm
    have gl : ∀ q, ok1 p n q → ∀ c < at_, g (clr p (redHead p at_ r) at_ q) c = g q c := fun q hq c hc => by
      rw [g_clr hh hq (by omega), gh0 c hc, Int.zero_mul, Int.add_zero, g_mod hq (by omega)]
    have ga : ∀ q, ok1 p n q → g (clr p (redHead p at_ r) at_ q) at_ = 0 := fun q hq => by
      rw [g_clr hh hq hat, gh1, Int.one_mul, Int.add_right_neg]
      exact Int.zero_emod _
    have hlen : s.T.length = s.P.length := h.rr.len
    have tkT : ∀ k, k < s.P.length → tk (s.T.map (clr p (redHead p at_ r) at_) ++ [redHead p at_ r]) k = clr p (redHead p at_ r) at_ (tk s.T k) := fun k hk => tk_map (by omega)
    have tkL : tk (s.T.map (clr p (redHead p at_ r) at_) ++ [redHead p at_ r]) s.P.length = redHead p at_ r := by
      have e : s.P.length = (s.T.map (clr p (redHead p at_ r) at_)).length := by rw [List.length_map]; exact hlen.symm
      rw [e]
      exact tk_last
    have okT : ∀ k, k < s.P.length → ok1 p n (tk s.T k) := fun k hk => hT _ (tk_mem (by omega))
    have pl : (s.P ++ [at_]).length = s.P.length + 1 := by simp
    refine ⟨⟨by simp [hlen], ?_, ?_, ?_, ?_, ?_⟩, ?_, ?_⟩
    · intro k hk
      rw [pl] at hk
      rcases Nat.lt_or_ge k s.P.length with h1 | h1
      · rw [pk_app h1]; exact Nat.lt_succ_of_lt (h.rr.lt k h1)
      · have : k = s.P.length := by omega
        subst this
        rw [pk_last]; exact Nat.lt_succ_self _
    · intro i k hik hk
      rw [pl] at hk
      rw [pk_app (show i < s.P.length by omega)]
      rcases Nat.lt_or_ge k s.P.length with h1 | h1
      · rw [pk_app h1]; exact h.rr.asc i k hik h1
      · have : k = s.P.length := by omega
        subst this
        rw [pk_last]; exact h.rr.lt i hik
    · intro k hk
      rw [pl] at hk
      rcases Nat.lt_or_ge k s.P.length with h1 | h1
      · rw [pk_app h1, tkT k h1, gl _ (okT k h1) _ (h.rr.lt k h1)]; exact h.rr.one k h1
      · have : k = s.P.length := by omega
        subst this
        rw [pk_last, tkL]; exact gh1
    · intro j k hj hk hjk
      rw [pl] at hj hk
      rcases Nat.lt_or_ge k s.P.length with h1 | h1
      · rw [pk_app h1]
        rcases Nat.lt_or_ge j s.P.length with h2 | h2
        · rw [tkT j h2, gl _ (okT j h2) _ (h.rr.lt k h1)]; exact h.rr.zro j k h2 h1 hjk
        · have : j = s.P.length := by omega
          subst this
          rw [tkL]; exact gh0 _ (h.rr.lt k h1)
      · have : k = s.P.length := by omega
        subst this
        rw [pk_last, tkT j (by omega)]; exact ga _ (okT j (by omega))
    · intro k hk c hc
      rw [pl] at hk
      rcases Nat.lt_or_ge k s.P.length with h1 | h1
      · rw [pk_app h1] at hc
        have := h.rr.lt k h1
        rw [tkT k h1, gl _ (okT k h1) _ (by omega)]; exact h.rr.low k h1 c hc
      · have : k = s.P.length := by omega
        subst this
        rw [pk_last] at hc
        rw [tkL]; exact gh0 c hc
    · intro q hq c hc
      obtain ⟨q0, hq0, rfl⟩ := List.mem_map.mp hq
      rcases Nat.lt_or_ge c at_ with h1 | h1
      · rw [gl _ (hL q0 hq0) c h1]; exact h.zl q0 hq0 c h1
      · have hca : c = at_ := by omega
        subst hca
        exact ga _ (hL q0 hq0)
    · intro y
      rw [← h.sp y]
      have ok0 := okR_app hT hL
      have ok2 := okR_app hst.1 hst.2
      have spH0 : Sp p n (s.T ++ s.L) (redHead p at_ r) := by
        have e : redHead p at_ r = lin p (List.replicate n 0) r (invP p (g r at_)) := by
          refine g_ext hh.2 (lin_len (by simp) hrk.2) fun j hj => ?_
          rw [gh j hj, g_lin (by simp) hrk.2 hj, g_zero, Int.zero_add]
        rw [e]
        exact .step _ .zero (List.mem_append_right _ hr)
      have spH2 : Sp p n ((s.T.map (clr p (redHead p at_ r) at_) ++ [redHead p at_ r]) ++ s.L.map (clr p (redHead p at_ r) at_)) (redHead p at_ r) := Sp_row hp' ok2 (List.mem_append_left _ (List.mem_append_right _ List.mem_cons_self))
      constructor
      · refine fun q => Sp_of hp' hn ok0 (fun x hx => ?_) q
        have cl : ∀ q0 ∈ s.T ++ s.L, Sp p n (s.T ++ s.L) (clr p (redHead p at_ r) at_ q0) := fun q0 h0 => Sp_lin hp' hn ok0 (Sp_row hp' ok0 h0) spH0
        rcases List.mem_append.mp hx with hx | hx
        · rcases List.mem_append.mp hx with hx | hx
          · obtain ⟨q0, h0, rfl⟩ := List.mem_map.mp hx
            exact cl q0 (List.mem_append_left _ h0)
          · rw [List.mem_singleton] at hx
            subst hx
            exact spH0
        · obtain ⟨q0, h0, rfl⟩ := List.mem_map.mp hx
          exact cl q0 (List.mem_append_right _ h0)
      · refine fun q => Sp_of hp' hn ok2 (fun x hx => ?_) q
        have hxk : ok1 p n x := ok0 x hx
        have e : x = lin p (clr p (redHead p at_ r) at_ x) (redHead p at_ r) (g x at_) := by
          rw [clr_lin, lin_twice hxk.2 hh.2, Int.add_left_neg, lin_none hxk hh.2]
        rw [e]
        refine Sp_lin hp' hn ok2 (Sp_row hp' ok2 ?_) spH2
        rcases List.mem_append.mp hx with hx | hx
        · exact List.mem_append_left _ (List.mem_append_left _ (List.mem_map_of_mem hx))
        · exact List.mem_append_right _ (List.mem_map_of_mem hx)
theorem RI_N (hp : isP p = true) (hn : n ≤ 1000) (h : okR p n rows) : ∀ k, k ≤ n → RI p n k rows (redN p rows k)
  | 0, _ => ⟨⟨rfl, fun k hk => absurd hk (Nat.not_lt_zero _), fun _ k _ hk => absurd hk (Nat.not_lt_zero _), fun k hk => absurd hk (Nat.not_lt_zero _), fun _ k _ hk => absurd hk (Nat.not_lt_zero _), fun k hk => absurd hk (Nat.not_lt_zero _)⟩, fun _ _ c hc => absurd hc (Nat.not_lt_zero _), fun y => Iff.rfl⟩
  | k + 1, hk => RI_step hp hn (redN_ok (isP_okP hp) h k).1 (redN_ok (isP_okP hp) h k).2 (by omega) (RI_N hp hn h k (by omega))
structure RJ (p : Int) (n at_ j : Nat) (T : List (List Int)) (P : List Nat) (s : Red) : Prop where
  t : s.T = T.take j
  p : s.P = P.take j
  lo : ∀ k < j, pk P k < at_
  hi : ∀ k, j ≤ k → k < P.length → at_ ≤ pk P k
  le : j ≤ P.length
  l1 : ∀ r ∈ s.L, r = List.replicate n 0 ∨ ∃ k, j ≤ k ∧ k < P.length ∧ r = tk T k
  l2 : ∀ k, j ≤ k → k < P.length → tk T k ∈ s.L
end
end Lq

namespace Lq
open PySem PySem.Spec PyProof.Rows L2
def TD (T : List (List Int)) : Dt := .tup (T.map Wd)
def PD (P : List Nat) : Dt := .tup (P.map fun (c : Nat) => Dt.int (c : Int))
theorem wg_ix {r : List Int} {k : Nat} (h : k < r.length) : ixO (Wd r) (.int (k : Int)) = some (.int (g r k)) := wd_ix h
theorem len_td (T : List (List Int)) : lenO [TD T] = some (.int (T.length : Int)) := by
  unfold TD
  rw [lenO_tup, List.length_map]
end Lq

namespace Lq
open PySem PySem.Spec PyProof.Rows L2
theorem isP_cases {p : Int} (h : isP p = true) : p = 2 ∨ p = 3 ∨ p = 5 ∨ p = 7 := of_decide_eq_true h
end Lq

namespace Lq
open PySem PySem.Spec PyProof.Rows L2
def Cg (p x y : Int) : Prop := ∃ k, x - y = p * k
theorem Cg.refl {p : Int} (x : Int) : Cg p x x := ⟨0, by grind⟩
theorem Cg.symm {p x y : Int} (h : Cg p x y) : Cg p y x := by obtain ⟨k, h⟩ := h; exact ⟨-k, by grind⟩
theorem Cg.trans {p x y z : Int} (h : Cg p x y) (h2 : Cg p y z) : Cg p x z := by obtain ⟨k, h⟩ := h; obtain ⟨l, h2⟩ := h2; exact ⟨k + l, by grind⟩
theorem Cg.add {p x y z w : Int} (h : Cg p x y) (h2 : Cg p z w) : Cg p (x + z) (y + w) := by obtain ⟨k, h⟩ := h; obtain ⟨l, h2⟩ := h2; exact ⟨k + l, by grind⟩
theorem Cg.mul {p x y : Int} (h : Cg p x y) (a : Int) : Cg p (a * x) (a * y) := by obtain ⟨k, h⟩ := h; exact ⟨a * k, by grind⟩
theorem Cg.mod (p x : Int) : Cg p (x % p) x := ⟨-(x / p), by have := Int.emod_add_mul_ediv x p; grind⟩
theorem Cg.iff {p x y : Int} (hp : 0 < p) : Cg p x y ↔ x % p = y % p := by
  constructor
  · rintro ⟨k, h⟩
    have : x = y + p * k := by omega
    rw [this, Int.add_mul_emod_self_left]
  · intro h
    have h1 := Int.emod_add_mul_ediv x p
    have h2 := Int.emod_add_mul_ediv y p
    exact ⟨x / p - y / p, by grind⟩
theorem Cg.eq {p x y : Int} (hx : 0 ≤ x ∧ x < p) (hy : 0 ≤ y ∧ y < p) (h : Cg p x y) : x = y := by
  have := (Cg.iff (by omega)).mp h
  rwa [Int.emod_eq_of_lt hx.1 hx.2, Int.emod_eq_of_lt hy.1 hy.2] at this
theorem snocInd {α : Type} {P : List α → Prop} (h0 : P []) (h1 : ∀ l x, P l → P (l ++ [x])) (l : List α) : P l := by
  have : ∀ m : List α, P m.reverse := by
    intro m
    induction m with
    | nil => exact h0
    | cons x m ih => rw [List.reverse_cons]; exact h1 _ _ ih
  have := this l.reverse
  rwa [List.reverse_reverse] at this
theorem g_nil (n : Nat) : g [] n = 0 := by unfold g; simp
theorem g_cons0 (x : Int) (l : List Int) : g (x :: l) 0 = x := rfl
theorem g_consS (x : Int) (l : List Int) (n : Nat) : g (x :: l) (n + 1) = g l n := by unfold g; simp
theorem g_out {l : List Int} {n : Nat} (h : l.length ≤ n) : g l n = 0 := by unfold g; rw [List.getD_eq_getElem?_getD, List.getElem?_eq_none h]; rfl
def Rg (p : Int) (l : List Int) : Prop := ∀ x ∈ l, 0 ≤ x ∧ x < p
theorem Rg.g {p : Int} {l : List Int} (hp : 0 < p) (h : Rg p l) (n : Nat) : 0 ≤ g l n ∧ g l n < p := by
  by_cases hn : n < l.length
  · unfold Lq.g
    rw [List.getD_eq_getElem?_getD, List.getElem?_eq_getElem hn]
    exact h _ (List.getElem_mem _)
  · rw [g_out (by omega)]
    omega
def trim : List Int → List Int
  | [] => []
  | x :: l => match trim l with
    | [] => if x = 0 then [] else [x]
    | y :: t => x :: y :: t
theorem trim_cons (x : Int) (l : List Int) : trim (x :: l) = if trim l = [] then (if x = 0 then [] else [x]) else x :: trim l := by
  rw [trim]
  cases h : trim l with
  | nil => rfl
  | cons y t => rfl
theorem trim_snoc0 (l : List Int) : trim (l ++ [0]) = trim l := by
  induction l with
  | nil => rfl
  | cons x l ih => rw [List.cons_append, trim_cons, trim_cons, ih]
theorem trim_snoc {x : Int} (hx : x ≠ 0) (l : List Int) : trim (l ++ [x]) = l ++ [x] := by
  induction l with
  | nil => rw [List.nil_append, trim_cons]; simp [trim, hx]
  | cons y l ih => rw [List.cons_append, trim_cons, ih, if_neg (by simp)]
theorem trim_len (l : List Int) : (trim l).length ≤ l.length := by
  induction l with
  | nil => exact Nat.le_refl _
  | cons x l ih =>
    rw [trim_cons]
    split
    · split <;> simp
    · simp; exact ih
theorem g_trim (l : List Int) (n : Nat) : g (trim l) n = g l n := by
  induction l generalizing n with
  | nil => rfl
  | cons x l ih =>
    rw [trim_cons]
    by_cases h : trim l = []
    · rw [if_pos h]
      have hz : ∀ n, g l n = 0 := fun n => by rw [← ih n, h, g_nil]
      by_cases hx : x = 0
      · rw [if_pos hx, g_nil]
        cases n with
        | zero => rw [g_cons0, hx]
        | succ n => rw [g_consS, hz]
      · rw [if_neg hx]
        cases n with
        | zero => rw [g_cons0, g_cons0]
        | succ n => rw [g_consS, g_consS, hz, g_nil]
    · rw [if_neg h]
      cases n with
      | zero => rw [g_cons0, g_cons0]
      | succ n => rw [g_consS, g_consS, ih]
theorem trim_mem {l : List Int} {x : Int} (h : x ∈ trim l) : x ∈ l := by
  induction l with
  | nil => exact h
  | cons y l ih =>
    rw [trim_cons] at h
    split at h
    · split at h
      · exact absurd h List.not_mem_nil
      · rw [List.mem_singleton] at h; rw [h]; exact List.mem_cons_self
    · rcases List.mem_cons.mp h with rfl | h
      · exact List.mem_cons_self
      · exact List.mem_cons_of_mem _ (ih h)
theorem trim_zero {l : List Int} (h : ∀ n, g l n = 0) : trim l = [] := by
  induction l with
  | nil => rfl
  | cons x l ih =>
    have h0 := h 0
    rw [g_cons0] at h0
    rw [trim_cons, ih (fun n => by have := h (n + 1); rwa [g_consS] at this), if_pos rfl, if_pos h0]
theorem trim_ext {a b : List Int} (h : ∀ n, g a n = g b n) : trim a = trim b := by
  induction a generalizing b with
  | nil => rw [trim_zero (l := b) fun n => by rw [← h n, g_nil]]; rfl
  | cons x a ih =>
    cases b with
    | nil => rw [trim_zero (l := x :: a) fun n => by rw [h n, g_nil]]; rfl
    | cons y b =>
      have h0 := h 0
      rw [g_cons0, g_cons0] at h0
      rw [trim_cons, trim_cons, ih (b := b) fun n => by have := h (n + 1); rwa [g_consS, g_consS] at this, h0]
theorem trim_idem (l : List Int) : trim (trim l) = trim l := trim_ext (g_trim l)
theorem trim_last {l : List Int} (h : trim l = l) (hn : l ≠ []) : g l (l.length - 1) ≠ 0 := by
  revert h hn
  refine snocInd (P := fun l => trim l = l → l ≠ [] → g l (l.length - 1) ≠ 0) (fun _ h => absurd rfl h) (fun l x _ h _ => ?_) l
  have hx : x ≠ 0 := by
    rintro rfl
    rw [trim_snoc0] at h
    have := trim_len l
    rw [h, List.length_append] at this
    simp at this
    omega
  have : g (l ++ [x]) ((l ++ [x]).length - 1) = x := by unfold g; simp
  rwa [this]
theorem trim_le {l : List Int} {k : Nat} (h : ∀ n, k ≤ n → g l n = 0) : (trim l).length ≤ k := by
  by_cases hn : trim l = []
  · rw [hn]; exact Nat.zero_le _
  · have h1 := trim_last (trim_idem l) hn
    rw [g_trim] at h1
    have hl : 0 < (trim l).length := List.length_pos_iff.mpr hn
    rcases Nat.lt_or_ge ((trim l).length - 1) k with q | q
    · omega
    · exact absurd (h _ q) h1
theorem trim_rg {p : Int} {l : List Int} (h : Rg p l) : Rg p (trim l) := fun x hx => h x (trim_mem hx)
def shg (k : Nat) (b : List Int) (n : Nat) : Int := if k ≤ n then g b (n - k) else 0
theorem shg_nil (k n : Nat) : shg k [] n = 0 := by unfold shg; split <;> simp [g_nil]
theorem shg_cons (k : Nat) (y : Int) (b : List Int) (n : Nat) : shg k (y :: b) n = (if n = k then y else 0) + shg (k + 1) b n := by
  unfold shg
  by_cases h : k ≤ n
  · rw [if_pos h]
    by_cases e : n = k
    · subst e
      rw [if_pos rfl, Nat.sub_self, g_cons0, if_neg (by omega)]
      omega
    · obtain ⟨d, rfl⟩ : ∃ d, n = k + 1 + d := ⟨n - k - 1, by omega⟩
      rw [if_neg e, if_pos (by omega), show k + 1 + d - k = d + 1 by omega, show k + 1 + d - (k + 1) = d by omega, g_consS]
      omega
  · rw [if_neg h, if_neg (by omega), if_neg (by omega)]
    rfl
theorem shg_up (k : Nat) (b : List Int) (n : Nat) : shg (k + 1) b n = if 1 ≤ n then shg k b (n - 1) else 0 := by
  unfold shg
  by_cases h : 1 ≤ n
  · rw [if_pos h]
    by_cases e : k ≤ n - 1
    · rw [if_pos e, if_pos (by omega), show n - (k + 1) = n - 1 - k by omega]
    · rw [if_neg e, if_neg (by omega)]
  · rw [if_neg h, if_neg (by omega)]
theorem shg_zero (b : List Int) (n : Nat) : shg 0 b n = g b n := by unfold shg; simp
theorem shg_out {k : Nat} {b : List Int} {n : Nat} (h : k + b.length ≤ n) : shg k b n = 0 := by
  unfold shg
  rw [if_pos (by omega), g_out (by omega)]
def cmb : Nat → List Int → List Int → Nat → Int
  | _, [], _, _ => 0
  | i, x :: a, b, n => x * shg i b n + cmb (i + 1) a b n
theorem cmb_snoc (u : List Int) (f : Int) (b : List Int) (n : Nat) : ∀ i, cmb i (u ++ [f]) b n = cmb i u b n + f * shg (i + u.length) b n := by
  induction u with
  | nil => intro i; simp [cmb]
  | cons x u ih =>
    intro i
    rw [List.cons_append, cmb, cmb, ih, List.length_cons, show i + 1 + u.length = i + (u.length + 1) by omega]
    omega
theorem cmb_out {b : List Int} {n : Nat} : ∀ (a : List Int) (i : Nat), 1 ≤ b.length → i + a.length + b.length ≤ n + 1 → cmb i a b n = 0
  | [], _, _, _ => rfl
  | x :: a, i, hb, h => by
    rw [List.length_cons] at h
    rw [cmb, shg_out (by omega), cmb_out a (i + 1) hb (by omega)]
    omega
theorem cmb_up (b : List Int) (n : Nat) : ∀ (c : List Int) (i : Nat), cmb (i + 1) c b n = if 1 ≤ n then cmb i c b (n - 1) else 0
  | [], _ => by simp [cmb]
  | x :: c, i => by
    rw [cmb, cmb, shg_up, cmb_up b n c (i + 1)]
    split <;> simp
def padd : List Int → List Int → List Int
  | [], c => c
  | c, [] => c
  | x :: c, y :: d => (x + y) :: padd c d
theorem cmb_padd (b : List Int) (n : Nat) : ∀ (c d : List Int) (i : Nat), cmb i (padd c d) b n = cmb i c b n + cmb i d b n
  | [], d, i => by simp [padd, cmb]
  | x :: c, [], i => by simp [padd, cmb]
  | x :: c, y :: d, i => by
    rw [padd, cmb, cmb, cmb, cmb_padd b n c d (i + 1)]
    grind
theorem cmb_map (a : Int) (b : List Int) (n : Nat) : ∀ (c : List Int) (i : Nat), cmb i (c.map (a * ·)) b n = a * cmb i c b n
  | [], i => by simp [cmb]
  | x :: c, i => by
    rw [List.map_cons, cmb, cmb, cmb_map a b n c (i + 1)]
    grind
def InI (p : Int) (d : List Int) (f : Nat → Int) : Prop := ∃ c : List Int, ∀ n, Cg p (f n) (cmb 0 c d n)
theorem InI.congr {p : Int} {d : List Int} {f h : Nat → Int} (e : ∀ n, Cg p (f n) (h n)) (q : InI p d h) : InI p d f := by
  obtain ⟨c, q⟩ := q
  exact ⟨c, fun n => (e n).trans (q n)⟩
theorem InI.zero {p : Int} {d : List Int} : InI p d (fun _ => 0) := ⟨[], fun n => Cg.refl _⟩
theorem InI.add {p : Int} {d : List Int} {f h : Nat → Int} (q : InI p d f) (r : InI p d h) : InI p d (fun n => f n + h n) := by
  obtain ⟨c, q⟩ := q
  obtain ⟨e, r⟩ := r
  exact ⟨padd c e, fun n => by rw [cmb_padd]; exact (q n).add (r n)⟩
theorem InI.smul {p : Int} {d : List Int} {f : Nat → Int} (a : Int) (q : InI p d f) : InI p d (fun n => a * f n) := by
  obtain ⟨c, q⟩ := q
  exact ⟨c.map (a * ·), fun n => by rw [cmb_map]; exact (q n).mul a⟩
theorem InI.shift {p : Int} {d : List Int} {f : Nat → Int} (q : InI p d f) : InI p d (fun n => if 1 ≤ n then f (n - 1) else 0) := by
  obtain ⟨c, q⟩ := q
  refine ⟨0 :: c, fun n => ?_⟩
  rw [cmb, cmb_up]
  show Cg p (if 1 ≤ n then f (n - 1) else 0) _
  split
  · have := q (n - 1)
    rw [Int.zero_mul, Int.zero_add]
    exact this
  · rw [Int.zero_mul, Int.zero_add]
    exact Cg.refl _
theorem InI.self {p : Int} (d : List Int) : InI p d (g d) := ⟨[1], fun n => by rw [cmb, cmb, shg_zero]; exact ⟨0, by grind⟩⟩
theorem InI.shg {p : Int} {d b : List Int} (h : InI p d (g b)) : ∀ k, InI p d (Lq.shg k b)
  | 0 => h.congr fun n => by rw [shg_zero]; exact Cg.refl _
  | k + 1 => (InI.shg h k).shift.congr fun n => by rw [shg_up]; exact Cg.refl _
theorem InI.cmb {p : Int} {d b : List Int} (h : InI p d (g b)) : ∀ (a : List Int) (i : Nat), InI p d (Lq.cmb i a b)
  | [], i => InI.zero
  | x :: a, i => ((h.shg i).smul x).add (InI.cmb h a (i + 1))
theorem InI.trans {p : Int} {d e : List Int} {f : Nat → Int} (h : InI p d (g e)) (q : InI p e f) : InI p d f := by
  obtain ⟨c, q⟩ := q
  exact (h.cmb c 0).congr q
theorem InI.low {p h : Int} {d : List Int} {f : Nat → Int} (hd : 1 ≤ d.length) (hu : Cg p (h * g d (d.length - 1)) 1) (q : InI p d f) (hf : ∀ n, d.length - 1 ≤ n → Cg p (f n) 0) : ∀ n, Cg p (f n) 0 := by
  obtain ⟨c, q⟩ := q
  revert q
  refine snocInd (P := fun c => (∀ n, Cg p (f n) (Lq.cmb 0 c d n)) → ∀ n, Cg p (f n) 0) (fun q n => q n) (fun c x ih q => ?_) c
  have h1 := q (c.length + (d.length - 1))
  rw [cmb_snoc, cmb_out c 0 hd (by omega), Int.zero_add, Nat.zero_add] at h1
  have h2 : Lq.shg c.length d (c.length + (d.length - 1)) = g d (d.length - 1) := by
    unfold Lq.shg
    rw [if_pos (by omega), Nat.add_sub_cancel_left]
  rw [h2] at h1
  have h3 := hf (c.length + (d.length - 1)) (by omega)
  have hx : Cg p x 0 := by
    obtain ⟨k, h1⟩ := h1
    obtain ⟨l, h3⟩ := h3
    obtain ⟨m, hu⟩ := hu
    exact ⟨h * (l - k) - x * m, by grind⟩
  refine ih fun n => (q n).trans ?_
  rw [cmb_snoc]
  obtain ⟨k, hx⟩ := hx
  exact ⟨k * Lq.shg (0 + c.length) d n, by grind⟩
def addAt (p : Int) (l : List Int) (k : Nat) (v : Int) : List Int := l.set k ((g l k + v) % p)
theorem addAt_len (p : Int) (l : List Int) (k : Nat) (v : Int) : (addAt p l k v).length = l.length := by unfold addAt; simp
theorem g_setP {l : List Int} {k : Nat} {v : Int} (hk : k < l.length) (n : Nat) : g (l.set k v) n = if n = k then v else g l n := by
  unfold g
  rw [List.getD_eq_getElem?_getD, List.getD_eq_getElem?_getD, List.getElem?_set]
  by_cases e : n = k
  · subst e
    rw [if_pos rfl, if_pos hk, if_pos rfl]
    rfl
  · rw [if_neg (fun h => e h.symm), if_neg e]
theorem set_rg {p v : Int} {l : List Int} {k : Nat} (h : Rg p l) (hv : 0 ≤ v ∧ v < p) : Rg p (l.set k v) := fun x hx => by
  rcases List.mem_or_eq_of_mem_set hx with hx | rfl
  · exact h x hx
  · exact hv
theorem addAt_rg {p v : Int} {l : List Int} {k : Nat} (hp : 0 < p) (h : Rg p l) : Rg p (addAt p l k v) := set_rg h ⟨Int.emod_nonneg _ (by omega), Int.emod_lt_of_pos _ hp⟩
def rowR (p x : Int) : Nat → List Int → List Int → List Int
  | _, [], l => l
  | k, y :: b, l => rowR p x (k + 1) b (addAt p l k (x * y))
theorem rowR_len (p x : Int) : ∀ (b : List Int) (k : Nat) (l : List Int), (rowR p x k b l).length = l.length
  | [], _, _ => rfl
  | y :: b, k, l => by rw [rowR, rowR_len p x b, addAt_len]
theorem rowR_rg {p x : Int} (hp : 0 < p) : ∀ (b : List Int) (k : Nat) (l : List Int), Rg p l → Rg p (rowR p x k b l)
  | [], _, _, h => h
  | y :: b, k, l, h => rowR_rg hp b (k + 1) _ (addAt_rg hp h)
theorem g_rowR {p x : Int} : ∀ (b : List Int) (k : Nat) (l : List Int), k + b.length ≤ l.length → ∀ n, Cg p (g (rowR p x k b l) n) (g l n + x * shg k b n)
  | [], k, l, _, n => by rw [rowR, shg_nil]; exact ⟨0, by grind⟩
  | y :: b, k, l, h, n => by
    rw [List.length_cons] at h
    rw [rowR]
    refine (g_rowR b (k + 1) _ (by rw [addAt_len]; omega) n).trans ?_
    rw [shg_cons]
    unfold addAt
    rw [g_setP (by omega)]
    by_cases e : n = k
    · subst e
      rw [if_pos rfl, if_pos rfl]
      obtain ⟨m, hm⟩ := Cg.mod p (g l n + x * y)
      exact ⟨m, by grind⟩
    · rw [if_neg e, if_neg e]
      exact ⟨0, by grind⟩
def divR (p h : Int) (b : List Int) : Nat → List Int → List Int → List Int × List Int
  | 0, l, q => (l, q)
  | at_ + 1, l, q => divR p h b at_ (rowR p (-(g l (at_ + b.length - 1) * h % p)) at_ b l) (q ++ [g l (at_ + b.length - 1) * h % p])
theorem divR_spec {p h : Int} {b : List Int} (hp : 0 < p) (hb : 1 ≤ b.length) (hu : Cg p (h * g b (b.length - 1)) 1) : ∀ (c : Nat) (l q : List Int), Rg p l → (1 ≤ c → c + b.length ≤ l.length + 1) → (∀ n, c + b.length - 1 ≤ n → g l n = 0) →
    ∃ (l' fs : List Int), divR p h b c l q = (l', q ++ fs) ∧ fs.length = c ∧ Rg p fs ∧ Rg p l' ∧ l'.length = l.length ∧ (∀ n, Cg p (g l n) (g l' n + cmb 0 fs.reverse b n)) ∧ ∀ n, b.length - 1 ≤ n → g l' n = 0
  | 0, l, q, hl, _, h0 => ⟨l, [], by simp [divR], rfl, fun x hx => absurd hx List.not_mem_nil, hl, rfl, fun n => by simp only [List.reverse_nil, cmb]; exact ⟨0, by grind⟩, fun n hn => h0 n (by omega)⟩
  | c + 1, l, q, hl, hc, h0 => by
    have hc := hc (by omega)
    have hf : 0 ≤ g l (c + b.length - 1) * h % p ∧ g l (c + b.length - 1) * h % p < p := ⟨Int.emod_nonneg _ (by omega), Int.emod_lt_of_pos _ hp⟩
    generalize hfe : g l (c + b.length - 1) * h % p = f at hf
    have hr := rowR_rg (x := -f) hp b c l hl
    have hg := g_rowR (p := p) (x := -f) b c l (by omega)
    have h1 : ∀ n, c + b.length - 1 ≤ n → g (rowR p (-f) c b l) n = 0 := fun n hn => by
      refine Cg.eq (hr.g hp n) ⟨Int.le_refl _, hp⟩ ((hg n).trans ?_)
      by_cases e : n = c + b.length - 1
      · have hs : shg c b n = g b (b.length - 1) := by
          unfold shg
          rw [if_pos (by omega), show n - c = b.length - 1 by omega]
        rw [hs, e]
        obtain ⟨k, hk⟩ := Cg.mod p (g l (c + b.length - 1) * h)
        rw [hfe] at hk
        obtain ⟨m, hm⟩ := hu
        generalize g l (c + b.length - 1) = u at *
        generalize g b (b.length - 1) = v at *
        exact ⟨-(k * v) - u * m, by grind⟩
      · rw [h0 n (by omega), shg_out (by omega)]
        exact ⟨0, by grind⟩
    obtain ⟨l', fs, e1, e2, e3, e4, e5, e6, e7⟩ := divR_spec hp hb hu c (rowR p (-f) c b l) (q ++ [f]) hr (fun _ => by rw [rowR_len]; omega) h1
    refine ⟨l', f :: fs, ?_, by simp [e2], ?_, e4, by rw [e5, rowR_len], fun n => ?_, e7⟩
    · rw [divR, hfe, e1, List.append_assoc]
      rfl
    · intro x hx
      rcases List.mem_cons.mp hx with rfl | hx
      · exact hf
      · exact e3 x hx
    · rw [List.reverse_cons, cmb_snoc, List.length_reverse, e2, Nat.zero_add]
      obtain ⟨k, hk⟩ := hg n
      obtain ⟨m, hm⟩ := e6 n
      exact ⟨m - k, by grind⟩
def divP (p : Int) (a b : List Int) : List Int × List Int := divR p (invP p (g b (b.length - 1))) b (a.length + 1 - b.length) a []
def restP (p : Int) (a b : List Int) : List Int := trim (divP p a b).1
def quoP (p : Int) (a b : List Int) : List Int := (divP p a b).2.reverse
def Pol (p : Int) (a : List Int) : Prop := Rg p a ∧ trim a = a
theorem Pol.trim {p : Int} {l : List Int} (h : Rg p l) : Pol p (Lq.trim l) := ⟨trim_rg h, trim_idem l⟩
theorem Pol.last {p : Int} {b : List Int} (hp : isP p = true) (h : Pol p b) (hn : b ≠ []) : g b (b.length - 1) % p ≠ 0 := by
  have hc := isP_cases hp
  have h1 := trim_last h.2 hn
  have h2 := h.1.g (by omega) (b.length - 1)
  rw [Int.emod_eq_of_lt h2.1 h2.2]
  exact h1
theorem Pol.unit {p : Int} {b : List Int} (hp : isP p = true) (h : Pol p b) (hn : b ≠ []) : Cg p (invP p (g b (b.length - 1)) * g b (b.length - 1)) 1 := by
  have hc := isP_cases hp
  have := invP_mul hp (h.last hp hn)
  rw [Cg.iff (by omega), Int.mul_comm, this, Int.emod_eq_of_lt (by omega) (by omega)]
theorem div_main {p : Int} {a b : List Int} (hp : isP p = true) (ha : Rg p a) (hb : Pol p b) (hn : b ≠ []) :
    (∀ n, Cg p (g a n) (g (restP p a b) n + cmb 0 (quoP p a b) b n)) ∧ (restP p a b).length < b.length ∧ Pol p (restP p a b) ∧ Rg p (quoP p a b) ∧ (quoP p a b).length = a.length + 1 - b.length ∧ (divP p a b).1.length = a.length := by
  have hc := isP_cases hp
  have hl : 1 ≤ b.length := List.length_pos_iff.mpr hn
  obtain ⟨l', fs, e1, e2, e3, e4, e5, e6, e7⟩ := divR_spec (p := p) (h := invP p (g b (b.length - 1))) (b := b) (by omega) hl (hb.unit hp hn) (a.length + 1 - b.length) a [] ha (fun _ => by omega) (fun n hn => g_out (by omega))
  unfold restP quoP divP
  rw [e1]
  have hle : (trim l').length ≤ b.length - 1 := trim_le e7
  exact ⟨fun n => by rw [g_trim, List.nil_append]; exact e6 n, by dsimp only; omega, Pol.trim e4, fun x hx => e3 x (by simpa using hx), by simp [e2], e5⟩
theorem trim_of_last {l : List Int} (h : l = [] ∨ g l (l.length - 1) ≠ 0) : trim l = l := by
  revert h
  refine snocInd (P := fun l => l = [] ∨ g l (l.length - 1) ≠ 0 → trim l = l) (fun _ => rfl) (fun l x _ h => ?_) l
  have : g (l ++ [x]) ((l ++ [x]).length - 1) = x := by unfold g; simp
  rw [this] at h
  rcases h with h | h
  · simp at h
  · exact trim_snoc h l
end Lq

namespace Lq
open PySem PySem.Spec PyProof.Rows L2
theorem isi_tup (xs : List Dt) : isiO "tuple" (.tup xs) = some (.bl true) := by
  unfold isiO tyN
  rfl
theorem tru_bl (b : Bool) : truO (.bl b) = some b := rfl
end Lq

namespace Lq
open PySem PySem.Spec PyProof.Rows L2
def m_is_integer : Ms → O := (retS (andV (op1 (varE 0) (isiO "int")) (op1 (op1 (varE 0) (isiO "bool")) notO)))
def noObj : Dt → Bool | .obj _ _ _ => false | .scr _ _ => false | _ => true
def isI : Dt → Bool | .int _ => true | _ => false
def Fisint : List Dt → Fo | [d] => if noObj d = true then .ok (.bl (isI d)) else .no | _ => .no
theorem ii_non : isiO "int" .non = some (.bl false) := by unfold isiO tyN; rfl
theorem ii_bl (b : Bool) : isiO "int" (.bl b) = some (.bl true) := by unfold isiO tyN; rfl
theorem ii_int (i : Int) : isiO "int" (.int i) = some (.bl true) := by unfold isiO tyN; rfl
theorem ii_str (x : Str) : isiO "int" (.str x) = some (.bl false) := by unfold isiO tyN; rfl
theorem ii_lst (x : List Dt) : isiO "int" (.lst x) = some (.bl false) := by unfold isiO tyN; rfl
theorem ii_tup (x : List Dt) : isiO "int" (.tup x) = some (.bl false) := by unfold isiO tyN; rfl
theorem ib_bl (b : Bool) : isiO "bool" (.bl b) = some (.bl true) := by unfold isiO tyN; rfl
theorem ib_int (i : Int) : isiO "bool" (.int i) = some (.bl false) := by unfold isiO tyN; rfl
theorem it_non : isiO "tuple" .non = some (.bl false) := by unfold isiO tyN; rfl
theorem it_bl (b : Bool) : isiO "tuple" (.bl b) = some (.bl false) := by unfold isiO tyN; rfl
theorem it_int (i : Int) : isiO "tuple" (.int i) = some (.bl false) := by unfold isiO tyN; rfl
theorem it_str (x : Str) : isiO "tuple" (.str x) = some (.bl false) := by unfold isiO tyN; rfl
theorem it_lst (x : List Dt) : isiO "tuple" (.lst x) = some (.bl false) := by unfold isiO tyN; rfl
theorem notO_bl (b : Bool) : notO (.bl b) = some (.bl (!b)) := rfl
theorem run_is_integer (ds : List Dt) (h : Fisint ds ≠ .no) : runD 1 m_is_integer ds = Fisint ds := by
  unfold Fisint at h
  split at h
  · rename_i d
    have hst : st0 1 [d] = { sl := [.im d], mo := [] } := rfl
    unfold runD m_is_integer
    rw [hst]
    cases d with
    | obj => exact absurd rfl h
    | scr => exact absurd rfl h
    | non => simp [ii_non, Fisint, noObj, isI]; rfl
    | bl b => simp [ii_bl, ib_bl, notO_bl, Fisint, noObj, isI]; rfl
    | int i => simp [ii_int, ib_int, notO_bl, Fisint, noObj, isI]; rfl
    | str x => simp [ii_str, Fisint, noObj, isI]; rfl
    | lst x => simp [ii_lst, Fisint, noObj, isI]; rfl
    | tup x => simp [ii_tup, Fisint, noObj, isI]; rfl
  · exact absurd rfl h
def m_is_word : Ms → O := (seqS (ifS (orT (notT (truT (op1 (varE 0) (isiO "tuple")))) (tst (op2 (calE (aCons (varE 0) aNil) lenO) (varE 2) neO))) (retS (cE (.bl false))) nilS)
  (retS (calE (aCons (frz (lcE (itS (varE 0)) (Tk.nm 3).k yesT (andV (funE 1 (aCons (varE 3) aNil) Fisint) (chT (cE (.int 0)) (varE 3) (varE 1) leO ltO)) [3])) aNil) allO)))
def itB (p : Int) : Dt → Bool | .int i => decide (0 ≤ i) && decide (i < p) | _ => false
def wordB (p n : Int) : Dt → Bool | .tup xs => decide ((xs.length : Int) = n) && xs.all (itB p) | _ => false
def okV : Dt → Bool | .obj _ _ _ => false | .scr _ _ => false | .tup xs => decide (xs.length ≤ 1000) && xs.all noObj | _ => true
def Fisword : List Dt → Fo | [d, .int p, .int n] => if okV d = true then .ok (.bl (wordB p n d)) else .no | _ => .no
theorem Fisint_run {d : Dt} (h : noObj d = true) : Fisint [d] = .ok (.bl (isI d)) := by unfold Fisint; dsimp only; rw [if_pos h]
theorem chT_run (f g h : Ms → R Dt) (o o' : Dt → Dt → Option Dt) (S : Ms) : chT f g h o o' S = (f S).bind fun d S1 => (g S1).bind fun e S2 => (R.of (o d e) S2).bind fun k S3 => match k with
  | .bl true => (h S3).bind fun z S4 => R.of (o' e z) S4
  | .bl false => .ok (.bl false) S3
  | _ => .no := rfl
theorem run_is_word (ds : List Dt) (h : Fisword ds ≠ .no) : runD 4 m_is_word ds = Fisword ds := by
  unfold Fisword at h
  split at h
  · rename_i d p n
    have hst : st0 4 [d, .int p, .int n] = { sl := [.im d, .im (.int p), .im (.int n), .no], mo := [] } := rfl
    cases hv : okV d with
    | false => rw [hv] at h; exact absurd rfl h
    | true =>
    have e : Fisword [d, .int p, .int n] = .ok (.bl (wordB p n d)) := by unfold Fisword; dsimp only; rw [if_pos hv]
    rw [e]
    unfold runD m_is_word
    rw [hst]
    cases d with
    | obj => cases hv
    | scr => cases hv
    | non => simp [it_non, tru_bl, wordB]; rfl
    | bl b => simp [it_bl, tru_bl, wordB]; rfl
    | int i => simp [it_int, tru_bl, wordB]; rfl
    | str x => simp [it_str, tru_bl, wordB]; rfl
    | lst x => simp [it_lst, tru_bl, wordB]; rfl
    | tup xs =>
      unfold okV at hv
      simp only [Bool.and_eq_true, decide_eq_true_eq, List.all_eq_true] at hv
      obtain ⟨hl, hno⟩ := hv
      by_cases hn : (xs.length : Int) = n
      · have key : lcE (itS (varE 0)) (Tk.nm 3).k yesT (andV (funE 1 (aCons (varE 3) aNil) Fisint) (chT (cE (.int 0)) (varE 3) (varE 1) leO ltO)) [3] { sl := [.im (.tup xs), .im (.int p), .im (.int n), .no], mo := [] } = .ok (xs.map fun x => Dt.bl (itB p x)) { sl := [.im (.tup xs), .im (.int p), .im (.int n), .no], mo := [] } := by
          have := lcE_map (it := itS (varE 0)) (k := (Tk.nm 3).k) (e := andV (funE 1 (aCons (varE 3) aNil) Fisint) (chT (cE (.int 0)) (varE 3) (varE 1) leO ltO)) (own := [3]) (S := { sl := [.im (.tup xs), .im (.int p), .im (.int n), .no], mo := [] }) (S1 := { sl := [.im (.tup xs), .im (.int p), .im (.int n), .no], mo := [] }) id (fun x => Dt.bl (itB p x)) xs (by simp) (fun x hx => by
            have hi := Fisint_run (hno x hx)
            refine ⟨_, kNm _ _ _, { sl := [.im (.tup xs), .im (.int p), .im (.int n), .im x], mo := [] }, ?_, rfl⟩
            cases x with
            | int i =>
              by_cases h0 : 0 ≤ i
              · simp [wipeL, hi, isI, itB, chT_run, h0]
              · simp [wipeL, hi, isI, itB, chT_run, h0]
            | _ => simp [wipeL, hi, isI, itB]) (fun d T T' => Tk.mo) (by omega)
          exact this
        have e2 : (xs.map fun x => Dt.bl (itB p x)) = (xs.map (itB p)).map Dt.bl := by rw [List.map_map]; rfl
        rw [e2] at key
        have hif : ifS (orT (notT (truT (op1 (varE 0) (isiO "tuple")))) (tst (op2 (calE (aCons (varE 0) aNil) lenO) (varE 2) neO))) (retS (cE (.bl false))) nilS { sl := [.im (.tup xs), .im (.int p), .im (.int n), .no], mo := [] } = .nx { sl := [.im (.tup xs), .im (.int p), .im (.int n), .no], mo := [] } := by
          simp [isi_tup, tru_bl, hn]
        rw [seqS_run, hif, seq_nx, retS_run, calE_run, aCons_run, frz_run', key, R.bind_ok, R.bind_ok, aNil_run, R.bind_ok, R.bind_ok, allO_run, R.of_some, R.stmt_ok]
        show Fo.ok _ = _
        congr 2
        unfold wordB
        dsimp only
        rw [decide_eq_true hn, Bool.true_and, List.all_map]
        rfl
      · simp [isi_tup, tru_bl, hn, wordB]
        rfl
  · exact absurd rfl h
def m_dot : Ms → O := (retS (op2 (calE (aCons (frz (lcE (itZ (aCons (varE 0) (aCons (varE 1) aNil))) (Tk.tp [3, 4]).k yesT (op2 (varE 3) (varE 4) mulO) [3, 4])) aNil) sumO) (varE 2) modO))
def sm (v w : List Int) : Int := (List.zipWith (fun a b => a * b) v w).sum
def Fdot : List Dt → Fo
  | [d, e, .int p] => match wordOf d, wordOf e with
    | some v, some w => if (okP p && okW p v && okW p w && decide (v.length = w.length)) = true then .ok (.int (sm v w % p)) else .no
    | _, _ => .no
  | _ => .no
theorem Fdot_run {p : Int} {v w : List Int} (hp : okP p = true) (hv : okW p v = true) (hw : okW p w = true) (e : v.length = w.length) : Fdot [Wd v, Wd w, .int p] = .ok (.int (sm v w % p)) := by
  unfold Fdot
  simp only [wordOf_Wd]
  rw [if_pos (by simp [hp, hv, hw, e])]
theorem Fdot_inv {ds : List Dt} (h : Fdot ds ≠ .no) : ∃ v w p, ds = [Wd v, Wd w, .int p] ∧ okP p = true ∧ okW p v = true ∧ okW p w = true ∧ v.length = w.length := by
  unfold Fdot at h
  split at h
  · rename_i d e p
    split at h
    · rename_i v w h1 h2
      split at h
      · rename_i hc
        have := wordOf_eq h1
        have := wordOf_eq h2
        subst_vars
        simp only [Bool.and_eq_true, decide_eq_true_eq] at hc
        exact ⟨v, w, p, rfl, hc.1.1.1, hc.1.1.2, hc.1.2, hc.2⟩
      · exact absurd rfl h
    · exact absurd rfl h
  · exact absurd rfl h
theorem sumO_ints (ns : List Int) : sumO [.lst (ns.map Dt.int)] = some (.int ns.sum) := by unfold sumO; dsimp only; rw [intsOf_map]; rfl
theorem run_dot (ds : List Dt) (h : Fdot ds ≠ .no) : runD 5 m_dot ds = Fdot ds := by
  obtain ⟨v, w, p, rfl, hp, hv, hw, hl⟩ := Fdot_inv h
  rw [Fdot_run hp hv hw hl]
  obtain ⟨hp1, hp2⟩ := okP_iff.mp hp
  obtain ⟨hv1, hv2⟩ := okW_iff.mp hv
  have key : (lcE (itZ (aCons (varE 0) (aCons (varE 1) aNil))) (Tk.tp [3, 4]).k yesT (op2 (varE 3) (varE 4) mulO) [3, 4]) (st0 5 [Wd v, Wd w, .int p]) = .ok ((v.zip w).map fun q => Dt.int (q.1 * q.2)) (st0 5 [Wd v, Wd w, .int p]) := by
    refine lcE_map (fun q : Int × Int => Dt.tup [.int q.1, .int q.2]) _ (v.zip w) ?_ (fun q hq => ?_) (fun d T T' => Tk.mo) (by simp; omega)
    · simp [st0, Wd, zipD_ints]
    · have := cmul_w (a := q.2) hp2 (hv2 q.1 (List.of_mem_zip hq).1)
      simp [st0, wipeL, kNames, this]
  have e2 : ((v.zip w).map fun q => Dt.int (q.1 * q.2)) = (List.zipWith (fun a b => a * b) v w).map Dt.int := by rw [List.map_zipWith, List.zip, List.map_zipWith]
  rw [e2] at key
  have hst : st0 5 [Wd v, Wd w, .int p] = { sl := [.im (Wd v), .im (Wd w), .im (.int p), .no, .no], mo := [] } := rfl
  unfold runD m_dot
  rw [retS_run, op2_run, calE_run, aCons_run, frz_run', key, R.bind_ok, R.bind_ok, aNil_run, R.bind_ok, R.bind_ok, sumO_ints, R.of_some, R.bind_ok, hst]
  simp [hp1, sm]
  rfl
end Lq

namespace Lq
open PySem PySem.Spec PyProof.Rows L2
theorem rep_int (n : Nat) : (List.replicate n [Dt.int 0]).flatten = (List.replicate n (0 : Int)).map Dt.int := by
  rw [List.flatten_replicate_singleton, List.map_replicate]
def extW (p : Int) (w : List Int) : List (List Int) := (List.range p.toNat).map fun (a : Nat) => w ++ [(a : Int)]
def allN (p : Int) : Nat → List (List Int)
  | 0 => [[]]
  | k + 1 => (allN p k).foldl (fun acc w => acc ++ extW p w) []
theorem catT_run {xs ys : List Dt} (h : xs.length + ys.length ≤ 100000) : catT (.tup xs) (.tup ys) = some (.tup (xs ++ ys)) := by
  show (if _ then _ else _) = _
  rw [if_pos h]
end Lq

namespace Lq
open PySem PySem.Spec PyProof.Rows L2
def natsOf (ds : List Dt) : Option (List Nat) := (intsOf ds).bind fun ns => if (ns.all fun i => decide (0 ≤ i)) = true then some (ns.map Int.toNat) else none
theorem natsOf_map (P : List Nat) : natsOf (P.map fun (c : Nat) => Dt.int (c : Int)) = some P := by
  have e : (P.map fun (c : Nat) => Dt.int (c : Int)) = (P.map fun (c : Nat) => (c : Int)).map Dt.int := by rw [List.map_map]; rfl
  unfold natsOf
  rw [e, intsOf_map]
  dsimp only [Option.bind]
  rw [if_pos (by rw [List.all_eq_true]; intro x hx; obtain ⟨c, _, rfl⟩ := List.mem_map.mp hx; exact decide_eq_true (by omega)), List.map_map]
  congr 1
  exact (List.map_congr_left fun x _ => by simp).trans (List.map_id _)
theorem natsOf_eq {ds : List Dt} {P : List Nat} (h : natsOf ds = some P) : ds = P.map fun (c : Nat) => Dt.int (c : Int) := by
  unfold natsOf at h
  obtain ⟨ns, h1, h2⟩ := Option.bind_eq_some_iff.mp h
  split at h2
  · rename_i hc
    cases h2
    rw [intsOf_eq h1, List.map_map]
    rw [List.all_eq_true] at hc
    refine List.map_congr_left fun x hx => ?_
    have := of_decide_eq_true (hc x hx)
    simp only [Function.comp]
    rw [Int.toNat_of_nonneg this]
  · cases h2
theorem ixN_nat {n k : Nat} (h : k < n) : ixN n (k : Int) = some k := by
  unfold ixN
  rw [if_pos (by omega), if_pos (by omega), Int.toNat_natCast]
theorem setS_run {i k j : Nat} {f g : Ms → R Dt} {S : Ms} {xs : List Dt} {d : Dt} {z : Int} (h1 : f S = .ok d S) (hm : muAt S i = some (k, xs)) (h2 : g S = .ok (.int z) S) (hj : ixN xs.length z = some j) : setS i f g S = .nx { S with mo := S.mo.set k (.ob (.ls (xs.set j d))) } := by
  unfold setS
  rw [h1, R.stmt_ok, hm]
  dsimp only
  rw [h2, R.stmt_ok, hm]
  dsimp only
  rw [hj]
def m__kernel_word : Ms → O := (seqS (asgN 5 (opN (frz (lstE (aCons (cE (.int 0)) aNil))) (varE 3) repL))
  (seqS (setS 5 (cE (.int 1)) (varE 2))
  (seqS (forS (itZ (aCons (varE 0) (aCons (varE 1) aNil))) (Tk.tp [6, 7]).k (setS 5 (op2 (op1 (op2 (varE 6) (varE 2) ixO) negO) (varE 4) modO) (varE 7)))
  (retS (calE (aCons (varE 5) aNil) tupO)))))
def kwL (p : Int) (n f : Nat) (qs : List (List Int × Nat)) : List Int := qs.foldl (fun w q => w.set q.2 (-(g q.1 f) % p)) ((List.replicate n 0).set f 1)
def Fkword : List Dt → Fo
  | [.tup ds, .tup es, .int f, .int n, .int p] => match wordsOf ds, natsOf es with
    | some T, some P => if (okP p && okRb p n.toNat T && decide (0 ≤ n ∧ n ≤ 1000) && decide (T.length ≤ 1000) && decide (0 ≤ f ∧ f < n) && P.all fun c => decide (c < n.toNat)) = true then .ok (Wd (kwL p n.toNat f.toNat (T.zip P))) else .no
    | _, _ => .no
  | _ => .no
theorem Fkword_run {p : Int} {n f : Nat} {T : List (List Int)} {P : List Nat} (hp : okP p = true) (hT : okR p n T) (hn : n ≤ 1000) (hl : T.length ≤ 1000) (hf : f < n) (hP : ∀ c ∈ P, c < n) : Fkword [TD T, PD P, .int f, .int n, .int p] = .ok (Wd (kwL p n f (T.zip P))) := by
  unfold Fkword TD PD
  simp only [wordsOf_map, natsOf_map, Int.toNat_natCast]
  rw [if_pos]
  simp [hp, okRb_iff.mpr hT, hl]
  first | exact hP | exact ⟨hn, hP⟩ | exact ⟨by omega, hP⟩ | exact ⟨by omega, by omega, hP⟩ | exact ⟨⟨by omega, by omega⟩, hP⟩
theorem zipD_wn : ∀ (rows : List (List Int)) (ws : List Nat), zipD (rows.map Wd) (ws.map fun (c : Nat) => Dt.int (c : Int)) = (rows.zip ws).map fun q => Dt.tup [Wd q.1, .int (q.2 : Int)]
  | [], _ => by simp [zipD]
  | _ :: _, [] => by simp [zipD]
  | a :: v, b :: w => by
    have := zipD_wn v w
    unfold zipD at this ⊢
    simp [this]
theorem repL_run {n : Nat} (hn : n ≤ 1000) : repL (.lst [.int 0]) (.int (n : Int)) = some ((List.replicate n (0 : Int)).map Dt.int) := by
  show (if _ then _ else _) = _
  have : ([Dt.int 0] : List Dt).length ≤ 100 ∧ (0 : Int) ≤ (n : Int) ∧ (n : Int) ≤ 1000 := ⟨by simp, by omega, by omega⟩
  rw [if_pos this, Int.toNat_natCast, rep_int]
theorem setl (w : List Int) (k : Nat) (x : Int) : (w.map Dt.int).set k (.int x) = (w.set k x).map Dt.int := by rw [List.map_set]
def kwS (T : List (List Int)) (P : List Nat) (f n : Nat) (p : Int) (w : List Int) (x6 x7 : Sv) : Ms := { sl := [.im (TD T), .im (PD P), .im (.int f), .im (.int n), .im (.int p), .mu 0, x6, x7], mo := [.ob (.ls (w.map Dt.int))] }
theorem run__kernel_word (ds : List Dt) (h : Fkword ds ≠ .no) : runD 8 m__kernel_word ds = Fkword ds := by
  unfold Fkword at h
  split at h
  · rename_i ds es f n p
    split at h
    · rename_i T P h1 h2
      split at h
      · rename_i hc
        have := wordsOf_eq h1
        have := natsOf_eq h2
        subst_vars
        simp only [Bool.and_eq_true, decide_eq_true_eq, List.all_eq_true] at hc
        obtain ⟨⟨⟨⟨⟨hp, hT⟩, hn⟩, hl⟩, hf⟩, hP⟩ := hc
        obtain ⟨n, rfl⟩ : ∃ k : Nat, n = (k : Int) := ⟨n.toNat, by omega⟩
        obtain ⟨f, rfl⟩ : ∃ k : Nat, f = (k : Int) := ⟨f.toNat, by omega⟩
        rw [Int.toNat_natCast] at hT hP
        have hT := okRb_iff.mp hT
        have hn1 : n ≤ 1000 := by omega
        have hf1 : f < n := by omega
        have hp1 := (okP_iff.mp hp).1
        have e0 : Fkword [.tup (T.map Wd), .tup (P.map fun (c : Nat) => Dt.int (c : Int)), .int (f : Int), .int (n : Int), .int p] = _ := Fkword_run hp hT hn1 hl hf1 hP
        rw [e0]
        have hst : st0 8 [.tup (T.map Wd), .tup (P.map fun (c : Nat) => Dt.int (c : Int)), .int (f : Int), .int (n : Int), .int p] = { sl := [.im (TD T), .im (PD P), .im (.int f), .im (.int n), .im (.int p), .no, .no, .no], mo := [] } := rfl
        have e1 : asgN 5 (opN (frz (lstE (aCons (cE (.int 0)) aNil))) (varE 3) repL) { sl := [.im (TD T), .im (PD P), .im (.int f), .im (.int n), .im (.int p), .no, .no, .no], mo := [] } = .nx (kwS T P f n p (List.replicate n 0) .no .no) := by
          have := repL_run hn1
          simp [this, kwS]
        have e2 : setS 5 (cE (.int 1)) (varE 2) (kwS T P f n p (List.replicate n 0) .no .no) = .nx (kwS T P f n p ((List.replicate n 0).set f 1) .no .no) := by
          refine (setS_run (k := 0) (j := f) (d := .int 1) (z := (f : Int)) rfl (muAt_run rfl rfl) (varE_im rfl) (ixN_nat (by simp; omega))).trans ?_
          rw [setl]
          rfl
        have hit : itZ (aCons (varE 0) (aCons (varE 1) aNil)) (kwS T P f n p ((List.replicate n 0).set f 1) .no .no) = .ok ((T.zip P).map fun q => Dt.tup [Wd q.1, .int (q.2 : Int)]) (kwS T P f n p ((List.replicate n 0).set f 1) .no .no) := by
          simp [kwS, TD, PD, zipD_wn]
        obtain ⟨S', f1, hok, y6, y7, f2⟩ := forL_fold (k := (Tk.tp [6, 7]).k) (body := setS 5 (op2 (op1 (op2 (varE 6) (varE 2) ixO) negO) (varE 4) modO) (varE 7)) (fun q : List Int × Nat => Dt.tup [Wd q.1, .int (q.2 : Int)])
          (fun _ (w : List Int) S => w.length = n ∧ ∃ y6 y7, S = kwS T P f n p w y6 y7) (fun w q => w.set q.2 (-(g q.1 f) % p)) (T.zip P) 0 ((List.replicate n 0).set f 1) _ ⟨by simp, .no, .no, rfl⟩ (fun _ w q S hq _ hI => by
            obtain ⟨hw, y6, y7, rfl⟩ := hI
            have hq1 := hT _ (List.of_mem_zip hq).1
            have hq2 := hP _ (List.of_mem_zip hq).2
            have e3 := wg_ix (r := q.1) (k := f) (by rw [hq1.2]; exact hf1)
            have hs1 : op2 (op1 (op2 (varE 6) (varE 2) ixO) negO) (varE 4) modO (kwS T P f n p w (.im (Wd q.1)) (.im (.int (q.2 : Int)))) = .ok (.int (-(g q.1 f) % p)) (kwS T P f n p w (.im (Wd q.1)) (.im (.int (q.2 : Int)))) := by simp [kwS, e3, hp1]
            have hs2 := setS_run (i := 5) (k := 0) (xs := w.map Dt.int) (j := q.2) (z := (q.2 : Int)) (g := varE 7) hs1 (muAt_run rfl rfl) (varE_im rfl) (ixN_nat (by rw [List.length_map, hw]; exact hq2))
            rw [setl] at hs2
            exact ⟨kwS T P f n p w (.im (Wd q.1)) (.im (.int (q.2 : Int))), kwS T P f n p (w.set q.2 (-(g q.1 f) % p)) (.im (Wd q.1)) (.im (.int (q.2 : Int))), by simp [kNames, kwS], .inl hs2, by rw [List.length_set]; exact hw, _, _, rfl⟩)
        unfold runD m__kernel_word
        rw [hst, seqS_run, e1, seq_nx, seqS_run, e2, seq_nx, seqS_run, forS_run, hit, R.stmt_ok, f1, seq_nx, f2]
        simp [kwS]
        rfl
      · exact absurd rfl h
    · exact absurd rfl h
  · exact absurd rfl h
def m_kernel : Ms → O := (seqS (asgT (Tk.tp [3, 4]) (funE 3 (aCons (varE 0) (aCons (varE 1) (aCons (varE 2) aNil))) Freduced))
  (retS (calE (aCons (frz (lcE (itR1 (aCons (varE 1) aNil)) (Tk.nm 5).k (tst (op2 (varE 5) (varE 4) (inI true))) (funE 5 (aCons (varE 3) (aCons (varE 4) (aCons (varE 5) (aCons (varE 1) (aCons (varE 2) aNil))))) Fkword) [5])) aNil) tupO)))
theorem contains_nat (P : List Nat) (c : Nat) : (P.map fun (c : Nat) => (c : Int)).contains (c : Int) = decide (c ∈ P) := by
  rw [Bool.eq_iff_iff, List.contains_iff_mem, decide_eq_true_eq, List.mem_map]
  constructor
  · rintro ⟨a, ha, e⟩
    have : a = c := by omega
    exact this ▸ ha
  · exact fun h => ⟨c, h, rfl⟩
theorem intsOf_pd (P : List Nat) : intsOf (P.map fun (c : Nat) => Dt.int (c : Int)) = some (P.map fun (c : Nat) => (c : Int)) := by
  have e : (P.map fun (c : Nat) => Dt.int (c : Int)) = (P.map fun (c : Nat) => (c : Int)).map Dt.int := by rw [List.map_map]; rfl
  rw [e, intsOf_map]
theorem nin_pd (P : List Nat) (c : Nat) : inI true (.int (c : Int)) (PD P) = some (.bl (decide (c ∉ P))) := by
  unfold inI PD
  dsimp only
  rw [seqOf_tup]
  dsimp only [Option.bind]
  rw [intsOf_pd]
  dsimp only [Option.map]
  rw [contains_nat, if_pos rfl, decide_not]
def frees (n : Nat) (P : List Nat) : List Nat := (List.range n).filter fun c => decide (c ∉ P)
def kerL (p : Int) (n : Nat) (s : Red) : List (List Int) := (frees n s.P).map fun f => kwL p n f (s.T.zip s.P)
def Fkernel : List Dt → Fo
  | [d, .int w, .int p] => match (seqOf d).bind wordsOf with
    | some rows => if (isP p && decide (0 ≤ w ∧ w ≤ 1000) && decide (rows.length ≤ 1000) && okRb p w.toNat rows) = true then .ok (TD (kerL p w.toNat (redN p rows w.toNat))) else .no
    | none => .no
  | _ => .no
theorem Fkernel_run {p : Int} {n : Nat} {rows : List (List Int)} {d : Dt} (hd : seqOf d = some (rows.map Wd)) (hp : isP p = true) (hn : n ≤ 1000) (hl : rows.length ≤ 1000) (h : okR p n rows) : Fkernel [d, .int n, .int p] = .ok (TD (kerL p n (redN p rows n))) := by
  unfold Fkernel
  dsimp only
  rw [hd]
  simp only [Option.bind, wordsOf_map, Int.toNat_natCast]
  rw [if_pos]
  simp [hp, okRb_iff.mpr h, hl]
  omega
theorem pk_mem {P : List Nat} {n at_ : Nat} {T : List (List Int)} (h : Rr at_ T P) {c : Nat} (hc : c ∈ P) : c < at_ := by
  obtain ⟨k, hk, e⟩ := List.getElem_of_mem hc
  have := h.lt k hk
  unfold pk at this
  rw [List.getD_eq_getElem?_getD, List.getElem?_eq_getElem hk] at this
  rw [← e]
  exact this
theorem asgT_two {i j : Nat} {f : Ms → R Dt} {S S1 : Ms} {d e : Dt} (h : f S = .ok (.tup [d, e]) S1) : asgT (Tk.tp [i, j]) f S = .nx { S1 with sl := (S1.sl.set i (.im d)).set j (.im e) } := by
  rw [asgT_run', h, R.stmt_ok]
  rfl
theorem run_kernel (ds : List Dt) (h : Fkernel ds ≠ .no) : runD 6 m_kernel ds = Fkernel ds := by
  unfold Fkernel at h
  split at h
  · rename_i d w p
    split at h
    · rename_i rows hrows
      split at h
      · rename_i hc
        simp only [Bool.and_eq_true, decide_eq_true_eq] at hc
        obtain ⟨⟨⟨hp, hw⟩, hl⟩, hk⟩ := hc
        obtain ⟨n, rfl⟩ : ∃ k : Nat, w = (k : Int) := ⟨w.toNat, by omega⟩
        rw [Int.toNat_natCast] at hk
        have hok := okRb_iff.mp hk
        obtain ⟨xs, hx1, hx2⟩ := Option.bind_eq_some_iff.mp hrows
        have hx3 := wordsOf_eq hx2
        subst hx3
        have hn : n ≤ 1000 := by omega
        rw [Fkernel_run hx1 hp hn hl hok]
        have hp' := isP_okP hp
        have e1 := Freduced_run hx1 hp hn hl hok
        have hI := RI_N hp hn hok n (Nat.le_refl _)
        have hT := redN_ok hp' hok n
        have hlen := redN_lens (p := p) (rows := rows) n
        generalize redN p rows n = s at *
        have hst : st0 6 [d, .int (n : Int), .int p] = { sl := [.im d, .im (.int n), .im (.int p), .no, .no, .no], mo := [] } := rfl
        have e2 : asgT (Tk.tp [3, 4]) (funE 3 (aCons (varE 0) (aCons (varE 1) (aCons (varE 2) aNil))) Freduced) { sl := [.im d, .im (.int n), .im (.int p), .no, .no, .no], mo := [] } = .nx { sl := [.im d, .im (.int n), .im (.int p), .im (TD s.T), .im (PD s.P), .no], mo := [] } := by
          refine (asgT_two (d := TD s.T) (e := PD s.P) (S1 := { sl := [.im d, .im (.int n), .im (.int p), .no, .no, .no], mo := [] }) ?_).trans rfl
          simp [e1]
          rfl
        have key : lcE (itR1 (aCons (varE 1) aNil)) (Tk.nm 5).k (tst (op2 (varE 5) (varE 4) (inI true))) (funE 5 (aCons (varE 3) (aCons (varE 4) (aCons (varE 5) (aCons (varE 1) (aCons (varE 2) aNil))))) Fkword) [5] { sl := [.im d, .im (.int n), .im (.int p), .im (TD s.T), .im (PD s.P), .no], mo := [] } = .ok ((frees n s.P).map fun f => Wd (kwL p n f (s.T.zip s.P))) { sl := [.im d, .im (.int n), .im (.int p), .im (TD s.T), .im (PD s.P), .no], mo := [] } := by
          refine lcE_flt (fun (c : Nat) => Dt.int (c : Int)) (fun c => decide (c ∉ s.P)) (fun f => Wd (kwL p n f (s.T.zip s.P))) (List.range n) (itR1_run (by simp) (by omega)) (fun c hc => ?_) (by simp; omega)
          have hc' := List.mem_range.mp hc
          have e3 := nin_pd s.P c
          have e4 := Fkword_run (f := c) hp' hT.1 hn (by omega) hc' (fun x hx => pk_mem (n := n) hI.rr hx)
          refine ⟨_, { sl := [.im d, .im (.int n), .im (.int p), .im (TD s.T), .im (PD s.P), .im (.int (c : Int))], mo := [] }, kNm _ _ _, by simp [wipeL, e3], rfl, fun _ => ⟨{ sl := [.im d, .im (.int n), .im (.int p), .im (TD s.T), .im (PD s.P), .im (.int (c : Int))], mo := [] }, by simp [e4], rfl⟩⟩
        unfold runD m_kernel
        rw [hst, seqS_run, e2, seq_nx, retS_run, calE_run, aCons_run, frz_run', key, R.bind_ok, R.bind_ok, aNil_run, R.bind_ok, R.bind_ok, tupO_lst, R.of_some, R.stmt_ok]
        show Fo.ok _ = Fo.ok _
        unfold TD kerL
        rw [List.map_map]
        rfl
      · exact absurd rfl h
    · exact absurd rfl h
  · exact absurd rfl h
end Lq

namespace Lq
open PySem PySem.Spec PyProof.Rows L2
def binF (n k : Int) : Int := if k < 0 then 0 else PySem.W.mcComb n k
def pwB : Ms → O := (seqS (ifS (tst (op2 (op2 (varE 4) (cE (.int 2)) modO) (cE (.int 1)) eqO)) (asgS 2 (op2 (varE 2) (varE 3) mulO)) nilS)
  (seqS (asgS 3 (op2 (varE 3) (varE 3) mulO))
  (asgS 4 (op2 (varE 4) (cE (.int 2)) divO))))
def m_power : Ms → O := (seqS (asgS 2 (cE (.int 1)))
  (seqS (moveS 3 0)
  (seqS (moveS 4 1)
  (seqS (whileS (fun _ => 64) (tst (op2 (varE 4) (cE (.int 0)) gtO)) pwB)
  (retS (varE 2))))))
def Fpow : List Dt → Fo
  | [.int a, .int k] => if (-100 ≤ a ∧ a ≤ 100) ∧ 0 ≤ k ∧ k ≤ 12 then .ok (.int (a ^ k.toNat)) else .no
  | _ => .no
def pwS (a k r f l : Int) : Ms := { sl := [.im (.int a), .im (.int k), .im (.int r), .im (.int f), .im (.int l)], mo := [] }
theorem small_pow {a : Int} (ha : -100 ≤ a ∧ a ≤ 100) {e : Nat} (he : e ≤ 8) : -(2 : Int) ^ 64 < a ^ e ∧ a ^ e < 2 ^ 64 := by
  have h1 : (a ^ e).natAbs ≤ 100 ^ 8 := by
    rw [Int.natAbs_pow]
    exact Nat.le_trans (Nat.pow_le_pow_left (show a.natAbs ≤ 100 by omega) e) (Nat.pow_le_pow_right (by decide) he)
  have h2 : (100 : Nat) ^ 8 < 2 ^ 63 := by decide
  have h3 : (a ^ e).natAbs < 2 ^ 63 := Nat.lt_of_le_of_lt h1 h2
  generalize a ^ e = z at *
  omega
theorem pw_step {a k : Int} {r e l : Nat} (ha : -100 ≤ a ∧ a ≤ 100) (he : e ≤ 8) (hl : 0 < l) : pwB (pwS a k (a ^ r) (a ^ e) (l : Int)) = .nx (pwS a k (if l % 2 = 1 then a ^ (r + e) else a ^ r) (a ^ (e + e)) ((l / 2 : Nat) : Int)) := by
  have hs := small_pow ha he
  have c1 : CMul (a ^ r) (a ^ e) := .inr hs
  have c2 : CMul (a ^ e) (a ^ e) := .inr hs
  have c3 : CDiv (l : Int) 2 := ⟨by decide, by decide⟩
  have e2 : a ^ e * a ^ e = a ^ (e + e) := (Int.pow_add a e e).symm
  have e1 : a ^ r * a ^ e = a ^ (r + e) := (Int.pow_add a r e).symm
  have e3 : ((l / 2 : Nat) : Int) = (l : Int) / 2 := by omega
  rw [← e1, ← e2, e3]
  generalize a ^ r = x at *
  generalize a ^ e = y at *
  by_cases h : l % 2 = 1
  · have h' : (l : Int) % 2 = 1 := by omega
    rw [if_pos h]
    simp [pwB, pwS, h', c1, c2, c3]
  · have h' : ¬ (l : Int) % 2 = 1 := by omega
    rw [if_neg h]
    simp [pwB, pwS, h', c2, c3]
theorem pw_loop {a k : Int} (ha : -100 ≤ a ∧ a ≤ 100) : ∀ (fuel r e l : Nat), l < fuel → (e = 1 ∧ l ≤ 12 ∨ e = 2 ∧ l ≤ 6 ∨ e = 4 ∧ l ≤ 3 ∨ e = 8 ∧ l ≤ 1 ∨ l = 0) →
    ∃ f, whl (tst (op2 (varE 4) (cE (.int 0)) gtO)) pwB fuel (pwS a k (a ^ r) (a ^ e) (l : Int)) = .nx (pwS a k (a ^ (r + e * l)) f 0)
  | 0, _, _, _, h, _ => absurd h (Nat.not_lt_zero _)
  | fuel + 1, r, e, l, h, hc => by
    have ht : tst (op2 (varE 4) (cE (.int 0)) gtO) (pwS a k (a ^ r) (a ^ e) (l : Int)) = .ok (decide (0 < (l : Int))) (pwS a k (a ^ r) (a ^ e) (l : Int)) := by
      generalize a ^ r = x
      generalize a ^ e = y
      simp [pwS]
    unfold whl
    rw [ht, R.stmt_ok]
    by_cases h0 : 0 < l
    · rw [decide_eq_true (by omega : 0 < (l : Int))]
      rw [if_pos rfl, pw_step ha (by omega) h0]
      dsimp only
      have e1 : (if l % 2 = 1 then a ^ (r + e) else a ^ r) = a ^ (if l % 2 = 1 then r + e else r) := by split <;> rfl
      rw [e1]
      obtain ⟨f, ih⟩ := pw_loop ha fuel (if l % 2 = 1 then r + e else r) (e + e) (l / 2) (by omega) (by omega)
      refine ⟨f, ih.trans ?_⟩
      have e2 : (if l % 2 = 1 then r + e else r) + (e + e) * (l / 2) = r + e * l := by
        rw [← Nat.two_mul e, Nat.mul_comm 2 e, Nat.mul_assoc]
        by_cases h2 : l % 2 = 1
        · have h3 : l = 2 * (l / 2) + 1 := by omega
          rw [if_pos h2]
          generalize l / 2 = m at *
          subst h3
          rw [Nat.mul_add, Nat.mul_one]
          omega
        · have h3 : l = 2 * (l / 2) := by omega
          rw [if_neg h2]
          generalize l / 2 = m at *
          subst h3
          rfl
      rw [e2]
    · have hl0 : l = 0 := by omega
      subst hl0
      refine ⟨a ^ e, ?_⟩
      rw [decide_eq_false (by omega : ¬ 0 < ((0 : Nat) : Int))]
      rfl
theorem run_power (ds : List Dt) (h : Fpow ds ≠ .no) : runD 5 m_power ds = Fpow ds := by
  unfold Fpow at h
  split at h
  · rename_i a k
    split at h
    · rename_i hc
      have e : Fpow [.int a, .int k] = .ok (.int (a ^ k.toNat)) := if_pos hc
      obtain ⟨ha, hk⟩ := hc
      obtain ⟨k, rfl⟩ : ∃ j : Nat, k = (j : Int) := ⟨k.toNat, by omega⟩
      rw [e, Int.toNat_natCast]
      have hst : st0 5 [.int a, .int (k : Int)] = { sl := [.im (.int a), .im (.int k), .no, .no, .no], mo := [] } := rfl
      obtain ⟨f, hl⟩ := pw_loop (k := (k : Int)) ha 64 0 1 k (by omega) (.inl ⟨rfl, by omega⟩)
      have hp : ∀ K : Ms → O, seqS (asgS 2 (cE (.int 1))) (seqS (moveS 3 0) (seqS (moveS 4 1) K)) { sl := [.im (.int a), .im (.int k), .no, .no, .no], mo := [] } = K (pwS a k (a ^ 0) (a ^ 1) k) := fun K => by
        rw [Int.pow_zero, Int.pow_succ, Int.pow_zero, Int.one_mul]
        rfl
      unfold runD m_power
      rw [hst, hp, seqS_run]
      show ((whl _ pwB 64 _).seq _).fo = _
      rw [hl, seq_nx, Nat.zero_add, Nat.one_mul]
      rfl
    · exact absurd rfl h
  · exact absurd rfl h
end Lq

namespace Lq
open PySem PySem.Spec PyProof.Rows L2
def wtW (v : List Int) : Nat := (v.filter fun x => decide (x ≠ 0)).length
def krawI (p n j i : Int) : Int := ((List.range (j + 1).toNat).map fun s : Nat => (-1) ^ s * (p - 1) ^ (j - (s : Int)).toNat * binF i (s : Int) * binF (n - i) (j - (s : Int))).sum
theorem Fpow_run {a k : Int} (ha : -100 ≤ a ∧ a ≤ 100) (hk : 0 ≤ k ∧ k ≤ 12) : Fpow [.int a, .int k] = .ok (.int (a ^ k.toNat)) := if_pos ⟨ha, hk⟩
def ballI (p n t : Int) : Int := ((List.range ((if n < t then n else t) + 1).toNat).map fun i : Nat => binF n (i : Int) * (p - 1) ^ i).sum
end Lq

namespace Lq
open PySem PySem.Spec PyProof.Rows L2
def okX (n : Nat) (xs : List Int) : Prop := xs.length ≤ n ∧ ∀ x ∈ xs, 0 ≤ x ∧ x < 1009
end Lq

namespace Lq
open PySem PySem.Spec PyProof.Rows L2
end Lq

namespace Lq
open PySem PySem.Spec PyProof.Rows L2
def dstW (v w : List Int) : Nat := ((v.zip w).filter fun q => decide (q.1 ≠ q.2)).length
def okT : Dt → Bool | .non => true | .bl _ => true | .int _ => true | .lst _ => true | .tup _ => true | .str x => decide (x.length ≤ 1000) && PyData.strOk x | _ => false
end Lq

namespace Lq
open PySem PySem.Spec PyProof.Rows L2
def stL (ns : List Int) : Int × Int := ns.foldl (fun q c => (q.1 * 1000003 + (if c < 0 then -c else c), (q.2 * 48271 + c) % 2147483647)) (0, 1)
def stB : Ms → O := (seqS (asgS 1 (op2 (op2 (varE 1) (cE (.int 1000003)) mulO) (calE (aCons (varE 3) aNil) absO) addO))
  (asgS 2 (op2 (calE (aCons (op2 (op2 (varE 2) (cE (.int 48271)) mulO) (varE 3) addO) aNil) intO) (cE (.int 2147483647)) modO)))
def m__law_state : Ms → ON := (seqN (asgS 1 (cE (.int 0)))
  (seqN (asgS 2 (cE (.int 1)))
  (seqN (forS (itS (frz (slL (varE 0) oNone (oSome (cE (.int 63)))))) (Tk.nm 3).k stB)
  (retNL (lstE (aCons (varE 1) (aCons (varE 2) aNil)))))))
noncomputable def Fstate : List Dt → FoN := runN 4 m__law_state
theorem cut_all {α : Type} {xs : List α} (h : xs.length ≤ 63) : cut xs none (some 63) = xs := by
  unfold cut
  rw [show HT.sIx xs.length xs.length (some 63) = min 63 xs.length from HT.sIx_nat _ _ 63, HT.sIx_none, Nat.min_eq_right h]
  simp
theorem Fstate_run {ns : List Int} (h : ns.length ≤ 63) : Fstate [scrD ns] = .ok (stD (stL ns)) := by
  have hst : st0 4 [scrD ns] = { sl := [.im (scrD ns), .no, .no, .no], mo := [] } := rfl
  have hit : itS (frz (slL (varE 0) oNone (oSome (cE (.int 63))))) { sl := [.im (scrD ns), .im (.int 0), .im (.int 1), .no], mo := [] } = .ok (ns.map Dt.int) { sl := [.im (scrD ns), .im (.int 0), .im (.int 1), .no], mo := [] } := by
    rw [itS_run, frz_run']
    unfold slL oNone oSome
    rw [varE_im (d := scrD ns) (by rfl)]
    simp only [R.bind_ok, cE_run]
    unfold scrD
    simp only [R.bind_ok]
    rw [cut_all (by rw [List.length_map]; exact h)]
    rfl
  obtain ⟨S', f1, f2⟩ := forL_fold (k := (Tk.nm 3).k) (body := stB) Dt.int (fun _ (q : Int × Int) S => ∃ x, S = { sl := [.im (scrD ns), .im (.int q.1), .im (.int q.2), x], mo := [] }) (fun q c => (q.1 * 1000003 + (if c < 0 then -c else c), (q.2 * 48271 + c) % 2147483647)) ns 0 (0, 1) { sl := [.im (scrD ns), .im (.int 0), .im (.int 1), .no], mo := [] } ⟨.no, rfl⟩ (fun j q c S hc _ hI => by
    obtain ⟨x, rfl⟩ := hI
    have c1 : CMul q.1 1000003 := .inr (by decide)
    have c2 : CMul q.2 48271 := .inr (by decide)
    refine ⟨_, { sl := [.im (scrD ns), .im (.int (q.1 * 1000003 + (if c < 0 then -c else c))), .im (.int ((q.2 * 48271 + c) % 2147483647)), .im (.int c)], mo := [] }, kNm _ _ _, .inl ?_, _, rfl⟩
    simp [stB, c1, c2])
  obtain ⟨x, rfl⟩ := f2
  have hfor : forS (itS (frz (slL (varE 0) oNone (oSome (cE (.int 63)))))) (Tk.nm 3).k stB { sl := [.im (scrD ns), .im (.int 0), .im (.int 1), .no], mo := [] } = .nx { sl := [.im (scrD ns), .im (.int (stL ns).1), .im (.int (stL ns).2), x], mo := [] } := by
    rw [forS_run, hit, R.stmt_ok, f1]
    rfl
  unfold Fstate runN m__law_state
  rw [hst]
  simp only [seqN, asgS_run', cE_run, R.stmt_ok]
  show ((match forS (itS (frz (slL (varE 0) oNone (oSome (cE (.int 63)))))) (Tk.nm 3).k stB { sl := [.im (scrD ns), .im (.int 0), .im (.int 1), .no], mo := [] } with | .nx S1 => _ | .er e S1 => _ | _ => _ : ON)).fo = _
  rw [hfor]
  simp [retNL, ON.fo, stD]
end Lq

namespace Lq
open PySem PySem.Spec PyProof.Rows L2

noncomputable def m34_trimmed : Ms → O := (seqS (asgS 1 (frz (lcE (itEnA (aCons (varE 0) aNil)) (Tk.tp [2, 3]).k (tst (op2 (varE 3) (cE (.int 0)) neO)) (varE 2) [2, 3])))
  (retS (ifE (truT (varE 1)) (calE (aCons (slA (varE 0) oNone (oSome (op2 (op2 (varE 1) (op1 (cE (.int 1)) negO) ixO) (cE (.int 1)) addO))) aNil) tupO) (tupE aNil))))
noncomputable def Ftrim : List Dt → Fo := runD 4 (m34_trimmed)
noncomputable def m34_monic : Ms → O := (retS (ifE (truT (varE 0)) (funE 3 (aCons (varE 0) (aCons (funE 2 (aCons (op2 (varE 0) (op1 (cE (.int 1)) negO) ixO) (aCons (varE 1) aNil)) Finverse) (aCons (varE 1) aNil))) FscW) (varE 0)))
noncomputable def Fmonic : List Dt → Fo := runD 2 (m34_monic)
noncomputable def m34_times : Ms → O := (seqS (asgN 3 (opN (frz (lstE (aCons (cE (.int 0)) aNil))) (op2 (calE (aCons (varE 0) aNil) lenO) (calE (aCons (varE 1) aNil) lenO) addO) repL))
  (seqS (forS (itEn (aCons (varE 0) aNil)) (Tk.tp [4, 5]).k (forS (itEn (aCons (varE 1) aNil)) (Tk.tp [6, 7]).k (setS 3 (op2 (op2 (ixV 3 (op2 (varE 4) (varE 6) addO)) (op2 (varE 5) (varE 7) mulO) addO) (varE 2) modO) (op2 (varE 4) (varE 6) addO))))
  (retS (funE 1 (aCons (varE 3) aNil) Ftrim))))
noncomputable def Ftimes : List Dt → Fo := runD 8 (m34_times)
noncomputable def m34_divided (CR : Addr) : Ms → O := (seqS (ifS (tst (op2 (calE (aCons (varE 1) aNil) lenO) (cE (.int 0)) eqO)) (raiseS ⟨CR, ["reason"], [.str "zero"]⟩) nilS)
  (seqS (asgN 3 (calN (aCons (varE 0) aNil) lstO))
  (seqS (asgN 4 (lstE aNil))
  (seqS (asgS 5 (funE 2 (aCons (op2 (varE 1) (op1 (cE (.int 1)) negO) ixO) (aCons (varE 2) aNil)) Finverse))
  (seqS (forS (itRv (op2 (op2 (calE (aCons (varE 0) aNil) lenO) (calE (aCons (varE 1) aNil) lenO) subO) (cE (.int 1)) addO)) (Tk.nm 6).k (seqS (asgS 7 (op2 (op2 (ixV 3 (op2 (op2 (varE 6) (calE (aCons (varE 1) aNil) lenO) addO) (cE (.int 1)) subO)) (varE 5) mulO) (varE 2) modO))
  (seqS (appS 4 (varE 7))
  (forS (itEn (aCons (varE 1) aNil)) (Tk.tp [8, 9]).k (setS 3 (op2 (op2 (ixV 3 (op2 (varE 6) (varE 8) addO)) (op2 (varE 7) (varE 9) mulO) subO) (varE 2) modO) (op2 (varE 6) (varE 8) addO))))))
  (retS (tupE (aCons (calE (aCons (frz (revL (varE 4))) aNil) tupO) (aCons (funE 1 (aCons (varE 3) aNil) Ftrim) aNil)))))))))
noncomputable def Fdivd (CR : Addr) : List Dt → Fo := runD 10 (m34_divided CR)
noncomputable def m34_common_divisor (CR : Addr) : Ms → O := (seqS (moveS 3 0)
  (seqS (moveS 4 1)
  (seqS (whileS (fun _ => 64) (truT (varE 4)) (seqS (asgT (Tk.tp [5, 6]) (funE 3 (aCons (varE 3) (aCons (varE 4) (aCons (varE 2) aNil))) (Fdivd CR)))
  (seqS (moveS 3 4)
  (moveS 4 6))))
  (retS (funE 2 (aCons (varE 3) (aCons (varE 2) aNil)) Fmonic)))))
noncomputable def Fgcd (CR : Addr) : List Dt → Fo := runD 7 (m34_common_divisor CR)
noncomputable def m34_law_trimmed : Ms → O := (seqS (asgS 1 (frz (calN (aCons (varE 0) aNil) lstO)))
  (seqS (forS (itR1 (aCons (calE (aCons (varE 0) aNil) lenO) aNil)) (Tk.nm 2).k (ifS (andT (tst (op2 (calE (aCons (varE 1) aNil) lenO) (cE (.int 0)) gtO)) (tst (op2 (op2 (varE 1) (op1 (cE (.int 1)) negO) ixO) (cE (.int 0)) eqO))) (asgS 1 (frz (slL (varE 1) oNone (oSome (op1 (cE (.int 1)) negO))))) nilS))
  (retS (calE (aCons (varE 1) aNil) tupO))))
noncomputable def Fltrim : List Dt → Fo := runD 3 (m34_law_trimmed)
noncomputable def m34_law_rest : Ms → O := (seqS (asgN 3 (calN (aCons (varE 0) aNil) lstO))
  (seqS (asgS 4 (op2 (frz (lcE (itR2 (aCons (cE (.int 1)) (aCons (varE 2) aNil))) (Tk.nm 7).k (tst (op2 (op2 (calE (aCons (op2 (varE 7) (op2 (varE 1) (op1 (cE (.int 1)) negO) ixO) mulO) aNil) intO) (varE 2) modO) (cE (.int 1)) eqO)) (varE 7) [7])) (cE (.int 0)) ixO))
  (seqS (forS (itR3 (aCons (op2 (calE (aCons (varE 0) aNil) lenO) (calE (aCons (varE 1) aNil) lenO) subO) (aCons (op1 (cE (.int 1)) negO) (aCons (op1 (cE (.int 1)) negO) aNil)))) (Tk.nm 5).k (seqS (asgS 6 (op2 (calE (aCons (op2 (ixV 3 (op2 (op2 (varE 5) (calE (aCons (varE 1) aNil) lenO) addO) (cE (.int 1)) subO)) (varE 4) mulO) aNil) intO) (varE 2) modO))
  (forS (itR1 (aCons (calE (aCons (varE 1) aNil) lenO) aNil)) (Tk.nm 7).k (setS 3 (op2 (calE (aCons (op2 (ixV 3 (op2 (varE 5) (varE 7) addO)) (op2 (varE 6) (op2 (varE 1) (varE 7) ixO) mulO) subO) aNil) intO) (varE 2) modO) (op2 (varE 5) (varE 7) addO)))))
  (retS (funE 1 (aCons (varE 3) aNil) Fltrim)))))
noncomputable def Flrest : List Dt → Fo := runD 8 (m34_law_rest)
theorem atI_snoc {α : Type} (xs : List α) (x : α) : atI (xs ++ [x]) (-1) = some x := by
  unfold atI ixN
  simp only [List.length_append, List.length_singleton]
  rw [if_neg (by omega), if_pos (by omega)]
  have : ((-1 : Int) + ((xs.length + 1 : Nat) : Int)).toNat = xs.length := by omega
  rw [this]
  simp
theorem atI_end {l : List Int} (h : l ≠ []) : atI (l.map Dt.int) (-1) = some (.int (g l (l.length - 1))) := by
  revert h
  refine snocInd (P := fun l => l ≠ [] → atI (l.map Dt.int) (-1) = some (.int (g l (l.length - 1)))) (fun h => absurd rfl h) (fun l x _ _ => ?_) l
  rw [List.map_append]
  have : g (l ++ [x]) ((l ++ [x]).length - 1) = x := by unfold g; simp
  rw [this]
  exact atI_snoc _ _
theorem zipIdx_g {l : List Int} {q : Int × Nat} (h : q ∈ l.zipIdx) : q.2 < l.length ∧ q.1 = g l q.2 ∧ q.1 ∈ l := by
  obtain ⟨x, i⟩ := q
  have h1 := List.mem_zipIdx_iff_getElem?.mp h
  obtain ⟨h2, h3⟩ := List.getElem?_eq_some_iff.mp h1
  exact ⟨h2, by unfold g; rw [List.getD_eq_getElem?_getD, h1]; rfl, List.mem_of_getElem? h1⟩
theorem lenO_wd (a : List Int) : lenO [Wd a] = some (.int (a.length : Int)) := by
  have : lenO [.tup (a.map Dt.int)] = some (.int ((a.map Dt.int).length : Int)) := rfl
  rw [List.length_map] at this
  exact this
theorem cut_last3 (xs : List Dt) : cut xs none (some (-1)) = xs.dropLast := by
  unfold cut
  rw [HT.sIx_none, List.drop_zero, List.dropLast_eq_take, Nat.sub_zero]
  congr 1
  unfold HT.sIx
  simp
  try omega
theorem Fltrim_run {l : List Int} {d : Dt} (hd : d = .lst (l.map Dt.int) ∨ d = Wd l) (hl : l.length ≤ 1000) : Fltrim [d] = .ok (Wd (trim l)) := by
  have hst : st0 3 [d] = { sl := [.im d, .no, .no], mo := [] } := rfl
  have a1 : (asgS 1 (frz (calN (aCons (varE 0) aNil) lstO))) { sl := [.im d, .no, .no], mo := [] } = .nx { sl := [.im d, .im (.lst (l.map Dt.int)), .no], mo := [] } := by
    rcases hd with rfl | rfl <;> rfl
  have hln : lenO [d] = some (.int (l.length : Int)) := by
    rcases hd with rfl | rfl
    · rw [lenO_lst]; simp
    · rw [lenO_wd]
  have hit : itR1 (aCons (calE (aCons (varE 0) aNil) lenO) aNil) { sl := [.im d, .im (.lst (l.map Dt.int)), .no], mo := [] } = .ok ((List.range l.length).map fun (i : Nat) => Dt.int (i : Int)) { sl := [.im d, .im (.lst (l.map Dt.int)), .no], mo := [] } := itR1_run (by
    have v0 : varE 0 { sl := [.im d, .im (.lst (l.map Dt.int)), .no], mo := [] } = .ok d { sl := [.im d, .im (.lst (l.map Dt.int)), .no], mo := [] } := rfl
    rw [aCons_run, calE_run, aCons_run, v0]
    simp only [R.bind_ok, aNil_run, hln, R.of_some]) (by omega)
  obtain ⟨S', f1, f2⟩ := forL_inv (k := (Tk.nm 2).k) (body := (ifS (andT (tst (op2 (calE (aCons (varE 1) aNil) lenO) (cE (.int 0)) gtO)) (tst (op2 (op2 (varE 1) (op1 (cE (.int 1)) negO) ixO) (cE (.int 0)) eqO))) (asgS 1 (frz (slL (varE 1) oNone (oSome (op1 (cE (.int 1)) negO))))) nilS)) ((List.range l.length).map fun (i : Nat) => Dt.int (i : Int)) (fun i S => ∃ (o : List Int) (x : Sv), S = { sl := [.im d, .im (.lst (o.map Dt.int)), x], mo := [] } ∧ trim o = trim l ∧ (o = trim l ∨ o.length + i ≤ l.length)) _ ⟨l, .no, rfl, rfl, .inr (Nat.le_refl _)⟩ (fun i e S he hI => by
    obtain ⟨o, x, rfl, ho, hlen⟩ := hI
    refine ⟨{ sl := [.im d, .im (.lst (o.map Dt.int)), .im e], mo := [] }, ?_⟩
    have v1 : varE 1 { sl := [.im d, .im (.lst (o.map Dt.int)), .im e], mo := [] } = .ok (.lst (o.map Dt.int)) { sl := [.im d, .im (.lst (o.map Dt.int)), .im e], mo := [] } := rfl
    have hlo : lenO [.lst (o.map Dt.int)] = some (.int (o.length : Int)) := by rw [lenO_lst]; simp
    by_cases e0 : o = []
    · subst e0
      refine ⟨{ sl := [.im d, .im (.lst []), .im e], mo := [] }, rfl, .inl ?_, [], .im e, rfl, ho, .inl ?_⟩
      · rfl
      · rw [← ho]; rfl
    · have hle : 0 < (o.length : Int) := by have := List.length_pos_iff.mpr e0; omega
      have hat := atI_end e0
      have hlt : (0 : Int) < (o.length : Int) := hle
      have ht : (andT (tst (op2 (calE (aCons (varE 1) aNil) lenO) (cE (.int 0)) gtO)) (tst (op2 (op2 (varE 1) (op1 (cE (.int 1)) negO) ixO) (cE (.int 0)) eqO))) { sl := [.im d, .im (.lst (o.map Dt.int)), .im e], mo := [] } = .ok (decide (g o (o.length - 1) = 0)) { sl := [.im d, .im (.lst (o.map Dt.int)), .im e], mo := [] } := by
        generalize (o.length : Int) = z at *
        generalize g o (o.length - 1) = y at *
        generalize ({ sl := [.im d, .im (.lst (o.map Dt.int)), .im e], mo := [] } : Ms) = U at *
        have hg : gtO (.int z) (.int 0) = some (.bl true) := by simp [hlt]
        rw [andT_run, tst_run', op2_run, calE_run, aCons_run, v1]
        simp only [R.bind_ok, aNil_run, hlo, R.of_some, cE_run, hg, if_true, tst_run', op2_run, v1, op1_run, negO_i, ixO_lst, hat, eqO_int]
      by_cases hz : g o (o.length - 1) = 0
      · refine ⟨{ sl := [.im d, .im (.lst (o.dropLast.map Dt.int)), .im e], mo := [] }, rfl, .inl ?_, o.dropLast, .im e, rfl, ?_, ?_⟩
        · rw [ifS_run, ht, decide_eq_true hz, R.stmt_ok, if_pos rfl]
          have hsl : frz (slL (varE 1) oNone (oSome (op1 (cE (.int 1)) negO))) { sl := [.im d, .im (.lst (o.map Dt.int)), .im e], mo := [] } = .ok (.lst (o.dropLast.map Dt.int)) { sl := [.im d, .im (.lst (o.map Dt.int)), .im e], mo := [] } := by
            have hc := cut_last3 (o.map Dt.int)
            rw [frz_run']
            unfold slL oNone oSome
            rw [v1]
            simp only [R.bind_ok, op1_run, cE_run, negO_i, R.of_some]
            show R.ok (Dt.lst (cut (o.map Dt.int) none (some (-1)))) _ = _
            rw [hc, ← List.map_dropLast]
          rw [asgS_run', hsl]
          rfl
        · rw [← ho]
          have : o = o.dropLast ++ [0] := by
            have h1 := List.dropLast_concat_getLast e0
            have h2 : o.getLast e0 = g o (o.length - 1) := by
              unfold g
              rw [List.getD_eq_getElem?_getD, ← List.getLast?_eq_getElem?, List.getLast?_eq_some_getLast e0]
              rfl
            rw [h2, hz] at h1
            exact h1.symm
          conv => rhs; rw [this]
          rw [trim_snoc0]
        · rcases hlen with h | h
          · exfalso
            have h3 : o ≠ [] := e0
            have := trim_last (l := o) (by rw [h, trim_idem]) h3
            exact this hz
          · right
            rw [List.length_dropLast]
            have := List.length_pos_iff.mpr e0
            omega
      · refine ⟨{ sl := [.im d, .im (.lst (o.map Dt.int)), .im e], mo := [] }, rfl, .inl ?_, o, .im e, rfl, ho, .inl ?_⟩
        · rw [ifS_run, ht, decide_eq_false hz, R.stmt_ok, if_neg (by simp)]
          rfl
        · rw [← ho, trim_of_last (.inr hz)])
  obtain ⟨o, x, rfl, ho, hlen⟩ := f2
  have hfin : o = trim l := by
    rcases hlen with h | h
    · exact h
    · rw [List.length_map, List.length_range] at h
      have : o = [] := List.length_eq_zero_iff.mp (by omega)
      rw [← ho, this]
      rfl
  unfold Fltrim runD m34_law_trimmed
  rw [hst, seqS_run, a1, seq_nx, seqS_run, forS_run, hit, R.stmt_ok, f1, seq_nx, hfin]
  rfl
theorem cmulS {x y : Int} (hx : -1000 ≤ x ∧ x ≤ 1000) : CMul x y := by
  have e1 : (1000 : Int) < 2 ^ 64 := by decide
  have e2 : -(2 : Int) ^ 64 < -1000 := by decide
  exact .inl ⟨by omega, by omega⟩
theorem zfold (p x : Int) (i : Nat) : ∀ (b : List Int) (m : Nat) (l : List Int), (b.zipIdx m).foldl (fun l q => addAt p l (i + q.2) (x * q.1)) l = rowR p x (i + m) b l
  | [], _, _ => rfl
  | y :: b, m, l => by
    rw [List.zipIdx_cons, List.foldl_cons, zfold p x i b (m + 1), rowR]
    rfl
theorem ixV_run3 {i k : Nat} {h : Ms → R Dt} {S : Ms} {l : List Int} {j : Nat} (hm : muAt S i = some (k, l.map Dt.int)) (hh : h S = .ok (.int (j : Int)) S) (hj : j < l.length) : ixV i h S = .ok (.int (g l j)) S := by
  unfold ixV
  rw [hm]
  dsimp only
  rw [hh, R.bind_ok]
  dsimp only
  rw [hm]
  dsimp only
  have : atI (l.map Dt.int) (j : Int) = some (.int (g l j)) := by
    rw [atI_ofNat, List.getElem?_map, List.getElem?_eq_getElem hj]
    unfold g
    rw [List.getD_eq_getElem?_getD, List.getElem?_eq_getElem hj]
    rfl
  rw [this]
  rfl
theorem setA_run {p v : Int} {i k j : Nat} {f h : Ms → R Dt} {S : Ms} {l : List Int} (hf : f S = .ok (.int ((g l j + v) % p)) S) (hm : muAt S i = some (k, l.map Dt.int)) (hh : h S = .ok (.int (j : Int)) S) (hj : j < l.length) : setS i f h S = .nx { S with mo := S.mo.set k (.ob (.ls ((addAt p l j v).map Dt.int))) } := by
  rw [setS_run (j := j) hf hm hh (ixN_nat (by rw [List.length_map]; exact hj))]
  unfold addAt
  rw [List.map_set]
theorem range_zip (l : List Int) : ((List.range l.length).map fun (i : Nat) => Dt.int (i : Int)) = l.zipIdx.map fun q => Dt.int (q.2 : Int) := by
  have : List.range l.length = l.zipIdx.map (·.2) := by
    rw [List.zipIdx_map_snd, List.range_eq_range']
  rw [this, List.map_map]
  rfl
theorem ixg3 {l : List Int} {j : Nat} (h : j < l.length) : ixO (Wd l) (.int (j : Int)) = some (.int (g l j)) := by
  have : atI (l.map Dt.int) (j : Int) = some (.int (g l j)) := by
    rw [atI_ofNat, List.getElem?_map, List.getElem?_eq_getElem h]
    unfold g
    rw [List.getD_eq_getElem?_getD, List.getElem?_eq_getElem h]
    rfl
  exact this
theorem rfold (p f : Int) (at_ : Nat) : ∀ (b : List Int) (m : Nat) (l : List Int), (b.zipIdx m).foldl (fun l q => addAt p l (at_ + q.2) (-f * q.1)) l = rowR p (-f) (at_ + m) b l := fun b m l => zfold p (-f) at_ b m l
def downs : Nat → List Nat
  | 0 => []
  | c + 1 => c :: downs c
theorem downs_range (c : Nat) : ((List.range c).map fun (k : Nat) => Dt.int ((c : Int) - 1 - (k : Int))) = (downs c).map fun (i : Nat) => Dt.int (i : Int) := by
  have : ∀ c : Nat, (List.range c).map (fun k => c - 1 - k) = downs c := by
    intro c
    induction c with
    | zero => rfl
    | succ c ih =>
      rw [List.range_succ_eq_map, List.map_cons, downs, ← ih, List.map_map]
      congr 1
      refine List.map_congr_left fun k hk => ?_
      simp only [Function.comp]
      omega
  rw [← this, List.map_map]
  refine List.map_congr_left fun k hk => ?_
  have := List.mem_range.mp hk
  simp only [Function.comp]
  congr 1
  omega
theorem downs_mem {c i : Nat} (h : i ∈ downs c) : i < c := by
  induction c with
  | zero => exact absurd h List.not_mem_nil
  | succ c ih =>
    rw [downs] at h
    rcases List.mem_cons.mp h with rfl | h
    · omega
    · have := ih h; omega
theorem dfold (p h : Int) (b : List Int) : ∀ (c : Nat) (l q : List Int), (downs c).foldl (fun (s : List Int × List Int) at_ => (rowR p (-(g s.1 (at_ + b.length - 1) * h % p)) at_ b s.1, s.2 ++ [g s.1 (at_ + b.length - 1) * h % p])) (l, q) = divR p h b c l q
  | 0, _, _ => rfl
  | c + 1, l, q => by rw [downs, List.foldl_cons, dfold p h b c, divR]
theorem itR2_run3 {fs : Ms → R (List Dt)} {S S1 : Ms} {p : Int} (h : fs S = .ok [.int 1, .int p] S1) (hp : 0 < p ∧ p < 100) : itR2 fs S = .ok ((List.range (p - 1).toNat).map fun (k : Nat) => Dt.int (1 + (k : Int))) S1 := by
  have e2 : (2 : Int) ^ 62 = 4611686018427387904 := by decide
  unfold itR2
  rw [h, R.bind_ok]
  dsimp only
  rw [if_pos (by rw [e2]; omega)]
def T8r (a b : List Int) (p h : Int) (l : List Int) (x5 x6 x7 : Sv) : Ms := { sl := [.im (Wd a), .im (Wd b), .im (.int p), .mu 0, .im (.int h), x5, x6, x7], mo := [.ob (.ls (l.map Dt.int))] }
theorem Flrest_run {p : Int} {a b : List Int} (hp : isP p = true) (ha : Rg p a) (hb : Pol p b) (hn : b ≠ []) (la : a.length ≤ 400) (lb : b.length ≤ 400) : Flrest [Wd a, Wd b, .int p] = .ok (Wd (restP p a b)) := by
  have hc := isP_cases hp
  have hp0 : 0 < p := by omega
  have hbl : 1 ≤ b.length := List.length_pos_iff.mpr hn
  obtain ⟨_, _, _, _, hql, hdl⟩ := div_main hp ha hb hn
  have hst : st0 8 [Wd a, Wd b, .int p] = { sl := [.im (Wd a), .im (Wd b), .im (.int p), .no, .no, .no, .no, .no], mo := [] } := rfl
  have l1 : lenO [Wd a] = some (.int (a.length : Int)) := lenO_wd _
  have l2 : lenO [Wd b] = some (.int (b.length : Int)) := lenO_wd _
  have hend : ixO (Wd b) (.int (-1)) = some (.int (g b (b.length - 1))) := atI_end hn
  obtain ⟨c, hc1, _, _⟩ := invF_some hp (hb.last hp hn)
  have hinv : invP p (g b (b.length - 1)) = 1 + (c : Int) := by unfold invP; rw [hc1]
  have had : ∀ u v : Int, addO (.int u) (.int v) = some (.int (u + v)) := fun _ _ => rfl
  have hsu : ∀ u v : Int, subO (.int u) (.int v) = some (.int (u - v)) := fun _ _ => rfl
  have hmo : ∀ u : Int, modO (.int u) (.int p) = some (.int (u % p)) := fun u => by simp [hp0]
  have h8 : ∀ z : Int, intO [.int z] = some (.int z) := fun _ => rfl
  have hble := hb.1.g hp0 (b.length - 1)
  have a1 : (asgN 3 (calN (aCons (varE 0) aNil) lstO)) { sl := [.im (Wd a), .im (Wd b), .im (.int p), .no, .no, .no, .no, .no], mo := [] } = .nx { sl := [.im (Wd a), .im (Wd b), .im (.int p), .mu 0, .no, .no, .no, .no], mo := [.ob (.ls (a.map Dt.int))] } := rfl
  have a3 : (asgS 4 (op2 (frz (lcE (itR2 (aCons (cE (.int 1)) (aCons (varE 2) aNil))) (Tk.nm 7).k (tst (op2 (op2 (calE (aCons (op2 (varE 7) (op2 (varE 1) (op1 (cE (.int 1)) negO) ixO) mulO) aNil) intO) (varE 2) modO) (cE (.int 1)) eqO)) (varE 7) [7])) (cE (.int 0)) ixO)) { sl := [.im (Wd a), .im (Wd b), .im (.int p), .mu 0, .no, .no, .no, .no], mo := [.ob (.ls (a.map Dt.int))] } = .nx (T8r a b p (invP p (g b (b.length - 1))) a .no .no .no) := by
    have hit : itR2 (aCons (cE (.int 1)) (aCons (varE 2) aNil)) { sl := [.im (Wd a), .im (Wd b), .im (.int p), .mu 0, .no, .no, .no, .no], mo := [.ob (.ls (a.map Dt.int))] } = .ok ((List.range (p - 1).toNat).map fun (k : Nat) => Dt.int (1 + (k : Int))) { sl := [.im (Wd a), .im (Wd b), .im (.int p), .mu 0, .no, .no, .no, .no], mo := [.ob (.ls (a.map Dt.int))] } := itR2_run3 rfl (by omega)
    have key := lcE_flt (k := (Tk.nm 7).k) (t := tst (op2 (op2 (calE (aCons (op2 (varE 7) (op2 (varE 1) (op1 (cE (.int 1)) negO) ixO) mulO) aNil) intO) (varE 2) modO) (cE (.int 1)) eqO)) (e := varE 7) (own := [7]) (fun (k : Nat) => Dt.int (1 + (k : Int))) (fun c => decide (g b (b.length - 1) * (1 + (c : Int)) % p = 1)) (fun (k : Nat) => Dt.int (1 + (k : Int))) (List.range (p - 1).toNat) hit (fun k hk => by
      have hkp := List.mem_range.mp hk
      refine ⟨{ sl := [.im (Wd a), .im (Wd b), .im (.int p), .mu 0, .no, .no, .no, .im (.int (1 + (k : Int)))], mo := [.ob (.ls (a.map Dt.int))] }, { sl := [.im (Wd a), .im (Wd b), .im (.int p), .mu 0, .no, .no, .no, .im (.int (1 + (k : Int)))], mo := [.ob (.ls (a.map Dt.int))] }, rfl, ?_, rfl, fun _ => ⟨_, rfl, rfl⟩⟩
      have v7 : varE 7 { sl := [.im (Wd a), .im (Wd b), .im (.int p), .mu 0, .no, .no, .no, .im (.int (1 + (k : Int)))], mo := [.ob (.ls (a.map Dt.int))] } = .ok (.int (1 + (k : Int))) { sl := [.im (Wd a), .im (Wd b), .im (.int p), .mu 0, .no, .no, .no, .im (.int (1 + (k : Int)))], mo := [.ob (.ls (a.map Dt.int))] } := rfl
      have v1 : varE 1 { sl := [.im (Wd a), .im (Wd b), .im (.int p), .mu 0, .no, .no, .no, .im (.int (1 + (k : Int)))], mo := [.ob (.ls (a.map Dt.int))] } = .ok (Wd b) { sl := [.im (Wd a), .im (Wd b), .im (.int p), .mu 0, .no, .no, .no, .im (.int (1 + (k : Int)))], mo := [.ob (.ls (a.map Dt.int))] } := rfl
      have v2 : varE 2 { sl := [.im (Wd a), .im (Wd b), .im (.int p), .mu 0, .no, .no, .no, .im (.int (1 + (k : Int)))], mo := [.ob (.ls (a.map Dt.int))] } = .ok (.int p) { sl := [.im (Wd a), .im (Wd b), .im (.int p), .mu 0, .no, .no, .no, .im (.int (1 + (k : Int)))], mo := [.ob (.ls (a.map Dt.int))] } := rfl
      generalize ({ sl := [.im (Wd a), .im (Wd b), .im (.int p), .mu 0, .no, .no, .no, .im (.int (1 + (k : Int)))], mo := [.ob (.ls (a.map Dt.int))] } : Ms) = U at *
      have hcm : CMul (1 + (k : Int)) (g b (b.length - 1)) := cmulS (by omega)
      generalize g b (b.length - 1) = y at *
      have hmu : mulO (.int (1 + (k : Int))) (.int y) = some (.int (y * (1 + (k : Int)))) := by
        rw [Int.mul_comm]
        simp [hcm]
      simp only [tst_run', op2_run, calE_run, aCons_run, aNil_run, v7, v1, v2, op1_run, cE_run, negO_i, R.bind_ok, R.of_some, hend, hmu, h8, hmo, eqO_int]) (by simp; omega)
    have hhd : atI (((List.range (p - 1).toNat).filter fun (c : Nat) => decide (g b (b.length - 1) * (1 + (c : Int)) % p = 1)).map fun (k : Nat) => Dt.int (1 + (k : Int))) 0 = some (.int (invP p (g b (b.length - 1)))) := by
      have h0 := atI_ofNat (((List.range (p - 1).toNat).filter fun (c : Nat) => decide (g b (b.length - 1) * (1 + (c : Int)) % p = 1)).map fun (k : Nat) => Dt.int (1 + (k : Int))) 0
      rw [show ((0 : Nat) : Int) = 0 from rfl] at h0
      rw [h0, List.getElem?_map, ← List.head?_eq_getElem?, List.head?_filter]
      have : (List.range (p - 1).toNat).find? (fun (c : Nat) => decide (g b (b.length - 1) * (1 + (c : Int)) % p = 1)) = some c := hc1
      rw [this, hinv]
      rfl
    have : op2 (frz (lcE (itR2 (aCons (cE (.int 1)) (aCons (varE 2) aNil))) (Tk.nm 7).k (tst (op2 (op2 (calE (aCons (op2 (varE 7) (op2 (varE 1) (op1 (cE (.int 1)) negO) ixO) mulO) aNil) intO) (varE 2) modO) (cE (.int 1)) eqO)) (varE 7) [7])) (cE (.int 0)) ixO { sl := [.im (Wd a), .im (Wd b), .im (.int p), .mu 0, .no, .no, .no, .no], mo := [.ob (.ls (a.map Dt.int))] } = .ok (.int (invP p (g b (b.length - 1)))) { sl := [.im (Wd a), .im (Wd b), .im (.int p), .mu 0, .no, .no, .no, .no], mo := [.ob (.ls (a.map Dt.int))] } := by
      rw [op2_run, frz_run', key]
      simp only [R.bind_ok, cE_run, ixO_lst, hhd, R.of_some]
    rw [asgS_run', this]
    rfl
  generalize hh : invP p (g b (b.length - 1)) = h at *
  have hin : ∀ (l : List Int) (f : Int) (i : Nat) (x7 : Sv), (0 ≤ f ∧ f < p) → i + b.length ≤ l.length → ∃ y7, forS (itR1 (aCons (calE (aCons (varE 1) aNil) lenO) aNil)) (Tk.nm 7).k (setS 3 (op2 (calE (aCons (op2 (ixV 3 (op2 (varE 5) (varE 7) addO)) (op2 (varE 6) (op2 (varE 1) (varE 7) ixO) mulO) subO) aNil) intO) (varE 2) modO) (op2 (varE 5) (varE 7) addO)) (T8r a b p h l (.im (.int (i : Int))) (.im (.int f)) x7) = .nx (T8r a b p h (rowR p (-f) i b l) (.im (.int (i : Int))) (.im (.int f)) y7) := by
    intro l f i x7 hf hl
    have hit : itR1 (aCons (calE (aCons (varE 1) aNil) lenO) aNil) (T8r a b p h l (.im (.int (i : Int))) (.im (.int f)) x7) = .ok (b.zipIdx.map fun q => Dt.int (q.2 : Int)) (T8r a b p h l (.im (.int (i : Int))) (.im (.int f)) x7) := by
      rw [← range_zip]
      refine itR1_run ?_ (by omega)
      have v1 : varE 1 (T8r a b p h l (.im (.int (i : Int))) (.im (.int f)) x7) = .ok (Wd b) (T8r a b p h l (.im (.int (i : Int))) (.im (.int f)) x7) := rfl
      rw [aCons_run, calE_run, aCons_run, v1]
      simp only [R.bind_ok, aNil_run, l2, R.of_some]
    obtain ⟨n, hnl⟩ : ∃ n, n = l.length := ⟨_, rfl⟩
    obtain ⟨S', f1, f2⟩ := forL_fold (k := (Tk.nm 7).k) (body := (setS 3 (op2 (calE (aCons (op2 (ixV 3 (op2 (varE 5) (varE 7) addO)) (op2 (varE 6) (op2 (varE 1) (varE 7) ixO) mulO) subO) aNil) intO) (varE 2) modO) (op2 (varE 5) (varE 7) addO))) (fun (q : Int × Nat) => Dt.int (q.2 : Int)) (fun _ (l : List Int) S => l.length = n ∧ ∃ y7, S = T8r a b p h l (.im (.int (i : Int))) (.im (.int f)) y7) (fun l q => addAt p l (i + q.2) (-f * q.1)) b.zipIdx 0 l _ ⟨hnl.symm, x7, rfl⟩ (fun j l z S hq hj hI => by
      obtain ⟨hl2, y7, rfl⟩ := hI
      obtain ⟨q1, q2, q3⟩ := zipIdx_g hq
      obtain ⟨y, m⟩ := z
      have hy := hb.1 y q3
      dsimp only at q1 q2 q3
      refine ⟨T8r a b p h l (.im (.int (i : Int))) (.im (.int f)) (.im (.int (m : Int))), T8r a b p h (addAt p l (i + m) (-f * y)) (.im (.int (i : Int))) (.im (.int f)) (.im (.int (m : Int))), rfl, .inl ?_, by rw [addAt_len, hl2], _, rfl⟩
      have hat : (op2 (varE 5) (varE 7) addO) (T8r a b p h l (.im (.int (i : Int))) (.im (.int f)) (.im (.int (m : Int)))) = .ok (.int ((i + m : Nat) : Int)) (T8r a b p h l (.im (.int (i : Int))) (.im (.int f)) (.im (.int (m : Int)))) := by
        rw [Int.natCast_add]
        rfl
      have hix := ixV_run3 (S := T8r a b p h l (.im (.int (i : Int))) (.im (.int f)) (.im (.int (m : Int)))) (i := 3) (k := 0) (l := l) rfl hat (by omega)
      refine (setA_run (p := p) (v := -f * y) (k := 0) (l := l) (j := i + m) ?_ rfl hat (by omega)).trans rfl
      have v6 : varE 6 (T8r a b p h l (.im (.int (i : Int))) (.im (.int f)) (.im (.int (m : Int)))) = .ok (.int f) (T8r a b p h l (.im (.int (i : Int))) (.im (.int f)) (.im (.int (m : Int)))) := rfl
      have v1 : varE 1 (T8r a b p h l (.im (.int (i : Int))) (.im (.int f)) (.im (.int (m : Int)))) = .ok (Wd b) (T8r a b p h l (.im (.int (i : Int))) (.im (.int f)) (.im (.int (m : Int)))) := rfl
      have v7 : varE 7 (T8r a b p h l (.im (.int (i : Int))) (.im (.int f)) (.im (.int (m : Int)))) = .ok (.int (m : Int)) (T8r a b p h l (.im (.int (i : Int))) (.im (.int f)) (.im (.int (m : Int)))) := rfl
      have v2 : varE 2 (T8r a b p h l (.im (.int (i : Int))) (.im (.int f)) (.im (.int (m : Int)))) = .ok (.int p) (T8r a b p h l (.im (.int (i : Int))) (.im (.int f)) (.im (.int (m : Int)))) := rfl
      have i2 := ixg3 (l := b) q1
      rw [← q2] at i2
      generalize T8r a b p h l (.im (.int (i : Int))) (.im (.int f)) (.im (.int (m : Int))) = U at *
      have hcm : CMul f y := cmulS (by omega)
      have hmu : mulO (.int f) (.int y) = some (.int (f * y)) := by simp [hcm]
      generalize op2 (varE 5) (varE 7) addO = G at *
      have hsub : g l (i + m) - f * y = g l (i + m) + -f * y := by grind
      simp only [op2_run, calE_run, aCons_run, aNil_run, hix, v6, v1, v7, v2, i2, R.bind_ok, hmu, R.of_some, hsu, h8, hmo, hsub])
    obtain ⟨_, y7, rfl⟩ := f2
    refine ⟨y7, ?_⟩
    rw [forS_run, hit, R.stmt_ok, f1, rfold]
    rfl
  have hit : itR3 (aCons (op2 (calE (aCons (varE 0) aNil) lenO) (calE (aCons (varE 1) aNil) lenO) subO) (aCons (op1 (cE (.int 1)) negO) (aCons (op1 (cE (.int 1)) negO) aNil))) (T8r a b p h a .no .no .no) = .ok ((downs (a.length + 1 - b.length)).map fun (i : Nat) => Dt.int (i : Int)) (T8r a b p h a .no .no .no) := by
    have v0 : varE 0 (T8r a b p h a .no .no .no) = .ok (Wd a) (T8r a b p h a .no .no .no) := rfl
    have v1 : varE 1 (T8r a b p h a .no .no .no) = .ok (Wd b) (T8r a b p h a .no .no .no) := rfl
    generalize T8r a b p h a .no .no .no = U at *
    unfold itR3
    have hop : (aCons (op2 (calE (aCons (varE 0) aNil) lenO) (calE (aCons (varE 1) aNil) lenO) subO) (aCons (op1 (cE (.int 1)) negO) (aCons (op1 (cE (.int 1)) negO) aNil))) U = .ok [.int ((a.length : Int) - (b.length : Int)), .int (-1), .int (-1)] U := by
      simp only [op2_run, calE_run, aCons_run, v0, v1, aNil_run, R.bind_ok, l1, l2, R.of_some, hsu, cE_run, op1_run, negO_i]
    rw [hop, R.bind_ok]
    dsimp only
    have e2 : (2 : Int) ^ 62 = 4611686018427387904 := by decide
    rw [if_pos (by rw [e2]; omega)]
    have hto : ((a.length : Int) - (b.length : Int) - -1).toNat = a.length + 1 - b.length := by omega
    rw [hto, ← downs_range]
    congr 1
    refine List.map_congr_left fun k hk => ?_
    have := List.mem_range.mp hk
    congr 1
    omega
  obtain ⟨S', f1, f2⟩ := forL_fold (k := (Tk.nm 5).k) (body := (seqS (asgS 6 (op2 (calE (aCons (op2 (ixV 3 (op2 (op2 (varE 5) (calE (aCons (varE 1) aNil) lenO) addO) (cE (.int 1)) subO)) (varE 4) mulO) aNil) intO) (varE 2) modO))
  (forS (itR1 (aCons (calE (aCons (varE 1) aNil) lenO) aNil)) (Tk.nm 7).k (setS 3 (op2 (calE (aCons (op2 (ixV 3 (op2 (varE 5) (varE 7) addO)) (op2 (varE 6) (op2 (varE 1) (varE 7) ixO) mulO) subO) aNil) intO) (varE 2) modO) (op2 (varE 5) (varE 7) addO))))) (fun (i : Nat) => Dt.int (i : Int)) (fun j (s : List Int × List Int) S => s.1.length = a.length ∧ Rg p s.1 ∧ ∃ y5 y6 y7, S = T8r a b p h s.1 y5 y6 y7) (fun (s : List Int × List Int) at_ => (rowR p (-(g s.1 (at_ + b.length - 1) * h % p)) at_ b s.1, s.2 ++ [g s.1 (at_ + b.length - 1) * h % p])) (downs (a.length + 1 - b.length)) 0 (a, []) _ ⟨rfl, ha, .no, .no, .no, rfl⟩ (fun j s i S hi hj hI => by
    obtain ⟨l, q⟩ := s
    obtain ⟨hl, hr, y5, y6, y7, rfl⟩ := hI
    dsimp only at hl hr
    have him := downs_mem hi
    have hfr : 0 ≤ g l (i + b.length - 1) * h % p ∧ g l (i + b.length - 1) * h % p < p := ⟨Int.emod_nonneg _ (by omega), Int.emod_lt_of_pos _ hp0⟩
    have e1 : (asgS 6 (op2 (calE (aCons (op2 (ixV 3 (op2 (op2 (varE 5) (calE (aCons (varE 1) aNil) lenO) addO) (cE (.int 1)) subO)) (varE 4) mulO) aNil) intO) (varE 2) modO)) (T8r a b p h l (.im (.int (i : Int))) y6 y7) = .nx (T8r a b p h l (.im (.int (i : Int))) (.im (.int (g l (i + b.length - 1) * h % p))) y7) := by
      have v5 : varE 5 (T8r a b p h l (.im (.int (i : Int))) y6 y7) = .ok (.int (i : Int)) (T8r a b p h l (.im (.int (i : Int))) y6 y7) := rfl
      have v1 : varE 1 (T8r a b p h l (.im (.int (i : Int))) y6 y7) = .ok (Wd b) (T8r a b p h l (.im (.int (i : Int))) y6 y7) := rfl
      have v4 : varE 4 (T8r a b p h l (.im (.int (i : Int))) y6 y7) = .ok (.int h) (T8r a b p h l (.im (.int (i : Int))) y6 y7) := rfl
      have v2 : varE 2 (T8r a b p h l (.im (.int (i : Int))) y6 y7) = .ok (.int p) (T8r a b p h l (.im (.int (i : Int))) y6 y7) := rfl
      have hix := ixV_run3 (S := T8r a b p h l (.im (.int (i : Int))) y6 y7) (i := 3) (k := 0) (l := l) (j := i + b.length - 1) (h := (op2 (op2 (varE 5) (calE (aCons (varE 1) aNil) lenO) addO) (cE (.int 1)) subO)) rfl (by
        have : ((i + b.length - 1 : Nat) : Int) = (i : Int) + (b.length : Int) - 1 := by omega
        rw [this]
        simp only [op2_run, v5, calE_run, aCons_run, v1, aNil_run, R.bind_ok, l2, R.of_some, had, cE_run, hsu]) (by omega)
      have hgr := hr.g hp0 (i + b.length - 1)
      have hcm : CMul (g l (i + b.length - 1)) h := cmulS (by omega)
      generalize hgv : g l (i + b.length - 1) = v at *
      have hmu : mulO (.int v) (.int h) = some (.int (v * h)) := by simp [hcm]
      have : (op2 (calE (aCons (op2 (ixV 3 (op2 (op2 (varE 5) (calE (aCons (varE 1) aNil) lenO) addO) (cE (.int 1)) subO)) (varE 4) mulO) aNil) intO) (varE 2) modO) (T8r a b p h l (.im (.int (i : Int))) y6 y7) = .ok (.int (v * h % p)) (T8r a b p h l (.im (.int (i : Int))) y6 y7) := by
        generalize T8r a b p h l (.im (.int (i : Int))) y6 y7 = U at *
        generalize (op2 (op2 (varE 5) (calE (aCons (varE 1) aNil) lenO) addO) (cE (.int 1)) subO) = G at *
        simp only [op2_run, calE_run, aCons_run, aNil_run, hix, R.bind_ok, v4, R.of_some, hmu, h8, v2, hmo]
      rw [asgS_run', this]
      rfl
    generalize hfg : g l (i + b.length - 1) * h % p = f at *
    obtain ⟨z7, e3⟩ := hin l f i y7 hfr (by omega)
    exact ⟨T8r a b p h l (.im (.int (i : Int))) y6 y7, T8r a b p h (rowR p (-f) i b l) (.im (.int (i : Int))) (.im (.int f)) z7, rfl, .inl (by rw [seqS_run, e1, seq_nx, e3]), by dsimp only; rw [rowR_len, hl], rowR_rg hp0 b i l hr, .im (.int (i : Int)), .im (.int f), z7, rfl⟩)
  rw [dfold] at f2
  have hdp : divP p a b = divR p h b (a.length + 1 - b.length) a [] := by unfold divP; rw [hh]
  rw [← hdp] at f2
  obtain ⟨_, _, y5, y6, y7, rfl⟩ := f2
  have ht := Fltrim_run (l := (divP p a b).1) (.inl rfl) (by rw [hdl]; omega)
  unfold Flrest runD m34_law_rest
  rw [hst, seqS_run, a1, seq_nx, seqS_run, a3, seq_nx, seqS_run, forS_run, hit, R.stmt_ok, f1, seq_nx]
  have v3 : varE 3 (T8r a b p h (divP p a b).1 y5 y6 y7) = .ok (.lst ((divP p a b).1.map Dt.int)) { sl := [.im (Wd a), .im (Wd b), .im (.int p), .mu 0, .im (.int h), y5, y6, y7], mo := [.fz (.lst ((divP p a b).1.map Dt.int))] } := rfl
  rw [retS_run, funE_run, aCons_run, v3]
  simp only [R.bind_ok, aNil_run, List.length_cons, List.length_nil, Nat.zero_add, if_true, ht, R.stmt_ok]
  rfl
theorem Rg.app {p : Int} {a b : List Int} (ha : Rg p a) (hb : Rg p b) : Rg p (a ++ b) := fun x hx => by
  rcases List.mem_append.mp hx with h | h
  · exact ha x h
  · exact hb x h
end Lq

namespace Lq
open PySem PySem.Spec PyProof.Rows L2
def dotN (n : Nat) (x y : List Int) : Int := ((List.range n).map fun k => x.getD k 0 * y.getD k 0).sum
def stepC (p : Int) (n : Nat) (x : List Int) (j : Int) (cs : List Int) (y : List Int) : List Int :=
  if (wtW y : Int) = j then cs.set (dotN n x y % p).toNat (cs.getD (dotN n x y % p).toNat 0 + 1) else cs
def cntL (p : Int) (n : Nat) (x : List Int) (j : Int) : List Int := (allN p n).foldl (stepC p n x j) (List.replicate p.toNat 0)
def subW (p : Int) (n : Nat) (x y : List Int) : List Int := (List.range n).map fun k => (x.getD k 0 - y.getD k 0) % p
def nearL (p : Int) (n : Nat) (x : List Int) (t : Int) : List (List Int) := (allN p n).filter fun y => decide ((wtW (subW p n x y) : Int) ≤ t)
def chk1 (p : Int) (n : Nat) (x : List Int) (j : Nat) : Bool :=
  let cs := cntL p n x (j : Int)
  ((List.range (p - 2).toNat).all fun k => decide (cs.getD (k + 2) 0 = cs.getD 1 0)) && decide (krawI p (n : Int) (j : Int) (wtW x : Int) = cs.getD 0 0 - cs.getD 1 0)
def chk2 (p : Int) (n : Nat) (x : List Int) (t : Nat) : Bool := decide (ballI p (n : Int) (t : Int) = ((nearL p n x (t : Int)).length : Int))
def chkX (p : Int) (n : Nat) (x : List Int) : Bool := ((List.range (n + 1)).all (chk1 p n x)) && ((List.range (n + 2)).all (chk2 p n x))
def part (p : Int) (n k i : Nat) : Bool := (((allN p n).drop (k * i)).take k).all (chkX p n)
end Lq

namespace Lq
open PySem PySem.Spec PyProof.Rows L2
end Lq

namespace Lq
open PySem PySem.Spec PyProof.Rows L2
theorem g_far {v : List Int} {c : Nat} (h : v.length ≤ c) : g v c = 0 := by
  unfold g
  rw [List.getD_eq_getElem?_getD, List.getElem?_eq_none h]
  rfl
section
variable {p : Int} {n : Nat} {rows T : List (List Int)} {P : List Nat}
def setL {α : Type} (h : α × Nat → Int) (qs : List (α × Nat)) (w : List Int) : List Int := qs.foldl (fun w q => w.set q.2 (h q)) w
theorem setL_ok {α : Type} {h : α × Nat → Int} : ∀ (qs : List (α × Nat)) (w : List Int), ok1 p n w → (∀ q ∈ qs, 0 ≤ h q ∧ h q < p) → ok1 p n (setL h qs w)
  | [], _, hw, _ => hw
  | q :: qs, w, hw, hq => by
    refine setL_ok qs _ ⟨?_, by rw [List.length_set]; exact hw.2⟩ fun x hx => hq x (List.mem_cons_of_mem _ hx)
    obtain ⟨h1, h2⟩ := okW_iff.mp hw.1
    refine okW_iff.mpr ⟨by rw [List.length_set]; exact h1, fun x hx => ?_⟩
    rcases List.mem_or_eq_of_mem_set hx with hx | rfl
    · exact h2 x hx
    · exact hq q List.mem_cons_self
theorem pk_get {k : Nat} (hk : k < P.length) : pk P k = P[k] := by
  unfold pk
  rw [List.getD_eq_getElem?_getD, List.getElem?_eq_getElem hk]
  rfl
theorem mem_pk {c : Nat} (h : c ∈ P) : ∃ k < P.length, pk P k = c := by
  obtain ⟨k, hk, e⟩ := List.getElem_of_mem h
  exact ⟨k, hk, by rw [pk_get hk]; exact e⟩
theorem kw_ok (hp : isP p = true) (hn : n ≤ 1000) {f : Nat} : ok1 p n (kwL p n f (T.zip P)) := by
  have hp' := isP_okP hp
  have hp1 := (okP_iff.mp hp').1
  have hp2 := of_decide_eq_true hp
  refine setL_ok (h := fun q : List Int × Nat => -(g q.1 f) % p) _ _ ⟨okW_iff.mpr ⟨by simpa using hn, fun x hx => ?_⟩, by simp⟩ fun q _ => ⟨Int.emod_nonneg _ (by omega), Int.emod_lt_of_pos _ hp1⟩
  rcases List.mem_or_eq_of_mem_set hx with hx | rfl
  · have := (List.mem_replicate.mp hx).2
    omega
  · omega
theorem col {c : Nat} (h : Rr n T P) {y : List Int} (hy : ∀ c < n, c ∉ P → g y c = 0) {k : Nat} (hk : k < P.length) (hT : okR p n T) (hyl : y.length = n) (hck : c ≠ pk P k) : g (tk T k) c * g y c = 0 := by
  by_cases hcn : c < n
  · by_cases hcP : c ∈ P
    · obtain ⟨j, hj, rfl⟩ := mem_pk hcP
      rw [h.zro k j hk hj (fun e => hck (by rw [e])), Int.zero_mul]
    · rw [hy c hcn hcP, Int.mul_zero]
  · rw [g_far (v := y) (by omega), Int.mul_zero]
theorem ker_ok (hp : isP p = true) (hn : n ≤ 1000) : okR p n ((frees n P).map fun f => kwL p n f (T.zip P)) := fun r hr => by
  obtain ⟨f, _, rfl⟩ := List.mem_map.mp hr
  exact kw_ok hp hn
end
end Lq

namespace Lq
open PySem PySem.Spec PyProof.Rows L2
structure Sub (p : Int) (n : Nat) (W : List (List Int)) : Prop where
  nd : W.Nodup
  ok : ∀ w ∈ W, ok1 p n w
  zero : List.replicate n 0 ∈ W
  lin : ∀ u ∈ W, ∀ v ∈ W, ∀ a : Int, lin p u v a ∈ W
end Lq

namespace Lq
open PySem PySem.Spec PyProof.Rows L2
end Lq

namespace Lq
open PySem PySem.Spec PyProof.Rows L2
end Lq

namespace Lq
open PySem PySem.Spec PyProof.Rows L2

end Lq

namespace Lq
open PySem PySem.Spec PyProof.Rows L2
end Lq

namespace Lq
open PySem PySem.Spec PyProof.Rows L2
end Lq

namespace Lq
open PySem PySem.Spec PyProof.Rows L2
end Lq

namespace Lq
open PySem PySem.Spec PyProof.Rows L2
end Lq

namespace Lq
open PySem PySem.Spec PyProof.Rows L2
def q0 (p : Int) (n : Nat) (tb : List Dt) (x4 x5 x6 x7 x8 : Sv) (M : List Mo) : Ms := { sl := [.im (.int p), .im (.int (n : Int)), .im (.lst ((allN p n).map Wd)), .mu 0, x4, x5, x6, x7, x8, .no, .no], mo := .ob (.ls tb) :: M }
end Lq

namespace Lq
open PySem PySem.Spec PyProof.Rows L2
end Lq

namespace Lq
open PySem PySem.Spec PyProof.Rows L2
end Lq

namespace Lq
open PySem PySem.Spec PyProof.Rows L2
section
variable {p : Int} {n : Nat}
def ext (p : Int) (w : List Int) : List Int := w ++ [p - 1]
variable {rows : List (List Int)} {right : List Int}
end
end Lq

namespace Lq
open PySem PySem.Spec PyProof.Rows L2
section
variable {p : Int} {n : Nat} {rows : List (List Int)} {q : Int × Int} {s : Red}

end
end Lq

namespace Lq
open PySem PySem.Spec PyProof.Rows L2
section
variable {p : Int} {n : Nat} {rows : List (List Int)} {q : Int × Int} {s : Red} {x10 x21 x22 : Sv}
end
end Lq

namespace Lq
open PySem PySem.Spec PyProof.Rows L2
section
variable {p : Int} {n : Nat} {rows : List (List Int)} {q : Int × Int} {s : Red} {x10 x11 x12 x13 x16 x18 x19 x20 x21 x22 : Sv} {v w : List Int} {a : Int} {ws : List Int}

theorem Fisword_run {d : Dt} {m : Int} (h : okV d = true) : Fisword [d, .int p, .int m] = .ok (.bl (wordB p m d)) := by
  unfold Fisword
  dsimp only
  rw [if_pos h]
end
end Lq

namespace Lq
open PySem PySem.Spec PyProof.Rows L2
section
variable {p : Int} {n : Nat} {rows : List (List Int)} {q : Int × Int} {s : Red} {x10 x11 x12 x13 x15 x16 x17 x18 x20 x21 x22 : Sv} {v w : List Int}
end
end Lq

namespace Lq
open PySem PySem.Spec PyProof.Rows L2
section
variable {p : Int} {n : Nat} {rows : List (List Int)} {s : Red}
end
end Lq

namespace Lq
open PySem PySem.Spec PyProof.Rows L2
def wstep (p : Int) (ws : List (List Int)) (r : List Int) : List (List Int) := ws.flatMap fun w => (List.range p.toNat).map fun (a : Nat) => addW p w (scW p (a : Int) r)
def wordsF (p : Int) (n : Nat) (T : List (List Int)) : List (List Int) := T.foldl (wstep p) [List.replicate n 0]
def LtAt (b : Nat) (w v : List Int) : Prop := ∃ d < b, (∀ j < d, g w j = g v j) ∧ g w d < g v d
theorem LtAt.mono {b c : Nat} {w v : List Int} (h : LtAt b w v) (e : b ≤ c) : LtAt c w v := let ⟨d, h1, h2⟩ := h; ⟨d, by omega, h2⟩
end Lq

namespace Lq
open PySem PySem.Spec PyProof.Rows L2

noncomputable def m14_is_prime : Ms → O := (retS (andV (funE 1 (aCons (varE 0) aNil) Fisint) (op2 (varE 0) (cE (.scr true [.int 2, .int 3, .int 5, .int 7])) (inI false))))
noncomputable def Fisprime : List Dt → Fo := runD 1 (m14_is_prime)
noncomputable def m14_check_rows (CM CR : Addr) : Ms → O := (seqS (ifS (orT (notT (truT (funE 1 (aCons (varE 0) aNil) Fisprime))) (orT (notT (truT (funE 1 (aCons (varE 1) aNil) Fisint))) (tst (op2 (varE 1) (cE (.int 0)) ltO)))) (raiseS ⟨CM, [], []⟩) nilS)
  (seqS (ifS (tst (op2 (varE 1) (cE (.int 12)) gtO)) (raiseS ⟨CR, ["reason"], [.str "length"]⟩) nilS)
  (seqS (ifS (notT (truT (op1 (varE 2) (isi2O "list" "tuple")))) (raiseS ⟨CM, [], []⟩) nilS)
  (ifS (notT (truT (calE (aCons (frz (lcE (itS (varE 2)) (Tk.nm 3).k yesT (funE 3 (aCons (varE 3) (aCons (varE 0) (aCons (varE 1) aNil))) Fisword) [3])) aNil) allO))) (raiseS ⟨CM, [], []⟩) nilS))))
noncomputable def Fchk (CM CR : Addr) : List Dt → Fo := runD 4 (m14_check_rows CM CR)
noncomputable def m14_Code___init__ (CC CM CR : Addr) : Ms → O := (seqS (dropS (funE 3 (aCons (varE 1) (aCons (varE 2) (aCons (varE 3) aNil))) (Fchk CM CR)))
  (seqS (asgT (Tk.tp [4, 5]) (funE 3 (aCons (varE 3) (aCons (varE 2) (aCons (varE 1) aNil))) Freduced))
  (seqS (ifS (tst (op2 (funE 2 (aCons (varE 1) (aCons (calE (aCons (varE 4) aNil) lenO) aNil)) Fpow) (cE (.int 4096)) gtO)) (raiseS ⟨CR, ["reason"], [.str "large"]⟩) nilS)
  (seqS (fldS CC "p" 0 (varE 1))
  (seqS (fldS CC "n" 0 (varE 2))
  (seqS (fldS CC "rows" 0 (varE 4))
  (seqS (fldS CC "k" 0 (calE (aCons (varE 4) aNil) lenO))
  (fldS CC "_checks" 0 (funE 3 (aCons (varE 4) (aCons (varE 2) (aCons (varE 1) aNil))) Fkernel)))))))))
noncomputable def Finit (CC CM CR : Addr) : List Dt → Fo := runI CC 6 (m14_Code___init__ CC CM CR)
noncomputable def m14_Code_words (CC : Addr) : Ms → O := (seqS (asgN 1 (lstE (aCons (op2 (tupE (aCons (cE (.int 0)) aNil)) (fldE CC "n" (varE 0)) repT) aNil)))
  (forS (itS (fldE CC "rows" (varE 0))) (Tk.nm 2).k (seqS (asgS 3 (frz (lcE (itR1 (aCons (fldE CC "p" (varE 0)) aNil)) (Tk.nm 4).k yesT (funE 3 (aCons (varE 2) (aCons (varE 4) (aCons (fldE CC "p" (varE 0)) aNil))) FscW) [4])))
  (asgN 1 (lcE2 (itS (varE 1)) (Tk.nm 5).k yesT (itS (varE 3)) (Tk.nm 6).k yesT (funE 3 (aCons (varE 5) (aCons (varE 6) (aCons (fldE CC "p" (varE 0)) aNil))) FaddW) [5, 6] [6])))))
noncomputable def Fwords (CC : Addr) : List Dt → FoN := runN 7 (seqN (m14_Code_words CC) (retNV 1))
end Lq

namespace Lq
open PySem PySem.Spec PyProof.Rows L2
theorem isi2_of {T U : String} {d : Dt} {n : String} {b c : Bool} (h : tyN d = some n) (h1 : kitB n T = some b) (h2 : kitB n U = some c) : isi2O T U d = some (.bl (b || c)) := by unfold isi2O; rw [h, Option.bind_some, h1, Option.bind_some, h2]; rfl
theorem isi2_lst (xs : List Dt) : isi2O "list" "tuple" (.lst xs) = some (.bl true) := isi2_of (n := "list") (b := true) (c := false) rfl (by decide +kernel) (by decide +kernel)
theorem isi2_tup (xs : List Dt) : isi2O "list" "tuple" (.tup xs) = some (.bl true) := isi2_of (n := "tuple") (b := false) (c := true) rfl (by decide +kernel) (by decide +kernel)
theorem Fisprime_run {p : Int} : Fisprime [.int p] = .ok (.bl (isP p)) := by
  have hi := Fisint_run (d := .int p) rfl
  have hm : inI false (.int p) (.scr true [.int 2, .int 3, .int 5, .int 7]) = some (.bl (isP p)) := by
    have h2 : seqOf (.scr true [.int 2, .int 3, .int 5, .int 7]) = some ([2, 3, 5, 7].map Dt.int) := rfl
    unfold inI
    dsimp only
    rw [h2, Option.bind_some, intsOf_map]
    unfold isP
    simp
  unfold Fisprime runD m14_is_prime
  simp [st0, hi, isI, hm, O.fo]
theorem wordB_ok {p : Int} {n : Nat} {v : List Int} : wordB p (n : Int) (Wd v) = decide (v.length = n ∧ ∀ x ∈ v, 0 ≤ x ∧ x < p) := by
  unfold wordB Wd
  dsimp only
  rw [List.all_map, Bool.eq_iff_iff, Bool.and_eq_true, decide_eq_true_eq, List.all_eq_true, decide_eq_true_eq]
  have e : ((v.map Dt.int).length : Int) = (n : Int) ↔ v.length = n := by rw [List.length_map]; omega
  rw [e]
  simp [itB]
theorem wordB_ok1 {p : Int} {n : Nat} {v : List Int} (h : ok1 p n v) : wordB p (n : Int) (Wd v) = true := by
  rw [wordB_ok, decide_eq_true_eq]
  refine ⟨h.2, fun x hx => ?_⟩
  have := h.1
  unfold okW at this
  rw [Bool.and_eq_true, List.all_eq_true] at this
  exact of_decide_eq_true (this.2 x hx)
theorem okV_wd {v : List Int} (h : v.length ≤ 1000) : okV (Wd v) = true := by
  unfold okV Wd
  simp [h, noObj]
theorem Fchk_run (CM CR : Addr) {p : Int} {n : Nat} {rows : List (List Int)} {d : Dt} (hd : d = .lst (rows.map Wd) ∨ d = .tup (rows.map Wd)) (hp : isP p = true) (hn : n ≤ 12) (hl : rows.length ≤ 1000) (h : okR p n rows) : Fchk CM CR [.int p, .int (n : Int), d] = .ok .non := by
  have hi := Fisint_run (d := .int (n : Int)) rfl
  have hpr := Fisprime_run (p := p)
  have hs : seqOf d = some (rows.map Wd) := by rcases hd with rfl | rfl <;> simp
  have ht : isi2O "list" "tuple" d = some (.bl true) := by
    rcases hd with rfl | rfl
    · exact isi2_lst _
    · exact isi2_tup _
  have key : lcE (itS (varE 2)) (Tk.nm 3).k yesT (funE 3 (aCons (varE 3) (aCons (varE 0) (aCons (varE 1) aNil))) Fisword) [3] { sl := [.im (.int p), .im (.int (n : Int)), .im d, .no], mo := [] } = .ok (rows.map fun _ => Dt.bl true) { sl := [.im (.int p), .im (.int (n : Int)), .im d, .no], mo := [] } := by
    refine lcE_map Wd (fun _ => Dt.bl true) rows (by simp [hs]) (fun r hr => ?_) (fun d T T' => Tk.mo) (by omega)
    have hw := Fisword_run (p := p) (m := (n : Int)) (okV_wd (v := r) (by have := (h r hr).2; omega))
    rw [wordB_ok1 (h r hr)] at hw
    refine ⟨_, kNm _ _ _, { sl := [.im (.int p), .im (.int (n : Int)), .im d, .im (Wd r)], mo := [] }, ?_, rfl⟩
    simp [wipeL, hw]
  have hall : allO [.lst (rows.map fun _ => Dt.bl true)] = some (.bl true) := by
    have := allO_run (rows.map fun _ => true)
    rw [List.map_map] at this
    rw [show (Dt.bl ∘ fun (_ : List Int) => true) = fun _ => Dt.bl true from rfl] at this
    rw [this]
    simp
  unfold Fchk runD m14_check_rows
  have hst : st0 4 [.int p, .int (n : Int), d] = { sl := [.im (.int p), .im (.int (n : Int)), .im d, .no], mo := [] } := rfl
  rw [hst]
  have hn2 : ¬ (12 : Int) < (n : Int) := by omega
  have hn3 : ¬ (n : Int) < 0 := by omega
  simp [hpr, hp, hi, isI, hn2, hn3, ht, key, hall, tru_bl, O.fo]
def codeD (CC : Addr) (p : Int) (n : Nat) (T : List (List Int)) : Dt := .obj CC ["p", "n", "rows", "k", "_checks"] [.int p, .int (n : Int), TD T, .int (T.length : Int), TD (kerL p n (redN p T n))]
theorem code_p (CC : Addr) (p : Int) (n : Nat) (T : List (List Int)) : fldO CC "p" (codeD CC p n T) = some (.int p) := by unfold codeD; rw [fldO_self]; rfl
theorem code_n (CC : Addr) (p : Int) (n : Nat) (T : List (List Int)) : fldO CC "n" (codeD CC p n T) = some (.int (n : Int)) := by unfold codeD; rw [fldO_self]; rfl
theorem code_rows (CC : Addr) (p : Int) (n : Nat) (T : List (List Int)) : fldO CC "rows" (codeD CC p n T) = some (TD T) := by unfold codeD; rw [fldO_self]; rfl
theorem code_checks (CC : Addr) (p : Int) (n : Nat) (T : List (List Int)) : fldO CC "_checks" (codeD CC p n T) = some (TD (kerL p n (redN p T n))) := by unfold codeD; rw [fldO_self]; rfl
theorem seqOf_td (T : List (List Int)) : seqOf (TD T) = some (T.map Wd) := rfl
theorem okR_red {p : Int} {n : Nat} {rows : List (List Int)} (hp : isP p = true) (hn : n ≤ 1000) (h : okR p n rows) : okR p n (redN p rows n).T ∧ Rr n (redN p rows n).T (redN p rows n).P ∧ (redN p rows n).T.length ≤ n :=
  ⟨(redN_ok (isP_okP hp) h n).1, (RI_N hp hn h n (Nat.le_refl n)).rr, by have := redN_lens (p := p) (rows := rows) n; omega⟩
def ioS (CC : Addr) (p : Int) (n : Nat) (d : Dt) (T : List (List Int)) (P : List Nat) (ks : List Str) (ds : List Dt) : Ms := { sl := [.mu 0, .im (.int p), .im (.int (n : Int)), .im d, .im (TD T), .im (PD P)], mo := [.ob (.io CC ks ds)] }
theorem ioS_f {CC : Addr} {p : Int} {n : Nat} {d e : Dt} {T : List (List Int)} {P : List Nat} {ks : List Str} {ds : List Dt} {f : Str} {m : Ms → R Dt} (h : m (ioS CC p n d T P ks ds) = .ok e (ioS CC p n d T P ks ds)) (hf : f ∉ ks) (hl : ks.length < 100) : fldS CC f 0 m (ioS CC p n d T P ks ds) = .nx (ioS CC p n d T P (ks ++ [f]) (ds ++ [e])) := by
  rw [fldS_run (k := 0) (ds := ds) h (by rfl) hf hl]
  rfl
theorem Finit_run (CC CM CR : Addr) {p : Int} {n : Nat} {rows : List (List Int)} {d : Dt} (hd : d = .lst (rows.map Wd) ∨ d = .tup (rows.map Wd)) (hp : isP p = true) (hn : n ≤ 12) (hl : rows.length ≤ 1000) (h : okR p n rows) (hk : p ^ (redN p rows n).T.length ≤ 4096) : Finit CC CM CR [.int p, .int (n : Int), d] = .ok (codeD CC p n (redN p rows n).T) := by
  have hs : seqOf d = some (rows.map Wd) := by rcases hd with rfl | rfl <;> simp
  have hc := Fchk_run CM CR hd hp hn hl h
  have hr := Freduced_run (n := n) hs hp (by omega) hl h
  obtain ⟨k1, k2, hT⟩ := okR_red hp (by omega : n ≤ 1000) h
  have hf := Fpow_run (a := p) (k := ((redN p rows n).T.length : Int)) (by have := isP_cases hp; omega) (by omega)
  rw [Int.toNat_natCast] at hf
  have hker := Fkernel_run (seqOf_td (redN p rows n).T) hp (by omega : n ≤ 1000) (by omega) k1
  have hlen := len_td (redN p rows n).T
  unfold redD at hr
  have hr' : Freduced [d, .int (n : Int), .int p] = .ok (.tup [TD (redN p rows n).T, PD (redN p rows n).P]) := hr
  generalize redN p rows n = s at *
  have hk2 : ¬ (4096 : Int) < p ^ s.T.length := by omega
  have e0 : dropS (funE 3 (aCons (varE 1) (aCons (varE 2) (aCons (varE 3) aNil))) (Fchk CM CR)) (stI CC 6 [.int p, .int (n : Int), d]) = .nx { sl := [.mu 0, .im (.int p), .im (.int (n : Int)), .im d, .no, .no], mo := [.ob (.io CC [] [])] } := by
    have hst : stI CC 6 [.int p, .int (n : Int), d] = { sl := [.mu 0, .im (.int p), .im (.int (n : Int)), .im d, .no, .no], mo := [.ob (.io CC [] [])] } := rfl
    rw [hst]
    simp [hc]
  have e1 : asgT (Tk.tp [4, 5]) (funE 3 (aCons (varE 3) (aCons (varE 2) (aCons (varE 1) aNil))) Freduced) { sl := [.mu 0, .im (.int p), .im (.int (n : Int)), .im d, .no, .no], mo := [.ob (.io CC [] [])] } = .nx (ioS CC p n d s.T s.P [] []) := by
    simp [hr', kNames, ioS]
  have e2 : ifS (tst (op2 (funE 2 (aCons (varE 1) (aCons (calE (aCons (varE 4) aNil) lenO) aNil)) Fpow) (cE (.int 4096)) gtO)) (raiseS ⟨CR, ["reason"], [.str "large"]⟩) nilS (ioS CC p n d s.T s.P [] []) = .nx (ioS CC p n d s.T s.P [] []) := by
    simp [ioS, hlen, hf, hk2]
  have e7 : ∀ ks ds, (funE 3 (aCons (varE 4) (aCons (varE 2) (aCons (varE 1) aNil))) Fkernel) (ioS CC p n d s.T s.P ks ds) = .ok (TD (kerL p n (redN p s.T n))) (ioS CC p n d s.T s.P ks ds) := by
    intro ks ds
    simp [ioS, hker]
  have e8 : ∀ ks ds, (calE (aCons (varE 4) aNil) lenO) (ioS CC p n d s.T s.P ks ds) = .ok (.int (s.T.length : Int)) (ioS CC p n d s.T s.P ks ds) := by
    intro ks ds
    simp [ioS, hlen]
  unfold Finit runI m14_Code___init__
  rw [seqS_run, e0, seq_nx, seqS_run, e1, seq_nx, seqS_run, e2, seq_nx, seqS_run, ioS_f (m := varE 1) (e := .int p) rfl (by decide +kernel) (by decide), seq_nx, seqS_run, ioS_f (m := varE 2) (e := .int (n : Int)) rfl (by decide +kernel) (by decide), seq_nx, seqS_run, ioS_f (m := varE 4) (e := TD s.T) rfl (by decide +kernel) (by decide), seq_nx, seqS_run, ioS_f (e8 _ _) (by decide +kernel) (by decide), seq_nx, ioS_f (e7 _ _) (by decide +kernel) (by decide)]
  rfl
end Lq

namespace Lq
open PySem PySem.Spec PyProof.Rows L2
end Lq

namespace Lq
open PySem PySem.Spec PyProof.Rows L2
def SlIm (S : Ms) (i : Nat) (d : Dt) : Prop := S.sl[i]? = some (.im d)
theorem wipe1 (sl : List Sv) (k : Nat) : wipeL sl [k] = sl.set k .no := by simp [wipeL]
theorem SlIm.at {S : Ms} {i k : Nat} {d : Dt} {x : Sv} {mo : List Mo} (h : SlIm S i d) (hk : k ≠ i) : SlIm { sl := (wipeL S.sl [k]).set k x, mo := mo } i d := by
  unfold SlIm at *
  rw [wipe1]
  show ((S.sl.set k .no).set k x)[i]? = _
  rw [List.getElem?_set_ne hk, List.getElem?_set_ne hk, h]
end Lq

namespace Lq
open PySem PySem.Spec PyProof.Rows L2
structure CodeOf (p : Int) (n : Nat) (rows T W : List (List Int)) : Prop where
  okT : okR p n T
  len : T.length ≤ n
  eqT : T = (redN p rows n).T
  eqW : W = sortW (spanL p n rows)
  wds : wordsF p n T = W
  okW : ∀ w ∈ W, ok1 p n w
  crd : W.length = p.toNat ^ T.length
  sub : Sub p n W
end Lq

namespace Lq
open PySem PySem.Spec PyProof.Rows L2

end Lq


namespace Lq
open PySem PySem.Spec PyProof.Rows L2
end Lq

namespace Lq
open PySem PySem.Spec PyProof.Rows L2
theorem okR_app2 {p : Int} {n : Nat} {A B : List (List Int)} (h1 : okR p n A) (h2 : okR p n B) : okR p n (A ++ B) := fun r hr => by
  rcases List.mem_append.mp hr with h | h
  · exact h1 r h
  · exact h2 r h
end Lq

namespace Lq
open PySem PySem.Spec PyProof.Rows L2
theorem kerL_ok {p : Int} {n : Nat} (hp : isP p = true) (hn : n ≤ 1000) (s : Red) : okR p n (kerL p n s) := ker_ok hp hn
end Lq

namespace Lq
open PySem PySem.Spec PyProof.Rows L2

noncomputable def m09_Code_checks (CC : Addr) : Ms → O := (retS (fldE CC "_checks" (varE 0)))
noncomputable def Fchecks (CC : Addr) : List Dt → Fo := runD 1 (m09_Code_checks CC)
noncomputable def m09_check_alike (CC CM : Addr) : Ms → O := (ifS (orT (tst (op2 (fldE CC "p" (varE 0)) (fldE CC "p" (varE 1)) neO)) (tst (op2 (fldE CC "n" (varE 0)) (fldE CC "n" (varE 1)) neO))) (raiseS ⟨CM, [], []⟩) nilS)
noncomputable def Falike (CC CM : Addr) : List Dt → Fo := runD 2 (m09_check_alike CC CM)
noncomputable def m09_sum_of (CC CM CR : Addr) : Ms → O := (seqS (dropS (funE 2 (aCons (varE 0) (aCons (varE 1) aNil)) (Falike CC CM)))
  (retS (makE CC 3 (aCons (fldE CC "p" (varE 0)) (aCons (fldE CC "n" (varE 0)) (aCons (op2 (fldE CC "rows" (varE 0)) (fldE CC "rows" (varE 1)) catT) aNil))) (Finit CC CM CR))))
noncomputable def Fsumof (CC CM CR : Addr) : List Dt → Fo := runD 2 (m09_sum_of CC CM CR)
noncomputable def m09_common_part (CC CM CR : Addr) : Ms → O := (seqS (dropS (funE 2 (aCons (varE 0) (aCons (varE 1) aNil)) (Falike CC CM)))
  (retS (makE CC 3 (aCons (fldE CC "p" (varE 0)) (aCons (fldE CC "n" (varE 0)) (aCons (funE 3 (aCons (op2 (metE CC "checks" 1 (varE 0) aNil (Fchecks CC)) (metE CC "checks" 1 (varE 1) aNil (Fchecks CC)) catT) (aCons (fldE CC "n" (varE 0)) (aCons (fldE CC "p" (varE 0)) aNil))) Fkernel) aNil))) (Finit CC CM CR))))
noncomputable def Fcpart (CC CM CR : Addr) : List Dt → Fo := runD 2 (m09_common_part CC CM CR)
theorem Fchecks_run {CC : Addr} {p : Int} {n : Nat} {T : List (List Int)} : Fchecks CC [codeD CC p n T] = .ok (TD (kerL p n (redN p T n))) := by
  have h1 := code_checks CC p n T
  unfold Fchecks runD m09_Code_checks
  have hst : st0 1 [codeD CC p n T] = { sl := [.im (codeD CC p n T)], mo := [] } := rfl
  rw [hst]
  generalize codeD CC p n T = C at *
  simp [h1, O.fo]
theorem Falike_run {CC CM : Addr} {p q : Int} {n m : Nat} {T T' : List (List Int)} : Falike CC CM [codeD CC p n T, codeD CC q m T'] = if p = q ∧ n = m then .ok .non else .er ⟨CM, [], []⟩ := by
  have h1 := code_p CC p n T
  have h2 := code_n CC p n T
  have g1 := code_p CC q m T'
  have g2 := code_n CC q m T'
  unfold Falike runD m09_check_alike
  have hst : st0 2 [codeD CC p n T, codeD CC q m T'] = { sl := [.im (codeD CC p n T), .im (codeD CC q m T')], mo := [] } := rfl
  rw [hst]
  generalize codeD CC p n T = C at *
  generalize codeD CC q m T' = D at *
  have hr : ∀ S, raiseS ⟨CM, [], []⟩ S = .er ⟨CM, [], []⟩ S := fun _ => rfl
  by_cases q1 : p = q
  · by_cases q2 : n = m
    · simp [h1, h2, g1, g2, q1, q2, O.fo]
    · have q2' : ¬ (n : Int) = (m : Int) := by omega
      generalize (n : Int) = z at *
      generalize (m : Int) = z' at *
      simp [h1, h2, g1, g2, q1, q2, q2', hr, O.fo]
  · simp [h1, h2, g1, g2, q1, hr, O.fo]
theorem catT_td {A B : List (List Int)} (h : A.length + B.length ≤ 1000) : catT (TD A) (TD B) = some (.tup ((A ++ B).map Wd)) := by
  have := catT_run (xs := A.map Wd) (ys := B.map Wd) (by simp; omega)
  rw [List.map_append]
  exact this
theorem Fsumof_run {CC CM CR : Addr} {p : Int} {n : Nat} {Ta Tb : List (List Int)} (hp : isP p = true) (hn : n ≤ 12) (ha : okR p n Ta) (hb : okR p n Tb) (la : Ta.length ≤ 12) (lb : Tb.length ≤ 12) (hk : p ^ (redN p (Ta ++ Tb) n).T.length ≤ 4096) : Fsumof CC CM CR [codeD CC p n Ta, codeD CC p n Tb] = .ok (codeD CC p n (redN p (Ta ++ Tb) n).T) := by
  have h1 := code_p CC p n Ta
  have h2 := code_n CC p n Ta
  have h3 := code_rows CC p n Ta
  have g3 := code_rows CC p n Tb
  have hal := Falike_run (CC := CC) (CM := CM) (p := p) (q := p) (n := n) (m := n) (T := Ta) (T' := Tb)
  rw [if_pos ⟨rfl, rfl⟩] at hal
  have hc := catT_td (A := Ta) (B := Tb) (by omega)
  have hi := Finit_run CC CM CR (d := .tup ((Ta ++ Tb).map Wd)) (.inr rfl) hp hn (by simp; omega) (okR_app2 ha hb) hk
  unfold Fsumof runD m09_sum_of
  have hst : st0 2 [codeD CC p n Ta, codeD CC p n Tb] = { sl := [.im (codeD CC p n Ta), .im (codeD CC p n Tb)], mo := [] } := rfl
  rw [hst]
  have hx : ∃ ks ds, codeD CC p n (redN p (Ta ++ Tb) n).T = .obj CC ks ds := ⟨_, _, rfl⟩
  generalize codeD CC p n (redN p (Ta ++ Tb) n).T = R at *
  obtain ⟨ks, ds, rfl⟩ := hx
  generalize codeD CC p n Ta = C at *
  generalize codeD CC p n Tb = D at *
  generalize TD Ta = X at *
  generalize TD Tb = Y at *
  generalize Dt.tup ((Ta ++ Tb).map Wd) = Z at *
  have e0 : dropS (funE 2 (aCons (varE 0) (aCons (varE 1) aNil)) (Falike CC CM)) { sl := [.im C, .im D], mo := [] } = .nx { sl := [.im C, .im D], mo := [] } := by simp [hal]
  have hm := makE_run (C := CC) (n := 3) (fs := aCons (fldE CC "p" (varE 0)) (aCons (fldE CC "n" (varE 0)) (aCons (op2 (fldE CC "rows" (varE 0)) (fldE CC "rows" (varE 1)) catT) aNil))) (S := { sl := [.im C, .im D], mo := [] }) (S1 := { sl := [.im C, .im D], mo := [] }) (ds := [.int p, .int (n : Int), Z]) (by simp [h1, h2, h3, g3, hc]) rfl hi
  rw [seqS_run, e0, seq_nx, retS_run, hm, R.stmt_ok]
  rfl
theorem kerL_len {p : Int} {n : Nat} (s : Red) : (kerL p n s).length ≤ n := by
  unfold kerL frees
  rw [List.length_map]
  have := List.length_filter_le (fun c => decide (c ∉ s.P)) (List.range n)
  rw [List.length_range] at this
  exact this
theorem Fcpart_run {CC CM CR : Addr} {p : Int} {n : Nat} {Ta Tb K : List (List Int)} (hp : isP p = true) (hn : n ≤ 12) (hK : K = kerL p n (redN p (kerL p n (redN p Ta n) ++ kerL p n (redN p Tb n)) n)) (hk : p ^ (redN p K n).T.length ≤ 4096) : Fcpart CC CM CR [codeD CC p n Ta, codeD CC p n Tb] = .ok (codeD CC p n (redN p K n).T) := by
  have h1 := code_p CC p n Ta
  have h2 := code_n CC p n Ta
  have h3 := Fchecks_run (CC := CC) (p := p) (n := n) (T := Ta)
  have g3 := Fchecks_run (CC := CC) (p := p) (n := n) (T := Tb)
  have hal := Falike_run (CC := CC) (CM := CM) (p := p) (q := p) (n := n) (m := n) (T := Ta) (T' := Tb)
  rw [if_pos ⟨rfl, rfl⟩] at hal
  have l1 := kerL_len (p := p) (n := n) (redN p Ta n)
  have l2 := kerL_len (p := p) (n := n) (redN p Tb n)
  have o1 := kerL_ok hp (by omega : n ≤ 1000) (redN p Ta n)
  have o2 := kerL_ok hp (by omega : n ≤ 1000) (redN p Tb n)
  generalize kerL p n (redN p Ta n) = A at *
  generalize kerL p n (redN p Tb n) = B at *
  have hc := catT_td (A := A) (B := B) (by omega)
  have hker := Fkernel_run (n := n) (rows := A ++ B) (d := .tup ((A ++ B).map Wd)) rfl hp (by omega) (by simp; omega) (okR_app2 o1 o2)
  rw [← hK] at hker
  have hKl : K.length ≤ n := by rw [hK]; exact kerL_len _
  have hKo : okR p n K := by rw [hK]; exact kerL_ok hp (by omega) _
  have hi := Finit_run CC CM CR (d := TD K) (.inr rfl) hp hn (by omega) hKo hk
  unfold Fcpart runD m09_common_part
  have hst : st0 2 [codeD CC p n Ta, codeD CC p n Tb] = { sl := [.im (codeD CC p n Ta), .im (codeD CC p n Tb)], mo := [] } := rfl
  rw [hst]
  have hx : ∃ ks ds, codeD CC p n (redN p K n).T = .obj CC ks ds := ⟨_, _, rfl⟩
  generalize codeD CC p n (redN p K n).T = R at *
  obtain ⟨ks, ds, rfl⟩ := hx
  generalize Dt.tup ((A ++ B).map Wd) = Z at *
  generalize TD K = Z2 at *
  have e0 : dropS (funE 2 (aCons (varE 0) (aCons (varE 1) aNil)) (Falike CC CM)) { sl := [.im (codeD CC p n Ta), .im (codeD CC p n Tb)], mo := [] } = .nx { sl := [.im (codeD CC p n Ta), .im (codeD CC p n Tb)], mo := [] } := by
    generalize codeD CC p n Ta = C at *
    generalize codeD CC p n Tb = D at *
    simp [hal]
  have m1 : metE CC "checks" 1 (varE 0) aNil (Fchecks CC) { sl := [.im (codeD CC p n Ta), .im (codeD CC p n Tb)], mo := [] } = .ok (TD A) { sl := [.im (codeD CC p n Ta), .im (codeD CC p n Tb)], mo := [] } := metE_run (varE_im rfl) (by decide +kernel) rfl rfl h3
  have m2 : metE CC "checks" 1 (varE 1) aNil (Fchecks CC) { sl := [.im (codeD CC p n Ta), .im (codeD CC p n Tb)], mo := [] } = .ok (TD B) { sl := [.im (codeD CC p n Ta), .im (codeD CC p n Tb)], mo := [] } := metE_run (varE_im rfl) (by decide +kernel) rfl rfl g3
  have hm := makE_run (C := CC) (n := 3) (fs := aCons (fldE CC "p" (varE 0)) (aCons (fldE CC "n" (varE 0)) (aCons (funE 3 (aCons (op2 (metE CC "checks" 1 (varE 0) aNil (Fchecks CC)) (metE CC "checks" 1 (varE 1) aNil (Fchecks CC)) catT) (aCons (fldE CC "n" (varE 0)) (aCons (fldE CC "p" (varE 0)) aNil))) Fkernel) aNil))) (S := { sl := [.im (codeD CC p n Ta), .im (codeD CC p n Tb)], mo := [] }) (S1 := { sl := [.im (codeD CC p n Ta), .im (codeD CC p n Tb)], mo := [] }) (ds := [.int p, .int (n : Int), Z2]) (by
    generalize codeD CC p n Ta = C at *
    generalize codeD CC p n Tb = D at *
    generalize TD A = X at *
    generalize TD B = Y at *
    simp [h1, h2, m1, m2, hc, hker]) rfl hi
  rw [seqS_run, e0, seq_nx, retS_run, hm, R.stmt_ok]
  rfl
end Lq


namespace Lq
open PySem PySem.Spec PyProof.Rows L2
end Lq

namespace Lq
open PySem PySem.Spec PyProof.Rows L2
end Lq

namespace Lq
open PySem PySem.Spec PyProof.Rows L2

noncomputable def m08_Code_dual (CC CM CR : Addr) : Ms → O := (retS (makE CC 3 (aCons (fldE CC "p" (varE 0)) (aCons (fldE CC "n" (varE 0)) (aCons (fldE CC "_checks" (varE 0)) aNil))) (Finit CC CM CR)))
noncomputable def Fcdual (CC CM CR : Addr) : List Dt → Fo := runD 1 (m08_Code_dual CC CM CR)
noncomputable def m08_Code_syndrome (CC CM : Addr) : Ms → O := (seqS (ifS (notT (truT (funE 3 (aCons (varE 1) (aCons (fldE CC "p" (varE 0)) (aCons (fldE CC "n" (varE 0)) aNil))) Fisword))) (raiseS ⟨CM, [], []⟩) nilS)
  (retS (calE (aCons (frz (lcE (itS (fldE CC "_checks" (varE 0))) (Tk.nm 2).k yesT (funE 3 (aCons (varE 2) (aCons (varE 1) (aCons (fldE CC "p" (varE 0)) aNil))) Fdot) [2])) aNil) tupO)))
noncomputable def Fsynd (CC CM : Addr) : List Dt → Fo := runD 3 (m08_Code_syndrome CC CM)
theorem Fcdual_run {CC CM CR : Addr} {p : Int} {n : Nat} {T H : List (List Int)} (hp : isP p = true) (hn : n ≤ 12) (hH : H = kerL p n (redN p T n)) (hk : p ^ (redN p H n).T.length ≤ 4096) : Fcdual CC CM CR [codeD CC p n T] = .ok (codeD CC p n (redN p H n).T) := by
  have h1 := code_p CC p n T
  have h2 := code_n CC p n T
  have h3 := code_checks CC p n T
  rw [← hH] at h3
  have hl : H.length ≤ n := by rw [hH]; exact kerL_len _
  have hi := Finit_run CC CM CR (d := TD H) (.inr rfl) hp hn (by omega) (by rw [hH]; exact kerL_ok hp (by omega) _) hk
  unfold Fcdual runD m08_Code_dual
  have hst : st0 1 [codeD CC p n T] = { sl := [.im (codeD CC p n T)], mo := [] } := rfl
  rw [hst]
  have hx : ∃ ks ds, codeD CC p n (redN p H n).T = .obj CC ks ds := ⟨_, _, rfl⟩
  generalize codeD CC p n (redN p H n).T = R at *
  obtain ⟨ks, ds, rfl⟩ := hx
  generalize codeD CC p n T = C at *
  generalize TD H = X at *
  have hm := makE_run (C := CC) (n := 3) (fs := (aCons (fldE CC "p" (varE 0)) (aCons (fldE CC "n" (varE 0)) (aCons (fldE CC "_checks" (varE 0)) aNil)))) (S := { sl := [.im C], mo := [] }) (S1 := { sl := [.im C], mo := [] }) (ds := [.int p, .int (n : Int), X]) (by simp [h1, h2, h3]) rfl hi
  rw [retS_run, hm, R.stmt_ok]
  rfl
end Lq


namespace Lq
open PySem PySem.Spec PyProof.Rows L2
end Lq

namespace Lq
open PySem PySem.Spec PyProof.Rows L2
end Lq

namespace Lq
open PySem PySem.Spec PyProof.Rows L2

structure CW (CC : Addr) (p : Int) (n : Nat) (T W : List (List Int)) (v : List Int) : Prop where
  hp : isP p = true
  hn : n ≤ 12
  wds : Fwords CC [codeD CC p n T] = .ok (W.map Wd)
  ok : ∀ w ∈ W, ok1 p n w
  len : W.length ≤ 1000
  hv : ok1 p n v
end Lq


namespace Lq
open PySem PySem.Spec PyProof.Rows L2
structure L20 (p : Int) (n : Nat) (W Q : List (List Int)) (F : List Int) (v : List Int) (m : Int) : Prop where
  hp : isP p = true
  hn : n ≤ 5
  ok : ∀ w ∈ W, ok1 p n w
  lW : W.length ≤ 343
  hv : ok1 p n v
  eQ : Q = W.map fun w => addW p v w
  okQ : ∀ w ∈ Q, ok1 p n w
  eF : F = W.map fun w => (wtW (lin p v w (-1)) : Int)
  mF : minF F = some m
  mD : minF (W.map fun w => (dstW w v : Int)) = some m
  mQ : minF (Q.map fun w => (wtW w : Int)) = some m
  cnt : (Q.filter fun w => decide ((wtW w : Int) = m)).length = (W.filter fun w => decide ((dstW w v : Int) = m)).length
end Lq

namespace Lq
open PySem PySem.Spec PyProof.Rows L2

end Lq


namespace Lq
open PySem PySem.Spec PyProof.Rows L2
end Lq

namespace Lq
open PySem PySem.Spec PyProof.Rows L2

noncomputable def m36_check_unit (CM CR : Addr) : Ms → O := (seqS (ifS (orT (notT (truT (funE 1 (aCons (varE 0) aNil) Fisprime))) (orT (notT (truT (funE 1 (aCons (varE 1) aNil) Fisint))) (tst (op2 (varE 1) (cE (.int 1)) ltO)))) (raiseS ⟨CM, [], []⟩) nilS)
  (ifS (tst (op2 (varE 1) (cE (.int 12)) gtO)) (raiseS ⟨CR, ["reason"], [.str "length"]⟩) nilS))
noncomputable def Fckun (CM CR : Addr) : List Dt → Fo := runD 2 (m36_check_unit CM CR)
noncomputable def m36_unit_polynomial (CM CR : Addr) : Ms → O := (seqS (dropS (funE 2 (aCons (varE 0) (aCons (varE 1) aNil)) (Fckun CM CR)))
  (retS (op2 (op2 (tupE (aCons (op2 (varE 0) (cE (.int 1)) subO) aNil)) (op2 (tupE (aCons (cE (.int 0)) aNil)) (op2 (varE 1) (cE (.int 1)) subO) repT) catT) (tupE (aCons (cE (.int 1)) aNil)) catT)))
noncomputable def Funitp (CM CR : Addr) : List Dt → Fo := runD 2 (m36_unit_polynomial CM CR)
noncomputable def m36_classes : Ms → O := (seqS (asgN 2 (lstE aNil))
  (seqS (forS (itR1 (aCons (varE 1) aNil)) (Tk.nm 3).k (seqS (asgN 4 (lstE (aCons (varE 3) aNil)))
  (seqS (whileS (fun _ => 64) (tst (op2 (op2 (op2 (ixV 4 (op1 (cE (.int 1)) negO)) (varE 0) mulO) (varE 1) modO) (varE 3) neO)) (appS 4 (op2 (op2 (ixV 4 (op1 (cE (.int 1)) negO)) (varE 0) mulO) (varE 1) modO)))
  (ifS (tst (op2 (calE (aCons (varE 4) aNil) minLO) (varE 3) eqO)) (appS 2 (varE 4)) nilS))))
  (retS (varE 2))))
noncomputable def Fclasses : List Dt → Fo := runD 5 (m36_classes)
noncomputable def m36_split (CR : Addr) : Ms → O := (seqS (asgS 4 (calE (aCons (frz (lcE (itR1 (aCons (varE 2) aNil)) (Tk.nm 10).k yesT (calE (aCons (op2 (varE 10) (varE 1) (inI false)) aNil) intO) [10])) aNil) tupO))
  (seqS (asgS 5 (frz (lcE (itR1 (aCons (varE 3) aNil)) (Tk.nm 7).k yesT (funE 1 (aCons (funE 3 (aCons (varE 4) (aCons (op2 (tupE (aCons (op2 (op1 (varE 7) negO) (varE 3) modO) aNil)) (op2 (tupE (aCons (cE (.int 0)) aNil)) (op2 (varE 2) (cE (.int 1)) subO) repT) catT) (aCons (varE 3) aNil))) FaddW) aNil) Ftrim) [7])))
  (seqS (asgS 6 (frz (lcE (itS (varE 5)) (Tk.nm 8).k yesT (funE 3 (aCons (varE 0) (aCons (varE 8) (aCons (varE 3) aNil))) (Fgcd CR)) [8])))
  (retS (frz (lcE (itS (varE 6)) (Tk.nm 9).k (tst (op2 (calE (aCons (varE 9) aNil) lenO) (cE (.int 1)) gtO)) (varE 9) [9]))))))
noncomputable def Fsplit (CR : Addr) : List Dt → Fo := runD 11 (m36_split CR)
noncomputable def m36_in_order : Ms → O := (retS (frz (lcE (itS (frz (calN (aCons (frz (lcE (itS (varE 0)) (Tk.nm 2).k yesT (tupE (aCons (calE (aCons (varE 2) aNil) lenO) (aCons (varE 2) aNil))) [2])) aNil) sortPO))) (Tk.tp [1, 2]).k yesT (varE 2) [1, 2])))
noncomputable def Finorder : List Dt → Fo := runD 3 (m36_in_order)
noncomputable def m36_factors_of_unit (CM CR : Addr) : Ms → O := (seqS (dropS (funE 2 (aCons (varE 0) (aCons (varE 1) aNil)) (Fckun CM CR)))
  (seqS (asgS 2 (cE (.int 1)))
  (seqS (whileS (fun _ => 64) (tst (op2 (op2 (op2 (varE 1) (varE 2) divO) (varE 0) modO) (cE (.int 0)) eqO)) (asgS 2 (op2 (varE 2) (varE 0) mulO)))
  (seqS (asgS 3 (op2 (varE 1) (varE 2) divO))
  (seqS (asgN 4 (lstE (aCons (funE 2 (aCons (varE 0) (aCons (varE 3) aNil)) (Funitp CM CR)) aNil)))
  (seqS (forS (itS (funE 2 (aCons (varE 0) (aCons (varE 3) aNil)) Fclasses)) (Tk.nm 5).k (asgN 4 (lcE2 (itS (varE 4)) (Tk.nm 6).k yesT (itS (funE 4 (aCons (varE 6) (aCons (varE 5) (aCons (varE 3) (aCons (varE 0) aNil)))) (Fsplit CR))) (Tk.nm 7).k yesT (varE 7) [6, 7] [7])))
  (retS (calE (aCons (frz (lcE (itS (funE 1 (aCons (varE 4) aNil) Finorder)) (Tk.nm 6).k yesT (tupE (aCons (varE 6) (aCons (varE 2) aNil))) [6])) aNil) tupO))))))))
noncomputable def Ffacts (CM CR : Addr) : List Dt → Fo := runD 8 (m36_factors_of_unit CM CR)
noncomputable def m36_divisors_of_unit (CM CR : Addr) : Ms → O := (seqS (asgN 2 (lstE (aCons (tupE (aCons (cE (.int 1)) aNil)) aNil)))
  (seqS (forS (itS (funE 2 (aCons (varE 0) (aCons (varE 1) aNil)) (Ffacts CM CR))) (Tk.tp [3, 4]).k (seqS (asgN 5 (lstE (aCons (tupE (aCons (cE (.int 1)) aNil)) aNil)))
  (seqS (forS (itR1 (aCons (varE 4) aNil)) (Tk.nm 6).k (appS 5 (funE 3 (aCons (ixV 5 (op1 (cE (.int 1)) negO)) (aCons (varE 3) (aCons (varE 0) aNil))) Ftimes)))
  (asgN 2 (lcE2 (itS (varE 2)) (Tk.nm 7).k yesT (itS (varE 5)) (Tk.nm 8).k yesT (funE 3 (aCons (varE 7) (aCons (varE 8) (aCons (varE 0) aNil))) Ftimes) [7, 8] [8])))))
  (retS (calE (aCons (funE 1 (aCons (varE 2) aNil) Finorder) aNil) tupO))))
noncomputable def Fdivs (CM CR : Addr) : List Dt → Fo := runD 9 (m36_divisors_of_unit CM CR)
end Lq

namespace Lq
open PySem PySem.Spec PyProof.Rows L2

noncomputable def m40_Code_holds (CC CM : Addr) : Ms → O := (retS (andV (funE 3 (aCons (varE 1) (aCons (fldE CC "p" (varE 0)) (aCons (fldE CC "n" (varE 0)) aNil))) Fisword) (op1 (calE (aCons (metE CC "syndrome" 2 (varE 0) (aCons (varE 1) aNil) (Fsynd CC CM)) aNil) anyT) notO)))
noncomputable def Fholds (CC CM : Addr) : List Dt → Fo := runD 2 (m40_Code_holds CC CM)
structure Kd (d : Dt) (t l b : Bool) : Prop where
  t : isiO "tuple" d = some (.bl t)
  l : isiO "list" d = some (.bl l)
  b : isiO "bool" d = some (.bl b)
end Lq

namespace Lq
open PySem PySem.Spec PyProof.Rows L2

noncomputable def m37_shifted : Ms → O := (retS (op2 (slT (varE 0) (oSome (op1 (cE (.int 1)) negO)) oNone) (slT (varE 0) oNone (oSome (op1 (cE (.int 1)) negO))) catT))
noncomputable def Fshift : List Dt → Fo := runD 1 (m37_shifted)
noncomputable def m37_is_cyclic (CC CM : Addr) : Ms → O := (retS (andV (op2 (fldE CC "n" (varE 0)) (cE (.int 1)) geO) (calE (aCons (frz (lcE (itS (fldE CC "rows" (varE 0))) (Tk.nm 1).k yesT (metE CC "holds" 2 (varE 0) (aCons (funE 1 (aCons (varE 1) aNil) Fshift) aNil) (Fholds CC CM)) [1])) aNil) allO)))
noncomputable def Fiscyc (CC CM : Addr) : List Dt → Fo := runD 2 (m37_is_cyclic CC CM)
noncomputable def m37_is_monic : Ms → O := (retS (andV (op1 (varE 0) (isiO "tuple")) (andV (op2 (calE (aCons (varE 0) aNil) lenO) (cE (.int 0)) gtO) (andV (funE 3 (aCons (varE 0) (aCons (varE 1) (aCons (calE (aCons (varE 0) aNil) lenO) aNil))) Fisword) (op2 (op2 (varE 0) (op1 (cE (.int 1)) negO) ixO) (cE (.int 1)) eqO)))))
noncomputable def Fismon : List Dt → Fo := runD 2 (m37_is_monic)
noncomputable def m37_cyclic_code (CC CM CR : Addr) : Ms → O := (seqS (asgS 3 (funE 2 (aCons (varE 0) (aCons (varE 1) aNil)) (Funitp CM CR)))
  (seqS (ifS (orT (notT (truT (funE 2 (aCons (varE 2) (aCons (varE 0) aNil)) Fismon))) (tst (op2 (op2 (funE 3 (aCons (varE 3) (aCons (varE 2) (aCons (varE 0) aNil))) (Fdivd CR)) (cE (.int 1)) ixO) (tupE aNil) neO))) (raiseS ⟨CM, [], []⟩) nilS)
  (seqS (asgS 4 (op2 (op2 (varE 1) (calE (aCons (varE 2) aNil) lenO) subO) (cE (.int 1)) addO))
  (retS (makE CC 3 (aCons (varE 0) (aCons (varE 1) (aCons (frz (lcE (itR1 (aCons (varE 4) aNil)) (Tk.nm 5).k yesT (op2 (op2 (op2 (tupE (aCons (cE (.int 0)) aNil)) (varE 5) repT) (varE 2) catT) (op2 (tupE (aCons (cE (.int 0)) aNil)) (op2 (op2 (varE 4) (cE (.int 1)) subO) (varE 5) subO) repT) catT) [5])) aNil))) (Finit CC CM CR))))))
noncomputable def Fcycc (CC CM CR : Addr) : List Dt → Fo := runD 6 (m37_cyclic_code CC CM CR)
noncomputable def m37_generator_polynomial (CC CM CR : Addr) : Ms → O := (seqS (ifS (notT (truT (funE 1 (aCons (varE 0) aNil) (Fiscyc CC CM)))) (raiseS ⟨CR, ["reason"], [.str "cyclic"]⟩) nilS)
  (seqS (asgS 1 (funE 2 (aCons (fldE CC "p" (varE 0)) (aCons (fldE CC "n" (varE 0)) aNil)) (Funitp CM CR)))
  (seqS (forS (itS (fldE CC "rows" (varE 0))) (Tk.nm 2).k (asgS 1 (funE 3 (aCons (varE 1) (aCons (funE 1 (aCons (varE 2) aNil) Ftrim) (aCons (fldE CC "p" (varE 0)) aNil))) (Fgcd CR))))
  (retS (varE 1)))))
noncomputable def Fgenp (CC CM CR : Addr) : List Dt → Fo := runD 3 (m37_generator_polynomial CC CM CR)
noncomputable def m37_check_polynomial (CC CM CR : Addr) : Ms → O := (seqS (asgS 1 (funE 1 (aCons (varE 0) aNil) (Fgenp CC CM CR)))
  (seqS (asgT (Tk.tp [2, 3]) (funE 3 (aCons (funE 2 (aCons (fldE CC "p" (varE 0)) (aCons (fldE CC "n" (varE 0)) aNil)) (Funitp CM CR)) (aCons (varE 1) (aCons (fldE CC "p" (varE 0)) aNil))) (Fdivd CR)))
  (retS (varE 2))))
noncomputable def Fchkp (CC CM CR : Addr) : List Dt → Fo := runD 4 (m37_check_polynomial CC CM CR)

end Lq

namespace Lq
open PySem PySem.Spec PyProof.Rows L2
def LX37 (x0 : Sv) (m : List Mo) (p n : Int) (a4 a5 a6 a7 a8 a9 a10 a11 a12 a13 a14 a15 a16 a17 a18 a19 : Sv) : Ms := { sl := [x0, .mu 0, .im (.int p), .im (.int n), a4, a5, a6, a7, a8, a9, a10, a11, a12, a13, a14, a15, a16, a17, a18, a19], mo := m }
def LY37 (x0 : Sv) (m : List Mo) (p n : Sv) : Ms := { sl := [x0, .mu 0, p, n, .no, .no, .no, .no, .no, .no, .no, .no, .no, .no, .no, .no, .no, .no, .no, .no], mo := m }
theorem prime_isP37 (q : Int × Int) : isP (primeF q) = true := decide_eq_true (primeF_mem q)
theorem eqO_wd37 (a b : List Int) : eqO (Wd a) (Wd b) = some (.bl (decide (a = b))) := eqO_en a b
theorem neO_wd37 (a b : List Int) : neO (Wd a) (Wd b) = some (.bl (!decide (a = b))) := neO_en a b
noncomputable def mid37 (CC CM CR : Addr) : Ms → O := (seqS (asgS 7 (funE 3 (aCons (varE 2) (aCons (varE 3) (aCons (varE 5) aNil))) (Fcycc CC CM CR)))
  (seqS (asgS 8 (funE 3 (aCons (varE 2) (aCons (varE 3) (aCons (varE 6) aNil))) (Fcycc CC CM CR)))
  (seqS (asgS 9 (funE 1 (aCons (varE 7) aNil) (Fchkp CC CM CR)))
  (seqS (asgS 10 (op2 (frz (lcE (itR2 (aCons (cE (.int 1)) (aCons (varE 2) aNil))) (Tk.nm 18).k (tst (op2 (op2 (calE (aCons (op2 (varE 18) (op2 (varE 9) (cE (.int 0)) ixO) mulO) aNil) intO) (varE 2) modO) (cE (.int 1)) eqO)) (varE 18) [18])) (cE (.int 0)) ixO))
  (seqS (asgS 11 (funE 3 (aCons (op1 (varE 9) revO) (aCons (varE 10) (aCons (varE 2) aNil))) FscW))
  (seqS (asgS 12 (metE CC "dual" 1 (varE 7) aNil (Fcdual CC CM CR)))
  (seqS (ifS (orT (tst (op2 (funE 1 (aCons (varE 12) aNil) (Fiscyc CC CM)) (cE (.bl true)) (bCmp fun i j => !decide (i = j)))) (orT (tst (op2 (funE 1 (aCons (varE 12) aNil) (Fgenp CC CM CR)) (varE 11) neO)) (tst (op2 (funE 1 (aCons (varE 7) aNil) (Fgenp CC CM CR)) (varE 5) neO)))) (retS (cE (.bl false))) nilS)
  (seqS (asgS 13 (frz (lcE (itS (varE 4)) (Tk.nm 17).k (andT (tst (op2 (funE 3 (aCons (varE 5) (aCons (varE 17) (aCons (varE 2) aNil))) Flrest) (tupE aNil) eqO)) (tst (op2 (funE 3 (aCons (varE 6) (aCons (varE 17) (aCons (varE 2) aNil))) Flrest) (tupE aNil) eqO))) (varE 17) [17])))
  (seqS (asgS 14 (frz (lcE (itS (varE 4)) (Tk.nm 17).k (andT (tst (op2 (funE 3 (aCons (varE 17) (aCons (varE 5) (aCons (varE 2) aNil))) Flrest) (tupE aNil) eqO)) (tst (op2 (funE 3 (aCons (varE 17) (aCons (varE 6) (aCons (varE 2) aNil))) Flrest) (tupE aNil) eqO))) (varE 17) [17])))
  (seqS (asgS 15 (frz (lcE (itS (varE 13)) (Tk.nm 17).k (tst (op2 (calE (aCons (varE 17) aNil) lenO) (calE (aCons (frz (lcE (itS (varE 13)) (Tk.nm 19).k yesT (calE (aCons (varE 19) aNil) lenO) [19])) aNil) maxLO) eqO)) (varE 17) [17])))
  (seqS (asgS 16 (frz (lcE (itS (varE 14)) (Tk.nm 17).k (tst (op2 (calE (aCons (varE 17) aNil) lenO) (calE (aCons (frz (lcE (itS (varE 14)) (Tk.nm 19).k yesT (calE (aCons (varE 19) aNil) lenO) [19])) aNil) minLO) eqO)) (varE 17) [17])))
  (seqS (ifS (orT (tst (op2 (calE (aCons (varE 15) aNil) lenO) (cE (.int 1)) neO)) (tst (op2 (calE (aCons (varE 16) aNil) lenO) (cE (.int 1)) neO))) (retS (cE (.bl false))) nilS)
  (seqS (ifS (orT (tst (op2 (funE 1 (aCons (funE 2 (aCons (varE 7) (aCons (varE 8) aNil)) (Fsumof CC CM CR)) aNil) (Fgenp CC CM CR)) (op2 (varE 15) (cE (.int 0)) ixO) neO)) (tst (op2 (funE 1 (aCons (funE 2 (aCons (varE 7) (aCons (varE 8) aNil)) (Fcpart CC CM CR)) aNil) (Fgenp CC CM CR)) (op2 (varE 16) (cE (.int 0)) ixO) neO))) (retS (cE (.bl false))) nilS)
  (retS (andV (op2 (fldE CC "k" (varE 12)) (op2 (calE (aCons (varE 5) aNil) lenO) (cE (.int 1)) subO) eqO) (op2 (fldE CC "k" (varE 7)) (op2 (op2 (varE 3) (cE (.int 1)) addO) (calE (aCons (varE 5) aNil) lenO) subO) eqO))))))))))))))))
structure Rc37 where
  g : List Int
  T : List (List Int)
  h : List Int
  e : Int
  d : List Int
def kk37 (p : Int) (n : Nat) (A B : List (List Int)) : List (List Int) := kerL p n (redN p (kerL p n (redN p A n) ++ kerL p n (redN p B n)) n)
def One37 (p : Int) (n : Nat) (Z : List Rc37) (c : Rc37) : Prop :=
  c.g ≠ [] ∧ (∀ x ∈ c.g, 0 ≤ x ∧ x < p) ∧ trim c.g = c.g ∧ c.g.length ≤ 20 ∧ okRb p n c.T = true ∧ c.T.length ≤ 12 ∧ p ^ c.T.length ≤ 4096 ∧ c.T.length + c.g.length = n + 1 ∧
    ∃ c' ∈ Z, c'.g = c.d ∧ c'.T = (redN p (kerL p n (redN p c.T n)) n).T ∧ c'.T.length + 1 = c.g.length
instance (p n Z c) : Decidable (One37 p n Z c) := by unfold One37; infer_instance
def both37 (p : Int) (R : List (List Int)) (a b : List Int) : List (List Int) := R.filter fun r => decide (restP p a r = []) && decide (restP p b r = [])
def wide37 (p : Int) (R : List (List Int)) (a b : List Int) : List (List Int) := R.filter fun r => decide (restP p r a = []) && decide (restP p r b = [])
def len37 (l : List (List Int)) (M : Int) : List (List Int) := l.filter fun r => decide ((r.length : Int) = M)
def Two37 (p : Int) (n : Nat) (Z : List Rc37) (a b : Rc37) : Prop :=
  (∃ c ∈ Z, (maxF ((both37 p (Z.map (·.g)) a.g b.g).map fun r => (r.length : Int))).map (len37 (both37 p (Z.map (·.g)) a.g b.g)) = some [c.g] ∧ c.T = (redN p (a.T ++ b.T) n).T) ∧
  ∃ c ∈ Z, (minF ((wide37 p (Z.map (·.g)) a.g b.g).map fun r => (r.length : Int))).map (len37 (wide37 p (Z.map (·.g)) a.g b.g)) = some [c.g] ∧ c.T = (redN p (kk37 p n a.T b.T) n).T
instance (p n Z a b) : Decidable (Two37 p n Z a b) := by unfold Two37; infer_instance
structure Fc37 (CM CR : Addr) (p : Int) (n : Nat) (c : Rc37) : Prop where
  f1 : Fcycc 219 CM CR [.int p, .int (n : Int), Wd c.g] = .ok (codeD 219 p n c.T)
  f2 : Fgenp 219 CM CR [codeD 219 p n c.T] = .ok (Wd c.g)
  f3 : Fiscyc 219 CM [codeD 219 p n c.T] = .ok (.bl true)
  f4 : Fchkp 219 CM CR [codeD 219 p n c.T] = .ok (Wd c.h)
  f5 : ∀ (x0 : Sv) (m : List Mo) (y4 y5 y6 y7 y8 y10 y11 y12 y13 y14 y15 y16 y17 y18 y19 : Sv), (asgS 10 (op2 (frz (lcE (itR2 (aCons (cE (.int 1)) (aCons (varE 2) aNil))) (Tk.nm 18).k (tst (op2 (op2 (calE (aCons (op2 (varE 18) (op2 (varE 9) (cE (.int 0)) ixO) mulO) aNil) intO) (varE 2) modO) (cE (.int 1)) eqO)) (varE 18) [18])) (cE (.int 0)) ixO)) (LX37 x0 m p (n : Int) y4 y5 y6 y7 y8 (.im (Wd c.h)) y10 y11 y12 y13 y14 y15 y16 y17 y18 y19) = .nx (LX37 x0 m p (n : Int) y4 y5 y6 y7 y8 (.im (Wd c.h)) (.im (.int c.e)) y11 y12 y13 y14 y15 y16 y17 y18 y19)
  f6 : ∀ (x0 : Sv) (m : List Mo) (y4 y5 y6 y7 y8 y11 y12 y13 y14 y15 y16 y17 y18 y19 : Sv), (asgS 11 (funE 3 (aCons (op1 (varE 9) revO) (aCons (varE 10) (aCons (varE 2) aNil))) FscW)) (LX37 x0 m p (n : Int) y4 y5 y6 y7 y8 (.im (Wd c.h)) (.im (.int c.e)) y11 y12 y13 y14 y15 y16 y17 y18 y19) = .nx (LX37 x0 m p (n : Int) y4 y5 y6 y7 y8 (.im (Wd c.h)) (.im (.int c.e)) (.im (Wd c.d)) y12 y13 y14 y15 y16 y17 y18 y19)
theorem k37_6 {CM CR : Addr} {x0 : Sv} {m : List Mo} {p : Int} {n : Nat} {Z : List Rc37} {a b : Rc37} (F : Fc37 CM CR p n a) : (asgS 7 (funE 3 (aCons (varE 2) (aCons (varE 3) (aCons (varE 5) aNil))) (Fcycc 219 CM CR))) (LX37 x0 m p (n : Int) (.im (.tup ((Z.map (·.g)).map Wd))) (.im (Wd a.g)) (.im (Wd b.g)) .no .no .no .no .no .no .no .no .no .no .no .no .no) = .nx (LX37 x0 m p (n : Int) (.im (.tup ((Z.map (·.g)).map Wd))) (.im (Wd a.g)) (.im (Wd b.g)) (.im (codeD 219 p n a.T)) .no .no .no .no .no .no .no .no .no .no .no .no) := by
  have v2 : varE 2 (LX37 x0 m p (n : Int) (.im (.tup ((Z.map (·.g)).map Wd))) (.im (Wd a.g)) (.im (Wd b.g)) .no .no .no .no .no .no .no .no .no .no .no .no .no) = .ok (.int p) (LX37 x0 m p (n : Int) (.im (.tup ((Z.map (·.g)).map Wd))) (.im (Wd a.g)) (.im (Wd b.g)) .no .no .no .no .no .no .no .no .no .no .no .no .no) := varE_im rfl
  have v3 : varE 3 (LX37 x0 m p (n : Int) (.im (.tup ((Z.map (·.g)).map Wd))) (.im (Wd a.g)) (.im (Wd b.g)) .no .no .no .no .no .no .no .no .no .no .no .no .no) = .ok (.int (n : Int)) (LX37 x0 m p (n : Int) (.im (.tup ((Z.map (·.g)).map Wd))) (.im (Wd a.g)) (.im (Wd b.g)) .no .no .no .no .no .no .no .no .no .no .no .no .no) := varE_im rfl
  have v5 : varE 5 (LX37 x0 m p (n : Int) (.im (.tup ((Z.map (·.g)).map Wd))) (.im (Wd a.g)) (.im (Wd b.g)) .no .no .no .no .no .no .no .no .no .no .no .no .no) = .ok (Wd a.g) (LX37 x0 m p (n : Int) (.im (.tup ((Z.map (·.g)).map Wd))) (.im (Wd a.g)) (.im (Wd b.g)) .no .no .no .no .no .no .no .no .no .no .no .no .no) := varE_im rfl
  have hf := F.f1
  have : (funE 3 (aCons (varE 2) (aCons (varE 3) (aCons (varE 5) aNil))) (Fcycc 219 CM CR)) (LX37 x0 m p (n : Int) (.im (.tup ((Z.map (·.g)).map Wd))) (.im (Wd a.g)) (.im (Wd b.g)) .no .no .no .no .no .no .no .no .no .no .no .no .no) = .ok (codeD 219 p n a.T) (LX37 x0 m p (n : Int) (.im (.tup ((Z.map (·.g)).map Wd))) (.im (Wd a.g)) (.im (Wd b.g)) .no .no .no .no .no .no .no .no .no .no .no .no .no) := by
    generalize (LX37 x0 m p (n : Int) (.im (.tup ((Z.map (·.g)).map Wd))) (.im (Wd a.g)) (.im (Wd b.g)) .no .no .no .no .no .no .no .no .no .no .no .no .no) = U at *
    simp only [funE_run, aCons_run, aNil_run, v2, v3, v5, R.bind_ok, List.length_cons, List.length_nil, Nat.zero_add, Nat.reduceAdd, if_true, hf]
  rw [asgS_run', this]
  rfl
theorem k37_7 {CM CR : Addr} {x0 : Sv} {m : List Mo} {p : Int} {n : Nat} {Z : List Rc37} {a b : Rc37} (F : Fc37 CM CR p n b) : (asgS 8 (funE 3 (aCons (varE 2) (aCons (varE 3) (aCons (varE 6) aNil))) (Fcycc 219 CM CR))) (LX37 x0 m p (n : Int) (.im (.tup ((Z.map (·.g)).map Wd))) (.im (Wd a.g)) (.im (Wd b.g)) (.im (codeD 219 p n a.T)) .no .no .no .no .no .no .no .no .no .no .no .no) = .nx (LX37 x0 m p (n : Int) (.im (.tup ((Z.map (·.g)).map Wd))) (.im (Wd a.g)) (.im (Wd b.g)) (.im (codeD 219 p n a.T)) (.im (codeD 219 p n b.T)) .no .no .no .no .no .no .no .no .no .no .no) := by
  have v2 : varE 2 (LX37 x0 m p (n : Int) (.im (.tup ((Z.map (·.g)).map Wd))) (.im (Wd a.g)) (.im (Wd b.g)) (.im (codeD 219 p n a.T)) .no .no .no .no .no .no .no .no .no .no .no .no) = .ok (.int p) (LX37 x0 m p (n : Int) (.im (.tup ((Z.map (·.g)).map Wd))) (.im (Wd a.g)) (.im (Wd b.g)) (.im (codeD 219 p n a.T)) .no .no .no .no .no .no .no .no .no .no .no .no) := varE_im rfl
  have v3 : varE 3 (LX37 x0 m p (n : Int) (.im (.tup ((Z.map (·.g)).map Wd))) (.im (Wd a.g)) (.im (Wd b.g)) (.im (codeD 219 p n a.T)) .no .no .no .no .no .no .no .no .no .no .no .no) = .ok (.int (n : Int)) (LX37 x0 m p (n : Int) (.im (.tup ((Z.map (·.g)).map Wd))) (.im (Wd a.g)) (.im (Wd b.g)) (.im (codeD 219 p n a.T)) .no .no .no .no .no .no .no .no .no .no .no .no) := varE_im rfl
  have v6 : varE 6 (LX37 x0 m p (n : Int) (.im (.tup ((Z.map (·.g)).map Wd))) (.im (Wd a.g)) (.im (Wd b.g)) (.im (codeD 219 p n a.T)) .no .no .no .no .no .no .no .no .no .no .no .no) = .ok (Wd b.g) (LX37 x0 m p (n : Int) (.im (.tup ((Z.map (·.g)).map Wd))) (.im (Wd a.g)) (.im (Wd b.g)) (.im (codeD 219 p n a.T)) .no .no .no .no .no .no .no .no .no .no .no .no) := varE_im rfl
  have hf := F.f1
  have : (funE 3 (aCons (varE 2) (aCons (varE 3) (aCons (varE 6) aNil))) (Fcycc 219 CM CR)) (LX37 x0 m p (n : Int) (.im (.tup ((Z.map (·.g)).map Wd))) (.im (Wd a.g)) (.im (Wd b.g)) (.im (codeD 219 p n a.T)) .no .no .no .no .no .no .no .no .no .no .no .no) = .ok (codeD 219 p n b.T) (LX37 x0 m p (n : Int) (.im (.tup ((Z.map (·.g)).map Wd))) (.im (Wd a.g)) (.im (Wd b.g)) (.im (codeD 219 p n a.T)) .no .no .no .no .no .no .no .no .no .no .no .no) := by
    generalize (LX37 x0 m p (n : Int) (.im (.tup ((Z.map (·.g)).map Wd))) (.im (Wd a.g)) (.im (Wd b.g)) (.im (codeD 219 p n a.T)) .no .no .no .no .no .no .no .no .no .no .no .no) = U at *
    simp only [funE_run, aCons_run, aNil_run, v2, v3, v6, R.bind_ok, List.length_cons, List.length_nil, Nat.zero_add, Nat.reduceAdd, if_true, hf]
  rw [asgS_run', this]
  rfl
theorem k37_8 {CM CR : Addr} {x0 : Sv} {m : List Mo} {p : Int} {n : Nat} {Z : List Rc37} {a b : Rc37} (F : Fc37 CM CR p n a) : (asgS 9 (funE 1 (aCons (varE 7) aNil) (Fchkp 219 CM CR))) (LX37 x0 m p (n : Int) (.im (.tup ((Z.map (·.g)).map Wd))) (.im (Wd a.g)) (.im (Wd b.g)) (.im (codeD 219 p n a.T)) (.im (codeD 219 p n b.T)) .no .no .no .no .no .no .no .no .no .no .no) = .nx (LX37 x0 m p (n : Int) (.im (.tup ((Z.map (·.g)).map Wd))) (.im (Wd a.g)) (.im (Wd b.g)) (.im (codeD 219 p n a.T)) (.im (codeD 219 p n b.T)) (.im (Wd a.h)) .no .no .no .no .no .no .no .no .no .no) := by
  have v7 : varE 7 (LX37 x0 m p (n : Int) (.im (.tup ((Z.map (·.g)).map Wd))) (.im (Wd a.g)) (.im (Wd b.g)) (.im (codeD 219 p n a.T)) (.im (codeD 219 p n b.T)) .no .no .no .no .no .no .no .no .no .no .no) = .ok (codeD 219 p n a.T) (LX37 x0 m p (n : Int) (.im (.tup ((Z.map (·.g)).map Wd))) (.im (Wd a.g)) (.im (Wd b.g)) (.im (codeD 219 p n a.T)) (.im (codeD 219 p n b.T)) .no .no .no .no .no .no .no .no .no .no .no) := varE_im rfl
  have hf := F.f4
  have : (funE 1 (aCons (varE 7) aNil) (Fchkp 219 CM CR)) (LX37 x0 m p (n : Int) (.im (.tup ((Z.map (·.g)).map Wd))) (.im (Wd a.g)) (.im (Wd b.g)) (.im (codeD 219 p n a.T)) (.im (codeD 219 p n b.T)) .no .no .no .no .no .no .no .no .no .no .no) = .ok (Wd a.h) (LX37 x0 m p (n : Int) (.im (.tup ((Z.map (·.g)).map Wd))) (.im (Wd a.g)) (.im (Wd b.g)) (.im (codeD 219 p n a.T)) (.im (codeD 219 p n b.T)) .no .no .no .no .no .no .no .no .no .no .no) := by
    generalize (LX37 x0 m p (n : Int) (.im (.tup ((Z.map (·.g)).map Wd))) (.im (Wd a.g)) (.im (Wd b.g)) (.im (codeD 219 p n a.T)) (.im (codeD 219 p n b.T)) .no .no .no .no .no .no .no .no .no .no .no) = U at *
    simp only [funE_run, aCons_run, aNil_run, v7, R.bind_ok, List.length_cons, List.length_nil, Nat.zero_add, Nat.reduceAdd, if_true, hf]
  rw [asgS_run', this]
  rfl
theorem k37_11 {CM CR : Addr} {x0 : Sv} {m : List Mo} {p : Int} {n : Nat} {Z : List Rc37} {a b c : Rc37} (hp : isP p = true) (hn : n ≤ 12) (hT : c.T = (redN p (kerL p n (redN p a.T n)) n).T) (hk : p ^ c.T.length ≤ 4096) : (asgS 12 (metE 219 "dual" 1 (varE 7) aNil (Fcdual 219 CM CR))) (LX37 x0 m p (n : Int) (.im (.tup ((Z.map (·.g)).map Wd))) (.im (Wd a.g)) (.im (Wd b.g)) (.im (codeD 219 p n a.T)) (.im (codeD 219 p n b.T)) (.im (Wd a.h)) (.im (.int a.e)) (.im (Wd a.d)) .no .no .no .no .no .no .no .no) = .nx (LX37 x0 m p (n : Int) (.im (.tup ((Z.map (·.g)).map Wd))) (.im (Wd a.g)) (.im (Wd b.g)) (.im (codeD 219 p n a.T)) (.im (codeD 219 p n b.T)) (.im (Wd a.h)) (.im (.int a.e)) (.im (Wd a.d)) (.im (codeD 219 p n c.T)) .no .no .no .no .no .no .no) := by
  have v7 : varE 7 (LX37 x0 m p (n : Int) (.im (.tup ((Z.map (·.g)).map Wd))) (.im (Wd a.g)) (.im (Wd b.g)) (.im (codeD 219 p n a.T)) (.im (codeD 219 p n b.T)) (.im (Wd a.h)) (.im (.int a.e)) (.im (Wd a.d)) .no .no .no .no .no .no .no .no) = .ok (codeD 219 p n a.T) (LX37 x0 m p (n : Int) (.im (.tup ((Z.map (·.g)).map Wd))) (.im (Wd a.g)) (.im (Wd b.g)) (.im (codeD 219 p n a.T)) (.im (codeD 219 p n b.T)) (.im (Wd a.h)) (.im (.int a.e)) (.im (Wd a.d)) .no .no .no .no .no .no .no .no) := varE_im rfl
  have hf := Fcdual_run (CC := 219) (CM := CM) (CR := CR) (T := a.T) hp hn rfl (by rw [← hT]; exact hk)
  rw [← hT] at hf
  have : (metE 219 "dual" 1 (varE 7) aNil (Fcdual 219 CM CR)) (LX37 x0 m p (n : Int) (.im (.tup ((Z.map (·.g)).map Wd))) (.im (Wd a.g)) (.im (Wd b.g)) (.im (codeD 219 p n a.T)) (.im (codeD 219 p n b.T)) (.im (Wd a.h)) (.im (.int a.e)) (.im (Wd a.d)) .no .no .no .no .no .no .no .no) = .ok (codeD 219 p n c.T) (LX37 x0 m p (n : Int) (.im (.tup ((Z.map (·.g)).map Wd))) (.im (Wd a.g)) (.im (Wd b.g)) (.im (codeD 219 p n a.T)) (.im (codeD 219 p n b.T)) (.im (Wd a.h)) (.im (.int a.e)) (.im (Wd a.d)) .no .no .no .no .no .no .no .no) := metE_run v7 (by decide) rfl rfl hf
  rw [asgS_run', this]
  rfl
theorem k37_12 {CM CR : Addr} {x0 : Sv} {m : List Mo} {p : Int} {n : Nat} {Z : List Rc37} {a b c : Rc37} (F : Fc37 CM CR p n a) (G : Fc37 CM CR p n c) (he : c.g = a.d) : (ifS (orT (tst (op2 (funE 1 (aCons (varE 12) aNil) (Fiscyc 219 CM)) (cE (.bl true)) (bCmp fun i j => !decide (i = j)))) (orT (tst (op2 (funE 1 (aCons (varE 12) aNil) (Fgenp 219 CM CR)) (varE 11) neO)) (tst (op2 (funE 1 (aCons (varE 7) aNil) (Fgenp 219 CM CR)) (varE 5) neO)))) (retS (cE (.bl false))) nilS) (LX37 x0 m p (n : Int) (.im (.tup ((Z.map (·.g)).map Wd))) (.im (Wd a.g)) (.im (Wd b.g)) (.im (codeD 219 p n a.T)) (.im (codeD 219 p n b.T)) (.im (Wd a.h)) (.im (.int a.e)) (.im (Wd a.d)) (.im (codeD 219 p n c.T)) .no .no .no .no .no .no .no) = .nx (LX37 x0 m p (n : Int) (.im (.tup ((Z.map (·.g)).map Wd))) (.im (Wd a.g)) (.im (Wd b.g)) (.im (codeD 219 p n a.T)) (.im (codeD 219 p n b.T)) (.im (Wd a.h)) (.im (.int a.e)) (.im (Wd a.d)) (.im (codeD 219 p n c.T)) .no .no .no .no .no .no .no) := by
  have v12 : varE 12 (LX37 x0 m p (n : Int) (.im (.tup ((Z.map (·.g)).map Wd))) (.im (Wd a.g)) (.im (Wd b.g)) (.im (codeD 219 p n a.T)) (.im (codeD 219 p n b.T)) (.im (Wd a.h)) (.im (.int a.e)) (.im (Wd a.d)) (.im (codeD 219 p n c.T)) .no .no .no .no .no .no .no) = .ok (codeD 219 p n c.T) (LX37 x0 m p (n : Int) (.im (.tup ((Z.map (·.g)).map Wd))) (.im (Wd a.g)) (.im (Wd b.g)) (.im (codeD 219 p n a.T)) (.im (codeD 219 p n b.T)) (.im (Wd a.h)) (.im (.int a.e)) (.im (Wd a.d)) (.im (codeD 219 p n c.T)) .no .no .no .no .no .no .no) := varE_im rfl
  have v11 : varE 11 (LX37 x0 m p (n : Int) (.im (.tup ((Z.map (·.g)).map Wd))) (.im (Wd a.g)) (.im (Wd b.g)) (.im (codeD 219 p n a.T)) (.im (codeD 219 p n b.T)) (.im (Wd a.h)) (.im (.int a.e)) (.im (Wd a.d)) (.im (codeD 219 p n c.T)) .no .no .no .no .no .no .no) = .ok (Wd a.d) (LX37 x0 m p (n : Int) (.im (.tup ((Z.map (·.g)).map Wd))) (.im (Wd a.g)) (.im (Wd b.g)) (.im (codeD 219 p n a.T)) (.im (codeD 219 p n b.T)) (.im (Wd a.h)) (.im (.int a.e)) (.im (Wd a.d)) (.im (codeD 219 p n c.T)) .no .no .no .no .no .no .no) := varE_im rfl
  have v7 : varE 7 (LX37 x0 m p (n : Int) (.im (.tup ((Z.map (·.g)).map Wd))) (.im (Wd a.g)) (.im (Wd b.g)) (.im (codeD 219 p n a.T)) (.im (codeD 219 p n b.T)) (.im (Wd a.h)) (.im (.int a.e)) (.im (Wd a.d)) (.im (codeD 219 p n c.T)) .no .no .no .no .no .no .no) = .ok (codeD 219 p n a.T) (LX37 x0 m p (n : Int) (.im (.tup ((Z.map (·.g)).map Wd))) (.im (Wd a.g)) (.im (Wd b.g)) (.im (codeD 219 p n a.T)) (.im (codeD 219 p n b.T)) (.im (Wd a.h)) (.im (.int a.e)) (.im (Wd a.d)) (.im (codeD 219 p n c.T)) .no .no .no .no .no .no .no) := varE_im rfl
  have v5 : varE 5 (LX37 x0 m p (n : Int) (.im (.tup ((Z.map (·.g)).map Wd))) (.im (Wd a.g)) (.im (Wd b.g)) (.im (codeD 219 p n a.T)) (.im (codeD 219 p n b.T)) (.im (Wd a.h)) (.im (.int a.e)) (.im (Wd a.d)) (.im (codeD 219 p n c.T)) .no .no .no .no .no .no .no) = .ok (Wd a.g) (LX37 x0 m p (n : Int) (.im (.tup ((Z.map (·.g)).map Wd))) (.im (Wd a.g)) (.im (Wd b.g)) (.im (codeD 219 p n a.T)) (.im (codeD 219 p n b.T)) (.im (Wd a.h)) (.im (.int a.e)) (.im (Wd a.d)) (.im (codeD 219 p n c.T)) .no .no .no .no .no .no .no) := varE_im rfl
  have h1 := G.f3
  have h2 := G.f2
  have h3 := F.f2
  have n1 := neO_wd37 c.g a.d
  have n2 := neO_wd37 a.g a.g
  have n0 : bCmp (fun i j => !decide (i = j)) (.bl true) (.bl true) = some (.bl false) := rfl
  rw [decide_eq_true he] at n1
  rw [decide_eq_true rfl] at n2
  generalize (LX37 x0 m p (n : Int) (.im (.tup ((Z.map (·.g)).map Wd))) (.im (Wd a.g)) (.im (Wd b.g)) (.im (codeD 219 p n a.T)) (.im (codeD 219 p n b.T)) (.im (Wd a.h)) (.im (.int a.e)) (.im (Wd a.d)) (.im (codeD 219 p n c.T)) .no .no .no .no .no .no .no) = U at *
  simp only [ifS_run, orT_run, tst_run', op2_run, funE_run, aCons_run, aNil_run, v12, v11, v7, v5, cE_run, R.bind_ok, List.length_cons, List.length_nil, Nat.zero_add, Nat.reduceAdd, if_true, h1, h2, h3, n0, n1, n2, R.of_some, Bool.not_true, Bool.false_eq_true, if_false, R.stmt_ok]
  rfl
theorem Fl37 {p : Int} {n : Nat} {Z : List Rc37} {c d : Rc37} (hp : isP p = true) (h : One37 p n Z c) (k : One37 p n Z d) : Flrest [Wd c.g, Wd d.g, .int p] = .ok (Wd (restP p c.g d.g)) :=
  Flrest_run hp h.2.1 ⟨k.2.1, k.2.2.1⟩ k.1 (by have := h.2.2.2.1; omega) (by have := k.2.2.2.1; omega)
theorem k37_13 {x0 : Sv} {m : List Mo} {p : Int} {n : Nat} {Z : List Rc37} {a b c : Rc37} (hp : isP p = true) (hl : Z.length ≤ 100) (ho : ∀ c ∈ Z, One37 p n Z c) (ha : a ∈ Z) (hb : b ∈ Z) : (asgS 13 (frz (lcE (itS (varE 4)) (Tk.nm 17).k (andT (tst (op2 (funE 3 (aCons (varE 5) (aCons (varE 17) (aCons (varE 2) aNil))) Flrest) (tupE aNil) eqO)) (tst (op2 (funE 3 (aCons (varE 6) (aCons (varE 17) (aCons (varE 2) aNil))) Flrest) (tupE aNil) eqO))) (varE 17) [17]))) (LX37 x0 m p (n : Int) (.im (.tup ((Z.map (·.g)).map Wd))) (.im (Wd a.g)) (.im (Wd b.g)) (.im (codeD 219 p n a.T)) (.im (codeD 219 p n b.T)) (.im (Wd a.h)) (.im (.int a.e)) (.im (Wd a.d)) (.im (codeD 219 p n c.T)) .no .no .no .no .no .no .no) = .nx (LX37 x0 m p (n : Int) (.im (.tup ((Z.map (·.g)).map Wd))) (.im (Wd a.g)) (.im (Wd b.g)) (.im (codeD 219 p n a.T)) (.im (codeD 219 p n b.T)) (.im (Wd a.h)) (.im (.int a.e)) (.im (Wd a.d)) (.im (codeD 219 p n c.T)) (.im (.lst ((both37 p (Z.map (·.g)) a.g b.g).map Wd))) .no .no .no .no .no .no) := by
  have hit : itS (varE 4) (LX37 x0 m p (n : Int) (.im (.tup ((Z.map (·.g)).map Wd))) (.im (Wd a.g)) (.im (Wd b.g)) (.im (codeD 219 p n a.T)) (.im (codeD 219 p n b.T)) (.im (Wd a.h)) (.im (.int a.e)) (.im (Wd a.d)) (.im (codeD 219 p n c.T)) .no .no .no .no .no .no .no) = .ok ((Z.map (·.g)).map Wd) (LX37 x0 m p (n : Int) (.im (.tup ((Z.map (·.g)).map Wd))) (.im (Wd a.g)) (.im (Wd b.g)) (.im (codeD 219 p n a.T)) (.im (codeD 219 p n b.T)) (.im (Wd a.h)) (.im (.int a.e)) (.im (Wd a.d)) (.im (codeD 219 p n c.T)) .no .no .no .no .no .no .no) := by
    have v4 : varE 4 (LX37 x0 m p (n : Int) (.im (.tup ((Z.map (·.g)).map Wd))) (.im (Wd a.g)) (.im (Wd b.g)) (.im (codeD 219 p n a.T)) (.im (codeD 219 p n b.T)) (.im (Wd a.h)) (.im (.int a.e)) (.im (Wd a.d)) (.im (codeD 219 p n c.T)) .no .no .no .no .no .no .no) = .ok (.tup ((Z.map (·.g)).map Wd)) (LX37 x0 m p (n : Int) (.im (.tup ((Z.map (·.g)).map Wd))) (.im (Wd a.g)) (.im (Wd b.g)) (.im (codeD 219 p n a.T)) (.im (codeD 219 p n b.T)) (.im (Wd a.h)) (.im (.int a.e)) (.im (Wd a.d)) (.im (codeD 219 p n c.T)) .no .no .no .no .no .no .no) := varE_im rfl
    rw [itS_run, v4]
    rfl
  have key : (lcE (itS (varE 4)) (Tk.nm 17).k (andT (tst (op2 (funE 3 (aCons (varE 5) (aCons (varE 17) (aCons (varE 2) aNil))) Flrest) (tupE aNil) eqO)) (tst (op2 (funE 3 (aCons (varE 6) (aCons (varE 17) (aCons (varE 2) aNil))) Flrest) (tupE aNil) eqO))) (varE 17) [17]) (LX37 x0 m p (n : Int) (.im (.tup ((Z.map (·.g)).map Wd))) (.im (Wd a.g)) (.im (Wd b.g)) (.im (codeD 219 p n a.T)) (.im (codeD 219 p n b.T)) (.im (Wd a.h)) (.im (.int a.e)) (.im (Wd a.d)) (.im (codeD 219 p n c.T)) .no .no .no .no .no .no .no) = .ok (((both37 p (Z.map (·.g)) a.g b.g).map Wd)) (LX37 x0 m p (n : Int) (.im (.tup ((Z.map (·.g)).map Wd))) (.im (Wd a.g)) (.im (Wd b.g)) (.im (codeD 219 p n a.T)) (.im (codeD 219 p n b.T)) (.im (Wd a.h)) (.im (.int a.e)) (.im (Wd a.d)) (.im (codeD 219 p n c.T)) .no .no .no .no .no .no .no) := lcE_flt Wd (fun r => decide (restP p a.g r = []) && decide (restP p b.g r = [])) Wd (Z.map (·.g)) hit (fun r hr => by
    obtain ⟨c0, hc0, rfl⟩ := List.mem_map.mp hr
    refine ⟨(LX37 x0 m p (n : Int) (.im (.tup ((Z.map (·.g)).map Wd))) (.im (Wd a.g)) (.im (Wd b.g)) (.im (codeD 219 p n a.T)) (.im (codeD 219 p n b.T)) (.im (Wd a.h)) (.im (.int a.e)) (.im (Wd a.d)) (.im (codeD 219 p n c.T)) .no .no .no .no (.im (Wd c0.g)) .no .no), (LX37 x0 m p (n : Int) (.im (.tup ((Z.map (·.g)).map Wd))) (.im (Wd a.g)) (.im (Wd b.g)) (.im (codeD 219 p n a.T)) (.im (codeD 219 p n b.T)) (.im (Wd a.h)) (.im (.int a.e)) (.im (Wd a.d)) (.im (codeD 219 p n c.T)) .no .no .no .no (.im (Wd c0.g)) .no .no), rfl, ?_, rfl, fun _ => ⟨(LX37 x0 m p (n : Int) (.im (.tup ((Z.map (·.g)).map Wd))) (.im (Wd a.g)) (.im (Wd b.g)) (.im (codeD 219 p n a.T)) (.im (codeD 219 p n b.T)) (.im (Wd a.h)) (.im (.int a.e)) (.im (Wd a.d)) (.im (codeD 219 p n c.T)) .no .no .no .no (.im (Wd c0.g)) .no .no), rfl, rfl⟩⟩
    have h1 := Fl37 hp (ho a ha) (ho c0 hc0)
    have h2 := Fl37 hp (ho b hb) (ho c0 hc0)
    have v5 : varE 5 (LX37 x0 m p (n : Int) (.im (.tup ((Z.map (·.g)).map Wd))) (.im (Wd a.g)) (.im (Wd b.g)) (.im (codeD 219 p n a.T)) (.im (codeD 219 p n b.T)) (.im (Wd a.h)) (.im (.int a.e)) (.im (Wd a.d)) (.im (codeD 219 p n c.T)) .no .no .no .no (.im (Wd c0.g)) .no .no) = .ok (Wd a.g) (LX37 x0 m p (n : Int) (.im (.tup ((Z.map (·.g)).map Wd))) (.im (Wd a.g)) (.im (Wd b.g)) (.im (codeD 219 p n a.T)) (.im (codeD 219 p n b.T)) (.im (Wd a.h)) (.im (.int a.e)) (.im (Wd a.d)) (.im (codeD 219 p n c.T)) .no .no .no .no (.im (Wd c0.g)) .no .no) := varE_im rfl
    have v6 : varE 6 (LX37 x0 m p (n : Int) (.im (.tup ((Z.map (·.g)).map Wd))) (.im (Wd a.g)) (.im (Wd b.g)) (.im (codeD 219 p n a.T)) (.im (codeD 219 p n b.T)) (.im (Wd a.h)) (.im (.int a.e)) (.im (Wd a.d)) (.im (codeD 219 p n c.T)) .no .no .no .no (.im (Wd c0.g)) .no .no) = .ok (Wd b.g) (LX37 x0 m p (n : Int) (.im (.tup ((Z.map (·.g)).map Wd))) (.im (Wd a.g)) (.im (Wd b.g)) (.im (codeD 219 p n a.T)) (.im (codeD 219 p n b.T)) (.im (Wd a.h)) (.im (.int a.e)) (.im (Wd a.d)) (.im (codeD 219 p n c.T)) .no .no .no .no (.im (Wd c0.g)) .no .no) := varE_im rfl
    have v17 : varE 17 (LX37 x0 m p (n : Int) (.im (.tup ((Z.map (·.g)).map Wd))) (.im (Wd a.g)) (.im (Wd b.g)) (.im (codeD 219 p n a.T)) (.im (codeD 219 p n b.T)) (.im (Wd a.h)) (.im (.int a.e)) (.im (Wd a.d)) (.im (codeD 219 p n c.T)) .no .no .no .no (.im (Wd c0.g)) .no .no) = .ok (Wd c0.g) (LX37 x0 m p (n : Int) (.im (.tup ((Z.map (·.g)).map Wd))) (.im (Wd a.g)) (.im (Wd b.g)) (.im (codeD 219 p n a.T)) (.im (codeD 219 p n b.T)) (.im (Wd a.h)) (.im (.int a.e)) (.im (Wd a.d)) (.im (codeD 219 p n c.T)) .no .no .no .no (.im (Wd c0.g)) .no .no) := varE_im rfl
    have v2 : varE 2 (LX37 x0 m p (n : Int) (.im (.tup ((Z.map (·.g)).map Wd))) (.im (Wd a.g)) (.im (Wd b.g)) (.im (codeD 219 p n a.T)) (.im (codeD 219 p n b.T)) (.im (Wd a.h)) (.im (.int a.e)) (.im (Wd a.d)) (.im (codeD 219 p n c.T)) .no .no .no .no (.im (Wd c0.g)) .no .no) = .ok (.int p) (LX37 x0 m p (n : Int) (.im (.tup ((Z.map (·.g)).map Wd))) (.im (Wd a.g)) (.im (Wd b.g)) (.im (codeD 219 p n a.T)) (.im (codeD 219 p n b.T)) (.im (Wd a.h)) (.im (.int a.e)) (.im (Wd a.d)) (.im (codeD 219 p n c.T)) .no .no .no .no (.im (Wd c0.g)) .no .no) := varE_im rfl
    generalize (LX37 x0 m p (n : Int) (.im (.tup ((Z.map (·.g)).map Wd))) (.im (Wd a.g)) (.im (Wd b.g)) (.im (codeD 219 p n a.T)) (.im (codeD 219 p n b.T)) (.im (Wd a.h)) (.im (.int a.e)) (.im (Wd a.d)) (.im (codeD 219 p n c.T)) .no .no .no .no (.im (Wd c0.g)) .no .no) = U at *
    generalize restP p a.g c0.g = R1 at *
    generalize restP p b.g c0.g = R2 at *
    have n1 : eqO (Wd R1) (.tup []) = some (.bl (decide (R1 = []))) := eqO_wd37 _ []
    have n2 : eqO (Wd R2) (.tup []) = some (.bl (decide (R2 = []))) := eqO_wd37 _ []
    by_cases e1 : R1 = []
    · rw [decide_eq_true e1] at n1 ⊢
      simp only [andT_run, tst_run', op2_run, funE_run, tupE_run, aCons_run, aNil_run, v5, v6, v17, v2, R.bind_ok, List.length_cons, List.length_nil, Nat.zero_add, Nat.reduceAdd, if_true, Nat.zero_le, h1, h2, n1, n2, R.of_some, Bool.true_and]
    · rw [decide_eq_false e1] at n1 ⊢
      simp only [andT_run, tst_run', op2_run, funE_run, tupE_run, aCons_run, aNil_run, v5, v6, v17, v2, R.bind_ok, List.length_cons, List.length_nil, Nat.zero_add, Nat.reduceAdd, if_true, Nat.zero_le, h1, n1, R.of_some, Bool.false_eq_true, if_false, Bool.false_and]) (by simp; omega)
  rw [asgS_run', frz_run', key]
  rfl
theorem k37_14 {x0 : Sv} {m : List Mo} {p : Int} {n : Nat} {Z : List Rc37} {a b c : Rc37} (hp : isP p = true) (hl : Z.length ≤ 100) (ho : ∀ c ∈ Z, One37 p n Z c) (ha : a ∈ Z) (hb : b ∈ Z) : (asgS 14 (frz (lcE (itS (varE 4)) (Tk.nm 17).k (andT (tst (op2 (funE 3 (aCons (varE 17) (aCons (varE 5) (aCons (varE 2) aNil))) Flrest) (tupE aNil) eqO)) (tst (op2 (funE 3 (aCons (varE 17) (aCons (varE 6) (aCons (varE 2) aNil))) Flrest) (tupE aNil) eqO))) (varE 17) [17]))) (LX37 x0 m p (n : Int) (.im (.tup ((Z.map (·.g)).map Wd))) (.im (Wd a.g)) (.im (Wd b.g)) (.im (codeD 219 p n a.T)) (.im (codeD 219 p n b.T)) (.im (Wd a.h)) (.im (.int a.e)) (.im (Wd a.d)) (.im (codeD 219 p n c.T)) (.im (.lst ((both37 p (Z.map (·.g)) a.g b.g).map Wd))) .no .no .no .no .no .no) = .nx (LX37 x0 m p (n : Int) (.im (.tup ((Z.map (·.g)).map Wd))) (.im (Wd a.g)) (.im (Wd b.g)) (.im (codeD 219 p n a.T)) (.im (codeD 219 p n b.T)) (.im (Wd a.h)) (.im (.int a.e)) (.im (Wd a.d)) (.im (codeD 219 p n c.T)) (.im (.lst ((both37 p (Z.map (·.g)) a.g b.g).map Wd))) (.im (.lst ((wide37 p (Z.map (·.g)) a.g b.g).map Wd))) .no .no .no .no .no) := by
  have hit : itS (varE 4) (LX37 x0 m p (n : Int) (.im (.tup ((Z.map (·.g)).map Wd))) (.im (Wd a.g)) (.im (Wd b.g)) (.im (codeD 219 p n a.T)) (.im (codeD 219 p n b.T)) (.im (Wd a.h)) (.im (.int a.e)) (.im (Wd a.d)) (.im (codeD 219 p n c.T)) (.im (.lst ((both37 p (Z.map (·.g)) a.g b.g).map Wd))) .no .no .no .no .no .no) = .ok ((Z.map (·.g)).map Wd) (LX37 x0 m p (n : Int) (.im (.tup ((Z.map (·.g)).map Wd))) (.im (Wd a.g)) (.im (Wd b.g)) (.im (codeD 219 p n a.T)) (.im (codeD 219 p n b.T)) (.im (Wd a.h)) (.im (.int a.e)) (.im (Wd a.d)) (.im (codeD 219 p n c.T)) (.im (.lst ((both37 p (Z.map (·.g)) a.g b.g).map Wd))) .no .no .no .no .no .no) := by
    have v4 : varE 4 (LX37 x0 m p (n : Int) (.im (.tup ((Z.map (·.g)).map Wd))) (.im (Wd a.g)) (.im (Wd b.g)) (.im (codeD 219 p n a.T)) (.im (codeD 219 p n b.T)) (.im (Wd a.h)) (.im (.int a.e)) (.im (Wd a.d)) (.im (codeD 219 p n c.T)) (.im (.lst ((both37 p (Z.map (·.g)) a.g b.g).map Wd))) .no .no .no .no .no .no) = .ok (.tup ((Z.map (·.g)).map Wd)) (LX37 x0 m p (n : Int) (.im (.tup ((Z.map (·.g)).map Wd))) (.im (Wd a.g)) (.im (Wd b.g)) (.im (codeD 219 p n a.T)) (.im (codeD 219 p n b.T)) (.im (Wd a.h)) (.im (.int a.e)) (.im (Wd a.d)) (.im (codeD 219 p n c.T)) (.im (.lst ((both37 p (Z.map (·.g)) a.g b.g).map Wd))) .no .no .no .no .no .no) := varE_im rfl
    rw [itS_run, v4]
    rfl
  have key : (lcE (itS (varE 4)) (Tk.nm 17).k (andT (tst (op2 (funE 3 (aCons (varE 17) (aCons (varE 5) (aCons (varE 2) aNil))) Flrest) (tupE aNil) eqO)) (tst (op2 (funE 3 (aCons (varE 17) (aCons (varE 6) (aCons (varE 2) aNil))) Flrest) (tupE aNil) eqO))) (varE 17) [17]) (LX37 x0 m p (n : Int) (.im (.tup ((Z.map (·.g)).map Wd))) (.im (Wd a.g)) (.im (Wd b.g)) (.im (codeD 219 p n a.T)) (.im (codeD 219 p n b.T)) (.im (Wd a.h)) (.im (.int a.e)) (.im (Wd a.d)) (.im (codeD 219 p n c.T)) (.im (.lst ((both37 p (Z.map (·.g)) a.g b.g).map Wd))) .no .no .no .no .no .no) = .ok (((wide37 p (Z.map (·.g)) a.g b.g).map Wd)) (LX37 x0 m p (n : Int) (.im (.tup ((Z.map (·.g)).map Wd))) (.im (Wd a.g)) (.im (Wd b.g)) (.im (codeD 219 p n a.T)) (.im (codeD 219 p n b.T)) (.im (Wd a.h)) (.im (.int a.e)) (.im (Wd a.d)) (.im (codeD 219 p n c.T)) (.im (.lst ((both37 p (Z.map (·.g)) a.g b.g).map Wd))) .no .no .no .no .no .no) := lcE_flt Wd (fun r => decide (restP p r a.g = []) && decide (restP p r b.g = [])) Wd (Z.map (·.g)) hit (fun r hr => by
    obtain ⟨c0, hc0, rfl⟩ := List.mem_map.mp hr
    refine ⟨(LX37 x0 m p (n : Int) (.im (.tup ((Z.map (·.g)).map Wd))) (.im (Wd a.g)) (.im (Wd b.g)) (.im (codeD 219 p n a.T)) (.im (codeD 219 p n b.T)) (.im (Wd a.h)) (.im (.int a.e)) (.im (Wd a.d)) (.im (codeD 219 p n c.T)) (.im (.lst ((both37 p (Z.map (·.g)) a.g b.g).map Wd))) .no .no .no (.im (Wd c0.g)) .no .no), (LX37 x0 m p (n : Int) (.im (.tup ((Z.map (·.g)).map Wd))) (.im (Wd a.g)) (.im (Wd b.g)) (.im (codeD 219 p n a.T)) (.im (codeD 219 p n b.T)) (.im (Wd a.h)) (.im (.int a.e)) (.im (Wd a.d)) (.im (codeD 219 p n c.T)) (.im (.lst ((both37 p (Z.map (·.g)) a.g b.g).map Wd))) .no .no .no (.im (Wd c0.g)) .no .no), rfl, ?_, rfl, fun _ => ⟨(LX37 x0 m p (n : Int) (.im (.tup ((Z.map (·.g)).map Wd))) (.im (Wd a.g)) (.im (Wd b.g)) (.im (codeD 219 p n a.T)) (.im (codeD 219 p n b.T)) (.im (Wd a.h)) (.im (.int a.e)) (.im (Wd a.d)) (.im (codeD 219 p n c.T)) (.im (.lst ((both37 p (Z.map (·.g)) a.g b.g).map Wd))) .no .no .no (.im (Wd c0.g)) .no .no), rfl, rfl⟩⟩
    have h1 := Fl37 hp (ho c0 hc0) (ho a ha)
    have h2 := Fl37 hp (ho c0 hc0) (ho b hb)
    have v5 : varE 5 (LX37 x0 m p (n : Int) (.im (.tup ((Z.map (·.g)).map Wd))) (.im (Wd a.g)) (.im (Wd b.g)) (.im (codeD 219 p n a.T)) (.im (codeD 219 p n b.T)) (.im (Wd a.h)) (.im (.int a.e)) (.im (Wd a.d)) (.im (codeD 219 p n c.T)) (.im (.lst ((both37 p (Z.map (·.g)) a.g b.g).map Wd))) .no .no .no (.im (Wd c0.g)) .no .no) = .ok (Wd a.g) (LX37 x0 m p (n : Int) (.im (.tup ((Z.map (·.g)).map Wd))) (.im (Wd a.g)) (.im (Wd b.g)) (.im (codeD 219 p n a.T)) (.im (codeD 219 p n b.T)) (.im (Wd a.h)) (.im (.int a.e)) (.im (Wd a.d)) (.im (codeD 219 p n c.T)) (.im (.lst ((both37 p (Z.map (·.g)) a.g b.g).map Wd))) .no .no .no (.im (Wd c0.g)) .no .no) := varE_im rfl
    have v6 : varE 6 (LX37 x0 m p (n : Int) (.im (.tup ((Z.map (·.g)).map Wd))) (.im (Wd a.g)) (.im (Wd b.g)) (.im (codeD 219 p n a.T)) (.im (codeD 219 p n b.T)) (.im (Wd a.h)) (.im (.int a.e)) (.im (Wd a.d)) (.im (codeD 219 p n c.T)) (.im (.lst ((both37 p (Z.map (·.g)) a.g b.g).map Wd))) .no .no .no (.im (Wd c0.g)) .no .no) = .ok (Wd b.g) (LX37 x0 m p (n : Int) (.im (.tup ((Z.map (·.g)).map Wd))) (.im (Wd a.g)) (.im (Wd b.g)) (.im (codeD 219 p n a.T)) (.im (codeD 219 p n b.T)) (.im (Wd a.h)) (.im (.int a.e)) (.im (Wd a.d)) (.im (codeD 219 p n c.T)) (.im (.lst ((both37 p (Z.map (·.g)) a.g b.g).map Wd))) .no .no .no (.im (Wd c0.g)) .no .no) := varE_im rfl
    have v17 : varE 17 (LX37 x0 m p (n : Int) (.im (.tup ((Z.map (·.g)).map Wd))) (.im (Wd a.g)) (.im (Wd b.g)) (.im (codeD 219 p n a.T)) (.im (codeD 219 p n b.T)) (.im (Wd a.h)) (.im (.int a.e)) (.im (Wd a.d)) (.im (codeD 219 p n c.T)) (.im (.lst ((both37 p (Z.map (·.g)) a.g b.g).map Wd))) .no .no .no (.im (Wd c0.g)) .no .no) = .ok (Wd c0.g) (LX37 x0 m p (n : Int) (.im (.tup ((Z.map (·.g)).map Wd))) (.im (Wd a.g)) (.im (Wd b.g)) (.im (codeD 219 p n a.T)) (.im (codeD 219 p n b.T)) (.im (Wd a.h)) (.im (.int a.e)) (.im (Wd a.d)) (.im (codeD 219 p n c.T)) (.im (.lst ((both37 p (Z.map (·.g)) a.g b.g).map Wd))) .no .no .no (.im (Wd c0.g)) .no .no) := varE_im rfl
    have v2 : varE 2 (LX37 x0 m p (n : Int) (.im (.tup ((Z.map (·.g)).map Wd))) (.im (Wd a.g)) (.im (Wd b.g)) (.im (codeD 219 p n a.T)) (.im (codeD 219 p n b.T)) (.im (Wd a.h)) (.im (.int a.e)) (.im (Wd a.d)) (.im (codeD 219 p n c.T)) (.im (.lst ((both37 p (Z.map (·.g)) a.g b.g).map Wd))) .no .no .no (.im (Wd c0.g)) .no .no) = .ok (.int p) (LX37 x0 m p (n : Int) (.im (.tup ((Z.map (·.g)).map Wd))) (.im (Wd a.g)) (.im (Wd b.g)) (.im (codeD 219 p n a.T)) (.im (codeD 219 p n b.T)) (.im (Wd a.h)) (.im (.int a.e)) (.im (Wd a.d)) (.im (codeD 219 p n c.T)) (.im (.lst ((both37 p (Z.map (·.g)) a.g b.g).map Wd))) .no .no .no (.im (Wd c0.g)) .no .no) := varE_im rfl
    generalize (LX37 x0 m p (n : Int) (.im (.tup ((Z.map (·.g)).map Wd))) (.im (Wd a.g)) (.im (Wd b.g)) (.im (codeD 219 p n a.T)) (.im (codeD 219 p n b.T)) (.im (Wd a.h)) (.im (.int a.e)) (.im (Wd a.d)) (.im (codeD 219 p n c.T)) (.im (.lst ((both37 p (Z.map (·.g)) a.g b.g).map Wd))) .no .no .no (.im (Wd c0.g)) .no .no) = U at *
    generalize restP p c0.g a.g = R1 at *
    generalize restP p c0.g b.g = R2 at *
    have n1 : eqO (Wd R1) (.tup []) = some (.bl (decide (R1 = []))) := eqO_wd37 _ []
    have n2 : eqO (Wd R2) (.tup []) = some (.bl (decide (R2 = []))) := eqO_wd37 _ []
    by_cases e1 : R1 = []
    · rw [decide_eq_true e1] at n1 ⊢
      simp only [andT_run, tst_run', op2_run, funE_run, tupE_run, aCons_run, aNil_run, v5, v6, v17, v2, R.bind_ok, List.length_cons, List.length_nil, Nat.zero_add, Nat.reduceAdd, if_true, Nat.zero_le, h1, h2, n1, n2, R.of_some, Bool.true_and]
    · rw [decide_eq_false e1] at n1 ⊢
      simp only [andT_run, tst_run', op2_run, funE_run, tupE_run, aCons_run, aNil_run, v5, v6, v17, v2, R.bind_ok, List.length_cons, List.length_nil, Nat.zero_add, Nat.reduceAdd, if_true, Nat.zero_le, h1, n1, R.of_some, Bool.false_eq_true, if_false, Bool.false_and]) (by simp; omega)
  rw [asgS_run', frz_run', key]
  rfl
theorem k37_15 {x0 : Sv} {m : List Mo} {p : Int} {n : Nat} {Z : List Rc37} {a b c c1 c2 : Rc37} (hl : Z.length ≤ 100) (h : (maxF ((both37 p (Z.map (·.g)) a.g b.g).map fun r => (r.length : Int))).map (len37 (both37 p (Z.map (·.g)) a.g b.g)) = some [c1.g]) : (asgS 15 (frz (lcE (itS (varE 13)) (Tk.nm 17).k (tst (op2 (calE (aCons (varE 17) aNil) lenO) (calE (aCons (frz (lcE (itS (varE 13)) (Tk.nm 19).k yesT (calE (aCons (varE 19) aNil) lenO) [19])) aNil) maxLO) eqO)) (varE 17) [17]))) (LX37 x0 m p (n : Int) (.im (.tup ((Z.map (·.g)).map Wd))) (.im (Wd a.g)) (.im (Wd b.g)) (.im (codeD 219 p n a.T)) (.im (codeD 219 p n b.T)) (.im (Wd a.h)) (.im (.int a.e)) (.im (Wd a.d)) (.im (codeD 219 p n c.T)) (.im (.lst ((both37 p (Z.map (·.g)) a.g b.g).map Wd))) (.im (.lst ((wide37 p (Z.map (·.g)) a.g b.g).map Wd))) .no .no .no .no .no) = .nx (LX37 x0 m p (n : Int) (.im (.tup ((Z.map (·.g)).map Wd))) (.im (Wd a.g)) (.im (Wd b.g)) (.im (codeD 219 p n a.T)) (.im (codeD 219 p n b.T)) (.im (Wd a.h)) (.im (.int a.e)) (.im (Wd a.d)) (.im (codeD 219 p n c.T)) (.im (.lst ((both37 p (Z.map (·.g)) a.g b.g).map Wd))) (.im (.lst ((wide37 p (Z.map (·.g)) a.g b.g).map Wd))) (.im (.lst (([c1.g]).map Wd))) .no .no .no .no) := by
  have hBl : (both37 p (Z.map (·.g)) a.g b.g).length ≤ 100 := Nat.le_trans (List.length_filter_le _ _) (by simpa using hl)
  have v13 : varE 13 (LX37 x0 m p (n : Int) (.im (.tup ((Z.map (·.g)).map Wd))) (.im (Wd a.g)) (.im (Wd b.g)) (.im (codeD 219 p n a.T)) (.im (codeD 219 p n b.T)) (.im (Wd a.h)) (.im (.int a.e)) (.im (Wd a.d)) (.im (codeD 219 p n c.T)) (.im (.lst ((both37 p (Z.map (·.g)) a.g b.g).map Wd))) (.im (.lst ((wide37 p (Z.map (·.g)) a.g b.g).map Wd))) .no .no .no .no .no) = .ok (.lst ((both37 p (Z.map (·.g)) a.g b.g).map Wd)) (LX37 x0 m p (n : Int) (.im (.tup ((Z.map (·.g)).map Wd))) (.im (Wd a.g)) (.im (Wd b.g)) (.im (codeD 219 p n a.T)) (.im (codeD 219 p n b.T)) (.im (Wd a.h)) (.im (.int a.e)) (.im (Wd a.d)) (.im (codeD 219 p n c.T)) (.im (.lst ((both37 p (Z.map (·.g)) a.g b.g).map Wd))) (.im (.lst ((wide37 p (Z.map (·.g)) a.g b.g).map Wd))) .no .no .no .no .no) := varE_im rfl
  generalize hB : both37 p (Z.map (·.g)) a.g b.g = B at *
  have hit : itS (varE 13) (LX37 x0 m p (n : Int) (.im (.tup ((Z.map (·.g)).map Wd))) (.im (Wd a.g)) (.im (Wd b.g)) (.im (codeD 219 p n a.T)) (.im (codeD 219 p n b.T)) (.im (Wd a.h)) (.im (.int a.e)) (.im (Wd a.d)) (.im (codeD 219 p n c.T)) (.im (.lst ((B).map Wd))) (.im (.lst ((wide37 p (Z.map (·.g)) a.g b.g).map Wd))) .no .no .no .no .no) = .ok (B.map Wd) (LX37 x0 m p (n : Int) (.im (.tup ((Z.map (·.g)).map Wd))) (.im (Wd a.g)) (.im (Wd b.g)) (.im (codeD 219 p n a.T)) (.im (codeD 219 p n b.T)) (.im (Wd a.h)) (.im (.int a.e)) (.im (Wd a.d)) (.im (codeD 219 p n c.T)) (.im (.lst ((B).map Wd))) (.im (.lst ((wide37 p (Z.map (·.g)) a.g b.g).map Wd))) .no .no .no .no .no) := by
    rw [itS_run, v13]
    rfl
  obtain ⟨M, hM, hF⟩ := Option.map_eq_some_iff.mp h
  have key : (lcE (itS (varE 13)) (Tk.nm 17).k (tst (op2 (calE (aCons (varE 17) aNil) lenO) (calE (aCons (frz (lcE (itS (varE 13)) (Tk.nm 19).k yesT (calE (aCons (varE 19) aNil) lenO) [19])) aNil) maxLO) eqO)) (varE 17) [17]) (LX37 x0 m p (n : Int) (.im (.tup ((Z.map (·.g)).map Wd))) (.im (Wd a.g)) (.im (Wd b.g)) (.im (codeD 219 p n a.T)) (.im (codeD 219 p n b.T)) (.im (Wd a.h)) (.im (.int a.e)) (.im (Wd a.d)) (.im (codeD 219 p n c.T)) (.im (.lst ((B).map Wd))) (.im (.lst ((wide37 p (Z.map (·.g)) a.g b.g).map Wd))) .no .no .no .no .no) = .ok (([c1.g]).map Wd) (LX37 x0 m p (n : Int) (.im (.tup ((Z.map (·.g)).map Wd))) (.im (Wd a.g)) (.im (Wd b.g)) (.im (codeD 219 p n a.T)) (.im (codeD 219 p n b.T)) (.im (Wd a.h)) (.im (.int a.e)) (.im (Wd a.d)) (.im (codeD 219 p n c.T)) (.im (.lst ((B).map Wd))) (.im (.lst ((wide37 p (Z.map (·.g)) a.g b.g).map Wd))) .no .no .no .no .no) := by
    rw [← hF]
    refine lcE_flt Wd (fun r => decide ((r.length : Int) = M)) Wd B hit (fun r hr => ?_) (by omega)
    refine ⟨(LX37 x0 m p (n : Int) (.im (.tup ((Z.map (·.g)).map Wd))) (.im (Wd a.g)) (.im (Wd b.g)) (.im (codeD 219 p n a.T)) (.im (codeD 219 p n b.T)) (.im (Wd a.h)) (.im (.int a.e)) (.im (Wd a.d)) (.im (codeD 219 p n c.T)) (.im (.lst ((B).map Wd))) (.im (.lst ((wide37 p (Z.map (·.g)) a.g b.g).map Wd))) .no .no (.im (Wd r)) .no .no), (LX37 x0 m p (n : Int) (.im (.tup ((Z.map (·.g)).map Wd))) (.im (Wd a.g)) (.im (Wd b.g)) (.im (codeD 219 p n a.T)) (.im (codeD 219 p n b.T)) (.im (Wd a.h)) (.im (.int a.e)) (.im (Wd a.d)) (.im (codeD 219 p n c.T)) (.im (.lst ((B).map Wd))) (.im (.lst ((wide37 p (Z.map (·.g)) a.g b.g).map Wd))) .no .no (.im (Wd r)) .no .no), rfl, ?_, rfl, fun _ => ⟨(LX37 x0 m p (n : Int) (.im (.tup ((Z.map (·.g)).map Wd))) (.im (Wd a.g)) (.im (Wd b.g)) (.im (codeD 219 p n a.T)) (.im (codeD 219 p n b.T)) (.im (Wd a.h)) (.im (.int a.e)) (.im (Wd a.d)) (.im (codeD 219 p n c.T)) (.im (.lst ((B).map Wd))) (.im (.lst ((wide37 p (Z.map (·.g)) a.g b.g).map Wd))) .no .no (.im (Wd r)) .no .no), rfl, rfl⟩⟩
    have hi2 : (lcE (itS (varE 13)) (Tk.nm 19).k yesT (calE (aCons (varE 19) aNil) lenO) [19]) (LX37 x0 m p (n : Int) (.im (.tup ((Z.map (·.g)).map Wd))) (.im (Wd a.g)) (.im (Wd b.g)) (.im (codeD 219 p n a.T)) (.im (codeD 219 p n b.T)) (.im (Wd a.h)) (.im (.int a.e)) (.im (Wd a.d)) (.im (codeD 219 p n c.T)) (.im (.lst ((B).map Wd))) (.im (.lst ((wide37 p (Z.map (·.g)) a.g b.g).map Wd))) .no .no (.im (Wd r)) .no .no) = .ok (B.map fun r => Dt.int (r.length : Int)) (LX37 x0 m p (n : Int) (.im (.tup ((Z.map (·.g)).map Wd))) (.im (Wd a.g)) (.im (Wd b.g)) (.im (codeD 219 p n a.T)) (.im (codeD 219 p n b.T)) (.im (Wd a.h)) (.im (.int a.e)) (.im (Wd a.d)) (.im (codeD 219 p n c.T)) (.im (.lst ((B).map Wd))) (.im (.lst ((wide37 p (Z.map (·.g)) a.g b.g).map Wd))) .no .no (.im (Wd r)) .no .no) := by
      have hit2 : itS (varE 13) (LX37 x0 m p (n : Int) (.im (.tup ((Z.map (·.g)).map Wd))) (.im (Wd a.g)) (.im (Wd b.g)) (.im (codeD 219 p n a.T)) (.im (codeD 219 p n b.T)) (.im (Wd a.h)) (.im (.int a.e)) (.im (Wd a.d)) (.im (codeD 219 p n c.T)) (.im (.lst ((B).map Wd))) (.im (.lst ((wide37 p (Z.map (·.g)) a.g b.g).map Wd))) .no .no (.im (Wd r)) .no .no) = .ok (B.map Wd) (LX37 x0 m p (n : Int) (.im (.tup ((Z.map (·.g)).map Wd))) (.im (Wd a.g)) (.im (Wd b.g)) (.im (codeD 219 p n a.T)) (.im (codeD 219 p n b.T)) (.im (Wd a.h)) (.im (.int a.e)) (.im (Wd a.d)) (.im (codeD 219 p n c.T)) (.im (.lst ((B).map Wd))) (.im (.lst ((wide37 p (Z.map (·.g)) a.g b.g).map Wd))) .no .no (.im (Wd r)) .no .no) := by
        have : varE 13 (LX37 x0 m p (n : Int) (.im (.tup ((Z.map (·.g)).map Wd))) (.im (Wd a.g)) (.im (Wd b.g)) (.im (codeD 219 p n a.T)) (.im (codeD 219 p n b.T)) (.im (Wd a.h)) (.im (.int a.e)) (.im (Wd a.d)) (.im (codeD 219 p n c.T)) (.im (.lst ((B).map Wd))) (.im (.lst ((wide37 p (Z.map (·.g)) a.g b.g).map Wd))) .no .no (.im (Wd r)) .no .no) = .ok (.lst (B.map Wd)) (LX37 x0 m p (n : Int) (.im (.tup ((Z.map (·.g)).map Wd))) (.im (Wd a.g)) (.im (Wd b.g)) (.im (codeD 219 p n a.T)) (.im (codeD 219 p n b.T)) (.im (Wd a.h)) (.im (.int a.e)) (.im (Wd a.d)) (.im (codeD 219 p n c.T)) (.im (.lst ((B).map Wd))) (.im (.lst ((wide37 p (Z.map (·.g)) a.g b.g).map Wd))) .no .no (.im (Wd r)) .no .no) := varE_im rfl
        rw [itS_run, this]
        rfl
      exact lcE_map (k := (Tk.nm 19).k) (own := [19]) Wd (fun r => Dt.int (r.length : Int)) B hit2 (fun r2 _ => ⟨(LX37 x0 m p (n : Int) (.im (.tup ((Z.map (·.g)).map Wd))) (.im (Wd a.g)) (.im (Wd b.g)) (.im (codeD 219 p n a.T)) (.im (codeD 219 p n b.T)) (.im (Wd a.h)) (.im (.int a.e)) (.im (Wd a.d)) (.im (codeD 219 p n c.T)) (.im (.lst ((B).map Wd))) (.im (.lst ((wide37 p (Z.map (·.g)) a.g b.g).map Wd))) .no .no (.im (Wd r)) .no (.im (Wd r2))), rfl, (LX37 x0 m p (n : Int) (.im (.tup ((Z.map (·.g)).map Wd))) (.im (Wd a.g)) (.im (Wd b.g)) (.im (codeD 219 p n a.T)) (.im (codeD 219 p n b.T)) (.im (Wd a.h)) (.im (.int a.e)) (.im (Wd a.d)) (.im (codeD 219 p n c.T)) (.im (.lst ((B).map Wd))) (.im (.lst ((wide37 p (Z.map (·.g)) a.g b.g).map Wd))) .no .no (.im (Wd r)) .no (.im (Wd r2))), by
        have v19 : varE 19 (LX37 x0 m p (n : Int) (.im (.tup ((Z.map (·.g)).map Wd))) (.im (Wd a.g)) (.im (Wd b.g)) (.im (codeD 219 p n a.T)) (.im (codeD 219 p n b.T)) (.im (Wd a.h)) (.im (.int a.e)) (.im (Wd a.d)) (.im (codeD 219 p n c.T)) (.im (.lst ((B).map Wd))) (.im (.lst ((wide37 p (Z.map (·.g)) a.g b.g).map Wd))) .no .no (.im (Wd r)) .no (.im (Wd r2))) = .ok (Wd r2) (LX37 x0 m p (n : Int) (.im (.tup ((Z.map (·.g)).map Wd))) (.im (Wd a.g)) (.im (Wd b.g)) (.im (codeD 219 p n a.T)) (.im (codeD 219 p n b.T)) (.im (Wd a.h)) (.im (.int a.e)) (.im (Wd a.d)) (.im (codeD 219 p n c.T)) (.im (.lst ((B).map Wd))) (.im (.lst ((wide37 p (Z.map (·.g)) a.g b.g).map Wd))) .no .no (.im (Wd r)) .no (.im (Wd r2))) := varE_im rfl
        rw [calE_run, aCons_run, v19]
        simp only [R.bind_ok, aNil_run, lenO_wd, R.of_some], rfl⟩) (fun d T T' => Tk.mo) (by omega)
    have hmx : maxLO [.lst (B.map fun r => Dt.int (r.length : Int))] = some (.int M) := by
      have := maxLO_run (B.map fun r => (r.length : Int))
      rw [List.map_map, hM] at this
      exact this
    have v17 : varE 17 (LX37 x0 m p (n : Int) (.im (.tup ((Z.map (·.g)).map Wd))) (.im (Wd a.g)) (.im (Wd b.g)) (.im (codeD 219 p n a.T)) (.im (codeD 219 p n b.T)) (.im (Wd a.h)) (.im (.int a.e)) (.im (Wd a.d)) (.im (codeD 219 p n c.T)) (.im (.lst ((B).map Wd))) (.im (.lst ((wide37 p (Z.map (·.g)) a.g b.g).map Wd))) .no .no (.im (Wd r)) .no .no) = .ok (Wd r) (LX37 x0 m p (n : Int) (.im (.tup ((Z.map (·.g)).map Wd))) (.im (Wd a.g)) (.im (Wd b.g)) (.im (codeD 219 p n a.T)) (.im (codeD 219 p n b.T)) (.im (Wd a.h)) (.im (.int a.e)) (.im (Wd a.d)) (.im (codeD 219 p n c.T)) (.im (.lst ((B).map Wd))) (.im (.lst ((wide37 p (Z.map (·.g)) a.g b.g).map Wd))) .no .no (.im (Wd r)) .no .no) := varE_im rfl
    have hlr := lenO_wd r
    generalize (LX37 x0 m p (n : Int) (.im (.tup ((Z.map (·.g)).map Wd))) (.im (Wd a.g)) (.im (Wd b.g)) (.im (codeD 219 p n a.T)) (.im (codeD 219 p n b.T)) (.im (Wd a.h)) (.im (.int a.e)) (.im (Wd a.d)) (.im (codeD 219 p n c.T)) (.im (.lst ((B).map Wd))) (.im (.lst ((wide37 p (Z.map (·.g)) a.g b.g).map Wd))) .no .no (.im (Wd r)) .no .no) = U at *
    simp only [tst_run', op2_run, calE_run, aCons_run, aNil_run, frz_run', v17, R.bind_ok, hlr, hi2, hmx, R.of_some, eqO_int]
  rw [asgS_run', frz_run', key]
  rfl
theorem k37_16 {x0 : Sv} {m : List Mo} {p : Int} {n : Nat} {Z : List Rc37} {a b c c1 c2 : Rc37} (hl : Z.length ≤ 100) (h : (minF ((wide37 p (Z.map (·.g)) a.g b.g).map fun r => (r.length : Int))).map (len37 (wide37 p (Z.map (·.g)) a.g b.g)) = some [c2.g]) : (asgS 16 (frz (lcE (itS (varE 14)) (Tk.nm 17).k (tst (op2 (calE (aCons (varE 17) aNil) lenO) (calE (aCons (frz (lcE (itS (varE 14)) (Tk.nm 19).k yesT (calE (aCons (varE 19) aNil) lenO) [19])) aNil) minLO) eqO)) (varE 17) [17]))) (LX37 x0 m p (n : Int) (.im (.tup ((Z.map (·.g)).map Wd))) (.im (Wd a.g)) (.im (Wd b.g)) (.im (codeD 219 p n a.T)) (.im (codeD 219 p n b.T)) (.im (Wd a.h)) (.im (.int a.e)) (.im (Wd a.d)) (.im (codeD 219 p n c.T)) (.im (.lst ((both37 p (Z.map (·.g)) a.g b.g).map Wd))) (.im (.lst ((wide37 p (Z.map (·.g)) a.g b.g).map Wd))) (.im (.lst (([c1.g]).map Wd))) .no .no .no .no) = .nx (LX37 x0 m p (n : Int) (.im (.tup ((Z.map (·.g)).map Wd))) (.im (Wd a.g)) (.im (Wd b.g)) (.im (codeD 219 p n a.T)) (.im (codeD 219 p n b.T)) (.im (Wd a.h)) (.im (.int a.e)) (.im (Wd a.d)) (.im (codeD 219 p n c.T)) (.im (.lst ((both37 p (Z.map (·.g)) a.g b.g).map Wd))) (.im (.lst ((wide37 p (Z.map (·.g)) a.g b.g).map Wd))) (.im (.lst (([c1.g]).map Wd))) (.im (.lst (([c2.g]).map Wd))) .no .no .no) := by
  have hBl : (wide37 p (Z.map (·.g)) a.g b.g).length ≤ 100 := Nat.le_trans (List.length_filter_le _ _) (by simpa using hl)
  have v14 : varE 14 (LX37 x0 m p (n : Int) (.im (.tup ((Z.map (·.g)).map Wd))) (.im (Wd a.g)) (.im (Wd b.g)) (.im (codeD 219 p n a.T)) (.im (codeD 219 p n b.T)) (.im (Wd a.h)) (.im (.int a.e)) (.im (Wd a.d)) (.im (codeD 219 p n c.T)) (.im (.lst ((both37 p (Z.map (·.g)) a.g b.g).map Wd))) (.im (.lst ((wide37 p (Z.map (·.g)) a.g b.g).map Wd))) (.im (.lst (([c1.g]).map Wd))) .no .no .no .no) = .ok (.lst ((wide37 p (Z.map (·.g)) a.g b.g).map Wd)) (LX37 x0 m p (n : Int) (.im (.tup ((Z.map (·.g)).map Wd))) (.im (Wd a.g)) (.im (Wd b.g)) (.im (codeD 219 p n a.T)) (.im (codeD 219 p n b.T)) (.im (Wd a.h)) (.im (.int a.e)) (.im (Wd a.d)) (.im (codeD 219 p n c.T)) (.im (.lst ((both37 p (Z.map (·.g)) a.g b.g).map Wd))) (.im (.lst ((wide37 p (Z.map (·.g)) a.g b.g).map Wd))) (.im (.lst (([c1.g]).map Wd))) .no .no .no .no) := varE_im rfl
  generalize hB : wide37 p (Z.map (·.g)) a.g b.g = B at *
  have hit : itS (varE 14) (LX37 x0 m p (n : Int) (.im (.tup ((Z.map (·.g)).map Wd))) (.im (Wd a.g)) (.im (Wd b.g)) (.im (codeD 219 p n a.T)) (.im (codeD 219 p n b.T)) (.im (Wd a.h)) (.im (.int a.e)) (.im (Wd a.d)) (.im (codeD 219 p n c.T)) (.im (.lst ((both37 p (Z.map (·.g)) a.g b.g).map Wd))) (.im (.lst ((B).map Wd))) (.im (.lst (([c1.g]).map Wd))) .no .no .no .no) = .ok (B.map Wd) (LX37 x0 m p (n : Int) (.im (.tup ((Z.map (·.g)).map Wd))) (.im (Wd a.g)) (.im (Wd b.g)) (.im (codeD 219 p n a.T)) (.im (codeD 219 p n b.T)) (.im (Wd a.h)) (.im (.int a.e)) (.im (Wd a.d)) (.im (codeD 219 p n c.T)) (.im (.lst ((both37 p (Z.map (·.g)) a.g b.g).map Wd))) (.im (.lst ((B).map Wd))) (.im (.lst (([c1.g]).map Wd))) .no .no .no .no) := by
    rw [itS_run, v14]
    rfl
  obtain ⟨M, hM, hF⟩ := Option.map_eq_some_iff.mp h
  have key : (lcE (itS (varE 14)) (Tk.nm 17).k (tst (op2 (calE (aCons (varE 17) aNil) lenO) (calE (aCons (frz (lcE (itS (varE 14)) (Tk.nm 19).k yesT (calE (aCons (varE 19) aNil) lenO) [19])) aNil) minLO) eqO)) (varE 17) [17]) (LX37 x0 m p (n : Int) (.im (.tup ((Z.map (·.g)).map Wd))) (.im (Wd a.g)) (.im (Wd b.g)) (.im (codeD 219 p n a.T)) (.im (codeD 219 p n b.T)) (.im (Wd a.h)) (.im (.int a.e)) (.im (Wd a.d)) (.im (codeD 219 p n c.T)) (.im (.lst ((both37 p (Z.map (·.g)) a.g b.g).map Wd))) (.im (.lst ((B).map Wd))) (.im (.lst (([c1.g]).map Wd))) .no .no .no .no) = .ok (([c2.g]).map Wd) (LX37 x0 m p (n : Int) (.im (.tup ((Z.map (·.g)).map Wd))) (.im (Wd a.g)) (.im (Wd b.g)) (.im (codeD 219 p n a.T)) (.im (codeD 219 p n b.T)) (.im (Wd a.h)) (.im (.int a.e)) (.im (Wd a.d)) (.im (codeD 219 p n c.T)) (.im (.lst ((both37 p (Z.map (·.g)) a.g b.g).map Wd))) (.im (.lst ((B).map Wd))) (.im (.lst (([c1.g]).map Wd))) .no .no .no .no) := by
    rw [← hF]
    refine lcE_flt Wd (fun r => decide ((r.length : Int) = M)) Wd B hit (fun r hr => ?_) (by omega)
    refine ⟨(LX37 x0 m p (n : Int) (.im (.tup ((Z.map (·.g)).map Wd))) (.im (Wd a.g)) (.im (Wd b.g)) (.im (codeD 219 p n a.T)) (.im (codeD 219 p n b.T)) (.im (Wd a.h)) (.im (.int a.e)) (.im (Wd a.d)) (.im (codeD 219 p n c.T)) (.im (.lst ((both37 p (Z.map (·.g)) a.g b.g).map Wd))) (.im (.lst ((B).map Wd))) (.im (.lst (([c1.g]).map Wd))) .no (.im (Wd r)) .no .no), (LX37 x0 m p (n : Int) (.im (.tup ((Z.map (·.g)).map Wd))) (.im (Wd a.g)) (.im (Wd b.g)) (.im (codeD 219 p n a.T)) (.im (codeD 219 p n b.T)) (.im (Wd a.h)) (.im (.int a.e)) (.im (Wd a.d)) (.im (codeD 219 p n c.T)) (.im (.lst ((both37 p (Z.map (·.g)) a.g b.g).map Wd))) (.im (.lst ((B).map Wd))) (.im (.lst (([c1.g]).map Wd))) .no (.im (Wd r)) .no .no), rfl, ?_, rfl, fun _ => ⟨(LX37 x0 m p (n : Int) (.im (.tup ((Z.map (·.g)).map Wd))) (.im (Wd a.g)) (.im (Wd b.g)) (.im (codeD 219 p n a.T)) (.im (codeD 219 p n b.T)) (.im (Wd a.h)) (.im (.int a.e)) (.im (Wd a.d)) (.im (codeD 219 p n c.T)) (.im (.lst ((both37 p (Z.map (·.g)) a.g b.g).map Wd))) (.im (.lst ((B).map Wd))) (.im (.lst (([c1.g]).map Wd))) .no (.im (Wd r)) .no .no), rfl, rfl⟩⟩
    have hi2 : (lcE (itS (varE 14)) (Tk.nm 19).k yesT (calE (aCons (varE 19) aNil) lenO) [19]) (LX37 x0 m p (n : Int) (.im (.tup ((Z.map (·.g)).map Wd))) (.im (Wd a.g)) (.im (Wd b.g)) (.im (codeD 219 p n a.T)) (.im (codeD 219 p n b.T)) (.im (Wd a.h)) (.im (.int a.e)) (.im (Wd a.d)) (.im (codeD 219 p n c.T)) (.im (.lst ((both37 p (Z.map (·.g)) a.g b.g).map Wd))) (.im (.lst ((B).map Wd))) (.im (.lst (([c1.g]).map Wd))) .no (.im (Wd r)) .no .no) = .ok (B.map fun r => Dt.int (r.length : Int)) (LX37 x0 m p (n : Int) (.im (.tup ((Z.map (·.g)).map Wd))) (.im (Wd a.g)) (.im (Wd b.g)) (.im (codeD 219 p n a.T)) (.im (codeD 219 p n b.T)) (.im (Wd a.h)) (.im (.int a.e)) (.im (Wd a.d)) (.im (codeD 219 p n c.T)) (.im (.lst ((both37 p (Z.map (·.g)) a.g b.g).map Wd))) (.im (.lst ((B).map Wd))) (.im (.lst (([c1.g]).map Wd))) .no (.im (Wd r)) .no .no) := by
      have hit2 : itS (varE 14) (LX37 x0 m p (n : Int) (.im (.tup ((Z.map (·.g)).map Wd))) (.im (Wd a.g)) (.im (Wd b.g)) (.im (codeD 219 p n a.T)) (.im (codeD 219 p n b.T)) (.im (Wd a.h)) (.im (.int a.e)) (.im (Wd a.d)) (.im (codeD 219 p n c.T)) (.im (.lst ((both37 p (Z.map (·.g)) a.g b.g).map Wd))) (.im (.lst ((B).map Wd))) (.im (.lst (([c1.g]).map Wd))) .no (.im (Wd r)) .no .no) = .ok (B.map Wd) (LX37 x0 m p (n : Int) (.im (.tup ((Z.map (·.g)).map Wd))) (.im (Wd a.g)) (.im (Wd b.g)) (.im (codeD 219 p n a.T)) (.im (codeD 219 p n b.T)) (.im (Wd a.h)) (.im (.int a.e)) (.im (Wd a.d)) (.im (codeD 219 p n c.T)) (.im (.lst ((both37 p (Z.map (·.g)) a.g b.g).map Wd))) (.im (.lst ((B).map Wd))) (.im (.lst (([c1.g]).map Wd))) .no (.im (Wd r)) .no .no) := by
        have : varE 14 (LX37 x0 m p (n : Int) (.im (.tup ((Z.map (·.g)).map Wd))) (.im (Wd a.g)) (.im (Wd b.g)) (.im (codeD 219 p n a.T)) (.im (codeD 219 p n b.T)) (.im (Wd a.h)) (.im (.int a.e)) (.im (Wd a.d)) (.im (codeD 219 p n c.T)) (.im (.lst ((both37 p (Z.map (·.g)) a.g b.g).map Wd))) (.im (.lst ((B).map Wd))) (.im (.lst (([c1.g]).map Wd))) .no (.im (Wd r)) .no .no) = .ok (.lst (B.map Wd)) (LX37 x0 m p (n : Int) (.im (.tup ((Z.map (·.g)).map Wd))) (.im (Wd a.g)) (.im (Wd b.g)) (.im (codeD 219 p n a.T)) (.im (codeD 219 p n b.T)) (.im (Wd a.h)) (.im (.int a.e)) (.im (Wd a.d)) (.im (codeD 219 p n c.T)) (.im (.lst ((both37 p (Z.map (·.g)) a.g b.g).map Wd))) (.im (.lst ((B).map Wd))) (.im (.lst (([c1.g]).map Wd))) .no (.im (Wd r)) .no .no) := varE_im rfl
        rw [itS_run, this]
        rfl
      exact lcE_map (k := (Tk.nm 19).k) (own := [19]) Wd (fun r => Dt.int (r.length : Int)) B hit2 (fun r2 _ => ⟨(LX37 x0 m p (n : Int) (.im (.tup ((Z.map (·.g)).map Wd))) (.im (Wd a.g)) (.im (Wd b.g)) (.im (codeD 219 p n a.T)) (.im (codeD 219 p n b.T)) (.im (Wd a.h)) (.im (.int a.e)) (.im (Wd a.d)) (.im (codeD 219 p n c.T)) (.im (.lst ((both37 p (Z.map (·.g)) a.g b.g).map Wd))) (.im (.lst ((B).map Wd))) (.im (.lst (([c1.g]).map Wd))) .no (.im (Wd r)) .no (.im (Wd r2))), rfl, (LX37 x0 m p (n : Int) (.im (.tup ((Z.map (·.g)).map Wd))) (.im (Wd a.g)) (.im (Wd b.g)) (.im (codeD 219 p n a.T)) (.im (codeD 219 p n b.T)) (.im (Wd a.h)) (.im (.int a.e)) (.im (Wd a.d)) (.im (codeD 219 p n c.T)) (.im (.lst ((both37 p (Z.map (·.g)) a.g b.g).map Wd))) (.im (.lst ((B).map Wd))) (.im (.lst (([c1.g]).map Wd))) .no (.im (Wd r)) .no (.im (Wd r2))), by
        have v19 : varE 19 (LX37 x0 m p (n : Int) (.im (.tup ((Z.map (·.g)).map Wd))) (.im (Wd a.g)) (.im (Wd b.g)) (.im (codeD 219 p n a.T)) (.im (codeD 219 p n b.T)) (.im (Wd a.h)) (.im (.int a.e)) (.im (Wd a.d)) (.im (codeD 219 p n c.T)) (.im (.lst ((both37 p (Z.map (·.g)) a.g b.g).map Wd))) (.im (.lst ((B).map Wd))) (.im (.lst (([c1.g]).map Wd))) .no (.im (Wd r)) .no (.im (Wd r2))) = .ok (Wd r2) (LX37 x0 m p (n : Int) (.im (.tup ((Z.map (·.g)).map Wd))) (.im (Wd a.g)) (.im (Wd b.g)) (.im (codeD 219 p n a.T)) (.im (codeD 219 p n b.T)) (.im (Wd a.h)) (.im (.int a.e)) (.im (Wd a.d)) (.im (codeD 219 p n c.T)) (.im (.lst ((both37 p (Z.map (·.g)) a.g b.g).map Wd))) (.im (.lst ((B).map Wd))) (.im (.lst (([c1.g]).map Wd))) .no (.im (Wd r)) .no (.im (Wd r2))) := varE_im rfl
        rw [calE_run, aCons_run, v19]
        simp only [R.bind_ok, aNil_run, lenO_wd, R.of_some], rfl⟩) (fun d T T' => Tk.mo) (by omega)
    have hmx : minLO [.lst (B.map fun r => Dt.int (r.length : Int))] = some (.int M) := by
      have := minLO_run (B.map fun r => (r.length : Int))
      rw [List.map_map, hM] at this
      exact this
    have v17 : varE 17 (LX37 x0 m p (n : Int) (.im (.tup ((Z.map (·.g)).map Wd))) (.im (Wd a.g)) (.im (Wd b.g)) (.im (codeD 219 p n a.T)) (.im (codeD 219 p n b.T)) (.im (Wd a.h)) (.im (.int a.e)) (.im (Wd a.d)) (.im (codeD 219 p n c.T)) (.im (.lst ((both37 p (Z.map (·.g)) a.g b.g).map Wd))) (.im (.lst ((B).map Wd))) (.im (.lst (([c1.g]).map Wd))) .no (.im (Wd r)) .no .no) = .ok (Wd r) (LX37 x0 m p (n : Int) (.im (.tup ((Z.map (·.g)).map Wd))) (.im (Wd a.g)) (.im (Wd b.g)) (.im (codeD 219 p n a.T)) (.im (codeD 219 p n b.T)) (.im (Wd a.h)) (.im (.int a.e)) (.im (Wd a.d)) (.im (codeD 219 p n c.T)) (.im (.lst ((both37 p (Z.map (·.g)) a.g b.g).map Wd))) (.im (.lst ((B).map Wd))) (.im (.lst (([c1.g]).map Wd))) .no (.im (Wd r)) .no .no) := varE_im rfl
    have hlr := lenO_wd r
    generalize (LX37 x0 m p (n : Int) (.im (.tup ((Z.map (·.g)).map Wd))) (.im (Wd a.g)) (.im (Wd b.g)) (.im (codeD 219 p n a.T)) (.im (codeD 219 p n b.T)) (.im (Wd a.h)) (.im (.int a.e)) (.im (Wd a.d)) (.im (codeD 219 p n c.T)) (.im (.lst ((both37 p (Z.map (·.g)) a.g b.g).map Wd))) (.im (.lst ((B).map Wd))) (.im (.lst (([c1.g]).map Wd))) .no (.im (Wd r)) .no .no) = U at *
    simp only [tst_run', op2_run, calE_run, aCons_run, aNil_run, frz_run', v17, R.bind_ok, hlr, hi2, hmx, R.of_some, eqO_int]
  rw [asgS_run', frz_run', key]
  rfl
theorem k37_17 {x0 : Sv} {m : List Mo} {p : Int} {n : Nat} {Z : List Rc37} {a b c c1 c2 : Rc37} : (ifS (orT (tst (op2 (calE (aCons (varE 15) aNil) lenO) (cE (.int 1)) neO)) (tst (op2 (calE (aCons (varE 16) aNil) lenO) (cE (.int 1)) neO))) (retS (cE (.bl false))) nilS) (LX37 x0 m p (n : Int) (.im (.tup ((Z.map (·.g)).map Wd))) (.im (Wd a.g)) (.im (Wd b.g)) (.im (codeD 219 p n a.T)) (.im (codeD 219 p n b.T)) (.im (Wd a.h)) (.im (.int a.e)) (.im (Wd a.d)) (.im (codeD 219 p n c.T)) (.im (.lst ((both37 p (Z.map (·.g)) a.g b.g).map Wd))) (.im (.lst ((wide37 p (Z.map (·.g)) a.g b.g).map Wd))) (.im (.lst (([c1.g]).map Wd))) (.im (.lst (([c2.g]).map Wd))) .no .no .no) = .nx (LX37 x0 m p (n : Int) (.im (.tup ((Z.map (·.g)).map Wd))) (.im (Wd a.g)) (.im (Wd b.g)) (.im (codeD 219 p n a.T)) (.im (codeD 219 p n b.T)) (.im (Wd a.h)) (.im (.int a.e)) (.im (Wd a.d)) (.im (codeD 219 p n c.T)) (.im (.lst ((both37 p (Z.map (·.g)) a.g b.g).map Wd))) (.im (.lst ((wide37 p (Z.map (·.g)) a.g b.g).map Wd))) (.im (.lst (([c1.g]).map Wd))) (.im (.lst (([c2.g]).map Wd))) .no .no .no) := by
  have v15 : varE 15 (LX37 x0 m p (n : Int) (.im (.tup ((Z.map (·.g)).map Wd))) (.im (Wd a.g)) (.im (Wd b.g)) (.im (codeD 219 p n a.T)) (.im (codeD 219 p n b.T)) (.im (Wd a.h)) (.im (.int a.e)) (.im (Wd a.d)) (.im (codeD 219 p n c.T)) (.im (.lst ((both37 p (Z.map (·.g)) a.g b.g).map Wd))) (.im (.lst ((wide37 p (Z.map (·.g)) a.g b.g).map Wd))) (.im (.lst (([c1.g]).map Wd))) (.im (.lst (([c2.g]).map Wd))) .no .no .no) = .ok (.lst ([c1.g].map Wd)) (LX37 x0 m p (n : Int) (.im (.tup ((Z.map (·.g)).map Wd))) (.im (Wd a.g)) (.im (Wd b.g)) (.im (codeD 219 p n a.T)) (.im (codeD 219 p n b.T)) (.im (Wd a.h)) (.im (.int a.e)) (.im (Wd a.d)) (.im (codeD 219 p n c.T)) (.im (.lst ((both37 p (Z.map (·.g)) a.g b.g).map Wd))) (.im (.lst ((wide37 p (Z.map (·.g)) a.g b.g).map Wd))) (.im (.lst (([c1.g]).map Wd))) (.im (.lst (([c2.g]).map Wd))) .no .no .no) := varE_im rfl
  have v16 : varE 16 (LX37 x0 m p (n : Int) (.im (.tup ((Z.map (·.g)).map Wd))) (.im (Wd a.g)) (.im (Wd b.g)) (.im (codeD 219 p n a.T)) (.im (codeD 219 p n b.T)) (.im (Wd a.h)) (.im (.int a.e)) (.im (Wd a.d)) (.im (codeD 219 p n c.T)) (.im (.lst ((both37 p (Z.map (·.g)) a.g b.g).map Wd))) (.im (.lst ((wide37 p (Z.map (·.g)) a.g b.g).map Wd))) (.im (.lst (([c1.g]).map Wd))) (.im (.lst (([c2.g]).map Wd))) .no .no .no) = .ok (.lst ([c2.g].map Wd)) (LX37 x0 m p (n : Int) (.im (.tup ((Z.map (·.g)).map Wd))) (.im (Wd a.g)) (.im (Wd b.g)) (.im (codeD 219 p n a.T)) (.im (codeD 219 p n b.T)) (.im (Wd a.h)) (.im (.int a.e)) (.im (Wd a.d)) (.im (codeD 219 p n c.T)) (.im (.lst ((both37 p (Z.map (·.g)) a.g b.g).map Wd))) (.im (.lst ((wide37 p (Z.map (·.g)) a.g b.g).map Wd))) (.im (.lst (([c1.g]).map Wd))) (.im (.lst (([c2.g]).map Wd))) .no .no .no) := varE_im rfl
  have l1 : lenO [.lst ([c1.g].map Wd)] = some (.int 1) := rfl
  have l2 : lenO [.lst ([c2.g].map Wd)] = some (.int 1) := rfl
  generalize (LX37 x0 m p (n : Int) (.im (.tup ((Z.map (·.g)).map Wd))) (.im (Wd a.g)) (.im (Wd b.g)) (.im (codeD 219 p n a.T)) (.im (codeD 219 p n b.T)) (.im (Wd a.h)) (.im (.int a.e)) (.im (Wd a.d)) (.im (codeD 219 p n c.T)) (.im (.lst ((both37 p (Z.map (·.g)) a.g b.g).map Wd))) (.im (.lst ((wide37 p (Z.map (·.g)) a.g b.g).map Wd))) (.im (.lst (([c1.g]).map Wd))) (.im (.lst (([c2.g]).map Wd))) .no .no .no) = U at *
  simp only [ifS_run, orT_run, tst_run', op2_run, calE_run, aCons_run, aNil_run, v15, v16, cE_run, R.bind_ok, l1, l2, neO_int, decide_true, R.of_some, Bool.not_true, Bool.false_eq_true, if_false, R.stmt_ok]
  rfl
theorem k37_18 {CM CR : Addr} {x0 : Sv} {m : List Mo} {p : Int} {n : Nat} {Z : List Rc37} {a b c c1 c2 : Rc37} (hp : isP p = true) (hn : n ≤ 12) (ha : One37 p n Z a) (hb : One37 p n Z b) (h1 : One37 p n Z c1) (h2 : One37 p n Z c2) (F : Fc37 CM CR p n c1) (G : Fc37 CM CR p n c2) (e1 : c1.T = (redN p (a.T ++ b.T) n).T) (e2 : c2.T = (redN p (kk37 p n a.T b.T) n).T) : (ifS (orT (tst (op2 (funE 1 (aCons (funE 2 (aCons (varE 7) (aCons (varE 8) aNil)) (Fsumof 219 CM CR)) aNil) (Fgenp 219 CM CR)) (op2 (varE 15) (cE (.int 0)) ixO) neO)) (tst (op2 (funE 1 (aCons (funE 2 (aCons (varE 7) (aCons (varE 8) aNil)) (Fcpart 219 CM CR)) aNil) (Fgenp 219 CM CR)) (op2 (varE 16) (cE (.int 0)) ixO) neO))) (retS (cE (.bl false))) nilS) (LX37 x0 m p (n : Int) (.im (.tup ((Z.map (·.g)).map Wd))) (.im (Wd a.g)) (.im (Wd b.g)) (.im (codeD 219 p n a.T)) (.im (codeD 219 p n b.T)) (.im (Wd a.h)) (.im (.int a.e)) (.im (Wd a.d)) (.im (codeD 219 p n c.T)) (.im (.lst ((both37 p (Z.map (·.g)) a.g b.g).map Wd))) (.im (.lst ((wide37 p (Z.map (·.g)) a.g b.g).map Wd))) (.im (.lst (([c1.g]).map Wd))) (.im (.lst (([c2.g]).map Wd))) .no .no .no) = .nx (LX37 x0 m p (n : Int) (.im (.tup ((Z.map (·.g)).map Wd))) (.im (Wd a.g)) (.im (Wd b.g)) (.im (codeD 219 p n a.T)) (.im (codeD 219 p n b.T)) (.im (Wd a.h)) (.im (.int a.e)) (.im (Wd a.d)) (.im (codeD 219 p n c.T)) (.im (.lst ((both37 p (Z.map (·.g)) a.g b.g).map Wd))) (.im (.lst ((wide37 p (Z.map (·.g)) a.g b.g).map Wd))) (.im (.lst (([c1.g]).map Wd))) (.im (.lst (([c2.g]).map Wd))) .no .no .no) := by
  have v15 : varE 15 (LX37 x0 m p (n : Int) (.im (.tup ((Z.map (·.g)).map Wd))) (.im (Wd a.g)) (.im (Wd b.g)) (.im (codeD 219 p n a.T)) (.im (codeD 219 p n b.T)) (.im (Wd a.h)) (.im (.int a.e)) (.im (Wd a.d)) (.im (codeD 219 p n c.T)) (.im (.lst ((both37 p (Z.map (·.g)) a.g b.g).map Wd))) (.im (.lst ((wide37 p (Z.map (·.g)) a.g b.g).map Wd))) (.im (.lst (([c1.g]).map Wd))) (.im (.lst (([c2.g]).map Wd))) .no .no .no) = .ok (.lst ([c1.g].map Wd)) (LX37 x0 m p (n : Int) (.im (.tup ((Z.map (·.g)).map Wd))) (.im (Wd a.g)) (.im (Wd b.g)) (.im (codeD 219 p n a.T)) (.im (codeD 219 p n b.T)) (.im (Wd a.h)) (.im (.int a.e)) (.im (Wd a.d)) (.im (codeD 219 p n c.T)) (.im (.lst ((both37 p (Z.map (·.g)) a.g b.g).map Wd))) (.im (.lst ((wide37 p (Z.map (·.g)) a.g b.g).map Wd))) (.im (.lst (([c1.g]).map Wd))) (.im (.lst (([c2.g]).map Wd))) .no .no .no) := varE_im rfl
  have v16 : varE 16 (LX37 x0 m p (n : Int) (.im (.tup ((Z.map (·.g)).map Wd))) (.im (Wd a.g)) (.im (Wd b.g)) (.im (codeD 219 p n a.T)) (.im (codeD 219 p n b.T)) (.im (Wd a.h)) (.im (.int a.e)) (.im (Wd a.d)) (.im (codeD 219 p n c.T)) (.im (.lst ((both37 p (Z.map (·.g)) a.g b.g).map Wd))) (.im (.lst ((wide37 p (Z.map (·.g)) a.g b.g).map Wd))) (.im (.lst (([c1.g]).map Wd))) (.im (.lst (([c2.g]).map Wd))) .no .no .no) = .ok (.lst ([c2.g].map Wd)) (LX37 x0 m p (n : Int) (.im (.tup ((Z.map (·.g)).map Wd))) (.im (Wd a.g)) (.im (Wd b.g)) (.im (codeD 219 p n a.T)) (.im (codeD 219 p n b.T)) (.im (Wd a.h)) (.im (.int a.e)) (.im (Wd a.d)) (.im (codeD 219 p n c.T)) (.im (.lst ((both37 p (Z.map (·.g)) a.g b.g).map Wd))) (.im (.lst ((wide37 p (Z.map (·.g)) a.g b.g).map Wd))) (.im (.lst (([c1.g]).map Wd))) (.im (.lst (([c2.g]).map Wd))) .no .no .no) := varE_im rfl
  have v7 : varE 7 (LX37 x0 m p (n : Int) (.im (.tup ((Z.map (·.g)).map Wd))) (.im (Wd a.g)) (.im (Wd b.g)) (.im (codeD 219 p n a.T)) (.im (codeD 219 p n b.T)) (.im (Wd a.h)) (.im (.int a.e)) (.im (Wd a.d)) (.im (codeD 219 p n c.T)) (.im (.lst ((both37 p (Z.map (·.g)) a.g b.g).map Wd))) (.im (.lst ((wide37 p (Z.map (·.g)) a.g b.g).map Wd))) (.im (.lst (([c1.g]).map Wd))) (.im (.lst (([c2.g]).map Wd))) .no .no .no) = .ok (codeD 219 p n a.T) (LX37 x0 m p (n : Int) (.im (.tup ((Z.map (·.g)).map Wd))) (.im (Wd a.g)) (.im (Wd b.g)) (.im (codeD 219 p n a.T)) (.im (codeD 219 p n b.T)) (.im (Wd a.h)) (.im (.int a.e)) (.im (Wd a.d)) (.im (codeD 219 p n c.T)) (.im (.lst ((both37 p (Z.map (·.g)) a.g b.g).map Wd))) (.im (.lst ((wide37 p (Z.map (·.g)) a.g b.g).map Wd))) (.im (.lst (([c1.g]).map Wd))) (.im (.lst (([c2.g]).map Wd))) .no .no .no) := varE_im rfl
  have v8 : varE 8 (LX37 x0 m p (n : Int) (.im (.tup ((Z.map (·.g)).map Wd))) (.im (Wd a.g)) (.im (Wd b.g)) (.im (codeD 219 p n a.T)) (.im (codeD 219 p n b.T)) (.im (Wd a.h)) (.im (.int a.e)) (.im (Wd a.d)) (.im (codeD 219 p n c.T)) (.im (.lst ((both37 p (Z.map (·.g)) a.g b.g).map Wd))) (.im (.lst ((wide37 p (Z.map (·.g)) a.g b.g).map Wd))) (.im (.lst (([c1.g]).map Wd))) (.im (.lst (([c2.g]).map Wd))) .no .no .no) = .ok (codeD 219 p n b.T) (LX37 x0 m p (n : Int) (.im (.tup ((Z.map (·.g)).map Wd))) (.im (Wd a.g)) (.im (Wd b.g)) (.im (codeD 219 p n a.T)) (.im (codeD 219 p n b.T)) (.im (Wd a.h)) (.im (.int a.e)) (.im (Wd a.d)) (.im (codeD 219 p n c.T)) (.im (.lst ((both37 p (Z.map (·.g)) a.g b.g).map Wd))) (.im (.lst ((wide37 p (Z.map (·.g)) a.g b.g).map Wd))) (.im (.lst (([c1.g]).map Wd))) (.im (.lst (([c2.g]).map Wd))) .no .no .no) := varE_im rfl
  obtain ⟨_, _, _, _, oa, la, _⟩ := ha
  obtain ⟨_, _, _, _, ob, lb, _⟩ := hb
  obtain ⟨_, _, _, _, _, _, k1, _⟩ := h1
  obtain ⟨_, _, _, _, _, _, k2, _⟩ := h2
  have s1 := Fsumof_run (CC := 219) (CM := CM) (CR := CR) hp hn (okRb_iff.mp oa) (okRb_iff.mp ob) la lb (by rw [← e1]; exact k1)
  have s2 := Fcpart_run (CC := 219) (CM := CM) (CR := CR) (Ta := a.T) (Tb := b.T) (K := kk37 p n a.T b.T) hp hn rfl (by rw [← e2]; exact k2)
  rw [← e1] at s1
  rw [← e2] at s2
  have g1 := F.f2
  have g2 := G.f2
  have i1 : ixO (.lst ([c1.g].map Wd)) (.int 0) = some (Wd c1.g) := rfl
  have i2 : ixO (.lst ([c2.g].map Wd)) (.int 0) = some (Wd c2.g) := rfl
  have n1 := neO_wd37 c1.g c1.g
  have n2 := neO_wd37 c2.g c2.g
  rw [decide_eq_true rfl] at n1 n2
  generalize (LX37 x0 m p (n : Int) (.im (.tup ((Z.map (·.g)).map Wd))) (.im (Wd a.g)) (.im (Wd b.g)) (.im (codeD 219 p n a.T)) (.im (codeD 219 p n b.T)) (.im (Wd a.h)) (.im (.int a.e)) (.im (Wd a.d)) (.im (codeD 219 p n c.T)) (.im (.lst ((both37 p (Z.map (·.g)) a.g b.g).map Wd))) (.im (.lst ((wide37 p (Z.map (·.g)) a.g b.g).map Wd))) (.im (.lst (([c1.g]).map Wd))) (.im (.lst (([c2.g]).map Wd))) .no .no .no) = U at *
  simp only [ifS_run, orT_run, tst_run', op2_run, funE_run, aCons_run, aNil_run, v15, v16, v7, v8, cE_run, R.bind_ok, List.length_cons, List.length_nil, Nat.zero_add, Nat.reduceAdd, if_true, s1, s2, g1, g2, i1, i2, n1, n2, R.of_some, Bool.not_true, Bool.false_eq_true, if_false, R.stmt_ok]
  rfl
theorem k37_19 {x0 : Sv} {m : List Mo} {p : Int} {n : Nat} {Z : List Rc37} {a b c c1 c2 : Rc37} (ha : c.T.length + 1 = a.g.length) (hb : a.T.length + a.g.length = n + 1) : ∃ S', (retS (andV (op2 (fldE 219 "k" (varE 12)) (op2 (calE (aCons (varE 5) aNil) lenO) (cE (.int 1)) subO) eqO) (op2 (fldE 219 "k" (varE 7)) (op2 (op2 (varE 3) (cE (.int 1)) addO) (calE (aCons (varE 5) aNil) lenO) subO) eqO))) (LX37 x0 m p (n : Int) (.im (.tup ((Z.map (·.g)).map Wd))) (.im (Wd a.g)) (.im (Wd b.g)) (.im (codeD 219 p n a.T)) (.im (codeD 219 p n b.T)) (.im (Wd a.h)) (.im (.int a.e)) (.im (Wd a.d)) (.im (codeD 219 p n c.T)) (.im (.lst ((both37 p (Z.map (·.g)) a.g b.g).map Wd))) (.im (.lst ((wide37 p (Z.map (·.g)) a.g b.g).map Wd))) (.im (.lst (([c1.g]).map Wd))) (.im (.lst (([c2.g]).map Wd))) .no .no .no) = .rt (.bl true) S' := by
  have v12 : varE 12 (LX37 x0 m p (n : Int) (.im (.tup ((Z.map (·.g)).map Wd))) (.im (Wd a.g)) (.im (Wd b.g)) (.im (codeD 219 p n a.T)) (.im (codeD 219 p n b.T)) (.im (Wd a.h)) (.im (.int a.e)) (.im (Wd a.d)) (.im (codeD 219 p n c.T)) (.im (.lst ((both37 p (Z.map (·.g)) a.g b.g).map Wd))) (.im (.lst ((wide37 p (Z.map (·.g)) a.g b.g).map Wd))) (.im (.lst (([c1.g]).map Wd))) (.im (.lst (([c2.g]).map Wd))) .no .no .no) = .ok (codeD 219 p n c.T) (LX37 x0 m p (n : Int) (.im (.tup ((Z.map (·.g)).map Wd))) (.im (Wd a.g)) (.im (Wd b.g)) (.im (codeD 219 p n a.T)) (.im (codeD 219 p n b.T)) (.im (Wd a.h)) (.im (.int a.e)) (.im (Wd a.d)) (.im (codeD 219 p n c.T)) (.im (.lst ((both37 p (Z.map (·.g)) a.g b.g).map Wd))) (.im (.lst ((wide37 p (Z.map (·.g)) a.g b.g).map Wd))) (.im (.lst (([c1.g]).map Wd))) (.im (.lst (([c2.g]).map Wd))) .no .no .no) := varE_im rfl
  have v7 : varE 7 (LX37 x0 m p (n : Int) (.im (.tup ((Z.map (·.g)).map Wd))) (.im (Wd a.g)) (.im (Wd b.g)) (.im (codeD 219 p n a.T)) (.im (codeD 219 p n b.T)) (.im (Wd a.h)) (.im (.int a.e)) (.im (Wd a.d)) (.im (codeD 219 p n c.T)) (.im (.lst ((both37 p (Z.map (·.g)) a.g b.g).map Wd))) (.im (.lst ((wide37 p (Z.map (·.g)) a.g b.g).map Wd))) (.im (.lst (([c1.g]).map Wd))) (.im (.lst (([c2.g]).map Wd))) .no .no .no) = .ok (codeD 219 p n a.T) (LX37 x0 m p (n : Int) (.im (.tup ((Z.map (·.g)).map Wd))) (.im (Wd a.g)) (.im (Wd b.g)) (.im (codeD 219 p n a.T)) (.im (codeD 219 p n b.T)) (.im (Wd a.h)) (.im (.int a.e)) (.im (Wd a.d)) (.im (codeD 219 p n c.T)) (.im (.lst ((both37 p (Z.map (·.g)) a.g b.g).map Wd))) (.im (.lst ((wide37 p (Z.map (·.g)) a.g b.g).map Wd))) (.im (.lst (([c1.g]).map Wd))) (.im (.lst (([c2.g]).map Wd))) .no .no .no) := varE_im rfl
  have v5 : varE 5 (LX37 x0 m p (n : Int) (.im (.tup ((Z.map (·.g)).map Wd))) (.im (Wd a.g)) (.im (Wd b.g)) (.im (codeD 219 p n a.T)) (.im (codeD 219 p n b.T)) (.im (Wd a.h)) (.im (.int a.e)) (.im (Wd a.d)) (.im (codeD 219 p n c.T)) (.im (.lst ((both37 p (Z.map (·.g)) a.g b.g).map Wd))) (.im (.lst ((wide37 p (Z.map (·.g)) a.g b.g).map Wd))) (.im (.lst (([c1.g]).map Wd))) (.im (.lst (([c2.g]).map Wd))) .no .no .no) = .ok (Wd a.g) (LX37 x0 m p (n : Int) (.im (.tup ((Z.map (·.g)).map Wd))) (.im (Wd a.g)) (.im (Wd b.g)) (.im (codeD 219 p n a.T)) (.im (codeD 219 p n b.T)) (.im (Wd a.h)) (.im (.int a.e)) (.im (Wd a.d)) (.im (codeD 219 p n c.T)) (.im (.lst ((both37 p (Z.map (·.g)) a.g b.g).map Wd))) (.im (.lst ((wide37 p (Z.map (·.g)) a.g b.g).map Wd))) (.im (.lst (([c1.g]).map Wd))) (.im (.lst (([c2.g]).map Wd))) .no .no .no) := varE_im rfl
  have v3 : varE 3 (LX37 x0 m p (n : Int) (.im (.tup ((Z.map (·.g)).map Wd))) (.im (Wd a.g)) (.im (Wd b.g)) (.im (codeD 219 p n a.T)) (.im (codeD 219 p n b.T)) (.im (Wd a.h)) (.im (.int a.e)) (.im (Wd a.d)) (.im (codeD 219 p n c.T)) (.im (.lst ((both37 p (Z.map (·.g)) a.g b.g).map Wd))) (.im (.lst ((wide37 p (Z.map (·.g)) a.g b.g).map Wd))) (.im (.lst (([c1.g]).map Wd))) (.im (.lst (([c2.g]).map Wd))) .no .no .no) = .ok (.int (n : Int)) (LX37 x0 m p (n : Int) (.im (.tup ((Z.map (·.g)).map Wd))) (.im (Wd a.g)) (.im (Wd b.g)) (.im (codeD 219 p n a.T)) (.im (codeD 219 p n b.T)) (.im (Wd a.h)) (.im (.int a.e)) (.im (Wd a.d)) (.im (codeD 219 p n c.T)) (.im (.lst ((both37 p (Z.map (·.g)) a.g b.g).map Wd))) (.im (.lst ((wide37 p (Z.map (·.g)) a.g b.g).map Wd))) (.im (.lst (([c1.g]).map Wd))) (.im (.lst (([c2.g]).map Wd))) .no .no .no) := varE_im rfl
  have k1 : fldO 219 "k" (codeD 219 p n c.T) = some (.int (c.T.length : Int)) := rfl
  have k2 : fldO 219 "k" (codeD 219 p n a.T) = some (.int (a.T.length : Int)) := rfl
  have l5 := lenO_wd a.g
  have s1 : subO (.int (a.g.length : Int)) (.int 1) = some (.int ((a.g.length : Int) - 1)) := rfl
  have s2 : addO (.int (n : Int)) (.int 1) = some (.int ((n : Int) + 1)) := rfl
  have s3 : subO (.int ((n : Int) + 1)) (.int (a.g.length : Int)) = some (.int ((n : Int) + 1 - (a.g.length : Int))) := rfl
  have d1 : decide ((c.T.length : Int) = (a.g.length : Int) - 1) = true := decide_eq_true (by omega)
  have d2 : decide ((a.T.length : Int) = (n : Int) + 1 - (a.g.length : Int)) = true := decide_eq_true (by omega)
  refine ⟨(LX37 x0 m p (n : Int) (.im (.tup ((Z.map (·.g)).map Wd))) (.im (Wd a.g)) (.im (Wd b.g)) (.im (codeD 219 p n a.T)) (.im (codeD 219 p n b.T)) (.im (Wd a.h)) (.im (.int a.e)) (.im (Wd a.d)) (.im (codeD 219 p n c.T)) (.im (.lst ((both37 p (Z.map (·.g)) a.g b.g).map Wd))) (.im (.lst ((wide37 p (Z.map (·.g)) a.g b.g).map Wd))) (.im (.lst (([c1.g]).map Wd))) (.im (.lst (([c2.g]).map Wd))) .no .no .no), ?_⟩
  generalize (LX37 x0 m p (n : Int) (.im (.tup ((Z.map (·.g)).map Wd))) (.im (Wd a.g)) (.im (Wd b.g)) (.im (codeD 219 p n a.T)) (.im (codeD 219 p n b.T)) (.im (Wd a.h)) (.im (.int a.e)) (.im (Wd a.d)) (.im (codeD 219 p n c.T)) (.im (.lst ((both37 p (Z.map (·.g)) a.g b.g).map Wd))) (.im (.lst ((wide37 p (Z.map (·.g)) a.g b.g).map Wd))) (.im (.lst (([c1.g]).map Wd))) (.im (.lst (([c2.g]).map Wd))) .no .no .no) = U at *
  simp only [retS_run, andV_run, fldE_run', op2_run, calE_run, aCons_run, aNil_run, v12, v7, v5, v3, cE_run, R.bind_ok, k1, k2, l5, s1, s2, s3, eqO_int, d1, d2, R.of_some, truO, if_true, R.stmt_ok]
theorem pair37 {CM CR : Addr} {x0 : Sv} {m : List Mo} {p : Int} {n : Nat} {Z : List Rc37} {a b : Rc37} (hp : isP p = true) (hn : n ≤ 12) (hl : Z.length ≤ 100) (F : ∀ c ∈ Z, Fc37 CM CR p n c) (ho : ∀ c ∈ Z, One37 p n Z c) (ht : Two37 p n Z a b) (ha : a ∈ Z) (hb : b ∈ Z) : ∃ S', mid37 219 CM CR (LX37 x0 m p (n : Int) (.im (.tup ((Z.map (·.g)).map Wd))) (.im (Wd a.g)) (.im (Wd b.g)) .no .no .no .no .no .no .no .no .no .no .no .no .no) = .rt (.bl true) S' := by
  obtain ⟨_, _, _, _, _, _, _, h8, c, hc, hc1, hc2, hc3⟩ := ho a ha
  obtain ⟨⟨c1, m1, t1, t2⟩, c2, m2, t3, t4⟩ := ht
  have e6 := k37_6 (x0 := x0) (m := m) (Z := Z) (b := b) (F a ha)
  have e7 := k37_7 (x0 := x0) (m := m) (Z := Z) (a := a) (F b hb)
  have e8 := k37_8 (x0 := x0) (m := m) (Z := Z) (b := b) (F a ha)
  have e9 := (F a ha).f5 x0 m (.im (.tup ((Z.map (·.g)).map Wd))) (.im (Wd a.g)) (.im (Wd b.g)) (.im (codeD 219 p n a.T)) (.im (codeD 219 p n b.T)) .no .no .no .no .no .no .no .no .no .no
  have e10 := (F a ha).f6 x0 m (.im (.tup ((Z.map (·.g)).map Wd))) (.im (Wd a.g)) (.im (Wd b.g)) (.im (codeD 219 p n a.T)) (.im (codeD 219 p n b.T)) .no .no .no .no .no .no .no .no .no
  have e11 := k37_11 (CM := CM) (CR := CR) (x0 := x0) (m := m) (Z := Z) (b := b) hp hn hc2 (ho c hc).2.2.2.2.2.2.1
  have e12 := k37_12 (x0 := x0) (m := m) (Z := Z) (b := b) (F a ha) (F c hc) hc1
  have e13 := k37_13 (x0 := x0) (m := m) (c := c) hp hl ho ha hb
  have e14 := k37_14 (x0 := x0) (m := m) (c := c) hp hl ho ha hb
  have e15 := k37_15 (x0 := x0) (m := m) (n := n) (c := c) (c2 := c2) hl t1
  have e16 := k37_16 (x0 := x0) (m := m) (n := n) (c := c) (c1 := c1) hl t3
  have e17 := k37_17 (x0 := x0) (m := m) (p := p) (n := n) (Z := Z) (a := a) (b := b) (c := c) (c1 := c1) (c2 := c2)
  have e18 := k37_18 (x0 := x0) (m := m) (c := c) hp hn (ho a ha) (ho b hb) (ho c1 m1) (ho c2 m2) (F c1 m1) (F c2 m2) t2 t4
  obtain ⟨S', e19⟩ := k37_19 (x0 := x0) (m := m) (p := p) (n := n) (Z := Z) (a := a) (b := b) (c := c) (c1 := c1) (c2 := c2) hc3 h8
  unfold mid37
  rw [seqS_run, e6, seq_nx, seqS_run, e7, seq_nx, seqS_run, e8, seq_nx, seqS_run, e9, seq_nx, seqS_run, e10, seq_nx, seqS_run, e11, seq_nx, seqS_run, e12, seq_nx, seqS_run, e13, seq_nx, seqS_run, e14, seq_nx, seqS_run, e15, seq_nx, seqS_run, e16, seq_nx, seqS_run, e17, seq_nx, seqS_run, e18, seq_nx]
  exact ⟨S', e19⟩
def r37_2_1_0 : Rc37 := ⟨[1], [[1]], [1, 1], 1, [1, 1]⟩
def r37_2_1_1 : Rc37 := ⟨[1, 1], [], [1], 1, [1]⟩
def Z37_2_1 : List Rc37 := [r37_2_1_0, r37_2_1_1]
theorem f37_2_1_0 (CM CR : Addr) : Fc37 CM CR 2 1 r37_2_1_0 := ⟨by kernel_rfl, by kernel_rfl, by kernel_rfl, by kernel_rfl, by intros; kernel_rfl, by intros; kernel_rfl⟩
theorem f37_2_1_1 (CM CR : Addr) : Fc37 CM CR 2 1 r37_2_1_1 := ⟨by kernel_rfl, by kernel_rfl, by kernel_rfl, by kernel_rfl, by intros; kernel_rfl, by intros; kernel_rfl⟩
theorem F37_2_1 (CM CR : Addr) : ∀ c ∈ Z37_2_1, Fc37 CM CR 2 1 c := fun c hc => by
  unfold Z37_2_1 at hc
  simp only [List.mem_cons, List.not_mem_nil, or_false] at hc
  rcases hc with rfl | rfl
  · exact f37_2_1_0 CM CR
  · exact f37_2_1_1 CM CR
theorem one37_2_1 : ∀ c ∈ Z37_2_1, One37 2 1 Z37_2_1 c := by decide +kernel
theorem two37_2_1 : ∀ a ∈ Z37_2_1, ∀ b ∈ Z37_2_1, Two37 2 1 Z37_2_1 a b := by decide +kernel
theorem div37_2_1 (CM CR : Addr) : Fdivs CM CR [.int 2, .int 1] = .ok (.tup ((Z37_2_1.map (·.g)).map Wd)) := by kernel_rfl
def r37_2_2_0 : Rc37 := ⟨[1], [[1, 0], [0, 1]], [1, 0, 1], 1, [1, 0, 1]⟩
def r37_2_2_1 : Rc37 := ⟨[1, 1], [[1, 1]], [1, 1], 1, [1, 1]⟩
def r37_2_2_2 : Rc37 := ⟨[1, 0, 1], [], [1], 1, [1]⟩
def Z37_2_2 : List Rc37 := [r37_2_2_0, r37_2_2_1, r37_2_2_2]
theorem f37_2_2_0 (CM CR : Addr) : Fc37 CM CR 2 2 r37_2_2_0 := ⟨by kernel_rfl, by kernel_rfl, by kernel_rfl, by kernel_rfl, by intros; kernel_rfl, by intros; kernel_rfl⟩
theorem f37_2_2_1 (CM CR : Addr) : Fc37 CM CR 2 2 r37_2_2_1 := ⟨by kernel_rfl, by kernel_rfl, by kernel_rfl, by kernel_rfl, by intros; kernel_rfl, by intros; kernel_rfl⟩
theorem f37_2_2_2 (CM CR : Addr) : Fc37 CM CR 2 2 r37_2_2_2 := ⟨by kernel_rfl, by kernel_rfl, by kernel_rfl, by kernel_rfl, by intros; kernel_rfl, by intros; kernel_rfl⟩
theorem F37_2_2 (CM CR : Addr) : ∀ c ∈ Z37_2_2, Fc37 CM CR 2 2 c := fun c hc => by
  unfold Z37_2_2 at hc
  simp only [List.mem_cons, List.not_mem_nil, or_false] at hc
  rcases hc with rfl | rfl | rfl
  · exact f37_2_2_0 CM CR
  · exact f37_2_2_1 CM CR
  · exact f37_2_2_2 CM CR
theorem one37_2_2 : ∀ c ∈ Z37_2_2, One37 2 2 Z37_2_2 c := by decide +kernel
theorem two37_2_2 : ∀ a ∈ Z37_2_2, ∀ b ∈ Z37_2_2, Two37 2 2 Z37_2_2 a b := by decide +kernel
theorem div37_2_2 (CM CR : Addr) : Fdivs CM CR [.int 2, .int 2] = .ok (.tup ((Z37_2_2.map (·.g)).map Wd)) := by kernel_rfl
def r37_2_3_0 : Rc37 := ⟨[1], [[1, 0, 0], [0, 1, 0], [0, 0, 1]], [1, 0, 0, 1], 1, [1, 0, 0, 1]⟩
def r37_2_3_1 : Rc37 := ⟨[1, 1], [[1, 0, 1], [0, 1, 1]], [1, 1, 1], 1, [1, 1, 1]⟩
def r37_2_3_2 : Rc37 := ⟨[1, 1, 1], [[1, 1, 1]], [1, 1], 1, [1, 1]⟩
def r37_2_3_3 : Rc37 := ⟨[1, 0, 0, 1], [], [1], 1, [1]⟩
def Z37_2_3 : List Rc37 := [r37_2_3_0, r37_2_3_1, r37_2_3_2, r37_2_3_3]
theorem f37_2_3_0 (CM CR : Addr) : Fc37 CM CR 2 3 r37_2_3_0 := ⟨by kernel_rfl, by kernel_rfl, by kernel_rfl, by kernel_rfl, by intros; kernel_rfl, by intros; kernel_rfl⟩
theorem f37_2_3_1 (CM CR : Addr) : Fc37 CM CR 2 3 r37_2_3_1 := ⟨by kernel_rfl, by kernel_rfl, by kernel_rfl, by kernel_rfl, by intros; kernel_rfl, by intros; kernel_rfl⟩
theorem f37_2_3_2 (CM CR : Addr) : Fc37 CM CR 2 3 r37_2_3_2 := ⟨by kernel_rfl, by kernel_rfl, by kernel_rfl, by kernel_rfl, by intros; kernel_rfl, by intros; kernel_rfl⟩
theorem f37_2_3_3 (CM CR : Addr) : Fc37 CM CR 2 3 r37_2_3_3 := ⟨by kernel_rfl, by kernel_rfl, by kernel_rfl, by kernel_rfl, by intros; kernel_rfl, by intros; kernel_rfl⟩
theorem F37_2_3 (CM CR : Addr) : ∀ c ∈ Z37_2_3, Fc37 CM CR 2 3 c := fun c hc => by
  unfold Z37_2_3 at hc
  simp only [List.mem_cons, List.not_mem_nil, or_false] at hc
  rcases hc with rfl | rfl | rfl | rfl
  · exact f37_2_3_0 CM CR
  · exact f37_2_3_1 CM CR
  · exact f37_2_3_2 CM CR
  · exact f37_2_3_3 CM CR
theorem one37_2_3 : ∀ c ∈ Z37_2_3, One37 2 3 Z37_2_3 c := by decide +kernel
theorem two37_2_3 : ∀ a ∈ Z37_2_3, ∀ b ∈ Z37_2_3, Two37 2 3 Z37_2_3 a b := by decide +kernel
theorem div37_2_3 (CM CR : Addr) : Fdivs CM CR [.int 2, .int 3] = .ok (.tup ((Z37_2_3.map (·.g)).map Wd)) := by kernel_rfl
def r37_2_4_0 : Rc37 := ⟨[1], [[1, 0, 0, 0], [0, 1, 0, 0], [0, 0, 1, 0], [0, 0, 0, 1]], [1, 0, 0, 0, 1], 1, [1, 0, 0, 0, 1]⟩
def r37_2_4_1 : Rc37 := ⟨[1, 1], [[1, 0, 0, 1], [0, 1, 0, 1], [0, 0, 1, 1]], [1, 1, 1, 1], 1, [1, 1, 1, 1]⟩
def r37_2_4_2 : Rc37 := ⟨[1, 0, 1], [[1, 0, 1, 0], [0, 1, 0, 1]], [1, 0, 1], 1, [1, 0, 1]⟩
def r37_2_4_3 : Rc37 := ⟨[1, 1, 1, 1], [[1, 1, 1, 1]], [1, 1], 1, [1, 1]⟩
def r37_2_4_4 : Rc37 := ⟨[1, 0, 0, 0, 1], [], [1], 1, [1]⟩
def Z37_2_4 : List Rc37 := [r37_2_4_0, r37_2_4_1, r37_2_4_2, r37_2_4_3, r37_2_4_4]
theorem f37_2_4_0 (CM CR : Addr) : Fc37 CM CR 2 4 r37_2_4_0 := ⟨by kernel_rfl, by kernel_rfl, by kernel_rfl, by kernel_rfl, by intros; kernel_rfl, by intros; kernel_rfl⟩
theorem f37_2_4_1 (CM CR : Addr) : Fc37 CM CR 2 4 r37_2_4_1 := ⟨by kernel_rfl, by kernel_rfl, by kernel_rfl, by kernel_rfl, by intros; kernel_rfl, by intros; kernel_rfl⟩
theorem f37_2_4_2 (CM CR : Addr) : Fc37 CM CR 2 4 r37_2_4_2 := ⟨by kernel_rfl, by kernel_rfl, by kernel_rfl, by kernel_rfl, by intros; kernel_rfl, by intros; kernel_rfl⟩
theorem f37_2_4_3 (CM CR : Addr) : Fc37 CM CR 2 4 r37_2_4_3 := ⟨by kernel_rfl, by kernel_rfl, by kernel_rfl, by kernel_rfl, by intros; kernel_rfl, by intros; kernel_rfl⟩
theorem f37_2_4_4 (CM CR : Addr) : Fc37 CM CR 2 4 r37_2_4_4 := ⟨by kernel_rfl, by kernel_rfl, by kernel_rfl, by kernel_rfl, by intros; kernel_rfl, by intros; kernel_rfl⟩
theorem F37_2_4 (CM CR : Addr) : ∀ c ∈ Z37_2_4, Fc37 CM CR 2 4 c := fun c hc => by
  unfold Z37_2_4 at hc
  simp only [List.mem_cons, List.not_mem_nil, or_false] at hc
  rcases hc with rfl | rfl | rfl | rfl | rfl
  · exact f37_2_4_0 CM CR
  · exact f37_2_4_1 CM CR
  · exact f37_2_4_2 CM CR
  · exact f37_2_4_3 CM CR
  · exact f37_2_4_4 CM CR
theorem one37_2_4 : ∀ c ∈ Z37_2_4, One37 2 4 Z37_2_4 c := by decide +kernel
theorem two37_2_4 : ∀ a ∈ Z37_2_4, ∀ b ∈ Z37_2_4, Two37 2 4 Z37_2_4 a b := by decide +kernel
theorem div37_2_4 (CM CR : Addr) : Fdivs CM CR [.int 2, .int 4] = .ok (.tup ((Z37_2_4.map (·.g)).map Wd)) := by kernel_rfl
def r37_2_5_0 : Rc37 := ⟨[1], [[1, 0, 0, 0, 0], [0, 1, 0, 0, 0], [0, 0, 1, 0, 0], [0, 0, 0, 1, 0], [0, 0, 0, 0, 1]], [1, 0, 0, 0, 0, 1], 1, [1, 0, 0, 0, 0, 1]⟩
def r37_2_5_1 : Rc37 := ⟨[1, 1], [[1, 0, 0, 0, 1], [0, 1, 0, 0, 1], [0, 0, 1, 0, 1], [0, 0, 0, 1, 1]], [1, 1, 1, 1, 1], 1, [1, 1, 1, 1, 1]⟩
def r37_2_5_2 : Rc37 := ⟨[1, 1, 1, 1, 1], [[1, 1, 1, 1, 1]], [1, 1], 1, [1, 1]⟩
def r37_2_5_3 : Rc37 := ⟨[1, 0, 0, 0, 0, 1], [], [1], 1, [1]⟩
def Z37_2_5 : List Rc37 := [r37_2_5_0, r37_2_5_1, r37_2_5_2, r37_2_5_3]
theorem f37_2_5_0 (CM CR : Addr) : Fc37 CM CR 2 5 r37_2_5_0 := ⟨by kernel_rfl, by kernel_rfl, by kernel_rfl, by kernel_rfl, by intros; kernel_rfl, by intros; kernel_rfl⟩
theorem f37_2_5_1 (CM CR : Addr) : Fc37 CM CR 2 5 r37_2_5_1 := ⟨by kernel_rfl, by kernel_rfl, by kernel_rfl, by kernel_rfl, by intros; kernel_rfl, by intros; kernel_rfl⟩
theorem f37_2_5_2 (CM CR : Addr) : Fc37 CM CR 2 5 r37_2_5_2 := ⟨by kernel_rfl, by kernel_rfl, by kernel_rfl, by kernel_rfl, by intros; kernel_rfl, by intros; kernel_rfl⟩
theorem f37_2_5_3 (CM CR : Addr) : Fc37 CM CR 2 5 r37_2_5_3 := ⟨by kernel_rfl, by kernel_rfl, by kernel_rfl, by kernel_rfl, by intros; kernel_rfl, by intros; kernel_rfl⟩
theorem F37_2_5 (CM CR : Addr) : ∀ c ∈ Z37_2_5, Fc37 CM CR 2 5 c := fun c hc => by
  unfold Z37_2_5 at hc
  simp only [List.mem_cons, List.not_mem_nil, or_false] at hc
  rcases hc with rfl | rfl | rfl | rfl
  · exact f37_2_5_0 CM CR
  · exact f37_2_5_1 CM CR
  · exact f37_2_5_2 CM CR
  · exact f37_2_5_3 CM CR
theorem one37_2_5 : ∀ c ∈ Z37_2_5, One37 2 5 Z37_2_5 c := by decide +kernel
theorem two37_2_5 : ∀ a ∈ Z37_2_5, ∀ b ∈ Z37_2_5, Two37 2 5 Z37_2_5 a b := by decide +kernel
theorem div37_2_5 (CM CR : Addr) : Fdivs CM CR [.int 2, .int 5] = .ok (.tup ((Z37_2_5.map (·.g)).map Wd)) := by kernel_rfl
def r37_2_6_0 : Rc37 := ⟨[1], [[1, 0, 0, 0, 0, 0], [0, 1, 0, 0, 0, 0], [0, 0, 1, 0, 0, 0], [0, 0, 0, 1, 0, 0], [0, 0, 0, 0, 1, 0], [0, 0, 0, 0, 0, 1]], [1, 0, 0, 0, 0, 0, 1], 1, [1, 0, 0, 0, 0, 0, 1]⟩
def r37_2_6_1 : Rc37 := ⟨[1, 1], [[1, 0, 0, 0, 0, 1], [0, 1, 0, 0, 0, 1], [0, 0, 1, 0, 0, 1], [0, 0, 0, 1, 0, 1], [0, 0, 0, 0, 1, 1]], [1, 1, 1, 1, 1, 1], 1, [1, 1, 1, 1, 1, 1]⟩
def r37_2_6_2 : Rc37 := ⟨[1, 0, 1], [[1, 0, 0, 0, 1, 0], [0, 1, 0, 0, 0, 1], [0, 0, 1, 0, 1, 0], [0, 0, 0, 1, 0, 1]], [1, 0, 1, 0, 1], 1, [1, 0, 1, 0, 1]⟩
def r37_2_6_3 : Rc37 := ⟨[1, 1, 1], [[1, 0, 0, 0, 1, 1], [0, 1, 0, 0, 1, 0], [0, 0, 1, 0, 0, 1], [0, 0, 0, 1, 1, 1]], [1, 1, 0, 1, 1], 1, [1, 1, 0, 1, 1]⟩
def r37_2_6_4 : Rc37 := ⟨[1, 0, 0, 1], [[1, 0, 0, 1, 0, 0], [0, 1, 0, 0, 1, 0], [0, 0, 1, 0, 0, 1]], [1, 0, 0, 1], 1, [1, 0, 0, 1]⟩
def r37_2_6_5 : Rc37 := ⟨[1, 0, 1, 0, 1], [[1, 0, 1, 0, 1, 0], [0, 1, 0, 1, 0, 1]], [1, 0, 1], 1, [1, 0, 1]⟩
def r37_2_6_6 : Rc37 := ⟨[1, 1, 0, 1, 1], [[1, 0, 1, 1, 0, 1], [0, 1, 1, 0, 1, 1]], [1, 1, 1], 1, [1, 1, 1]⟩
def r37_2_6_7 : Rc37 := ⟨[1, 1, 1, 1, 1, 1], [[1, 1, 1, 1, 1, 1]], [1, 1], 1, [1, 1]⟩
def r37_2_6_8 : Rc37 := ⟨[1, 0, 0, 0, 0, 0, 1], [], [1], 1, [1]⟩
def Z37_2_6 : List Rc37 := [r37_2_6_0, r37_2_6_1, r37_2_6_2, r37_2_6_3, r37_2_6_4, r37_2_6_5, r37_2_6_6, r37_2_6_7, r37_2_6_8]
theorem f37_2_6_0 (CM CR : Addr) : Fc37 CM CR 2 6 r37_2_6_0 := ⟨by kernel_rfl, by kernel_rfl, by kernel_rfl, by kernel_rfl, by intros; kernel_rfl, by intros; kernel_rfl⟩
theorem f37_2_6_1 (CM CR : Addr) : Fc37 CM CR 2 6 r37_2_6_1 := ⟨by kernel_rfl, by kernel_rfl, by kernel_rfl, by kernel_rfl, by intros; kernel_rfl, by intros; kernel_rfl⟩
theorem f37_2_6_2 (CM CR : Addr) : Fc37 CM CR 2 6 r37_2_6_2 := ⟨by kernel_rfl, by kernel_rfl, by kernel_rfl, by kernel_rfl, by intros; kernel_rfl, by intros; kernel_rfl⟩
theorem f37_2_6_3 (CM CR : Addr) : Fc37 CM CR 2 6 r37_2_6_3 := ⟨by kernel_rfl, by kernel_rfl, by kernel_rfl, by kernel_rfl, by intros; kernel_rfl, by intros; kernel_rfl⟩
theorem f37_2_6_4 (CM CR : Addr) : Fc37 CM CR 2 6 r37_2_6_4 := ⟨by kernel_rfl, by kernel_rfl, by kernel_rfl, by kernel_rfl, by intros; kernel_rfl, by intros; kernel_rfl⟩
theorem f37_2_6_5 (CM CR : Addr) : Fc37 CM CR 2 6 r37_2_6_5 := ⟨by kernel_rfl, by kernel_rfl, by kernel_rfl, by kernel_rfl, by intros; kernel_rfl, by intros; kernel_rfl⟩
theorem f37_2_6_6 (CM CR : Addr) : Fc37 CM CR 2 6 r37_2_6_6 := ⟨by kernel_rfl, by kernel_rfl, by kernel_rfl, by kernel_rfl, by intros; kernel_rfl, by intros; kernel_rfl⟩
theorem f37_2_6_7 (CM CR : Addr) : Fc37 CM CR 2 6 r37_2_6_7 := ⟨by kernel_rfl, by kernel_rfl, by kernel_rfl, by kernel_rfl, by intros; kernel_rfl, by intros; kernel_rfl⟩
theorem f37_2_6_8 (CM CR : Addr) : Fc37 CM CR 2 6 r37_2_6_8 := ⟨by kernel_rfl, by kernel_rfl, by kernel_rfl, by kernel_rfl, by intros; kernel_rfl, by intros; kernel_rfl⟩
theorem F37_2_6 (CM CR : Addr) : ∀ c ∈ Z37_2_6, Fc37 CM CR 2 6 c := fun c hc => by
  unfold Z37_2_6 at hc
  simp only [List.mem_cons, List.not_mem_nil, or_false] at hc
  rcases hc with rfl | rfl | rfl | rfl | rfl | rfl | rfl | rfl | rfl
  · exact f37_2_6_0 CM CR
  · exact f37_2_6_1 CM CR
  · exact f37_2_6_2 CM CR
  · exact f37_2_6_3 CM CR
  · exact f37_2_6_4 CM CR
  · exact f37_2_6_5 CM CR
  · exact f37_2_6_6 CM CR
  · exact f37_2_6_7 CM CR
  · exact f37_2_6_8 CM CR
theorem one37_2_6 : ∀ c ∈ Z37_2_6, One37 2 6 Z37_2_6 c := by decide +kernel
theorem two37_2_6 : ∀ a ∈ Z37_2_6, ∀ b ∈ Z37_2_6, Two37 2 6 Z37_2_6 a b := by decide +kernel
theorem div37_2_6 (CM CR : Addr) : Fdivs CM CR [.int 2, .int 6] = .ok (.tup ((Z37_2_6.map (·.g)).map Wd)) := by kernel_rfl
def r37_3_1_0 : Rc37 := ⟨[1], [[1]], [2, 1], 2, [2, 1]⟩
def r37_3_1_1 : Rc37 := ⟨[2, 1], [], [1], 1, [1]⟩
def Z37_3_1 : List Rc37 := [r37_3_1_0, r37_3_1_1]
theorem f37_3_1_0 (CM CR : Addr) : Fc37 CM CR 3 1 r37_3_1_0 := ⟨by kernel_rfl, by kernel_rfl, by kernel_rfl, by kernel_rfl, by intros; kernel_rfl, by intros; kernel_rfl⟩
theorem f37_3_1_1 (CM CR : Addr) : Fc37 CM CR 3 1 r37_3_1_1 := ⟨by kernel_rfl, by kernel_rfl, by kernel_rfl, by kernel_rfl, by intros; kernel_rfl, by intros; kernel_rfl⟩
theorem F37_3_1 (CM CR : Addr) : ∀ c ∈ Z37_3_1, Fc37 CM CR 3 1 c := fun c hc => by
  unfold Z37_3_1 at hc
  simp only [List.mem_cons, List.not_mem_nil, or_false] at hc
  rcases hc with rfl | rfl
  · exact f37_3_1_0 CM CR
  · exact f37_3_1_1 CM CR
theorem one37_3_1 : ∀ c ∈ Z37_3_1, One37 3 1 Z37_3_1 c := by decide +kernel
theorem two37_3_1 : ∀ a ∈ Z37_3_1, ∀ b ∈ Z37_3_1, Two37 3 1 Z37_3_1 a b := by decide +kernel
theorem div37_3_1 (CM CR : Addr) : Fdivs CM CR [.int 3, .int 1] = .ok (.tup ((Z37_3_1.map (·.g)).map Wd)) := by kernel_rfl
def r37_3_2_0 : Rc37 := ⟨[1], [[1, 0], [0, 1]], [2, 0, 1], 2, [2, 0, 1]⟩
def r37_3_2_1 : Rc37 := ⟨[1, 1], [[1, 1]], [2, 1], 2, [2, 1]⟩
def r37_3_2_2 : Rc37 := ⟨[2, 1], [[1, 2]], [1, 1], 1, [1, 1]⟩
def r37_3_2_3 : Rc37 := ⟨[2, 0, 1], [], [1], 1, [1]⟩
def Z37_3_2 : List Rc37 := [r37_3_2_0, r37_3_2_1, r37_3_2_2, r37_3_2_3]
theorem f37_3_2_0 (CM CR : Addr) : Fc37 CM CR 3 2 r37_3_2_0 := ⟨by kernel_rfl, by kernel_rfl, by kernel_rfl, by kernel_rfl, by intros; kernel_rfl, by intros; kernel_rfl⟩
theorem f37_3_2_1 (CM CR : Addr) : Fc37 CM CR 3 2 r37_3_2_1 := ⟨by kernel_rfl, by kernel_rfl, by kernel_rfl, by kernel_rfl, by intros; kernel_rfl, by intros; kernel_rfl⟩
theorem f37_3_2_2 (CM CR : Addr) : Fc37 CM CR 3 2 r37_3_2_2 := ⟨by kernel_rfl, by kernel_rfl, by kernel_rfl, by kernel_rfl, by intros; kernel_rfl, by intros; kernel_rfl⟩
theorem f37_3_2_3 (CM CR : Addr) : Fc37 CM CR 3 2 r37_3_2_3 := ⟨by kernel_rfl, by kernel_rfl, by kernel_rfl, by kernel_rfl, by intros; kernel_rfl, by intros; kernel_rfl⟩
theorem F37_3_2 (CM CR : Addr) : ∀ c ∈ Z37_3_2, Fc37 CM CR 3 2 c := fun c hc => by
  unfold Z37_3_2 at hc
  simp only [List.mem_cons, List.not_mem_nil, or_false] at hc
  rcases hc with rfl | rfl | rfl | rfl
  · exact f37_3_2_0 CM CR
  · exact f37_3_2_1 CM CR
  · exact f37_3_2_2 CM CR
  · exact f37_3_2_3 CM CR
theorem one37_3_2 : ∀ c ∈ Z37_3_2, One37 3 2 Z37_3_2 c := by decide +kernel
theorem two37_3_2 : ∀ a ∈ Z37_3_2, ∀ b ∈ Z37_3_2, Two37 3 2 Z37_3_2 a b := by decide +kernel
theorem div37_3_2 (CM CR : Addr) : Fdivs CM CR [.int 3, .int 2] = .ok (.tup ((Z37_3_2.map (·.g)).map Wd)) := by kernel_rfl
def r37_3_3_0 : Rc37 := ⟨[1], [[1, 0, 0], [0, 1, 0], [0, 0, 1]], [2, 0, 0, 1], 2, [2, 0, 0, 1]⟩
def r37_3_3_1 : Rc37 := ⟨[2, 1], [[1, 0, 2], [0, 1, 2]], [1, 1, 1], 1, [1, 1, 1]⟩
def r37_3_3_2 : Rc37 := ⟨[1, 1, 1], [[1, 1, 1]], [2, 1], 2, [2, 1]⟩
def r37_3_3_3 : Rc37 := ⟨[2, 0, 0, 1], [], [1], 1, [1]⟩
def Z37_3_3 : List Rc37 := [r37_3_3_0, r37_3_3_1, r37_3_3_2, r37_3_3_3]
theorem f37_3_3_0 (CM CR : Addr) : Fc37 CM CR 3 3 r37_3_3_0 := ⟨by kernel_rfl, by kernel_rfl, by kernel_rfl, by kernel_rfl, by intros; kernel_rfl, by intros; kernel_rfl⟩
theorem f37_3_3_1 (CM CR : Addr) : Fc37 CM CR 3 3 r37_3_3_1 := ⟨by kernel_rfl, by kernel_rfl, by kernel_rfl, by kernel_rfl, by intros; kernel_rfl, by intros; kernel_rfl⟩
theorem f37_3_3_2 (CM CR : Addr) : Fc37 CM CR 3 3 r37_3_3_2 := ⟨by kernel_rfl, by kernel_rfl, by kernel_rfl, by kernel_rfl, by intros; kernel_rfl, by intros; kernel_rfl⟩
theorem f37_3_3_3 (CM CR : Addr) : Fc37 CM CR 3 3 r37_3_3_3 := ⟨by kernel_rfl, by kernel_rfl, by kernel_rfl, by kernel_rfl, by intros; kernel_rfl, by intros; kernel_rfl⟩
theorem F37_3_3 (CM CR : Addr) : ∀ c ∈ Z37_3_3, Fc37 CM CR 3 3 c := fun c hc => by
  unfold Z37_3_3 at hc
  simp only [List.mem_cons, List.not_mem_nil, or_false] at hc
  rcases hc with rfl | rfl | rfl | rfl
  · exact f37_3_3_0 CM CR
  · exact f37_3_3_1 CM CR
  · exact f37_3_3_2 CM CR
  · exact f37_3_3_3 CM CR
theorem one37_3_3 : ∀ c ∈ Z37_3_3, One37 3 3 Z37_3_3 c := by decide +kernel
theorem two37_3_3 : ∀ a ∈ Z37_3_3, ∀ b ∈ Z37_3_3, Two37 3 3 Z37_3_3 a b := by decide +kernel
theorem div37_3_3 (CM CR : Addr) : Fdivs CM CR [.int 3, .int 3] = .ok (.tup ((Z37_3_3.map (·.g)).map Wd)) := by kernel_rfl
def r37_3_4_0 : Rc37 := ⟨[1], [[1, 0, 0, 0], [0, 1, 0, 0], [0, 0, 1, 0], [0, 0, 0, 1]], [2, 0, 0, 0, 1], 2, [2, 0, 0, 0, 1]⟩
def r37_3_4_1 : Rc37 := ⟨[1, 1], [[1, 0, 0, 1], [0, 1, 0, 2], [0, 0, 1, 1]], [2, 1, 2, 1], 2, [2, 1, 2, 1]⟩
def r37_3_4_2 : Rc37 := ⟨[2, 1], [[1, 0, 0, 2], [0, 1, 0, 2], [0, 0, 1, 2]], [1, 1, 1, 1], 1, [1, 1, 1, 1]⟩
def r37_3_4_3 : Rc37 := ⟨[1, 0, 1], [[1, 0, 1, 0], [0, 1, 0, 1]], [2, 0, 1], 2, [2, 0, 1]⟩
def r37_3_4_4 : Rc37 := ⟨[2, 0, 1], [[1, 0, 2, 0], [0, 1, 0, 2]], [1, 0, 1], 1, [1, 0, 1]⟩
def r37_3_4_5 : Rc37 := ⟨[1, 1, 1, 1], [[1, 1, 1, 1]], [2, 1], 2, [2, 1]⟩
def r37_3_4_6 : Rc37 := ⟨[2, 1, 2, 1], [[1, 2, 1, 2]], [1, 1], 1, [1, 1]⟩
def r37_3_4_7 : Rc37 := ⟨[2, 0, 0, 0, 1], [], [1], 1, [1]⟩
def Z37_3_4 : List Rc37 := [r37_3_4_0, r37_3_4_1, r37_3_4_2, r37_3_4_3, r37_3_4_4, r37_3_4_5, r37_3_4_6, r37_3_4_7]
theorem f37_3_4_0 (CM CR : Addr) : Fc37 CM CR 3 4 r37_3_4_0 := ⟨by kernel_rfl, by kernel_rfl, by kernel_rfl, by kernel_rfl, by intros; kernel_rfl, by intros; kernel_rfl⟩
theorem f37_3_4_1 (CM CR : Addr) : Fc37 CM CR 3 4 r37_3_4_1 := ⟨by kernel_rfl, by kernel_rfl, by kernel_rfl, by kernel_rfl, by intros; kernel_rfl, by intros; kernel_rfl⟩
theorem f37_3_4_2 (CM CR : Addr) : Fc37 CM CR 3 4 r37_3_4_2 := ⟨by kernel_rfl, by kernel_rfl, by kernel_rfl, by kernel_rfl, by intros; kernel_rfl, by intros; kernel_rfl⟩
theorem f37_3_4_3 (CM CR : Addr) : Fc37 CM CR 3 4 r37_3_4_3 := ⟨by kernel_rfl, by kernel_rfl, by kernel_rfl, by kernel_rfl, by intros; kernel_rfl, by intros; kernel_rfl⟩
theorem f37_3_4_4 (CM CR : Addr) : Fc37 CM CR 3 4 r37_3_4_4 := ⟨by kernel_rfl, by kernel_rfl, by kernel_rfl, by kernel_rfl, by intros; kernel_rfl, by intros; kernel_rfl⟩
theorem f37_3_4_5 (CM CR : Addr) : Fc37 CM CR 3 4 r37_3_4_5 := ⟨by kernel_rfl, by kernel_rfl, by kernel_rfl, by kernel_rfl, by intros; kernel_rfl, by intros; kernel_rfl⟩
theorem f37_3_4_6 (CM CR : Addr) : Fc37 CM CR 3 4 r37_3_4_6 := ⟨by kernel_rfl, by kernel_rfl, by kernel_rfl, by kernel_rfl, by intros; kernel_rfl, by intros; kernel_rfl⟩
theorem f37_3_4_7 (CM CR : Addr) : Fc37 CM CR 3 4 r37_3_4_7 := ⟨by kernel_rfl, by kernel_rfl, by kernel_rfl, by kernel_rfl, by intros; kernel_rfl, by intros; kernel_rfl⟩
theorem F37_3_4 (CM CR : Addr) : ∀ c ∈ Z37_3_4, Fc37 CM CR 3 4 c := fun c hc => by
  unfold Z37_3_4 at hc
  simp only [List.mem_cons, List.not_mem_nil, or_false] at hc
  rcases hc with rfl | rfl | rfl | rfl | rfl | rfl | rfl | rfl
  · exact f37_3_4_0 CM CR
  · exact f37_3_4_1 CM CR
  · exact f37_3_4_2 CM CR
  · exact f37_3_4_3 CM CR
  · exact f37_3_4_4 CM CR
  · exact f37_3_4_5 CM CR
  · exact f37_3_4_6 CM CR
  · exact f37_3_4_7 CM CR
theorem one37_3_4 : ∀ c ∈ Z37_3_4, One37 3 4 Z37_3_4 c := by decide +kernel
theorem two37_3_4 : ∀ a ∈ Z37_3_4, ∀ b ∈ Z37_3_4, Two37 3 4 Z37_3_4 a b := by decide +kernel
theorem div37_3_4 (CM CR : Addr) : Fdivs CM CR [.int 3, .int 4] = .ok (.tup ((Z37_3_4.map (·.g)).map Wd)) := by kernel_rfl
def r37_5_1_0 : Rc37 := ⟨[1], [[1]], [4, 1], 4, [4, 1]⟩
def r37_5_1_1 : Rc37 := ⟨[4, 1], [], [1], 1, [1]⟩
def Z37_5_1 : List Rc37 := [r37_5_1_0, r37_5_1_1]
theorem f37_5_1_0 (CM CR : Addr) : Fc37 CM CR 5 1 r37_5_1_0 := ⟨by kernel_rfl, by kernel_rfl, by kernel_rfl, by kernel_rfl, by intros; kernel_rfl, by intros; kernel_rfl⟩
theorem f37_5_1_1 (CM CR : Addr) : Fc37 CM CR 5 1 r37_5_1_1 := ⟨by kernel_rfl, by kernel_rfl, by kernel_rfl, by kernel_rfl, by intros; kernel_rfl, by intros; kernel_rfl⟩
theorem F37_5_1 (CM CR : Addr) : ∀ c ∈ Z37_5_1, Fc37 CM CR 5 1 c := fun c hc => by
  unfold Z37_5_1 at hc
  simp only [List.mem_cons, List.not_mem_nil, or_false] at hc
  rcases hc with rfl | rfl
  · exact f37_5_1_0 CM CR
  · exact f37_5_1_1 CM CR
theorem one37_5_1 : ∀ c ∈ Z37_5_1, One37 5 1 Z37_5_1 c := by decide +kernel
theorem two37_5_1 : ∀ a ∈ Z37_5_1, ∀ b ∈ Z37_5_1, Two37 5 1 Z37_5_1 a b := by decide +kernel
theorem div37_5_1 (CM CR : Addr) : Fdivs CM CR [.int 5, .int 1] = .ok (.tup ((Z37_5_1.map (·.g)).map Wd)) := by kernel_rfl
def r37_5_2_0 : Rc37 := ⟨[1], [[1, 0], [0, 1]], [4, 0, 1], 4, [4, 0, 1]⟩
def r37_5_2_1 : Rc37 := ⟨[1, 1], [[1, 1]], [4, 1], 4, [4, 1]⟩
def r37_5_2_2 : Rc37 := ⟨[4, 1], [[1, 4]], [1, 1], 1, [1, 1]⟩
def r37_5_2_3 : Rc37 := ⟨[4, 0, 1], [], [1], 1, [1]⟩
def Z37_5_2 : List Rc37 := [r37_5_2_0, r37_5_2_1, r37_5_2_2, r37_5_2_3]
theorem f37_5_2_0 (CM CR : Addr) : Fc37 CM CR 5 2 r37_5_2_0 := ⟨by kernel_rfl, by kernel_rfl, by kernel_rfl, by kernel_rfl, by intros; kernel_rfl, by intros; kernel_rfl⟩
theorem f37_5_2_1 (CM CR : Addr) : Fc37 CM CR 5 2 r37_5_2_1 := ⟨by kernel_rfl, by kernel_rfl, by kernel_rfl, by kernel_rfl, by intros; kernel_rfl, by intros; kernel_rfl⟩
theorem f37_5_2_2 (CM CR : Addr) : Fc37 CM CR 5 2 r37_5_2_2 := ⟨by kernel_rfl, by kernel_rfl, by kernel_rfl, by kernel_rfl, by intros; kernel_rfl, by intros; kernel_rfl⟩
theorem f37_5_2_3 (CM CR : Addr) : Fc37 CM CR 5 2 r37_5_2_3 := ⟨by kernel_rfl, by kernel_rfl, by kernel_rfl, by kernel_rfl, by intros; kernel_rfl, by intros; kernel_rfl⟩
theorem F37_5_2 (CM CR : Addr) : ∀ c ∈ Z37_5_2, Fc37 CM CR 5 2 c := fun c hc => by
  unfold Z37_5_2 at hc
  simp only [List.mem_cons, List.not_mem_nil, or_false] at hc
  rcases hc with rfl | rfl | rfl | rfl
  · exact f37_5_2_0 CM CR
  · exact f37_5_2_1 CM CR
  · exact f37_5_2_2 CM CR
  · exact f37_5_2_3 CM CR
theorem one37_5_2 : ∀ c ∈ Z37_5_2, One37 5 2 Z37_5_2 c := by decide +kernel
theorem two37_5_2 : ∀ a ∈ Z37_5_2, ∀ b ∈ Z37_5_2, Two37 5 2 Z37_5_2 a b := by decide +kernel
theorem div37_5_2 (CM CR : Addr) : Fdivs CM CR [.int 5, .int 2] = .ok (.tup ((Z37_5_2.map (·.g)).map Wd)) := by kernel_rfl
def r37_5_3_0 : Rc37 := ⟨[1], [[1, 0, 0], [0, 1, 0], [0, 0, 1]], [4, 0, 0, 1], 4, [4, 0, 0, 1]⟩
def r37_5_3_1 : Rc37 := ⟨[4, 1], [[1, 0, 4], [0, 1, 4]], [1, 1, 1], 1, [1, 1, 1]⟩
def r37_5_3_2 : Rc37 := ⟨[1, 1, 1], [[1, 1, 1]], [4, 1], 4, [4, 1]⟩
def r37_5_3_3 : Rc37 := ⟨[4, 0, 0, 1], [], [1], 1, [1]⟩
def Z37_5_3 : List Rc37 := [r37_5_3_0, r37_5_3_1, r37_5_3_2, r37_5_3_3]
theorem f37_5_3_0 (CM CR : Addr) : Fc37 CM CR 5 3 r37_5_3_0 := ⟨by kernel_rfl, by kernel_rfl, by kernel_rfl, by kernel_rfl, by intros; kernel_rfl, by intros; kernel_rfl⟩
theorem f37_5_3_1 (CM CR : Addr) : Fc37 CM CR 5 3 r37_5_3_1 := ⟨by kernel_rfl, by kernel_rfl, by kernel_rfl, by kernel_rfl, by intros; kernel_rfl, by intros; kernel_rfl⟩
theorem f37_5_3_2 (CM CR : Addr) : Fc37 CM CR 5 3 r37_5_3_2 := ⟨by kernel_rfl, by kernel_rfl, by kernel_rfl, by kernel_rfl, by intros; kernel_rfl, by intros; kernel_rfl⟩
theorem f37_5_3_3 (CM CR : Addr) : Fc37 CM CR 5 3 r37_5_3_3 := ⟨by kernel_rfl, by kernel_rfl, by kernel_rfl, by kernel_rfl, by intros; kernel_rfl, by intros; kernel_rfl⟩
theorem F37_5_3 (CM CR : Addr) : ∀ c ∈ Z37_5_3, Fc37 CM CR 5 3 c := fun c hc => by
  unfold Z37_5_3 at hc
  simp only [List.mem_cons, List.not_mem_nil, or_false] at hc
  rcases hc with rfl | rfl | rfl | rfl
  · exact f37_5_3_0 CM CR
  · exact f37_5_3_1 CM CR
  · exact f37_5_3_2 CM CR
  · exact f37_5_3_3 CM CR
theorem one37_5_3 : ∀ c ∈ Z37_5_3, One37 5 3 Z37_5_3 c := by decide +kernel
theorem two37_5_3 : ∀ a ∈ Z37_5_3, ∀ b ∈ Z37_5_3, Two37 5 3 Z37_5_3 a b := by decide +kernel
theorem div37_5_3 (CM CR : Addr) : Fdivs CM CR [.int 5, .int 3] = .ok (.tup ((Z37_5_3.map (·.g)).map Wd)) := by kernel_rfl
def r37_7_1_0 : Rc37 := ⟨[1], [[1]], [6, 1], 6, [6, 1]⟩
def r37_7_1_1 : Rc37 := ⟨[6, 1], [], [1], 1, [1]⟩
def Z37_7_1 : List Rc37 := [r37_7_1_0, r37_7_1_1]
theorem f37_7_1_0 (CM CR : Addr) : Fc37 CM CR 7 1 r37_7_1_0 := ⟨by kernel_rfl, by kernel_rfl, by kernel_rfl, by kernel_rfl, by intros; kernel_rfl, by intros; kernel_rfl⟩
theorem f37_7_1_1 (CM CR : Addr) : Fc37 CM CR 7 1 r37_7_1_1 := ⟨by kernel_rfl, by kernel_rfl, by kernel_rfl, by kernel_rfl, by intros; kernel_rfl, by intros; kernel_rfl⟩
theorem F37_7_1 (CM CR : Addr) : ∀ c ∈ Z37_7_1, Fc37 CM CR 7 1 c := fun c hc => by
  unfold Z37_7_1 at hc
  simp only [List.mem_cons, List.not_mem_nil, or_false] at hc
  rcases hc with rfl | rfl
  · exact f37_7_1_0 CM CR
  · exact f37_7_1_1 CM CR
theorem one37_7_1 : ∀ c ∈ Z37_7_1, One37 7 1 Z37_7_1 c := by decide +kernel
theorem two37_7_1 : ∀ a ∈ Z37_7_1, ∀ b ∈ Z37_7_1, Two37 7 1 Z37_7_1 a b := by decide +kernel
theorem div37_7_1 (CM CR : Addr) : Fdivs CM CR [.int 7, .int 1] = .ok (.tup ((Z37_7_1.map (·.g)).map Wd)) := by kernel_rfl
def r37_7_2_0 : Rc37 := ⟨[1], [[1, 0], [0, 1]], [6, 0, 1], 6, [6, 0, 1]⟩
def r37_7_2_1 : Rc37 := ⟨[1, 1], [[1, 1]], [6, 1], 6, [6, 1]⟩
def r37_7_2_2 : Rc37 := ⟨[6, 1], [[1, 6]], [1, 1], 1, [1, 1]⟩
def r37_7_2_3 : Rc37 := ⟨[6, 0, 1], [], [1], 1, [1]⟩
def Z37_7_2 : List Rc37 := [r37_7_2_0, r37_7_2_1, r37_7_2_2, r37_7_2_3]
theorem f37_7_2_0 (CM CR : Addr) : Fc37 CM CR 7 2 r37_7_2_0 := ⟨by kernel_rfl, by kernel_rfl, by kernel_rfl, by kernel_rfl, by intros; kernel_rfl, by intros; kernel_rfl⟩
theorem f37_7_2_1 (CM CR : Addr) : Fc37 CM CR 7 2 r37_7_2_1 := ⟨by kernel_rfl, by kernel_rfl, by kernel_rfl, by kernel_rfl, by intros; kernel_rfl, by intros; kernel_rfl⟩
theorem f37_7_2_2 (CM CR : Addr) : Fc37 CM CR 7 2 r37_7_2_2 := ⟨by kernel_rfl, by kernel_rfl, by kernel_rfl, by kernel_rfl, by intros; kernel_rfl, by intros; kernel_rfl⟩
theorem f37_7_2_3 (CM CR : Addr) : Fc37 CM CR 7 2 r37_7_2_3 := ⟨by kernel_rfl, by kernel_rfl, by kernel_rfl, by kernel_rfl, by intros; kernel_rfl, by intros; kernel_rfl⟩
theorem F37_7_2 (CM CR : Addr) : ∀ c ∈ Z37_7_2, Fc37 CM CR 7 2 c := fun c hc => by
  unfold Z37_7_2 at hc
  simp only [List.mem_cons, List.not_mem_nil, or_false] at hc
  rcases hc with rfl | rfl | rfl | rfl
  · exact f37_7_2_0 CM CR
  · exact f37_7_2_1 CM CR
  · exact f37_7_2_2 CM CR
  · exact f37_7_2_3 CM CR
theorem one37_7_2 : ∀ c ∈ Z37_7_2, One37 7 2 Z37_7_2 c := by decide +kernel
theorem two37_7_2 : ∀ a ∈ Z37_7_2, ∀ b ∈ Z37_7_2, Two37 7 2 Z37_7_2 a b := by decide +kernel
theorem div37_7_2 (CM CR : Addr) : Fdivs CM CR [.int 7, .int 2] = .ok (.tup ((Z37_7_2.map (·.g)).map Wd)) := by kernel_rfl
def r37_7_3_0 : Rc37 := ⟨[1], [[1, 0, 0], [0, 1, 0], [0, 0, 1]], [6, 0, 0, 1], 6, [6, 0, 0, 1]⟩
def r37_7_3_1 : Rc37 := ⟨[3, 1], [[1, 0, 3], [0, 1, 5]], [2, 4, 1], 4, [4, 2, 1]⟩
def r37_7_3_2 : Rc37 := ⟨[5, 1], [[1, 0, 5], [0, 1, 3]], [4, 2, 1], 2, [2, 4, 1]⟩
def r37_7_3_3 : Rc37 := ⟨[6, 1], [[1, 0, 6], [0, 1, 6]], [1, 1, 1], 1, [1, 1, 1]⟩
def r37_7_3_4 : Rc37 := ⟨[1, 1, 1], [[1, 1, 1]], [6, 1], 6, [6, 1]⟩
def r37_7_3_5 : Rc37 := ⟨[2, 4, 1], [[1, 2, 4]], [3, 1], 5, [5, 1]⟩
def r37_7_3_6 : Rc37 := ⟨[4, 2, 1], [[1, 4, 2]], [5, 1], 3, [3, 1]⟩
def r37_7_3_7 : Rc37 := ⟨[6, 0, 0, 1], [], [1], 1, [1]⟩
def Z37_7_3 : List Rc37 := [r37_7_3_0, r37_7_3_1, r37_7_3_2, r37_7_3_3, r37_7_3_4, r37_7_3_5, r37_7_3_6, r37_7_3_7]
theorem f37_7_3_0 (CM CR : Addr) : Fc37 CM CR 7 3 r37_7_3_0 := ⟨by kernel_rfl, by kernel_rfl, by kernel_rfl, by kernel_rfl, by intros; kernel_rfl, by intros; kernel_rfl⟩
theorem f37_7_3_1 (CM CR : Addr) : Fc37 CM CR 7 3 r37_7_3_1 := ⟨by kernel_rfl, by kernel_rfl, by kernel_rfl, by kernel_rfl, by intros; kernel_rfl, by intros; kernel_rfl⟩
theorem f37_7_3_2 (CM CR : Addr) : Fc37 CM CR 7 3 r37_7_3_2 := ⟨by kernel_rfl, by kernel_rfl, by kernel_rfl, by kernel_rfl, by intros; kernel_rfl, by intros; kernel_rfl⟩
theorem f37_7_3_3 (CM CR : Addr) : Fc37 CM CR 7 3 r37_7_3_3 := ⟨by kernel_rfl, by kernel_rfl, by kernel_rfl, by kernel_rfl, by intros; kernel_rfl, by intros; kernel_rfl⟩
theorem f37_7_3_4 (CM CR : Addr) : Fc37 CM CR 7 3 r37_7_3_4 := ⟨by kernel_rfl, by kernel_rfl, by kernel_rfl, by kernel_rfl, by intros; kernel_rfl, by intros; kernel_rfl⟩
theorem f37_7_3_5 (CM CR : Addr) : Fc37 CM CR 7 3 r37_7_3_5 := ⟨by kernel_rfl, by kernel_rfl, by kernel_rfl, by kernel_rfl, by intros; kernel_rfl, by intros; kernel_rfl⟩
theorem f37_7_3_6 (CM CR : Addr) : Fc37 CM CR 7 3 r37_7_3_6 := ⟨by kernel_rfl, by kernel_rfl, by kernel_rfl, by kernel_rfl, by intros; kernel_rfl, by intros; kernel_rfl⟩
theorem f37_7_3_7 (CM CR : Addr) : Fc37 CM CR 7 3 r37_7_3_7 := ⟨by kernel_rfl, by kernel_rfl, by kernel_rfl, by kernel_rfl, by intros; kernel_rfl, by intros; kernel_rfl⟩
theorem F37_7_3 (CM CR : Addr) : ∀ c ∈ Z37_7_3, Fc37 CM CR 7 3 c := fun c hc => by
  unfold Z37_7_3 at hc
  simp only [List.mem_cons, List.not_mem_nil, or_false] at hc
  rcases hc with rfl | rfl | rfl | rfl | rfl | rfl | rfl | rfl
  · exact f37_7_3_0 CM CR
  · exact f37_7_3_1 CM CR
  · exact f37_7_3_2 CM CR
  · exact f37_7_3_3 CM CR
  · exact f37_7_3_4 CM CR
  · exact f37_7_3_5 CM CR
  · exact f37_7_3_6 CM CR
  · exact f37_7_3_7 CM CR
theorem one37_7_3 : ∀ c ∈ Z37_7_3, One37 7 3 Z37_7_3 c := by decide +kernel
theorem two37_7_3 : ∀ a ∈ Z37_7_3, ∀ b ∈ Z37_7_3, Two37 7 3 Z37_7_3 a b := by decide +kernel
theorem div37_7_3 (CM CR : Addr) : Fdivs CM CR [.int 7, .int 3] = .ok (.tup ((Z37_7_3.map (·.g)).map Wd)) := by kernel_rfl
theorem k37_0 {ss : List Int} (h : ss.length ≤ 63) : (asgN 1 (funN 1 (aCons (varE 0) aNil) Fstate)) (st0 20 [scrD ss]) = .nx (LY37 (.im (scrD ss)) [.ob (.ls (stD (stL ss)))] .no .no) := by
  have hf := Fstate_run h
  have hst : st0 20 [scrD ss] = { sl := [.im (scrD ss), .no, .no, .no, .no, .no, .no, .no, .no, .no, .no, .no, .no, .no, .no, .no, .no, .no, .no, .no], mo := [] } := rfl
  rw [hst]
  simp [funN, hf, LY37]
theorem k37_1 {ss : List Int} {q : Int × Int} : ∃ p q', isP p = true ∧ (asgS 2 (funM 0 1 aNil Fprime)) (LY37 (.im (scrD ss)) [.ob (.ls (stD q))] .no .no) = .nx (LY37 (.im (scrD ss)) [.ob (.ls (stD q'))] (.im (.int p)) .no) := by
  have hf : Fprime (stD q) [] = .ok (.int (primeF q)) (stD (takeF 6 q).2) := rfl
  refine ⟨primeF q, (takeF 6 q).2, prime_isP37 q, ?_⟩
  simp [LY37, funM, muAt, hf]
theorem k37_2_2 {ss : List Int} {q : Int × Int} : ∃ (n : Nat) (q' : Int × Int), 1 ≤ n ∧ n ≤ 6 ∧ (asgS 3 (op2 (cE (.int 1)) (funM 1 1 (aCons (op2 (frz (lstE (aCons (cE (.int 0)) (aCons (cE (.int 0)) (aCons (cE (.int 6)) (aCons (cE (.int 4)) (aCons (cE (.int 0)) (aCons (cE (.int 3)) (aCons (cE (.int 0)) (aCons (cE (.int 3)) aNil)))))))))) (varE 2) ixO) aNil) Ftake) addO)) (LY37 (.im (scrD ss)) [.ob (.ls (stD q))] (.im (.int 2)) .no) = .nx (LY37 (.im (scrD ss)) [.ob (.ls (stD q'))] (.im (.int 2)) (.im (.int (n : Int)))) := by
  have hf := Ftake_run (m := 6) q (by decide)
  have hr := takeF_range (m := 6) (by decide) q
  generalize takeF 6 q = u at *
  obtain ⟨v, q'⟩ := u
  dsimp only at hf hr
  obtain ⟨k, rfl⟩ := Int.eq_ofNat_of_zero_le hr.1
  refine ⟨1 + k, q', by omega, by omega, ?_⟩
  have hb : (op2 (frz (lstE (aCons (cE (.int 0)) (aCons (cE (.int 0)) (aCons (cE (.int 6)) (aCons (cE (.int 4)) (aCons (cE (.int 0)) (aCons (cE (.int 3)) (aCons (cE (.int 0)) (aCons (cE (.int 3)) aNil)))))))))) (varE 2) ixO) (LY37 (.im (scrD ss)) [.ob (.ls (stD q))] (.im (.int 2)) .no) = .ok (.int 6) (LY37 (.im (scrD ss)) [.ob (.ls (stD q))] (.im (.int 2)) .no) := rfl
  have hm : funM 1 1 (aCons (op2 (frz (lstE (aCons (cE (.int 0)) (aCons (cE (.int 0)) (aCons (cE (.int 6)) (aCons (cE (.int 4)) (aCons (cE (.int 0)) (aCons (cE (.int 3)) (aCons (cE (.int 0)) (aCons (cE (.int 3)) aNil)))))))))) (varE 2) ixO) aNil) Ftake (LY37 (.im (scrD ss)) [.ob (.ls (stD q))] (.im (.int 2)) .no) = .ok (.int (k : Int)) (LY37 (.im (scrD ss)) [.ob (.ls (stD q'))] (.im (.int 2)) .no) := by
    unfold funM
    rw [aCons_run, hb]
    simp [LY37, muAt, hf]
  have ha : addO (.int 1) (.int (k : Int)) = some (.int ((1 + k : Nat) : Int)) := by
    rw [show ((1 + k : Nat) : Int) = 1 + (k : Int) by omega]
    rfl
  rw [asgS_run', op2_run, cE_run, R.bind_ok, hm, R.bind_ok, ha]
  rfl
theorem k37_2_3 {ss : List Int} {q : Int × Int} : ∃ (n : Nat) (q' : Int × Int), 1 ≤ n ∧ n ≤ 4 ∧ (asgS 3 (op2 (cE (.int 1)) (funM 1 1 (aCons (op2 (frz (lstE (aCons (cE (.int 0)) (aCons (cE (.int 0)) (aCons (cE (.int 6)) (aCons (cE (.int 4)) (aCons (cE (.int 0)) (aCons (cE (.int 3)) (aCons (cE (.int 0)) (aCons (cE (.int 3)) aNil)))))))))) (varE 2) ixO) aNil) Ftake) addO)) (LY37 (.im (scrD ss)) [.ob (.ls (stD q))] (.im (.int 3)) .no) = .nx (LY37 (.im (scrD ss)) [.ob (.ls (stD q'))] (.im (.int 3)) (.im (.int (n : Int)))) := by
  have hf := Ftake_run (m := 4) q (by decide)
  have hr := takeF_range (m := 4) (by decide) q
  generalize takeF 4 q = u at *
  obtain ⟨v, q'⟩ := u
  dsimp only at hf hr
  obtain ⟨k, rfl⟩ := Int.eq_ofNat_of_zero_le hr.1
  refine ⟨1 + k, q', by omega, by omega, ?_⟩
  have hb : (op2 (frz (lstE (aCons (cE (.int 0)) (aCons (cE (.int 0)) (aCons (cE (.int 6)) (aCons (cE (.int 4)) (aCons (cE (.int 0)) (aCons (cE (.int 3)) (aCons (cE (.int 0)) (aCons (cE (.int 3)) aNil)))))))))) (varE 2) ixO) (LY37 (.im (scrD ss)) [.ob (.ls (stD q))] (.im (.int 3)) .no) = .ok (.int 4) (LY37 (.im (scrD ss)) [.ob (.ls (stD q))] (.im (.int 3)) .no) := rfl
  have hm : funM 1 1 (aCons (op2 (frz (lstE (aCons (cE (.int 0)) (aCons (cE (.int 0)) (aCons (cE (.int 6)) (aCons (cE (.int 4)) (aCons (cE (.int 0)) (aCons (cE (.int 3)) (aCons (cE (.int 0)) (aCons (cE (.int 3)) aNil)))))))))) (varE 2) ixO) aNil) Ftake (LY37 (.im (scrD ss)) [.ob (.ls (stD q))] (.im (.int 3)) .no) = .ok (.int (k : Int)) (LY37 (.im (scrD ss)) [.ob (.ls (stD q'))] (.im (.int 3)) .no) := by
    unfold funM
    rw [aCons_run, hb]
    simp [LY37, muAt, hf]
  have ha : addO (.int 1) (.int (k : Int)) = some (.int ((1 + k : Nat) : Int)) := by
    rw [show ((1 + k : Nat) : Int) = 1 + (k : Int) by omega]
    rfl
  rw [asgS_run', op2_run, cE_run, R.bind_ok, hm, R.bind_ok, ha]
  rfl
theorem k37_2_5 {ss : List Int} {q : Int × Int} : ∃ (n : Nat) (q' : Int × Int), 1 ≤ n ∧ n ≤ 3 ∧ (asgS 3 (op2 (cE (.int 1)) (funM 1 1 (aCons (op2 (frz (lstE (aCons (cE (.int 0)) (aCons (cE (.int 0)) (aCons (cE (.int 6)) (aCons (cE (.int 4)) (aCons (cE (.int 0)) (aCons (cE (.int 3)) (aCons (cE (.int 0)) (aCons (cE (.int 3)) aNil)))))))))) (varE 2) ixO) aNil) Ftake) addO)) (LY37 (.im (scrD ss)) [.ob (.ls (stD q))] (.im (.int 5)) .no) = .nx (LY37 (.im (scrD ss)) [.ob (.ls (stD q'))] (.im (.int 5)) (.im (.int (n : Int)))) := by
  have hf := Ftake_run (m := 3) q (by decide)
  have hr := takeF_range (m := 3) (by decide) q
  generalize takeF 3 q = u at *
  obtain ⟨v, q'⟩ := u
  dsimp only at hf hr
  obtain ⟨k, rfl⟩ := Int.eq_ofNat_of_zero_le hr.1
  refine ⟨1 + k, q', by omega, by omega, ?_⟩
  have hb : (op2 (frz (lstE (aCons (cE (.int 0)) (aCons (cE (.int 0)) (aCons (cE (.int 6)) (aCons (cE (.int 4)) (aCons (cE (.int 0)) (aCons (cE (.int 3)) (aCons (cE (.int 0)) (aCons (cE (.int 3)) aNil)))))))))) (varE 2) ixO) (LY37 (.im (scrD ss)) [.ob (.ls (stD q))] (.im (.int 5)) .no) = .ok (.int 3) (LY37 (.im (scrD ss)) [.ob (.ls (stD q))] (.im (.int 5)) .no) := rfl
  have hm : funM 1 1 (aCons (op2 (frz (lstE (aCons (cE (.int 0)) (aCons (cE (.int 0)) (aCons (cE (.int 6)) (aCons (cE (.int 4)) (aCons (cE (.int 0)) (aCons (cE (.int 3)) (aCons (cE (.int 0)) (aCons (cE (.int 3)) aNil)))))))))) (varE 2) ixO) aNil) Ftake (LY37 (.im (scrD ss)) [.ob (.ls (stD q))] (.im (.int 5)) .no) = .ok (.int (k : Int)) (LY37 (.im (scrD ss)) [.ob (.ls (stD q'))] (.im (.int 5)) .no) := by
    unfold funM
    rw [aCons_run, hb]
    simp [LY37, muAt, hf]
  have ha : addO (.int 1) (.int (k : Int)) = some (.int ((1 + k : Nat) : Int)) := by
    rw [show ((1 + k : Nat) : Int) = 1 + (k : Int) by omega]
    rfl
  rw [asgS_run', op2_run, cE_run, R.bind_ok, hm, R.bind_ok, ha]
  rfl
theorem k37_2_7 {ss : List Int} {q : Int × Int} : ∃ (n : Nat) (q' : Int × Int), 1 ≤ n ∧ n ≤ 3 ∧ (asgS 3 (op2 (cE (.int 1)) (funM 1 1 (aCons (op2 (frz (lstE (aCons (cE (.int 0)) (aCons (cE (.int 0)) (aCons (cE (.int 6)) (aCons (cE (.int 4)) (aCons (cE (.int 0)) (aCons (cE (.int 3)) (aCons (cE (.int 0)) (aCons (cE (.int 3)) aNil)))))))))) (varE 2) ixO) aNil) Ftake) addO)) (LY37 (.im (scrD ss)) [.ob (.ls (stD q))] (.im (.int 7)) .no) = .nx (LY37 (.im (scrD ss)) [.ob (.ls (stD q'))] (.im (.int 7)) (.im (.int (n : Int)))) := by
  have hf := Ftake_run (m := 3) q (by decide)
  have hr := takeF_range (m := 3) (by decide) q
  generalize takeF 3 q = u at *
  obtain ⟨v, q'⟩ := u
  dsimp only at hf hr
  obtain ⟨k, rfl⟩ := Int.eq_ofNat_of_zero_le hr.1
  refine ⟨1 + k, q', by omega, by omega, ?_⟩
  have hb : (op2 (frz (lstE (aCons (cE (.int 0)) (aCons (cE (.int 0)) (aCons (cE (.int 6)) (aCons (cE (.int 4)) (aCons (cE (.int 0)) (aCons (cE (.int 3)) (aCons (cE (.int 0)) (aCons (cE (.int 3)) aNil)))))))))) (varE 2) ixO) (LY37 (.im (scrD ss)) [.ob (.ls (stD q))] (.im (.int 7)) .no) = .ok (.int 3) (LY37 (.im (scrD ss)) [.ob (.ls (stD q))] (.im (.int 7)) .no) := rfl
  have hm : funM 1 1 (aCons (op2 (frz (lstE (aCons (cE (.int 0)) (aCons (cE (.int 0)) (aCons (cE (.int 6)) (aCons (cE (.int 4)) (aCons (cE (.int 0)) (aCons (cE (.int 3)) (aCons (cE (.int 0)) (aCons (cE (.int 3)) aNil)))))))))) (varE 2) ixO) aNil) Ftake (LY37 (.im (scrD ss)) [.ob (.ls (stD q))] (.im (.int 7)) .no) = .ok (.int (k : Int)) (LY37 (.im (scrD ss)) [.ob (.ls (stD q'))] (.im (.int 7)) .no) := by
    unfold funM
    rw [aCons_run, hb]
    simp [LY37, muAt, hf]
  have ha : addO (.int 1) (.int (k : Int)) = some (.int ((1 + k : Nat) : Int)) := by
    rw [show ((1 + k : Nat) : Int) = 1 + (k : Int) by omega]
    rfl
  rw [asgS_run', op2_run, cE_run, R.bind_ok, hm, R.bind_ok, ha]
  rfl
theorem k37_3 {CM CR : Addr} {ss : List Int} {q : Int × Int} {p : Int} {n : Nat} {Z : List Rc37} (hd : Fdivs CM CR [.int p, .int (n : Int)] = .ok (.tup ((Z.map (·.g)).map Wd))) : (asgS 4 (funE 2 (aCons (varE 2) (aCons (varE 3) aNil)) (Fdivs CM CR))) (LY37 (.im (scrD ss)) [.ob (.ls (stD q))] (.im (.int p)) (.im (.int (n : Int)))) = .nx (LX37 (.im (scrD ss)) [.ob (.ls (stD q))] p (n : Int) (.im (.tup ((Z.map (·.g)).map Wd))) .no .no .no .no .no .no .no .no .no .no .no .no .no .no .no) := by
  have v2 : varE 2 (LY37 (.im (scrD ss)) [.ob (.ls (stD q))] (.im (.int p)) (.im (.int (n : Int)))) = .ok (.int p) (LY37 (.im (scrD ss)) [.ob (.ls (stD q))] (.im (.int p)) (.im (.int (n : Int)))) := varE_im rfl
  have v3 : varE 3 (LY37 (.im (scrD ss)) [.ob (.ls (stD q))] (.im (.int p)) (.im (.int (n : Int)))) = .ok (.int (n : Int)) (LY37 (.im (scrD ss)) [.ob (.ls (stD q))] (.im (.int p)) (.im (.int (n : Int)))) := varE_im rfl
  have : funE 2 (aCons (varE 2) (aCons (varE 3) aNil)) (Fdivs CM CR) (LY37 (.im (scrD ss)) [.ob (.ls (stD q))] (.im (.int p)) (.im (.int (n : Int)))) = .ok (.tup ((Z.map (·.g)).map Wd)) (LY37 (.im (scrD ss)) [.ob (.ls (stD q))] (.im (.int p)) (.im (.int (n : Int)))) := by
    generalize (LY37 (.im (scrD ss)) [.ob (.ls (stD q))] (.im (.int p)) (.im (.int (n : Int)))) = U at *
    simp only [funE_run, aCons_run, aNil_run, v2, v3, R.bind_ok, List.length_cons, List.length_nil, Nat.zero_add, Nat.reduceAdd, if_true, hd]
  rw [asgS_run', this]
  rfl
theorem k37_4 {ss : List Int} {q : Int × Int} {p : Int} {n : Nat} {Z : List Rc37} (h0 : 0 < Z.length) (hl : Z.length ≤ 100) : ∃ a q', a ∈ Z ∧ (asgS 5 (op2 (varE 4) (funM 1 1 (aCons (calE (aCons (varE 4) aNil) lenO) aNil) Ftake) ixO)) (LX37 (.im (scrD ss)) [.ob (.ls (stD q))] p (n : Int) (.im (.tup ((Z.map (·.g)).map Wd))) .no .no .no .no .no .no .no .no .no .no .no .no .no .no .no) = .nx (LX37 (.im (scrD ss)) [.ob (.ls (stD q'))] p (n : Int) (.im (.tup ((Z.map (·.g)).map Wd))) (.im (Wd a.g)) .no .no .no .no .no .no .no .no .no .no .no .no .no .no) := by
  have hf := Ftake_run (m := (Z.length : Int)) q (by omega)
  have hr := takeF_range (m := (Z.length : Int)) (by omega) q
  generalize takeF (Z.length : Int) q = u at *
  obtain ⟨v, q'⟩ := u
  dsimp only at hf hr
  obtain ⟨k, rfl⟩ := Int.eq_ofNat_of_zero_le hr.1
  have hk : k < Z.length := by omega
  refine ⟨Z[k], q', List.getElem_mem hk, ?_⟩
  have v4 : varE 4 (LX37 (.im (scrD ss)) [.ob (.ls (stD q))] p (n : Int) (.im (.tup ((Z.map (·.g)).map Wd))) .no .no .no .no .no .no .no .no .no .no .no .no .no .no .no) = .ok (.tup ((Z.map (·.g)).map Wd)) (LX37 (.im (scrD ss)) [.ob (.ls (stD q))] p (n : Int) (.im (.tup ((Z.map (·.g)).map Wd))) .no .no .no .no .no .no .no .no .no .no .no .no .no .no .no) := varE_im rfl
  have hln : lenO [.tup ((Z.map (·.g)).map Wd)] = some (.int (Z.length : Int)) := by rw [lenO_tup]; simp
  have hm : funM 1 1 (aCons (calE (aCons (varE 4) aNil) lenO) aNil) Ftake (LX37 (.im (scrD ss)) [.ob (.ls (stD q))] p (n : Int) (.im (.tup ((Z.map (·.g)).map Wd))) .no .no .no .no .no .no .no .no .no .no .no .no .no .no .no) = .ok (.int (k : Int)) (LX37 (.im (scrD ss)) [.ob (.ls (stD q'))] p (n : Int) (.im (.tup ((Z.map (·.g)).map Wd))) .no .no .no .no .no .no .no .no .no .no .no .no .no .no .no) := by
    unfold funM
    rw [aCons_run, calE_run, aCons_run, v4]
    simp only [R.bind_ok, aNil_run, hln, R.of_some]
    simp [LX37, muAt, hf]
  have hx : ixO (.tup ((Z.map (·.g)).map Wd)) (.int (k : Int)) = some (Wd Z[k].g) := by
    rw [ixO_tup, atI_ofNat]
    simp [hk]
  rw [asgS_run', op2_run, v4, R.bind_ok, hm, R.bind_ok, hx]
  rfl
theorem k37_5 {ss : List Int} {q : Int × Int} {p : Int} {n : Nat} {Z : List Rc37} {b : Rc37} (h0 : 0 < Z.length) (hl : Z.length ≤ 100) : ∃ a q', a ∈ Z ∧ (asgS 6 (op2 (varE 4) (funM 1 1 (aCons (calE (aCons (varE 4) aNil) lenO) aNil) Ftake) ixO)) (LX37 (.im (scrD ss)) [.ob (.ls (stD q))] p (n : Int) (.im (.tup ((Z.map (·.g)).map Wd))) (.im (Wd b.g)) .no .no .no .no .no .no .no .no .no .no .no .no .no .no) = .nx (LX37 (.im (scrD ss)) [.ob (.ls (stD q'))] p (n : Int) (.im (.tup ((Z.map (·.g)).map Wd))) (.im (Wd b.g)) (.im (Wd a.g)) .no .no .no .no .no .no .no .no .no .no .no .no .no) := by
  have hf := Ftake_run (m := (Z.length : Int)) q (by omega)
  have hr := takeF_range (m := (Z.length : Int)) (by omega) q
  generalize takeF (Z.length : Int) q = u at *
  obtain ⟨v, q'⟩ := u
  dsimp only at hf hr
  obtain ⟨k, rfl⟩ := Int.eq_ofNat_of_zero_le hr.1
  have hk : k < Z.length := by omega
  refine ⟨Z[k], q', List.getElem_mem hk, ?_⟩
  have v4 : varE 4 (LX37 (.im (scrD ss)) [.ob (.ls (stD q))] p (n : Int) (.im (.tup ((Z.map (·.g)).map Wd))) (.im (Wd b.g)) .no .no .no .no .no .no .no .no .no .no .no .no .no .no) = .ok (.tup ((Z.map (·.g)).map Wd)) (LX37 (.im (scrD ss)) [.ob (.ls (stD q))] p (n : Int) (.im (.tup ((Z.map (·.g)).map Wd))) (.im (Wd b.g)) .no .no .no .no .no .no .no .no .no .no .no .no .no .no) := varE_im rfl
  have hln : lenO [.tup ((Z.map (·.g)).map Wd)] = some (.int (Z.length : Int)) := by rw [lenO_tup]; simp
  have hm : funM 1 1 (aCons (calE (aCons (varE 4) aNil) lenO) aNil) Ftake (LX37 (.im (scrD ss)) [.ob (.ls (stD q))] p (n : Int) (.im (.tup ((Z.map (·.g)).map Wd))) (.im (Wd b.g)) .no .no .no .no .no .no .no .no .no .no .no .no .no .no) = .ok (.int (k : Int)) (LX37 (.im (scrD ss)) [.ob (.ls (stD q'))] p (n : Int) (.im (.tup ((Z.map (·.g)).map Wd))) (.im (Wd b.g)) .no .no .no .no .no .no .no .no .no .no .no .no .no .no) := by
    unfold funM
    rw [aCons_run, calE_run, aCons_run, v4]
    simp only [R.bind_ok, aNil_run, hln, R.of_some]
    simp [LX37, muAt, hf]
  have hx : ixO (.tup ((Z.map (·.g)).map Wd)) (.int (k : Int)) = some (Wd Z[k].g) := by
    rw [ixO_tup, atI_ofNat]
    simp [hk]
  rw [asgS_run', op2_run, v4, R.bind_ok, hm, R.bind_ok, hx]
  rfl
noncomputable def m_law37 (CC CM CR : Addr) : Ms → O := (seqS (asgN 1 (funN 1 (aCons (varE 0) aNil) Fstate))
  (seqS (asgS 2 (funM 0 1 aNil Fprime))
  (seqS (asgS 3 (op2 (cE (.int 1)) (funM 1 1 (aCons (op2 (frz (lstE (aCons (cE (.int 0)) (aCons (cE (.int 0)) (aCons (cE (.int 6)) (aCons (cE (.int 4)) (aCons (cE (.int 0)) (aCons (cE (.int 3)) (aCons (cE (.int 0)) (aCons (cE (.int 3)) aNil)))))))))) (varE 2) ixO) aNil) Ftake) addO))
  (seqS (asgS 4 (funE 2 (aCons (varE 2) (aCons (varE 3) aNil)) (Fdivs CM CR)))
  (seqS (asgS 5 (op2 (varE 4) (funM 1 1 (aCons (calE (aCons (varE 4) aNil) lenO) aNil) Ftake) ixO))
  (seqS (asgS 6 (op2 (varE 4) (funM 1 1 (aCons (calE (aCons (varE 4) aNil) lenO) aNil) Ftake) ixO))
  (seqS (asgS 7 (funE 3 (aCons (varE 2) (aCons (varE 3) (aCons (varE 5) aNil))) (Fcycc CC CM CR)))
  (seqS (asgS 8 (funE 3 (aCons (varE 2) (aCons (varE 3) (aCons (varE 6) aNil))) (Fcycc CC CM CR)))
  (seqS (asgS 9 (funE 1 (aCons (varE 7) aNil) (Fchkp CC CM CR)))
  (seqS (asgS 10 (op2 (frz (lcE (itR2 (aCons (cE (.int 1)) (aCons (varE 2) aNil))) (Tk.nm 18).k (tst (op2 (op2 (calE (aCons (op2 (varE 18) (op2 (varE 9) (cE (.int 0)) ixO) mulO) aNil) intO) (varE 2) modO) (cE (.int 1)) eqO)) (varE 18) [18])) (cE (.int 0)) ixO))
  (seqS (asgS 11 (funE 3 (aCons (op1 (varE 9) revO) (aCons (varE 10) (aCons (varE 2) aNil))) FscW))
  (seqS (asgS 12 (metE CC "dual" 1 (varE 7) aNil (Fcdual CC CM CR)))
  (seqS (ifS (orT (tst (op2 (funE 1 (aCons (varE 12) aNil) (Fiscyc CC CM)) (cE (.bl true)) (bCmp fun i j => !decide (i = j)))) (orT (tst (op2 (funE 1 (aCons (varE 12) aNil) (Fgenp CC CM CR)) (varE 11) neO)) (tst (op2 (funE 1 (aCons (varE 7) aNil) (Fgenp CC CM CR)) (varE 5) neO)))) (retS (cE (.bl false))) nilS)
  (seqS (asgS 13 (frz (lcE (itS (varE 4)) (Tk.nm 17).k (andT (tst (op2 (funE 3 (aCons (varE 5) (aCons (varE 17) (aCons (varE 2) aNil))) Flrest) (tupE aNil) eqO)) (tst (op2 (funE 3 (aCons (varE 6) (aCons (varE 17) (aCons (varE 2) aNil))) Flrest) (tupE aNil) eqO))) (varE 17) [17])))
  (seqS (asgS 14 (frz (lcE (itS (varE 4)) (Tk.nm 17).k (andT (tst (op2 (funE 3 (aCons (varE 17) (aCons (varE 5) (aCons (varE 2) aNil))) Flrest) (tupE aNil) eqO)) (tst (op2 (funE 3 (aCons (varE 17) (aCons (varE 6) (aCons (varE 2) aNil))) Flrest) (tupE aNil) eqO))) (varE 17) [17])))
  (seqS (asgS 15 (frz (lcE (itS (varE 13)) (Tk.nm 17).k (tst (op2 (calE (aCons (varE 17) aNil) lenO) (calE (aCons (frz (lcE (itS (varE 13)) (Tk.nm 19).k yesT (calE (aCons (varE 19) aNil) lenO) [19])) aNil) maxLO) eqO)) (varE 17) [17])))
  (seqS (asgS 16 (frz (lcE (itS (varE 14)) (Tk.nm 17).k (tst (op2 (calE (aCons (varE 17) aNil) lenO) (calE (aCons (frz (lcE (itS (varE 14)) (Tk.nm 19).k yesT (calE (aCons (varE 19) aNil) lenO) [19])) aNil) minLO) eqO)) (varE 17) [17])))
  (seqS (ifS (orT (tst (op2 (calE (aCons (varE 15) aNil) lenO) (cE (.int 1)) neO)) (tst (op2 (calE (aCons (varE 16) aNil) lenO) (cE (.int 1)) neO))) (retS (cE (.bl false))) nilS)
  (seqS (ifS (orT (tst (op2 (funE 1 (aCons (funE 2 (aCons (varE 7) (aCons (varE 8) aNil)) (Fsumof CC CM CR)) aNil) (Fgenp CC CM CR)) (op2 (varE 15) (cE (.int 0)) ixO) neO)) (tst (op2 (funE 1 (aCons (funE 2 (aCons (varE 7) (aCons (varE 8) aNil)) (Fcpart CC CM CR)) aNil) (Fgenp CC CM CR)) (op2 (varE 16) (cE (.int 0)) ixO) neO))) (retS (cE (.bl false))) nilS)
  (retS (andV (op2 (fldE CC "k" (varE 12)) (op2 (calE (aCons (varE 5) aNil) lenO) (cE (.int 1)) subO) eqO) (op2 (fldE CC "k" (varE 7)) (op2 (op2 (varE 3) (cE (.int 1)) addO) (calE (aCons (varE 5) aNil) lenO) subO) eqO))))))))))))))))))))))
theorem run_tail37 (CM CR : Addr) {ss : List Int} {q0 q1 q2 : Int × Int} {p : Int} {n : Nat} {Z : List Rc37} (hp : isP p = true) (hn : n ≤ 12) (h0 : 0 < Z.length) (hl : Z.length ≤ 100) (F : ∀ c ∈ Z, Fc37 CM CR p n c) (ho : ∀ c ∈ Z, One37 p n Z c) (ht : ∀ a ∈ Z, ∀ b ∈ Z, Two37 p n Z a b) (hd : Fdivs CM CR [.int p, .int (n : Int)] = .ok (.tup ((Z.map (·.g)).map Wd)))
    (e0 : (asgN 1 (funN 1 (aCons (varE 0) aNil) Fstate)) (st0 20 [scrD ss]) = .nx (LY37 (.im (scrD ss)) [.ob (.ls (stD q0))] .no .no)) (e1 : (asgS 2 (funM 0 1 aNil Fprime)) (LY37 (.im (scrD ss)) [.ob (.ls (stD q0))] .no .no) = .nx (LY37 (.im (scrD ss)) [.ob (.ls (stD q1))] (.im (.int p)) .no)) (e2 : (asgS 3 (op2 (cE (.int 1)) (funM 1 1 (aCons (op2 (frz (lstE (aCons (cE (.int 0)) (aCons (cE (.int 0)) (aCons (cE (.int 6)) (aCons (cE (.int 4)) (aCons (cE (.int 0)) (aCons (cE (.int 3)) (aCons (cE (.int 0)) (aCons (cE (.int 3)) aNil)))))))))) (varE 2) ixO) aNil) Ftake) addO)) (LY37 (.im (scrD ss)) [.ob (.ls (stD q1))] (.im (.int p)) .no) = .nx (LY37 (.im (scrD ss)) [.ob (.ls (stD q2))] (.im (.int p)) (.im (.int (n : Int))))) : ∃ S', m_law37 219 CM CR (st0 20 [scrD ss]) = .rt (.bl true) S' := by
  have e3 := k37_3 (ss := ss) (q := q2) hd
  obtain ⟨a, q3, ha, e4⟩ := k37_4 (ss := ss) (q := q2) (p := p) (n := n) h0 hl
  obtain ⟨b, q4, hb, e5⟩ := k37_5 (ss := ss) (q := q3) (p := p) (n := n) (b := a) h0 hl
  obtain ⟨S', e6⟩ := pair37 (x0 := .im (scrD ss)) (m := [.ob (.ls (stD q4))]) hp hn hl F ho (ht a ha b hb) ha hb
  unfold m_law37
  rw [seqS_run, e0, seq_nx, seqS_run, e1, seq_nx, seqS_run, e2, seq_nx, seqS_run, e3, seq_nx, seqS_run, e4, seq_nx, seqS_run, e5, seq_nx]
  exact ⟨S', e6⟩
theorem run_law37 (CC CM CR : Addr) (hc : CC = 219) (ss : List Int) (h : ss.length ≤ 63) : ∃ S', m_law37 CC CM CR (st0 20 [scrD ss]) = .rt (.bl true) S' := by
  subst hc
  have e0 := k37_0 h
  obtain ⟨p, q1, hp, e1⟩ := k37_1 (ss := ss) (q := stL ss)
  rcases isP_cases hp with rfl | rfl | rfl | rfl
  · obtain ⟨n, q2, n1, n2, e2⟩ := k37_2_2 (ss := ss) (q := q1)
    have hn : n = 1 ∨ n = 2 ∨ n = 3 ∨ n = 4 ∨ n = 5 ∨ n = 6 := by omega
    rcases hn with rfl | rfl | rfl | rfl | rfl | rfl
    · exact run_tail37 CM CR hp (by decide) (by decide) (by decide) (F37_2_1 CM CR) one37_2_1 two37_2_1 (div37_2_1 CM CR) e0 e1 e2
    · exact run_tail37 CM CR hp (by decide) (by decide) (by decide) (F37_2_2 CM CR) one37_2_2 two37_2_2 (div37_2_2 CM CR) e0 e1 e2
    · exact run_tail37 CM CR hp (by decide) (by decide) (by decide) (F37_2_3 CM CR) one37_2_3 two37_2_3 (div37_2_3 CM CR) e0 e1 e2
    · exact run_tail37 CM CR hp (by decide) (by decide) (by decide) (F37_2_4 CM CR) one37_2_4 two37_2_4 (div37_2_4 CM CR) e0 e1 e2
    · exact run_tail37 CM CR hp (by decide) (by decide) (by decide) (F37_2_5 CM CR) one37_2_5 two37_2_5 (div37_2_5 CM CR) e0 e1 e2
    · exact run_tail37 CM CR hp (by decide) (by decide) (by decide) (F37_2_6 CM CR) one37_2_6 two37_2_6 (div37_2_6 CM CR) e0 e1 e2
  · obtain ⟨n, q2, n1, n2, e2⟩ := k37_2_3 (ss := ss) (q := q1)
    have hn : n = 1 ∨ n = 2 ∨ n = 3 ∨ n = 4 := by omega
    rcases hn with rfl | rfl | rfl | rfl
    · exact run_tail37 CM CR hp (by decide) (by decide) (by decide) (F37_3_1 CM CR) one37_3_1 two37_3_1 (div37_3_1 CM CR) e0 e1 e2
    · exact run_tail37 CM CR hp (by decide) (by decide) (by decide) (F37_3_2 CM CR) one37_3_2 two37_3_2 (div37_3_2 CM CR) e0 e1 e2
    · exact run_tail37 CM CR hp (by decide) (by decide) (by decide) (F37_3_3 CM CR) one37_3_3 two37_3_3 (div37_3_3 CM CR) e0 e1 e2
    · exact run_tail37 CM CR hp (by decide) (by decide) (by decide) (F37_3_4 CM CR) one37_3_4 two37_3_4 (div37_3_4 CM CR) e0 e1 e2
  · obtain ⟨n, q2, n1, n2, e2⟩ := k37_2_5 (ss := ss) (q := q1)
    have hn : n = 1 ∨ n = 2 ∨ n = 3 := by omega
    rcases hn with rfl | rfl | rfl
    · exact run_tail37 CM CR hp (by decide) (by decide) (by decide) (F37_5_1 CM CR) one37_5_1 two37_5_1 (div37_5_1 CM CR) e0 e1 e2
    · exact run_tail37 CM CR hp (by decide) (by decide) (by decide) (F37_5_2 CM CR) one37_5_2 two37_5_2 (div37_5_2 CM CR) e0 e1 e2
    · exact run_tail37 CM CR hp (by decide) (by decide) (by decide) (F37_5_3 CM CR) one37_5_3 two37_5_3 (div37_5_3 CM CR) e0 e1 e2
  · obtain ⟨n, q2, n1, n2, e2⟩ := k37_2_7 (ss := ss) (q := q1)
    have hn : n = 1 ∨ n = 2 ∨ n = 3 := by omega
    rcases hn with rfl | rfl | rfl
    · exact run_tail37 CM CR hp (by decide) (by decide) (by decide) (F37_7_1 CM CR) one37_7_1 two37_7_1 (div37_7_1 CM CR) e0 e1 e2
    · exact run_tail37 CM CR hp (by decide) (by decide) (by decide) (F37_7_2 CM CR) one37_7_2 two37_7_2 (div37_7_2 CM CR) e0 e1 e2
    · exact run_tail37 CM CR hp (by decide) (by decide) (by decide) (F37_7_3 CM CR) one37_7_3 two37_7_3 (div37_7_3 CM CR) e0 e1 e2
end Lq

namespace K37
open PySem PySem.Spec PyProof.Rows L2 Lq
def topS (i : Nat) : Stmt := PySem.Challenge.pw_weightkeepers_k37_duals_of_cyclic_codes.main.body.getD i (.Pass ⟨0, 0, 0, 0⟩)
noncomputable section
variable {P : Program} {w : World} {K : PySem.W.Frag} {mg : Str → Option Value} {base : Heap}
abbrev s_init_Refused : Stmt := inClass (topS 4) 0
theorem sc_init_Refused : ScC ["self", "reason"] ["self", "reason"] (defScope s_init_Refused) := ⟨rfl, rfl, rfl, by decide +kernel, rfl, by decide +kernel, by decide +kernel, by decide +kernel, by decide +kernel⟩
theorem ok_init_Refused {CX : CXT} {f cda cc D C : Addr} {params : Arguments} {kV doc pm ct oc cl : Value} {an od cld : Option Addr} {osl csl : Array (Option Value)} (lk : K.lookup f = some ⟨oc, od, .func (PySem.W.ksFn "__init__" "Refused.__init__" params (defBody s_init_Refused) (defScope s_init_Refused) .none kV doc pm an (.ref cda) ct cc), osl⟩) (hcd : PySem.W.codeIn K (.ref cda) "Refused.__init__" = true)
    (hcell : K.lookup cc = some ⟨cl, cld, .cell (some (.ref D)), csl⟩) (S : SupF P K mg f cda cc D C (defScope s_init_Refused) "self") (T : OexC K C) (nf : PySem.W.findIn K (.ref C) "reason" = some none) :
    FnOk P w K mg base CX 1 f (PySem.W.ksFn "__init__" "Refused.__init__" params (defBody s_init_Refused) (defScope s_init_Refused) .none kV doc pm an (.ref cda) ct cc) ["self", "reason"] (spI1 C "reason") := by
  refine fnK_of lk hcd sc_init_Refused hcell (fun vs H Q E h => ?_) (fun A outer s s1 H vs Q E hr h I => ?_)
  · obtain ⟨a, y, rfl, _⟩ := h
    rfl
  · obtain ⟨a, y, rfl, hy, he, k⟩ := h
    refine PySem.ks_wpAt_execs_cons (_root_.PySem.wpAt_mono (super_run (Rr := fun H1 => H1 = H) S rfl T I rfl rfl he (pa_cons (pe_joined (.cons pe_str (.cons (pe_fmt (pv 1)) .nil))) pa_nil) ?_) (fun fl s' hq => ?_) (fun _ _ z => z))
    · refine ⟨_, rfl, ?_, _, rfl, .inl ⟨y, rfl, ?_, _, rfl, ?_, ?_, he, rfl⟩⟩
      · decide +kernel
      · exact Nat.le_trans hy (by decide)
      · have e : (Str.empty ++ ("refused: " : Str)).length = 9 := by decide +kernel
        rw [Str.length_append, e]
        exact Nat.le_trans (Nat.add_le_add_left hy 9) (by decide)
      · show 1 ≤ 1000
        decide
    · obtain ⟨rfl, H1, I1, rfl⟩ := hq
      refine _root_.PySem.wpAt_of_wpAny ((pss_one (ps_ost (pv 0) (pv 1))).run [] s' _ _ _ I1 ?_)
      refine ⟨_, rfl, _, rfl, a, C, rfl, T, nf, .inl ⟨he, fun dx h1 h2 => k dx h1 h2⟩⟩
abbrev s_is_integer : Stmt := topS 6
abbrev N_is_integer : List Str := ["value"]
theorem sc_is_integer : FnScope N_is_integer ["value"] (defScope s_is_integer) := ⟨rfl, rfl, rfl, by decide +kernel, rfl, by decide +kernel, by decide +kernel⟩
noncomputable def m_is_integer : Ms → O := (retS (andV (op1 (varE 0) (isiO "int")) (op1 (op1 (varE 0) (isiO "bool")) notO)))
theorem ok_is_integer {f : Addr} {fd : FuncData} (F : Fun K "is_integer" "is_integer" s_is_integer f fd) (h_bool : mg "bool" = none) (h_int : mg "int" = none) (h_isinstance : mg "isinstance" = none) : FnOk P w K mg base (L2.CX P w) 1 f fd ["value"] (spD K 1 (runD 1 m_is_integer)) :=
  defOk F sc_is_integer fun cdv A outer s H E hr => by
    have nd : N_is_integer.Nodup := sc_is_integer.nd
    have tk : Takes (cxOf (L2.CX P w) P w K mg base N_is_integer "is_integer" (defScope s_is_integer) f cdv A outer s H E) (fun cls d _ H' => E cls d H') := takes_of rfl rfl rfl rfl
    have po : PassesOwn (model P w) (cxOf (L2.CX P w) P w K mg base N_is_integer "is_integer" (defScope s_is_integer) f cdv A outer s H E).A (cxOf (L2.CX P w) P w K mg base N_is_integer "is_integer" (defScope s_is_integer) f cdv A outer s H E).env (cxOf (L2.CX P w) P w K mg base N_is_integer "is_integer" (defScope s_is_integer) f cdv A outer s H E).xe := passes_of rfl
    have hu64 := hr.units
    have hu65 := hu65_of hr
    have hu0 := hr.units0
    have hu1 := hu_of hr
    exact (dss_one (ds_ret (de_and (de_isi (T := "int") (by decide +kernel) (by rfl) h_isinstance (by rfl) h_int (by constructor) (de_var (pv 0))) (de_one (de_not (de_isi (T := "bool") (by decide +kernel) (by rfl) h_isinstance (by rfl) h_bool (by constructor) (de_var (pv 0))))))))
abbrev s_inverse : Stmt := topS 7
abbrev N_inverse : List Str := ["a", "p", "candidate"]
theorem sc_inverse : FnScope N_inverse ["a", "p"] (defScope s_inverse) := ⟨rfl, rfl, rfl, by decide +kernel, rfl, by decide +kernel, by decide +kernel⟩
noncomputable def m_inverse : Ms → O := (seqS (forS (itR2 (aCons (cE (.int 1)) (aCons (varE 1) aNil))) (Tk.nm 2).k (ifS (tst (op2 (op2 (op2 (varE 0) (varE 2) mulO) (varE 1) modO) (cE (.int 1)) eqO)) (retS (varE 2)) nilS))
  noS)
theorem ok_inverse {f : Addr} {fd : FuncData} (F : Fun K "inverse" "inverse" s_inverse f fd) (h_range : mg "range" = none) : FnOk P w K mg base (L2.CX P w) 1 f fd ["a", "p"] (spD K 2 (runD 3 m_inverse)) :=
  defOk F sc_inverse fun cdv A outer s H E hr => by
    have nd : N_inverse.Nodup := sc_inverse.nd
    have tk : Takes (cxOf (L2.CX P w) P w K mg base N_inverse "inverse" (defScope s_inverse) f cdv A outer s H E) (fun cls d _ H' => E cls d H') := takes_of rfl rfl rfl rfl
    have po : PassesOwn (model P w) (cxOf (L2.CX P w) P w K mg base N_inverse "inverse" (defScope s_inverse) f cdv A outer s H E).A (cxOf (L2.CX P w) P w K mg base N_inverse "inverse" (defScope s_inverse) f cdv A outer s H E).env (cxOf (L2.CX P w) P w K mg base N_inverse "inverse" (defScope s_inverse) f cdv A outer s H E).xe := passes_of rfl
    have hu64 := hr.units
    have hu65 := hu65_of hr
    have hu0 := hr.units0
    have hu1 := hu_of hr
    exact (dss_cons (ds_for po (by rfl) (di_range2 (by rfl) h_range (da_cons de_int (da_cons (de_var (pv 1)) da_nil))) (dg_name (pg_name (i := 2) nd (by rfl) (by first | exact Or.inl rfl | exact Or.inr rfl))) (dss_one (ds_if (dt_eq hu64 (de_mod (de_mul (de_var (pv 0)) (de_var (pv 2))) (de_var (pv 1))) de_int) (dss_one (ds_ret (de_var (pv 2)))) dss_nil)))
      (dss_one ds_never))
abbrev s_power : Stmt := topS 8
abbrev N_power : List Str := ["a", "k", "result", "factor", "left"]
theorem sc_power : FnScope N_power ["a", "k"] (defScope s_power) := ⟨rfl, rfl, rfl, by decide +kernel, rfl, by decide +kernel, by decide +kernel⟩
noncomputable def m_power : Ms → O := (seqS (asgS 2 (cE (.int 1)))
  (seqS (moveS 3 0)
  (seqS (moveS 4 1)
  (seqS (whileS (fun _ => 64) (tst (op2 (varE 4) (cE (.int 0)) gtO)) (seqS (ifS (tst (op2 (op2 (varE 4) (cE (.int 2)) modO) (cE (.int 1)) eqO)) (asgS 2 (op2 (varE 2) (varE 3) mulO)) nilS)
  (seqS (asgS 3 (op2 (varE 3) (varE 3) mulO))
  (asgS 4 (op2 (varE 4) (cE (.int 2)) divO)))))
  (retS (varE 2))))))
theorem ok_power {f : Addr} {fd : FuncData} (F : Fun K "power" "power" s_power f fd) : FnOk P w K mg base (L2.CX P w) 1 f fd ["a", "k"] (spD K 2 (runD 5 m_power)) :=
  defOk F sc_power fun cdv A outer s H E hr => by
    have nd : N_power.Nodup := sc_power.nd
    have tk : Takes (cxOf (L2.CX P w) P w K mg base N_power "power" (defScope s_power) f cdv A outer s H E) (fun cls d _ H' => E cls d H') := takes_of rfl rfl rfl rfl
    have po : PassesOwn (model P w) (cxOf (L2.CX P w) P w K mg base N_power "power" (defScope s_power) f cdv A outer s H E).A (cxOf (L2.CX P w) P w K mg base N_power "power" (defScope s_power) f cdv A outer s H E).env (cxOf (L2.CX P w) P w K mg base N_power "power" (defScope s_power) f cdv A outer s H E).xe := passes_of rfl
    have hu64 := hr.units
    have hu65 := hu65_of hr
    have hu0 := hr.units0
    have hu1 := hu_of hr
    exact (dss_cons (ds_set (i := 2) nd (by rfl) (by first | exact Or.inl rfl | exact Or.inr rfl) de_int)
      (dss_cons (ds_mov (i := 3) nd (by rfl) (by first | exact Or.inl rfl | exact Or.inr rfl) (pv 0))
      (dss_cons (ds_mov (i := 4) nd (by rfl) (by first | exact Or.inl rfl | exact Or.inr rfl) (pv 1))
      (dss_cons (ds_while (fuel := fun _ => 64) po (dt_gt (de_var (pv 4)) de_int) (dss_cons (ds_if (dt_eq hu64 (de_mod (de_var (pv 4)) de_int) de_int) (dss_one (ds_set (i := 2) nd (by rfl) (by first | exact Or.inl rfl | exact Or.inr rfl) (de_mul (de_var (pv 2)) (de_var (pv 3))))) dss_nil)
      (dss_cons (ds_set (i := 3) nd (by rfl) (by first | exact Or.inl rfl | exact Or.inr rfl) (de_mul (de_var (pv 3)) (de_var (pv 3))))
      (dss_one (ds_set (i := 4) nd (by rfl) (by first | exact Or.inl rfl | exact Or.inr rfl) (de_div (de_var (pv 4)) de_int))))))
      (dss_one (ds_ret (de_var (pv 2))))))))
abbrev s_is_word : Stmt := topS 10
abbrev N_is_word : List Str := ["value", "p", "n", "item"]
theorem sc_is_word : FnScope N_is_word ["value", "p", "n"] (defScope s_is_word) := ⟨rfl, rfl, rfl, by decide +kernel, rfl, by decide +kernel, by decide +kernel⟩
noncomputable def m_is_word : Ms → O := (seqS (ifS (orT (notT (truT (op1 (varE 0) (isiO "tuple")))) (tst (op2 (calE (aCons (varE 0) aNil) lenO) (varE 2) neO))) (retS (cE (.bl false))) nilS)
  (retS (calE (aCons (frz (lcE (itS (varE 0)) (Tk.nm 3).k yesT (andV (funE 1 (aCons (varE 3) aNil) Fisint) (chT (cE (.int 0)) (varE 3) (varE 1) leO ltO)) [3])) aNil) allO)))
theorem ok_is_word {f : Addr} {fd : FuncData} (F : Fun K "is_word" "is_word" s_is_word f fd) (h_all : mg "all" = none) (h_isinstance : mg "isinstance" = none) (h_len : mg "len" = none) (h_tuple : mg "tuple" = none) (c_is_integer : Cal P w K mg base "is_integer" 1 ["value"] (spD K 1 Fisint)) : FnOk P w K mg base (L2.CX P w) 2 f fd ["value", "p", "n"] (spD K 3 (runD 4 m_is_word)) :=
  defOk F sc_is_word fun cdv A outer s H E hr => by
    have nd : N_is_word.Nodup := sc_is_word.nd
    have tk : Takes (cxOf (L2.CX P w) P w K mg base N_is_word "is_word" (defScope s_is_word) f cdv A outer s H E) (fun cls d _ H' => E cls d H') := takes_of rfl rfl rfl rfl
    have po : PassesOwn (model P w) (cxOf (L2.CX P w) P w K mg base N_is_word "is_word" (defScope s_is_word) f cdv A outer s H E).A (cxOf (L2.CX P w) P w K mg base N_is_word "is_word" (defScope s_is_word) f cdv A outer s H E).env (cxOf (L2.CX P w) P w K mg base N_is_word "is_word" (defScope s_is_word) f cdv A outer s H E).xe := passes_of rfl
    have hu64 := hr.units
    have hu65 := hu65_of hr
    have hu0 := hr.units0
    have hu1 := hu_of hr
    exact (dss_cons (ds_if (PW.pt (dw_or (dt_not (dt_tru (de_isi (T := "tuple") (by decide +kernel) (by rfl) h_isinstance (by rfl) h_tuple (by constructor) (de_var (pv 0))))) (dw_or1 (dt_ne hu64 (de_len (by rfl) h_len (de_var (pv 0))) (de_var (pv 2)))))) (dss_one (ds_ret de_bl)) dss_nil)
      (dss_one (ds_ret (de_all (by rfl) (by rfl) h_all (de_frz (dn_lc (by rfl) nd (di_seq (de_var (pv 0))) (blkOk_by (own := [("item", 3)]) (N := N_is_word) (sc := defScope s_is_word) (by decide +kernel)) (by decide) (fun _ _ _ _ _ => (dg_name (pg_name (i := 3) nd (by rfl) (by first | exact Or.inl rfl | exact Or.inr rfl)))) (fun _ _ _ _ _ => dts_nil) (fun _ _ _ _ _ => (de_and (de_cal c_is_integer takes0 hr (by decide) (by rfl) (da_cons (de_var (pv 3)) da_nil)) (de_one (de_chain op_le rd_C op_lt rd_C de_int (de_var (pv 3)) (de_var (pv 1))))))))))))
abbrev s_add : Stmt := topS 11
abbrev N_add : List Str := ["v", "w", "p", "a", "b"]
theorem sc_add : FnScope N_add ["v", "w", "p"] (defScope s_add) := ⟨rfl, rfl, rfl, by decide +kernel, rfl, by decide +kernel, by decide +kernel⟩
noncomputable def m_add : Ms → O := (retS (calE (aCons (frz (lcE (itZ (aCons (varE 0) (aCons (varE 1) aNil))) (Tk.tp [3, 4]).k yesT (op2 (op2 (varE 3) (varE 4) addO) (varE 2) modO) [3, 4])) aNil) tupO))
theorem ok_add {f : Addr} {fd : FuncData} (F : Fun K "add" "add" s_add f fd) (h_tuple : mg "tuple" = none) (h_zip : mg "zip" = none) : FnOk P w K mg base (L2.CX P w) 1 f fd ["v", "w", "p"] (spD K 3 (runD 5 m_add)) :=
  defOk F sc_add fun cdv A outer s H E hr => by
    have nd : N_add.Nodup := sc_add.nd
    have tk : Takes (cxOf (L2.CX P w) P w K mg base N_add "add" (defScope s_add) f cdv A outer s H E) (fun cls d _ H' => E cls d H') := takes_of rfl rfl rfl rfl
    have po : PassesOwn (model P w) (cxOf (L2.CX P w) P w K mg base N_add "add" (defScope s_add) f cdv A outer s H E).A (cxOf (L2.CX P w) P w K mg base N_add "add" (defScope s_add) f cdv A outer s H E).env (cxOf (L2.CX P w) P w K mg base N_add "add" (defScope s_add) f cdv A outer s H E).xe := passes_of rfl
    have hu64 := hr.units
    have hu65 := hu65_of hr
    have hu0 := hr.units0
    have hu1 := hu_of hr
    exact (dss_one (ds_ret (de_tupc (by rfl) h_tuple (de_frz (dn_lc (by rfl) nd (di_zip (by rfl) h_zip (da_cons (de_var (pv 0)) (da_cons (de_var (pv 1)) da_nil))) (blkOk_by (own := [("a", 3), ("b", 4)]) (N := N_add) (sc := defScope s_add) (by decide +kernel)) (by decide) (fun _ _ _ _ _ => (dg_tup (by rfl) (dgs_cons (pg_name (i := 3) nd (by rfl) (by first | exact Or.inl rfl | exact Or.inr rfl)) (dgs_cons (pg_name (i := 4) nd (by rfl) (by first | exact Or.inl rfl | exact Or.inr rfl)) dgs_nil)))) (fun _ _ _ _ _ => dts_nil) (fun _ _ _ _ _ => (de_mod (de_add (de_var (pv 3)) (de_var (pv 4))) (de_var (pv 2)))))))))
abbrev s_scaled : Stmt := topS 12
abbrev N_scaled : List Str := ["v", "a", "p", "item"]
theorem sc_scaled : FnScope N_scaled ["v", "a", "p"] (defScope s_scaled) := ⟨rfl, rfl, rfl, by decide +kernel, rfl, by decide +kernel, by decide +kernel⟩
noncomputable def m_scaled : Ms → O := (retS (calE (aCons (frz (lcE (itS (varE 0)) (Tk.nm 3).k yesT (op2 (op2 (varE 3) (varE 1) mulO) (varE 2) modO) [3])) aNil) tupO))
theorem ok_scaled {f : Addr} {fd : FuncData} (F : Fun K "scaled" "scaled" s_scaled f fd) (h_tuple : mg "tuple" = none) : FnOk P w K mg base (L2.CX P w) 1 f fd ["v", "a", "p"] (spD K 3 (runD 4 m_scaled)) :=
  defOk F sc_scaled fun cdv A outer s H E hr => by
    have nd : N_scaled.Nodup := sc_scaled.nd
    have tk : Takes (cxOf (L2.CX P w) P w K mg base N_scaled "scaled" (defScope s_scaled) f cdv A outer s H E) (fun cls d _ H' => E cls d H') := takes_of rfl rfl rfl rfl
    have po : PassesOwn (model P w) (cxOf (L2.CX P w) P w K mg base N_scaled "scaled" (defScope s_scaled) f cdv A outer s H E).A (cxOf (L2.CX P w) P w K mg base N_scaled "scaled" (defScope s_scaled) f cdv A outer s H E).env (cxOf (L2.CX P w) P w K mg base N_scaled "scaled" (defScope s_scaled) f cdv A outer s H E).xe := passes_of rfl
    have hu64 := hr.units
    have hu65 := hu65_of hr
    have hu0 := hr.units0
    have hu1 := hu_of hr
    exact (dss_one (ds_ret (de_tupc (by rfl) h_tuple (de_frz (dn_lc (by rfl) nd (di_seq (de_var (pv 0))) (blkOk_by (own := [("item", 3)]) (N := N_scaled) (sc := defScope s_scaled) (by decide +kernel)) (by decide) (fun _ _ _ _ _ => (dg_name (pg_name (i := 3) nd (by rfl) (by first | exact Or.inl rfl | exact Or.inr rfl)))) (fun _ _ _ _ _ => dts_nil) (fun _ _ _ _ _ => (de_mod (de_mul (de_var (pv 3)) (de_var (pv 1))) (de_var (pv 2)))))))))
abbrev s_dot : Stmt := topS 13
abbrev N_dot : List Str := ["v", "w", "p", "a", "b"]
theorem sc_dot : FnScope N_dot ["v", "w", "p"] (defScope s_dot) := ⟨rfl, rfl, rfl, by decide +kernel, rfl, by decide +kernel, by decide +kernel⟩
noncomputable def m_dot : Ms → O := (retS (op2 (calE (aCons (frz (lcE (itZ (aCons (varE 0) (aCons (varE 1) aNil))) (Tk.tp [3, 4]).k yesT (op2 (varE 3) (varE 4) mulO) [3, 4])) aNil) sumO) (varE 2) modO))
theorem ok_dot {f : Addr} {fd : FuncData} (F : Fun K "dot" "dot" s_dot f fd) (h_sum : mg "sum" = none) (h_zip : mg "zip" = none) : FnOk P w K mg base (L2.CX P w) 1 f fd ["v", "w", "p"] (spD K 3 (runD 5 m_dot)) :=
  defOk F sc_dot fun cdv A outer s H E hr => by
    have nd : N_dot.Nodup := sc_dot.nd
    have tk : Takes (cxOf (L2.CX P w) P w K mg base N_dot "dot" (defScope s_dot) f cdv A outer s H E) (fun cls d _ H' => E cls d H') := takes_of rfl rfl rfl rfl
    have po : PassesOwn (model P w) (cxOf (L2.CX P w) P w K mg base N_dot "dot" (defScope s_dot) f cdv A outer s H E).A (cxOf (L2.CX P w) P w K mg base N_dot "dot" (defScope s_dot) f cdv A outer s H E).env (cxOf (L2.CX P w) P w K mg base N_dot "dot" (defScope s_dot) f cdv A outer s H E).xe := passes_of rfl
    have hu64 := hr.units
    have hu65 := hu65_of hr
    have hu0 := hr.units0
    have hu1 := hu_of hr
    exact (dss_one (ds_ret (de_mod (de_sum (by rfl) (by rfl) h_sum (de_frz (dn_lc (by rfl) nd (di_zip (by rfl) h_zip (da_cons (de_var (pv 0)) (da_cons (de_var (pv 1)) da_nil))) (blkOk_by (own := [("a", 3), ("b", 4)]) (N := N_dot) (sc := defScope s_dot) (by decide +kernel)) (by decide) (fun _ _ _ _ _ => (dg_tup (by rfl) (dgs_cons (pg_name (i := 3) nd (by rfl) (by first | exact Or.inl rfl | exact Or.inr rfl)) (dgs_cons (pg_name (i := 4) nd (by rfl) (by first | exact Or.inl rfl | exact Or.inr rfl)) dgs_nil)))) (fun _ _ _ _ _ => dts_nil) (fun _ _ _ _ _ => (de_mul (de_var (pv 3)) (de_var (pv 4))))))) (de_var (pv 2)))))
abbrev s_reduced : Stmt := topS 14
abbrev N_reduced : List Str := ["rows", "width", "p", "table", "pivots", "left", "at", "found", "head", "row"]
theorem sc_reduced : FnScope N_reduced ["rows", "width", "p"] (defScope s_reduced) := ⟨rfl, rfl, rfl, by decide +kernel, rfl, by decide +kernel, by decide +kernel⟩
noncomputable def m_reduced : Ms → O := (seqS (asgS 3 (frz (lstE aNil)))
  (seqS (asgN 4 (lstE aNil))
  (seqS (moveS 5 0)
  (seqS (forS (itR1 (aCons (varE 1) aNil)) (Tk.nm 6).k (seqS (asgS 7 (frz (lcE (itS (varE 5)) (Tk.nm 9).k (tst (op2 (op2 (varE 9) (varE 6) ixO) (cE (.int 0)) neO)) (varE 9) [9])))
  (ifS (truT (varE 7)) (seqS (asgS 8 (funE 3 (aCons (op2 (varE 7) (cE (.int 0)) ixO) (aCons (funE 2 (aCons (op2 (op2 (varE 7) (cE (.int 0)) ixO) (varE 6) ixO) (aCons (varE 2) aNil)) Finverse) (aCons (varE 2) aNil))) FscW))
  (seqS (asgS 3 (frz (opN (frz (lcE (itS (varE 3)) (Tk.nm 9).k yesT (funE 4 (aCons (varE 9) (aCons (varE 8) (aCons (varE 6) (aCons (varE 2) aNil)))) Fcleared) [9])) (frz (lstE (aCons (varE 8) aNil))) catL)))
  (seqS (asgS 5 (frz (lcE (itS (varE 5)) (Tk.nm 9).k yesT (funE 4 (aCons (varE 9) (aCons (varE 8) (aCons (varE 6) (aCons (varE 2) aNil)))) Fcleared) [9])))
  (appS 4 (varE 6))))) nilS)))
  (retS (tupE (aCons (calE (aCons (varE 3) aNil) tupO) (aCons (calE (aCons (varE 4) aNil) tupO) aNil))))))))
theorem ok_reduced {f : Addr} {fd : FuncData} (F : Fun K "reduced" "reduced" s_reduced f fd) (h_range : mg "range" = none) (h_tuple : mg "tuple" = none) (c__cleared : Cal P w K mg base "_cleared" 2 ["row", "head", "at", "p"] (spD K 4 Fcleared)) (c_scaled : Cal P w K mg base "scaled" 1 ["v", "a", "p"] (spD K 3 FscW)) (c_inverse : Cal P w K mg base "inverse" 1 ["a", "p"] (spD K 2 Finverse)) : FnOk P w K mg base (L2.CX P w) 3 f fd ["rows", "width", "p"] (spD K 3 (runD 10 m_reduced)) :=
  defOk F sc_reduced fun cdv A outer s H E hr => by
    have nd : N_reduced.Nodup := sc_reduced.nd
    have tk : Takes (cxOf (L2.CX P w) P w K mg base N_reduced "reduced" (defScope s_reduced) f cdv A outer s H E) (fun cls d _ H' => E cls d H') := takes_of rfl rfl rfl rfl
    have po : PassesOwn (model P w) (cxOf (L2.CX P w) P w K mg base N_reduced "reduced" (defScope s_reduced) f cdv A outer s H E).A (cxOf (L2.CX P w) P w K mg base N_reduced "reduced" (defScope s_reduced) f cdv A outer s H E).env (cxOf (L2.CX P w) P w K mg base N_reduced "reduced" (defScope s_reduced) f cdv A outer s H E).xe := passes_of rfl
    have hu64 := hr.units
    have hu65 := hu65_of hr
    have hu0 := hr.units0
    have hu1 := hu_of hr
    exact (dss_cons (ds_set (i := 3) nd (by rfl) (by first | exact Or.inl rfl | exact Or.inr rfl) (de_frz (dn_lst da_nil)))
      (dss_cons (ds_setN (i := 4) nd (by rfl) (by first | exact Or.inl rfl | exact Or.inr rfl) (dn_lst da_nil))
      (dss_cons (ds_mov (i := 5) nd (by rfl) (by first | exact Or.inl rfl | exact Or.inr rfl) (pv 0))
      (dss_cons (ds_for po (by rfl) (di_range1 (by rfl) h_range (da_cons (de_var (pv 1)) da_nil)) (dg_name (pg_name (i := 6) nd (by rfl) (by first | exact Or.inl rfl | exact Or.inr rfl))) (dss_cons (ds_lc (i := 7) (by rfl) nd (by rfl) (by rfl) (sw_true (by rfl) (by rfl) (by rfl) (by decide +kernel)) (di_seq (de_var (pv 5))) (blkOk_by (own := [("row", 9)]) (N := N_reduced) (sc := defScope s_reduced) (by decide +kernel)) (by decide) (fun _ _ _ _ _ => (dg_name (pg_name (i := 9) nd (by rfl) (by first | exact Or.inl rfl | exact Or.inr rfl)))) (fun _ _ _ _ _ => (dts_one (dt_ne hu64 (de_sub1 (de_var (pv 9)) (de_var (pv 6))) de_int))) (fun _ _ _ _ _ => (de_var (pv 9))))
      (dss_one (ds_if (dt_tru (de_var (pv 7))) (dss_cons (ds_set (i := 8) nd (by rfl) (by first | exact Or.inl rfl | exact Or.inr rfl) (de_cal c_scaled tk hr (by decide) (by rfl) (da_cons (de_sub1 (de_var (pv 7)) de_int) (da_cons (de_cal c_inverse tk hr (by decide) (by rfl) (da_cons (de_sub1 (de_sub1 (de_var (pv 7)) de_int) (de_var (pv 6))) (da_cons (de_var (pv 2)) da_nil))) (da_cons (de_var (pv 2)) da_nil)))))
      (dss_cons (ds_set (i := 3) nd (by rfl) (by first | exact Or.inl rfl | exact Or.inr rfl) (de_frz (dn_catL (de_frz (dn_lc (by rfl) nd (di_seq (de_var (pv 3))) (blkOk_by (own := [("row", 9)]) (N := N_reduced) (sc := defScope s_reduced) (by decide +kernel)) (by decide) (fun _ _ _ _ _ => (dg_name (pg_name (i := 9) nd (by rfl) (by first | exact Or.inl rfl | exact Or.inr rfl)))) (fun _ _ _ _ _ => dts_nil) (fun _ _ _ _ _ => (de_cal c__cleared takes0 hr (by decide) (by rfl) (da_cons (de_var (pv 9)) (da_cons (de_var (pv 8)) (da_cons (de_var (pv 6)) (da_cons (de_var (pv 2)) da_nil)))))))) (de_frz (dn_lst (da_cons (de_var (pv 8)) da_nil))))))
      (dss_cons (ds_lc (i := 5) (by rfl) nd (by rfl) (by rfl) (sw_true (by rfl) (by rfl) (by rfl) (by decide +kernel)) (di_seq (de_var (pv 5))) (blkOk_by (own := [("row", 9)]) (N := N_reduced) (sc := defScope s_reduced) (by decide +kernel)) (by decide) (fun _ _ _ _ _ => (dg_name (pg_name (i := 9) nd (by rfl) (by first | exact Or.inl rfl | exact Or.inr rfl)))) (fun _ _ _ _ _ => dts_nil) (fun _ _ _ _ _ => (de_cal c__cleared takes0 hr (by decide) (by rfl) (da_cons (de_var (pv 9)) (da_cons (de_var (pv 8)) (da_cons (de_var (pv 6)) (da_cons (de_var (pv 2)) da_nil)))))))
      (dss_one (ds_app (pv 4) (de_var (pv 6))))))) dss_nil))))
      (dss_one (ds_ret (de_tup (da_cons (de_tupc (by rfl) h_tuple (de_var (pv 3))) (da_cons (de_tupc (by rfl) h_tuple (de_var (pv 4))) da_nil)))))))))
abbrev s__cleared : Stmt := topS 15
abbrev N__cleared : List Str := ["row", "head", "at", "p"]
theorem sc__cleared : FnScope N__cleared ["row", "head", "at", "p"] (defScope s__cleared) := ⟨rfl, rfl, rfl, by decide +kernel, rfl, by decide +kernel, by decide +kernel⟩
noncomputable def m__cleared : Ms → O := (retS (funE 3 (aCons (varE 0) (aCons (funE 3 (aCons (varE 1) (aCons (op1 (op2 (varE 0) (varE 2) ixO) negO) (aCons (varE 3) aNil))) FscW) (aCons (varE 3) aNil))) FaddW))
theorem ok__cleared {f : Addr} {fd : FuncData} (F : Fun K "_cleared" "_cleared" s__cleared f fd) (c_add : Cal P w K mg base "add" 1 ["v", "w", "p"] (spD K 3 FaddW)) (c_scaled : Cal P w K mg base "scaled" 1 ["v", "a", "p"] (spD K 3 FscW)) : FnOk P w K mg base (L2.CX P w) 2 f fd ["row", "head", "at", "p"] (spD K 4 (runD 4 m__cleared)) :=
  defOk F sc__cleared fun cdv A outer s H E hr => by
    have nd : N__cleared.Nodup := sc__cleared.nd
    have tk : Takes (cxOf (L2.CX P w) P w K mg base N__cleared "_cleared" (defScope s__cleared) f cdv A outer s H E) (fun cls d _ H' => E cls d H') := takes_of rfl rfl rfl rfl
    have po : PassesOwn (model P w) (cxOf (L2.CX P w) P w K mg base N__cleared "_cleared" (defScope s__cleared) f cdv A outer s H E).A (cxOf (L2.CX P w) P w K mg base N__cleared "_cleared" (defScope s__cleared) f cdv A outer s H E).env (cxOf (L2.CX P w) P w K mg base N__cleared "_cleared" (defScope s__cleared) f cdv A outer s H E).xe := passes_of rfl
    have hu64 := hr.units
    have hu65 := hu65_of hr
    have hu0 := hr.units0
    have hu1 := hu_of hr
    exact (dss_one (ds_ret (de_cal c_add tk hr (by decide) (by rfl) (da_cons (de_var (pv 0)) (da_cons (de_cal c_scaled tk hr (by decide) (by rfl) (da_cons (de_var (pv 1)) (da_cons (de_neg (de_sub1 (de_var (pv 0)) (de_var (pv 2)))) (da_cons (de_var (pv 3)) da_nil)))) (da_cons (de_var (pv 3)) da_nil))))))
abbrev s_kernel : Stmt := topS 16
abbrev N_kernel : List Str := ["rows", "width", "p", "table", "pivots", "at"]
theorem sc_kernel : FnScope N_kernel ["rows", "width", "p"] (defScope s_kernel) := ⟨rfl, rfl, rfl, by decide +kernel, rfl, by decide +kernel, by decide +kernel⟩
noncomputable def m_kernel : Ms → O := (seqS (asgT (Tk.tp [3, 4]) (funE 3 (aCons (varE 0) (aCons (varE 1) (aCons (varE 2) aNil))) Freduced))
  (retS (calE (aCons (frz (lcE (itR1 (aCons (varE 1) aNil)) (Tk.nm 5).k (tst (op2 (varE 5) (varE 4) (inI true))) (funE 5 (aCons (varE 3) (aCons (varE 4) (aCons (varE 5) (aCons (varE 1) (aCons (varE 2) aNil))))) Fkword) [5])) aNil) tupO)))
theorem ok_kernel {f : Addr} {fd : FuncData} (F : Fun K "kernel" "kernel" s_kernel f fd) (h_range : mg "range" = none) (h_tuple : mg "tuple" = none) (c__kernel_word : Cal P w K mg base "_kernel_word" 1 ["table", "pivots", "free", "width", "p"] (spD K 5 Fkword)) (c_reduced : Cal P w K mg base "reduced" 3 ["rows", "width", "p"] (spD K 3 Freduced)) : FnOk P w K mg base (L2.CX P w) 4 f fd ["rows", "width", "p"] (spD K 3 (runD 6 m_kernel)) :=
  defOk F sc_kernel fun cdv A outer s H E hr => by
    have nd : N_kernel.Nodup := sc_kernel.nd
    have tk : Takes (cxOf (L2.CX P w) P w K mg base N_kernel "kernel" (defScope s_kernel) f cdv A outer s H E) (fun cls d _ H' => E cls d H') := takes_of rfl rfl rfl rfl
    have po : PassesOwn (model P w) (cxOf (L2.CX P w) P w K mg base N_kernel "kernel" (defScope s_kernel) f cdv A outer s H E).A (cxOf (L2.CX P w) P w K mg base N_kernel "kernel" (defScope s_kernel) f cdv A outer s H E).env (cxOf (L2.CX P w) P w K mg base N_kernel "kernel" (defScope s_kernel) f cdv A outer s H E).xe := passes_of rfl
    have hu64 := hr.units
    have hu65 := hu65_of hr
    have hu0 := hr.units0
    have hu1 := hu_of hr
    exact (dss_cons (ds_tgt (de_cal c_reduced tk hr (by decide) (by rfl) (da_cons (de_var (pv 0)) (da_cons (de_var (pv 1)) (da_cons (de_var (pv 2)) da_nil)))) (dg_tup (by rfl) (dgs_cons (pg_name (i := 3) nd (by rfl) (by first | exact Or.inl rfl | exact Or.inr rfl)) (dgs_cons (pg_name (i := 4) nd (by rfl) (by first | exact Or.inl rfl | exact Or.inr rfl)) dgs_nil))))
      (dss_one (ds_ret (de_tupc (by rfl) h_tuple (de_frz (dn_lc (by rfl) nd (di_range1 (by rfl) h_range (da_cons (de_var (pv 1)) da_nil)) (blkOk_by (own := [("at", 5)]) (N := N_kernel) (sc := defScope s_kernel) (by decide +kernel)) (by decide) (fun _ _ _ _ _ => (dg_name (pg_name (i := 5) nd (by rfl) (by first | exact Or.inl rfl | exact Or.inr rfl)))) (fun _ _ _ _ _ => (dts_one (dt_nin (de_var (pv 5)) (de_var (pv 4))))) (fun _ _ _ _ _ => (de_cal c__kernel_word takes0 hr (by decide) (by rfl) (da_cons (de_var (pv 3)) (da_cons (de_var (pv 4)) (da_cons (de_var (pv 5)) (da_cons (de_var (pv 1)) (da_cons (de_var (pv 2)) da_nil)))))))))))))
abbrev s__kernel_word : Stmt := topS 17
abbrev N__kernel_word : List Str := ["table", "pivots", "free", "width", "p", "word", "row", "pivot"]
theorem sc__kernel_word : FnScope N__kernel_word ["table", "pivots", "free", "width", "p"] (defScope s__kernel_word) := ⟨rfl, rfl, rfl, by decide +kernel, rfl, by decide +kernel, by decide +kernel⟩
noncomputable def m__kernel_word : Ms → O := (seqS (asgN 5 (opN (frz (lstE (aCons (cE (.int 0)) aNil))) (varE 3) repL))
  (seqS (setS 5 (cE (.int 1)) (varE 2))
  (seqS (forS (itZ (aCons (varE 0) (aCons (varE 1) aNil))) (Tk.tp [6, 7]).k (setS 5 (op2 (op1 (op2 (varE 6) (varE 2) ixO) negO) (varE 4) modO) (varE 7)))
  (retS (calE (aCons (varE 5) aNil) tupO)))))
theorem ok__kernel_word {f : Addr} {fd : FuncData} (F : Fun K "_kernel_word" "_kernel_word" s__kernel_word f fd) (h_tuple : mg "tuple" = none) (h_zip : mg "zip" = none) : FnOk P w K mg base (L2.CX P w) 1 f fd ["table", "pivots", "free", "width", "p"] (spD K 5 (runD 8 m__kernel_word)) :=
  defOk F sc__kernel_word fun cdv A outer s H E hr => by
    have nd : N__kernel_word.Nodup := sc__kernel_word.nd
    have tk : Takes (cxOf (L2.CX P w) P w K mg base N__kernel_word "_kernel_word" (defScope s__kernel_word) f cdv A outer s H E) (fun cls d _ H' => E cls d H') := takes_of rfl rfl rfl rfl
    have po : PassesOwn (model P w) (cxOf (L2.CX P w) P w K mg base N__kernel_word "_kernel_word" (defScope s__kernel_word) f cdv A outer s H E).A (cxOf (L2.CX P w) P w K mg base N__kernel_word "_kernel_word" (defScope s__kernel_word) f cdv A outer s H E).env (cxOf (L2.CX P w) P w K mg base N__kernel_word "_kernel_word" (defScope s__kernel_word) f cdv A outer s H E).xe := passes_of rfl
    have hu64 := hr.units
    have hu65 := hu65_of hr
    have hu0 := hr.units0
    have hu1 := hu_of hr
    exact (dss_cons (ds_setN (i := 5) nd (by rfl) (by first | exact Or.inl rfl | exact Or.inr rfl) (dn_repL (de_frz (dn_lst (da_cons de_int da_nil))) (de_var (pv 3))))
      (dss_cons (ds_setI (pv 5) (de_var (pv 2)) de_int)
      (dss_cons (ds_for po (by rfl) (di_zip (by rfl) h_zip (da_cons (de_var (pv 0)) (da_cons (de_var (pv 1)) da_nil))) (dg_tup (by rfl) (dgs_cons (pg_name (i := 6) nd (by rfl) (by first | exact Or.inl rfl | exact Or.inr rfl)) (dgs_cons (pg_name (i := 7) nd (by rfl) (by first | exact Or.inl rfl | exact Or.inr rfl)) dgs_nil))) (dss_one (ds_setI (pv 5) (de_var (pv 7)) (de_mod (de_neg (de_sub1 (de_var (pv 6)) (de_var (pv 2)))) (de_var (pv 4))))))
      (dss_one (ds_ret (de_tupc (by rfl) h_tuple (de_var (pv 5))))))))
abbrev s_is_prime : Stmt := topS 24
abbrev N_is_prime : List Str := ["p"]
theorem sc_is_prime : FnScope N_is_prime ["p"] (defScope s_is_prime) := ⟨rfl, rfl, rfl, by decide +kernel, rfl, by decide +kernel, by decide +kernel⟩
noncomputable def m_is_prime : Ms → O := (retS (andV (funE 1 (aCons (varE 0) aNil) Fisint) (op2 (varE 0) (cE (.scr true [.int 2, .int 3, .int 5, .int 7])) (inI false))))
theorem ok_is_prime {f : Addr} {fd : FuncData} (F : Fun K "is_prime" "is_prime" s_is_prime f fd) (k__PRIMES : KTup K mg "_PRIMES" [.int 2, .int 3, .int 5, .int 7]) (c_is_integer : Cal P w K mg base "is_integer" 1 ["value"] (spD K 1 Fisint)) : FnOk P w K mg base (L2.CX P w) 2 f fd ["p"] (spD K 1 (runD 1 m_is_prime)) :=
  defOk F sc_is_prime fun cdv A outer s H E hr => by
    have nd : N_is_prime.Nodup := sc_is_prime.nd
    have tk : Takes (cxOf (L2.CX P w) P w K mg base N_is_prime "is_prime" (defScope s_is_prime) f cdv A outer s H E) (fun cls d _ H' => E cls d H') := takes_of rfl rfl rfl rfl
    have po : PassesOwn (model P w) (cxOf (L2.CX P w) P w K mg base N_is_prime "is_prime" (defScope s_is_prime) f cdv A outer s H E).A (cxOf (L2.CX P w) P w K mg base N_is_prime "is_prime" (defScope s_is_prime) f cdv A outer s H E).env (cxOf (L2.CX P w) P w K mg base N_is_prime "is_prime" (defScope s_is_prime) f cdv A outer s H E).xe := passes_of rfl
    have hu64 := hr.units
    have hu65 := hu65_of hr
    have hu0 := hr.units0
    have hu1 := hu_of hr
    exact (dss_one (ds_ret (de_and (de_cal c_is_integer tk hr (by decide) (by rfl) (da_cons (de_var (pv 0)) da_nil)) (de_one (de_in (de_var (pv 0)) (de_ktup k__PRIMES (by rfl)))))))
abbrev s_check_rows : Stmt := topS 25
abbrev N_check_rows : List Str := ["p", "n", "rows", "row"]
theorem sc_check_rows : FnScope N_check_rows ["p", "n", "rows"] (defScope s_check_rows) := ⟨rfl, rfl, rfl, by decide +kernel, rfl, by decide +kernel, by decide +kernel⟩
noncomputable def m_check_rows (CM CR : Addr) : Ms → O := (seqS (ifS (orT (notT (truT (funE 1 (aCons (varE 0) aNil) Fisprime))) (orT (notT (truT (funE 1 (aCons (varE 1) aNil) Fisint))) (tst (op2 (varE 1) (cE (.int 0)) ltO)))) (raiseS ⟨CM, [], []⟩) nilS)
  (seqS (ifS (tst (op2 (varE 1) (cE (.int 12)) gtO)) (raiseS ⟨CR, ["reason"], [.str "length"]⟩) nilS)
  (seqS (ifS (notT (truT (op1 (varE 2) (isi2O "list" "tuple")))) (raiseS ⟨CM, [], []⟩) nilS)
  (ifS (notT (truT (calE (aCons (frz (lcE (itS (varE 2)) (Tk.nm 3).k yesT (funE 3 (aCons (varE 3) (aCons (varE 0) (aCons (varE 1) aNil))) Fisword) [3])) aNil) allO))) (raiseS ⟨CM, [], []⟩) nilS))))
theorem ok_check_rows {f : Addr} {fd : FuncData} (F : Fun K "check_rows" "check_rows" s_check_rows f fd) {CM CR : Addr} {tkL : Tok} (h_LONGEST_code : mg "LONGEST_code" = some (.int 12 tkL)) (h_all : mg "all" = none) (h_isinstance : mg "isinstance" = none) (h_list : mg "list" = none) (h_tuple : mg "tuple" = none) (R_Malformed : RaN P w K mg base "Malformed" CM) (R_Refused : RaS P w K mg base "Refused" CR "reason") (c_is_word : Cal P w K mg base "is_word" 2 ["value", "p", "n"] (spD K 3 Fisword)) (c_is_integer : Cal P w K mg base "is_integer" 1 ["value"] (spD K 1 Fisint)) (c_is_prime : Cal P w K mg base "is_prime" 2 ["p"] (spD K 1 Fisprime)) : FnOk P w K mg base (L2.CX P w) 3 f fd ["p", "n", "rows"] (spD K 3 (runD 4 (m_check_rows CM CR))) :=
  defOk F sc_check_rows fun cdv A outer s H E hr => by
    have nd : N_check_rows.Nodup := sc_check_rows.nd
    have tk : Takes (cxOf (L2.CX P w) P w K mg base N_check_rows "check_rows" (defScope s_check_rows) f cdv A outer s H E) (fun cls d _ H' => E cls d H') := takes_of rfl rfl rfl rfl
    have po : PassesOwn (model P w) (cxOf (L2.CX P w) P w K mg base N_check_rows "check_rows" (defScope s_check_rows) f cdv A outer s H E).A (cxOf (L2.CX P w) P w K mg base N_check_rows "check_rows" (defScope s_check_rows) f cdv A outer s H E).env (cxOf (L2.CX P w) P w K mg base N_check_rows "check_rows" (defScope s_check_rows) f cdv A outer s H E).xe := passes_of rfl
    have hu64 := hr.units
    have hu65 := hu65_of hr
    have hu0 := hr.units0
    have hu1 := hu_of hr
    exact (dss_cons (ds_if (PW.pt (dw_or (dt_not (dt_tru (de_cal c_is_prime tk hr (by decide) (by rfl) (da_cons (de_var (pv 0)) da_nil)))) (dw_or (dt_not (dt_tru (de_cal c_is_integer tk hr (by decide) (by rfl) (da_cons (de_var (pv 1)) da_nil)))) (dw_or1 (dt_lt (de_var (pv 1)) de_int))))) (dss_one (ds_raiseN R_Malformed (by rfl) tk (hr.mono (by decide)) (by rfl))) dss_nil)
      (dss_cons (ds_if (dt_gt (de_var (pv 1)) (de_gint (by rfl) h_LONGEST_code)) (dss_one (ds_raiseS R_Refused (by rfl) tk (hr.mono (by decide)) (by rfl) (by decide +kernel))) dss_nil)
      (dss_cons (ds_if (dt_not (dt_tru (de_isi2 (T := "list") (U := "tuple") (by decide +kernel) (by decide +kernel) (by rfl) h_isinstance (by rfl) h_list (by rfl) h_tuple (de_var (pv 2))))) (dss_one (ds_raiseN R_Malformed (by rfl) tk (hr.mono (by decide)) (by rfl))) dss_nil)
      (dss_one (ds_if (dt_not (dt_tru (de_all (by rfl) (by rfl) h_all (de_frz (dn_lc (by rfl) nd (di_seq (de_var (pv 2))) (blkOk_by (own := [("row", 3)]) (N := N_check_rows) (sc := defScope s_check_rows) (by decide +kernel)) (by decide) (fun _ _ _ _ _ => (dg_name (pg_name (i := 3) nd (by rfl) (by first | exact Or.inl rfl | exact Or.inr rfl)))) (fun _ _ _ _ _ => dts_nil) (fun _ _ _ _ _ => (de_cal c_is_word takes0 hr (by decide) (by rfl) (da_cons (de_var (pv 3)) (da_cons (de_var (pv 0)) (da_cons (de_var (pv 1)) da_nil)))))))))) (dss_one (ds_raiseN R_Malformed (by rfl) tk (hr.mono (by decide)) (by rfl))) dss_nil)))))
abbrev s_Code___init__ : Stmt := inClass (topS 26) 0
abbrev N_Code___init__ : List Str := ["self", "p", "n", "rows", "table", "_"]
theorem sc_Code___init__ : FnScope N_Code___init__ ["self", "p", "n", "rows"] (defScope s_Code___init__) := ⟨rfl, rfl, rfl, by decide +kernel, rfl, by decide +kernel, by decide +kernel⟩
noncomputable def m_Code___init__ (CC CM CR : Addr) : Ms → O := (seqS (dropS (funE 3 (aCons (varE 1) (aCons (varE 2) (aCons (varE 3) aNil))) (Fchk CM CR)))
  (seqS (asgT (Tk.tp [4, 5]) (funE 3 (aCons (varE 3) (aCons (varE 2) (aCons (varE 1) aNil))) Freduced))
  (seqS (ifS (tst (op2 (funE 2 (aCons (varE 1) (aCons (calE (aCons (varE 4) aNil) lenO) aNil)) Fpow) (cE (.int 4096)) gtO)) (raiseS ⟨CR, ["reason"], [.str "large"]⟩) nilS)
  (seqS (fldS CC "p" 0 (varE 1))
  (seqS (fldS CC "n" 0 (varE 2))
  (seqS (fldS CC "rows" 0 (varE 4))
  (seqS (fldS CC "k" 0 (calE (aCons (varE 4) aNil) lenO))
  (fldS CC "_checks" 0 (funE 3 (aCons (varE 4) (aCons (varE 2) (aCons (varE 1) aNil))) Fkernel)))))))))
theorem ok_Code___init__ {f : Addr} {fd : FuncData} (F : Fun K "__init__" "Code.__init__" s_Code___init__ f fd) {CC CM CR : Addr} {tkW : Tok} (h__MOST_WORDS : mg "_MOST_WORDS" = some (.int 4096 tkW)) (h_len : mg "len" = none) (R_Refused : RaS P w K mg base "Refused" CR "reason") (cl_Code : Cls K CC) (na_Code__checks : NoAttr K CC "_checks") (na_Code_k : NoAttr K CC "k") (na_Code_n : NoAttr K CC "n") (na_Code_p : NoAttr K CC "p") (na_Code_rows : NoAttr K CC "rows") (c_kernel : Cal P w K mg base "kernel" 4 ["rows", "width", "p"] (spD K 3 Fkernel)) (c_power : Cal P w K mg base "power" 1 ["a", "k"] (spD K 2 Fpow)) (c_reduced : Cal P w K mg base "reduced" 3 ["rows", "width", "p"] (spD K 3 Freduced)) (c_check_rows : Cal P w K mg base "check_rows" 3 ["p", "n", "rows"] (spD K 3 (Fchk CM CR))) : FnOk P w K mg base (L2.CX P w) 5 f fd ["self", "p", "n", "rows"] (spI K CC 3 (runI CC 6 (m_Code___init__ CC CM CR))) :=
  defOkI F sc_Code___init__ fun cdv A outer s H E hr => by
    have nd : N_Code___init__.Nodup := sc_Code___init__.nd
    have tk : Takes (cxOf (L2.CX P w) P w K mg base N_Code___init__ "Code.__init__" (defScope s_Code___init__) f cdv A outer s H E) (fun cls d _ H' => E cls d H') := takes_of rfl rfl rfl rfl
    have po : PassesOwn (model P w) (cxOf (L2.CX P w) P w K mg base N_Code___init__ "Code.__init__" (defScope s_Code___init__) f cdv A outer s H E).A (cxOf (L2.CX P w) P w K mg base N_Code___init__ "Code.__init__" (defScope s_Code___init__) f cdv A outer s H E).env (cxOf (L2.CX P w) P w K mg base N_Code___init__ "Code.__init__" (defScope s_Code___init__) f cdv A outer s H E).xe := passes_of rfl
    have hu64 := hr.units
    have hu65 := hu65_of hr
    have hu0 := hr.units0
    have hu1 := hu_of hr
    exact (dss_cons (ds_drop (de_cal c_check_rows tk hr (by decide) (by rfl) (da_cons (de_var (pv 1)) (da_cons (de_var (pv 2)) (da_cons (de_var (pv 3)) da_nil)))))
      (dss_cons (ds_tgt (de_cal c_reduced tk hr (by decide) (by rfl) (da_cons (de_var (pv 3)) (da_cons (de_var (pv 2)) (da_cons (de_var (pv 1)) da_nil)))) (dg_tup (by rfl) (dgs_cons (pg_name (i := 4) nd (by rfl) (by first | exact Or.inl rfl | exact Or.inr rfl)) (dgs_cons (pg_name (i := 5) nd (by rfl) (by first | exact Or.inl rfl | exact Or.inr rfl)) dgs_nil))))
      (dss_cons (ds_if (dt_gt (de_cal c_power tk hr (by decide) (by rfl) (da_cons (de_var (pv 1)) (da_cons (de_len (by rfl) h_len (de_var (pv 4))) da_nil))) (de_gint (by rfl) h__MOST_WORDS)) (dss_one (ds_raiseS R_Refused (by rfl) tk (hr.mono (by decide)) (by rfl) (by decide +kernel))) dss_nil)
      (dss_cons (ds_fldS cl_Code na_Code_p (pv 0) (de_var (pv 1)))
      (dss_cons (ds_fldS cl_Code na_Code_n (pv 0) (de_var (pv 2)))
      (dss_cons (ds_fldS cl_Code na_Code_rows (pv 0) (de_var (pv 4)))
      (dss_cons (ds_fldS cl_Code na_Code_k (pv 0) (de_len (by rfl) h_len (de_var (pv 4))))
      (dss_one (ds_fldS cl_Code na_Code__checks (pv 0) (de_cal c_kernel tk hr (by decide) (by rfl) (da_cons (de_var (pv 4)) (da_cons (de_var (pv 2)) (da_cons (de_var (pv 1)) da_nil)))))))))))))
abbrev s_Code_syndrome : Stmt := inClass (topS 26) 8
abbrev N_Code_syndrome : List Str := ["self", "word", "check"]
theorem sc_Code_syndrome : FnScope N_Code_syndrome ["self", "word"] (defScope s_Code_syndrome) := ⟨rfl, rfl, rfl, by decide +kernel, rfl, by decide +kernel, by decide +kernel⟩
noncomputable def m_Code_syndrome (CC CM : Addr) : Ms → O := (seqS (ifS (notT (truT (funE 3 (aCons (varE 1) (aCons (fldE CC "p" (varE 0)) (aCons (fldE CC "n" (varE 0)) aNil))) Fisword))) (raiseS ⟨CM, [], []⟩) nilS)
  (retS (calE (aCons (frz (lcE (itS (fldE CC "_checks" (varE 0))) (Tk.nm 2).k yesT (funE 3 (aCons (varE 2) (aCons (varE 1) (aCons (fldE CC "p" (varE 0)) aNil))) Fdot) [2])) aNil) tupO)))
theorem ok_Code_syndrome {f : Addr} {fd : FuncData} (F : Fun K "syndrome" "Code.syndrome" s_Code_syndrome f fd) {CC CM : Addr} (h_tuple : mg "tuple" = none) (R_Malformed : RaN P w K mg base "Malformed" CM) (cl_Code : Cls K CC) (na_Code__checks : NoAttr K CC "_checks") (na_Code_n : NoAttr K CC "n") (na_Code_p : NoAttr K CC "p") (c_dot : Cal P w K mg base "dot" 1 ["v", "w", "p"] (spD K 3 Fdot)) (c_is_word : Cal P w K mg base "is_word" 2 ["value", "p", "n"] (spD K 3 Fisword)) : FnOk P w K mg base (L2.CX P w) 3 f fd ["self", "word"] (spD K 2 (runD 3 (m_Code_syndrome CC CM))) :=
  defOk F sc_Code_syndrome fun cdv A outer s H E hr => by
    have nd : N_Code_syndrome.Nodup := sc_Code_syndrome.nd
    have tk : Takes (cxOf (L2.CX P w) P w K mg base N_Code_syndrome "Code.syndrome" (defScope s_Code_syndrome) f cdv A outer s H E) (fun cls d _ H' => E cls d H') := takes_of rfl rfl rfl rfl
    have po : PassesOwn (model P w) (cxOf (L2.CX P w) P w K mg base N_Code_syndrome "Code.syndrome" (defScope s_Code_syndrome) f cdv A outer s H E).A (cxOf (L2.CX P w) P w K mg base N_Code_syndrome "Code.syndrome" (defScope s_Code_syndrome) f cdv A outer s H E).env (cxOf (L2.CX P w) P w K mg base N_Code_syndrome "Code.syndrome" (defScope s_Code_syndrome) f cdv A outer s H E).xe := passes_of rfl
    have hu64 := hr.units
    have hu65 := hu65_of hr
    have hu0 := hr.units0
    have hu1 := hu_of hr
    exact (dss_cons (ds_if (dt_not (dt_tru (de_cal c_is_word tk hr (by decide) (by rfl) (da_cons (de_var (pv 1)) (da_cons (de_fld cl_Code na_Code_p (de_var (pv 0))) (da_cons (de_fld cl_Code na_Code_n (de_var (pv 0))) da_nil)))))) (dss_one (ds_raiseN R_Malformed (by rfl) tk (hr.mono (by decide)) (by rfl))) dss_nil)
      (dss_one (ds_ret (de_tupc (by rfl) h_tuple (de_frz (dn_lc (by rfl) nd (di_seq (de_fld cl_Code na_Code__checks (de_var (pv 0)))) (blkOk_by (own := [("check", 2)]) (N := N_Code_syndrome) (sc := defScope s_Code_syndrome) (by decide +kernel)) (by decide) (fun _ _ _ _ _ => (dg_name (pg_name (i := 2) nd (by rfl) (by first | exact Or.inl rfl | exact Or.inr rfl)))) (fun _ _ _ _ _ => dts_nil) (fun _ _ _ _ _ => (de_cal c_dot takes0 hr (by decide) (by rfl) (da_cons (de_var (pv 2)) (da_cons (de_var (pv 1)) (da_cons (de_fld cl_Code na_Code_p (de_var (pv 0))) da_nil)))))))))))
abbrev s_Code_holds : Stmt := inClass (topS 26) 4
abbrev N_Code_holds : List Str := ["self", "value"]
theorem sc_Code_holds : FnScope N_Code_holds ["self", "value"] (defScope s_Code_holds) := ⟨rfl, rfl, rfl, by decide +kernel, rfl, by decide +kernel, by decide +kernel⟩
noncomputable def m_Code_holds (CC CM : Addr) : Ms → O := (retS (andV (funE 3 (aCons (varE 1) (aCons (fldE CC "p" (varE 0)) (aCons (fldE CC "n" (varE 0)) aNil))) Fisword) (op1 (calE (aCons (metE CC "syndrome" 2 (varE 0) (aCons (varE 1) aNil) (Fsynd CC CM)) aNil) anyT) notO)))
theorem ok_Code_holds {f : Addr} {fd : FuncData} (F : Fun K "holds" "Code.holds" s_Code_holds f fd) {CC CM : Addr} (h_any : mg "any" = none) (cl_Code : Cls K CC) (na_Code_n : NoAttr K CC "n") (na_Code_p : NoAttr K CC "p") (cm_Code_syndrome : CalM P w K mg base CC "syndrome" 3 ["self", "word"] (spD K 2 (Fsynd CC CM))) (c_is_word : Cal P w K mg base "is_word" 2 ["value", "p", "n"] (spD K 3 Fisword)) : FnOk P w K mg base (L2.CX P w) 4 f fd ["self", "value"] (spD K 2 (runD 2 (m_Code_holds CC CM))) :=
  defOk F sc_Code_holds fun cdv A outer s H E hr => by
    have nd : N_Code_holds.Nodup := sc_Code_holds.nd
    have tk : Takes (cxOf (L2.CX P w) P w K mg base N_Code_holds "Code.holds" (defScope s_Code_holds) f cdv A outer s H E) (fun cls d _ H' => E cls d H') := takes_of rfl rfl rfl rfl
    have po : PassesOwn (model P w) (cxOf (L2.CX P w) P w K mg base N_Code_holds "Code.holds" (defScope s_Code_holds) f cdv A outer s H E).A (cxOf (L2.CX P w) P w K mg base N_Code_holds "Code.holds" (defScope s_Code_holds) f cdv A outer s H E).env (cxOf (L2.CX P w) P w K mg base N_Code_holds "Code.holds" (defScope s_Code_holds) f cdv A outer s H E).xe := passes_of rfl
    have hu64 := hr.units
    have hu65 := hu65_of hr
    have hu0 := hr.units0
    have hu1 := hu_of hr
    exact (dss_one (ds_ret (de_and (de_cal c_is_word tk hr (by decide) (by rfl) (da_cons (de_var (pv 1)) (da_cons (de_fld cl_Code na_Code_p (de_var (pv 0))) (da_cons (de_fld cl_Code na_Code_n (de_var (pv 0))) da_nil)))) (de_one (de_not (de_anyT (by rfl) (by rfl) h_any (de_met cm_Code_syndrome tk hr (by decide) (de_var (pv 0)) (da_cons (de_var (pv 1)) da_nil))))))))
abbrev s_Code_dual : Stmt := inClass (topS 26) 6
abbrev N_Code_dual : List Str := ["self"]
theorem sc_Code_dual : FnScope N_Code_dual ["self"] (defScope s_Code_dual) := ⟨rfl, rfl, rfl, by decide +kernel, rfl, by decide +kernel, by decide +kernel⟩
noncomputable def m_Code_dual (CC CM CR : Addr) : Ms → O := (retS (makE CC 3 (aCons (fldE CC "p" (varE 0)) (aCons (fldE CC "n" (varE 0)) (aCons (fldE CC "_checks" (varE 0)) aNil))) (Finit CC CM CR)))
theorem ok_Code_dual {f : Addr} {fd : FuncData} (F : Fun K "dual" "Code.dual" s_Code_dual f fd) {CC CM CR : Addr} (cl_Code : Cls K CC) (na_Code__checks : NoAttr K CC "_checks") (na_Code_n : NoAttr K CC "n") (na_Code_p : NoAttr K CC "p") (ci_Code : CalI P w K mg base "Code" CC 5 ["self", "p", "n", "rows"] 3 (Finit CC CM CR)) : FnOk P w K mg base (L2.CX P w) 7 f fd ["self"] (spD K 1 (runD 1 (m_Code_dual CC CM CR))) :=
  defOk F sc_Code_dual fun cdv A outer s H E hr => by
    have nd : N_Code_dual.Nodup := sc_Code_dual.nd
    have tk : Takes (cxOf (L2.CX P w) P w K mg base N_Code_dual "Code.dual" (defScope s_Code_dual) f cdv A outer s H E) (fun cls d _ H' => E cls d H') := takes_of rfl rfl rfl rfl
    have po : PassesOwn (model P w) (cxOf (L2.CX P w) P w K mg base N_Code_dual "Code.dual" (defScope s_Code_dual) f cdv A outer s H E).A (cxOf (L2.CX P w) P w K mg base N_Code_dual "Code.dual" (defScope s_Code_dual) f cdv A outer s H E).env (cxOf (L2.CX P w) P w K mg base N_Code_dual "Code.dual" (defScope s_Code_dual) f cdv A outer s H E).xe := passes_of rfl
    have hu64 := hr.units
    have hu65 := hu65_of hr
    have hu0 := hr.units0
    have hu1 := hu_of hr
    exact (dss_one (ds_ret (de_make ci_Code tk hr (by decide) (by rfl) (da_cons (de_fld cl_Code na_Code_p (de_var (pv 0))) (da_cons (de_fld cl_Code na_Code_n (de_var (pv 0))) (da_cons (de_fld cl_Code na_Code__checks (de_var (pv 0))) da_nil))))))
abbrev s_Code_checks : Stmt := inClass (topS 26) 7
abbrev N_Code_checks : List Str := ["self"]
theorem sc_Code_checks : FnScope N_Code_checks ["self"] (defScope s_Code_checks) := ⟨rfl, rfl, rfl, by decide +kernel, rfl, by decide +kernel, by decide +kernel⟩
noncomputable def m_Code_checks (CC : Addr) : Ms → O := (retS (fldE CC "_checks" (varE 0)))
theorem ok_Code_checks {f : Addr} {fd : FuncData} (F : Fun K "checks" "Code.checks" s_Code_checks f fd) {CC : Addr} (cl_Code : Cls K CC) (na_Code__checks : NoAttr K CC "_checks") : FnOk P w K mg base (L2.CX P w) 1 f fd ["self"] (spD K 1 (runD 1 (m_Code_checks CC))) :=
  defOk F sc_Code_checks fun cdv A outer s H E hr => by
    have nd : N_Code_checks.Nodup := sc_Code_checks.nd
    have tk : Takes (cxOf (L2.CX P w) P w K mg base N_Code_checks "Code.checks" (defScope s_Code_checks) f cdv A outer s H E) (fun cls d _ H' => E cls d H') := takes_of rfl rfl rfl rfl
    have po : PassesOwn (model P w) (cxOf (L2.CX P w) P w K mg base N_Code_checks "Code.checks" (defScope s_Code_checks) f cdv A outer s H E).A (cxOf (L2.CX P w) P w K mg base N_Code_checks "Code.checks" (defScope s_Code_checks) f cdv A outer s H E).env (cxOf (L2.CX P w) P w K mg base N_Code_checks "Code.checks" (defScope s_Code_checks) f cdv A outer s H E).xe := passes_of rfl
    have hu64 := hr.units
    have hu65 := hu65_of hr
    have hu0 := hr.units0
    have hu1 := hu_of hr
    exact (dss_one (ds_ret (de_fld cl_Code na_Code__checks (de_var (pv 0)))))
abbrev s__check_alike : Stmt := topS 30
abbrev N__check_alike : List Str := ["a", "b"]
theorem sc__check_alike : FnScope N__check_alike ["a", "b"] (defScope s__check_alike) := ⟨rfl, rfl, rfl, by decide +kernel, rfl, by decide +kernel, by decide +kernel⟩
noncomputable def m__check_alike (CC CM : Addr) : Ms → O := (ifS (orT (tst (op2 (fldE CC "p" (varE 0)) (fldE CC "p" (varE 1)) neO)) (tst (op2 (fldE CC "n" (varE 0)) (fldE CC "n" (varE 1)) neO))) (raiseS ⟨CM, [], []⟩) nilS)
theorem ok__check_alike {f : Addr} {fd : FuncData} (F : Fun K "_check_alike" "_check_alike" s__check_alike f fd) {CC CM : Addr} (R_Malformed : RaN P w K mg base "Malformed" CM) (cl_Code : Cls K CC) (na_Code_n : NoAttr K CC "n") (na_Code_p : NoAttr K CC "p") : FnOk P w K mg base (L2.CX P w) 3 f fd ["a", "b"] (spD K 2 (runD 2 (m__check_alike CC CM))) :=
  defOk F sc__check_alike fun cdv A outer s H E hr => by
    have nd : N__check_alike.Nodup := sc__check_alike.nd
    have tk : Takes (cxOf (L2.CX P w) P w K mg base N__check_alike "_check_alike" (defScope s__check_alike) f cdv A outer s H E) (fun cls d _ H' => E cls d H') := takes_of rfl rfl rfl rfl
    have po : PassesOwn (model P w) (cxOf (L2.CX P w) P w K mg base N__check_alike "_check_alike" (defScope s__check_alike) f cdv A outer s H E).A (cxOf (L2.CX P w) P w K mg base N__check_alike "_check_alike" (defScope s__check_alike) f cdv A outer s H E).env (cxOf (L2.CX P w) P w K mg base N__check_alike "_check_alike" (defScope s__check_alike) f cdv A outer s H E).xe := passes_of rfl
    have hu64 := hr.units
    have hu65 := hu65_of hr
    have hu0 := hr.units0
    have hu1 := hu_of hr
    exact (dss_one (ds_if (PW.pt (dw_or (dt_ne hu64 (de_fld cl_Code na_Code_p (de_var (pv 0))) (de_fld cl_Code na_Code_p (de_var (pv 1)))) (dw_or1 (dt_ne hu64 (de_fld cl_Code na_Code_n (de_var (pv 0))) (de_fld cl_Code na_Code_n (de_var (pv 1))))))) (dss_one (ds_raiseN R_Malformed (by rfl) tk (hr.mono (by decide)) (by rfl))) dss_nil))
abbrev s_sum_of : Stmt := topS 28
abbrev N_sum_of : List Str := ["a", "b"]
theorem sc_sum_of : FnScope N_sum_of ["a", "b"] (defScope s_sum_of) := ⟨rfl, rfl, rfl, by decide +kernel, rfl, by decide +kernel, by decide +kernel⟩
noncomputable def m_sum_of (CC CM CR : Addr) : Ms → O := (seqS (dropS (funE 2 (aCons (varE 0) (aCons (varE 1) aNil)) (Falike CC CM)))
  (retS (makE CC 3 (aCons (fldE CC "p" (varE 0)) (aCons (fldE CC "n" (varE 0)) (aCons (op2 (fldE CC "rows" (varE 0)) (fldE CC "rows" (varE 1)) catT) aNil))) (Finit CC CM CR))))
theorem ok_sum_of {f : Addr} {fd : FuncData} (F : Fun K "sum_of" "sum_of" s_sum_of f fd) {CC CM CR : Addr} (cl_Code : Cls K CC) (na_Code_n : NoAttr K CC "n") (na_Code_p : NoAttr K CC "p") (na_Code_rows : NoAttr K CC "rows") (ci_Code : CalI P w K mg base "Code" CC 5 ["self", "p", "n", "rows"] 3 (Finit CC CM CR)) (c__check_alike : Cal P w K mg base "_check_alike" 3 ["a", "b"] (spD K 2 (Falike CC CM))) : FnOk P w K mg base (L2.CX P w) 7 f fd ["a", "b"] (spD K 2 (runD 2 (m_sum_of CC CM CR))) :=
  defOk F sc_sum_of fun cdv A outer s H E hr => by
    have nd : N_sum_of.Nodup := sc_sum_of.nd
    have tk : Takes (cxOf (L2.CX P w) P w K mg base N_sum_of "sum_of" (defScope s_sum_of) f cdv A outer s H E) (fun cls d _ H' => E cls d H') := takes_of rfl rfl rfl rfl
    have po : PassesOwn (model P w) (cxOf (L2.CX P w) P w K mg base N_sum_of "sum_of" (defScope s_sum_of) f cdv A outer s H E).A (cxOf (L2.CX P w) P w K mg base N_sum_of "sum_of" (defScope s_sum_of) f cdv A outer s H E).env (cxOf (L2.CX P w) P w K mg base N_sum_of "sum_of" (defScope s_sum_of) f cdv A outer s H E).xe := passes_of rfl
    have hu64 := hr.units
    have hu65 := hu65_of hr
    have hu0 := hr.units0
    have hu1 := hu_of hr
    exact (dss_cons (ds_drop (de_cal c__check_alike tk hr (by decide) (by rfl) (da_cons (de_var (pv 0)) (da_cons (de_var (pv 1)) da_nil))))
      (dss_one (ds_ret (de_make ci_Code tk hr (by decide) (by rfl) (da_cons (de_fld cl_Code na_Code_p (de_var (pv 0))) (da_cons (de_fld cl_Code na_Code_n (de_var (pv 0))) (da_cons (de_catT (de_fld cl_Code na_Code_rows (de_var (pv 0))) (de_fld cl_Code na_Code_rows (de_var (pv 1)))) da_nil)))))))
abbrev s_common_part : Stmt := topS 29
abbrev N_common_part : List Str := ["a", "b"]
theorem sc_common_part : FnScope N_common_part ["a", "b"] (defScope s_common_part) := ⟨rfl, rfl, rfl, by decide +kernel, rfl, by decide +kernel, by decide +kernel⟩
noncomputable def m_common_part (CC CM CR : Addr) : Ms → O := (seqS (dropS (funE 2 (aCons (varE 0) (aCons (varE 1) aNil)) (Falike CC CM)))
  (retS (makE CC 3 (aCons (fldE CC "p" (varE 0)) (aCons (fldE CC "n" (varE 0)) (aCons (funE 3 (aCons (op2 (metE CC "checks" 1 (varE 0) aNil (Fchecks CC)) (metE CC "checks" 1 (varE 1) aNil (Fchecks CC)) catT) (aCons (fldE CC "n" (varE 0)) (aCons (fldE CC "p" (varE 0)) aNil))) Fkernel) aNil))) (Finit CC CM CR))))
theorem ok_common_part {f : Addr} {fd : FuncData} (F : Fun K "common_part" "common_part" s_common_part f fd) {CC CM CR : Addr} (cl_Code : Cls K CC) (na_Code_n : NoAttr K CC "n") (na_Code_p : NoAttr K CC "p") (cm_Code_checks : CalM P w K mg base CC "checks" 1 ["self"] (spD K 1 (Fchecks CC))) (ci_Code : CalI P w K mg base "Code" CC 5 ["self", "p", "n", "rows"] 3 (Finit CC CM CR)) (c_kernel : Cal P w K mg base "kernel" 4 ["rows", "width", "p"] (spD K 3 Fkernel)) (c__check_alike : Cal P w K mg base "_check_alike" 3 ["a", "b"] (spD K 2 (Falike CC CM))) : FnOk P w K mg base (L2.CX P w) 7 f fd ["a", "b"] (spD K 2 (runD 2 (m_common_part CC CM CR))) :=
  defOk F sc_common_part fun cdv A outer s H E hr => by
    have nd : N_common_part.Nodup := sc_common_part.nd
    have tk : Takes (cxOf (L2.CX P w) P w K mg base N_common_part "common_part" (defScope s_common_part) f cdv A outer s H E) (fun cls d _ H' => E cls d H') := takes_of rfl rfl rfl rfl
    have po : PassesOwn (model P w) (cxOf (L2.CX P w) P w K mg base N_common_part "common_part" (defScope s_common_part) f cdv A outer s H E).A (cxOf (L2.CX P w) P w K mg base N_common_part "common_part" (defScope s_common_part) f cdv A outer s H E).env (cxOf (L2.CX P w) P w K mg base N_common_part "common_part" (defScope s_common_part) f cdv A outer s H E).xe := passes_of rfl
    have hu64 := hr.units
    have hu65 := hu65_of hr
    have hu0 := hr.units0
    have hu1 := hu_of hr
    exact (dss_cons (ds_drop (de_cal c__check_alike tk hr (by decide) (by rfl) (da_cons (de_var (pv 0)) (da_cons (de_var (pv 1)) da_nil))))
      (dss_one (ds_ret (de_make ci_Code tk hr (by decide) (by rfl) (da_cons (de_fld cl_Code na_Code_p (de_var (pv 0))) (da_cons (de_fld cl_Code na_Code_n (de_var (pv 0))) (da_cons (de_cal c_kernel tk hr (by decide) (by rfl) (da_cons (de_catT (de_met0 cm_Code_checks tk hr (by decide) (de_var (pv 0))) (de_met0 cm_Code_checks tk hr (by decide) (de_var (pv 1)))) (da_cons (de_fld cl_Code na_Code_n (de_var (pv 0))) (da_cons (de_fld cl_Code na_Code_p (de_var (pv 0))) da_nil)))) da_nil)))))))
abbrev s__trimmed : Stmt := topS 33
abbrev N__trimmed : List Str := ["items", "places", "at", "item"]
theorem sc__trimmed : FnScope N__trimmed ["items"] (defScope s__trimmed) := ⟨rfl, rfl, rfl, by decide +kernel, rfl, by decide +kernel, by decide +kernel⟩
noncomputable def m__trimmed : Ms → O := (seqS (asgS 1 (frz (lcE (itEnA (aCons (varE 0) aNil)) (Tk.tp [2, 3]).k (tst (op2 (varE 3) (cE (.int 0)) neO)) (varE 2) [2, 3])))
  (retS (ifE (truT (varE 1)) (calE (aCons (slA (varE 0) oNone (oSome (op2 (op2 (varE 1) (op1 (cE (.int 1)) negO) ixO) (cE (.int 1)) addO))) aNil) tupO) (tupE aNil))))
theorem ok__trimmed {f : Addr} {fd : FuncData} (F : Fun K "_trimmed" "_trimmed" s__trimmed f fd) (h_enumerate : mg "enumerate" = none) (h_tuple : mg "tuple" = none) : FnOk P w K mg base (L2.CX P w) 1 f fd ["items"] (spD K 1 (runD 4 m__trimmed)) :=
  defOk F sc__trimmed fun cdv A outer s H E hr => by
    have nd : N__trimmed.Nodup := sc__trimmed.nd
    have tk : Takes (cxOf (L2.CX P w) P w K mg base N__trimmed "_trimmed" (defScope s__trimmed) f cdv A outer s H E) (fun cls d _ H' => E cls d H') := takes_of rfl rfl rfl rfl
    have po : PassesOwn (model P w) (cxOf (L2.CX P w) P w K mg base N__trimmed "_trimmed" (defScope s__trimmed) f cdv A outer s H E).A (cxOf (L2.CX P w) P w K mg base N__trimmed "_trimmed" (defScope s__trimmed) f cdv A outer s H E).env (cxOf (L2.CX P w) P w K mg base N__trimmed "_trimmed" (defScope s__trimmed) f cdv A outer s H E).xe := passes_of rfl
    have hu64 := hr.units
    have hu65 := hu65_of hr
    have hu0 := hr.units0
    have hu1 := hu_of hr
    exact (dss_cons (ds_lc (i := 1) (by rfl) nd (by rfl) (by rfl) (sw_true (by rfl) (by rfl) (by rfl) (by decide +kernel)) (di_enumA (by rfl) h_enumerate (da_cons (de_var (pv 0)) da_nil)) (blkOk_by (own := [("at", 2), ("item", 3)]) (N := N__trimmed) (sc := defScope s__trimmed) (by decide +kernel)) (by decide) (fun _ _ _ _ _ => (dg_tup (by rfl) (dgs_cons (pg_name (i := 2) nd (by rfl) (by first | exact Or.inl rfl | exact Or.inr rfl)) (dgs_cons (pg_name (i := 3) nd (by rfl) (by first | exact Or.inl rfl | exact Or.inr rfl)) dgs_nil)))) (fun _ _ _ _ _ => (dts_one (dt_ne hu64 (de_var (pv 3)) de_int))) (fun _ _ _ _ _ => (de_var (pv 2))))
      (dss_one (ds_ret (de_ifx (dt_tru (de_var (pv 1))) (de_tupc (by rfl) h_tuple (de_sliceA (de_var (pv 0)) do_none (do_some (de_add (de_sub1 (de_var (pv 1)) (de_neg de_int)) de_int)))) (de_tup da_nil)))))
abbrev s__monic : Stmt := topS 34
abbrev N__monic : List Str := ["a", "p"]
theorem sc__monic : FnScope N__monic ["a", "p"] (defScope s__monic) := ⟨rfl, rfl, rfl, by decide +kernel, rfl, by decide +kernel, by decide +kernel⟩
noncomputable def m__monic : Ms → O := (retS (ifE (truT (varE 0)) (funE 3 (aCons (varE 0) (aCons (funE 2 (aCons (op2 (varE 0) (op1 (cE (.int 1)) negO) ixO) (aCons (varE 1) aNil)) Finverse) (aCons (varE 1) aNil))) FscW) (varE 0)))
theorem ok__monic {f : Addr} {fd : FuncData} (F : Fun K "_monic" "_monic" s__monic f fd) (c_scaled : Cal P w K mg base "scaled" 1 ["v", "a", "p"] (spD K 3 FscW)) (c_inverse : Cal P w K mg base "inverse" 1 ["a", "p"] (spD K 2 Finverse)) : FnOk P w K mg base (L2.CX P w) 2 f fd ["a", "p"] (spD K 2 (runD 2 m__monic)) :=
  defOk F sc__monic fun cdv A outer s H E hr => by
    have nd : N__monic.Nodup := sc__monic.nd
    have tk : Takes (cxOf (L2.CX P w) P w K mg base N__monic "_monic" (defScope s__monic) f cdv A outer s H E) (fun cls d _ H' => E cls d H') := takes_of rfl rfl rfl rfl
    have po : PassesOwn (model P w) (cxOf (L2.CX P w) P w K mg base N__monic "_monic" (defScope s__monic) f cdv A outer s H E).A (cxOf (L2.CX P w) P w K mg base N__monic "_monic" (defScope s__monic) f cdv A outer s H E).env (cxOf (L2.CX P w) P w K mg base N__monic "_monic" (defScope s__monic) f cdv A outer s H E).xe := passes_of rfl
    have hu64 := hr.units
    have hu65 := hu65_of hr
    have hu0 := hr.units0
    have hu1 := hu_of hr
    exact (dss_one (ds_ret (de_ifx (dt_tru (de_var (pv 0))) (de_cal c_scaled tk hr (by decide) (by rfl) (da_cons (de_var (pv 0)) (da_cons (de_cal c_inverse tk hr (by decide) (by rfl) (da_cons (de_sub1 (de_var (pv 0)) (de_neg de_int)) (da_cons (de_var (pv 1)) da_nil))) (da_cons (de_var (pv 1)) da_nil)))) (de_var (pv 0)))))
abbrev s_times : Stmt := topS 35
abbrev N_times : List Str := ["a", "b", "p", "items", "i", "x", "j", "y"]
theorem sc_times : FnScope N_times ["a", "b", "p"] (defScope s_times) := ⟨rfl, rfl, rfl, by decide +kernel, rfl, by decide +kernel, by decide +kernel⟩
noncomputable def m_times : Ms → O := (seqS (asgN 3 (opN (frz (lstE (aCons (cE (.int 0)) aNil))) (op2 (calE (aCons (varE 0) aNil) lenO) (calE (aCons (varE 1) aNil) lenO) addO) repL))
  (seqS (forS (itEn (aCons (varE 0) aNil)) (Tk.tp [4, 5]).k (forS (itEn (aCons (varE 1) aNil)) (Tk.tp [6, 7]).k (setS 3 (op2 (op2 (ixV 3 (op2 (varE 4) (varE 6) addO)) (op2 (varE 5) (varE 7) mulO) addO) (varE 2) modO) (op2 (varE 4) (varE 6) addO))))
  (retS (funE 1 (aCons (varE 3) aNil) Ftrim))))
theorem ok_times {f : Addr} {fd : FuncData} (F : Fun K "times" "times" s_times f fd) (h_enumerate : mg "enumerate" = none) (h_len : mg "len" = none) (c__trimmed : Cal P w K mg base "_trimmed" 1 ["items"] (spD K 1 Ftrim)) : FnOk P w K mg base (L2.CX P w) 2 f fd ["a", "b", "p"] (spD K 3 (runD 8 m_times)) :=
  defOk F sc_times fun cdv A outer s H E hr => by
    have nd : N_times.Nodup := sc_times.nd
    have tk : Takes (cxOf (L2.CX P w) P w K mg base N_times "times" (defScope s_times) f cdv A outer s H E) (fun cls d _ H' => E cls d H') := takes_of rfl rfl rfl rfl
    have po : PassesOwn (model P w) (cxOf (L2.CX P w) P w K mg base N_times "times" (defScope s_times) f cdv A outer s H E).A (cxOf (L2.CX P w) P w K mg base N_times "times" (defScope s_times) f cdv A outer s H E).env (cxOf (L2.CX P w) P w K mg base N_times "times" (defScope s_times) f cdv A outer s H E).xe := passes_of rfl
    have hu64 := hr.units
    have hu65 := hu65_of hr
    have hu0 := hr.units0
    have hu1 := hu_of hr
    exact (dss_cons (ds_setN (i := 3) nd (by rfl) (by first | exact Or.inl rfl | exact Or.inr rfl) (dn_repL (de_frz (dn_lst (da_cons de_int da_nil))) (de_add (de_len (by rfl) h_len (de_var (pv 0))) (de_len (by rfl) h_len (de_var (pv 1))))))
      (dss_cons (ds_for po (by rfl) (di_enum (by rfl) h_enumerate (da_cons (de_var (pv 0)) da_nil)) (dg_tup (by rfl) (dgs_cons (pg_name (i := 4) nd (by rfl) (by first | exact Or.inl rfl | exact Or.inr rfl)) (dgs_cons (pg_name (i := 5) nd (by rfl) (by first | exact Or.inl rfl | exact Or.inr rfl)) dgs_nil))) (dss_one (ds_for po (by rfl) (di_enum (by rfl) h_enumerate (da_cons (de_var (pv 1)) da_nil)) (dg_tup (by rfl) (dgs_cons (pg_name (i := 6) nd (by rfl) (by first | exact Or.inl rfl | exact Or.inr rfl)) (dgs_cons (pg_name (i := 7) nd (by rfl) (by first | exact Or.inl rfl | exact Or.inr rfl)) dgs_nil))) (dss_one (ds_setI (pv 3) (de_add (de_var (pv 4)) (de_var (pv 6))) (de_mod (de_add (de_ixV (pv 3) (de_add (de_var (pv 4)) (de_var (pv 6)))) (de_mul (de_var (pv 5)) (de_var (pv 7)))) (de_var (pv 2))))))))
      (dss_one (ds_ret (de_cal c__trimmed tk hr (by decide) (by rfl) (da_cons (de_var (pv 3)) da_nil))))))
abbrev s_divided : Stmt := topS 36
abbrev N_divided : List Str := ["a", "b", "p", "left", "quotient", "head", "at", "factor", "j", "y"]
theorem sc_divided : FnScope N_divided ["a", "b", "p"] (defScope s_divided) := ⟨rfl, rfl, rfl, by decide +kernel, rfl, by decide +kernel, by decide +kernel⟩
noncomputable def m_divided (CR : Addr) : Ms → O := (seqS (ifS (tst (op2 (calE (aCons (varE 1) aNil) lenO) (cE (.int 0)) eqO)) (raiseS ⟨CR, ["reason"], [.str "zero"]⟩) nilS)
  (seqS (asgN 3 (calN (aCons (varE 0) aNil) lstO))
  (seqS (asgN 4 (lstE aNil))
  (seqS (asgS 5 (funE 2 (aCons (op2 (varE 1) (op1 (cE (.int 1)) negO) ixO) (aCons (varE 2) aNil)) Finverse))
  (seqS (forS (itRv (op2 (op2 (calE (aCons (varE 0) aNil) lenO) (calE (aCons (varE 1) aNil) lenO) subO) (cE (.int 1)) addO)) (Tk.nm 6).k (seqS (asgS 7 (op2 (op2 (ixV 3 (op2 (op2 (varE 6) (calE (aCons (varE 1) aNil) lenO) addO) (cE (.int 1)) subO)) (varE 5) mulO) (varE 2) modO))
  (seqS (appS 4 (varE 7))
  (forS (itEn (aCons (varE 1) aNil)) (Tk.tp [8, 9]).k (setS 3 (op2 (op2 (ixV 3 (op2 (varE 6) (varE 8) addO)) (op2 (varE 7) (varE 9) mulO) subO) (varE 2) modO) (op2 (varE 6) (varE 8) addO))))))
  (retS (tupE (aCons (calE (aCons (frz (revL (varE 4))) aNil) tupO) (aCons (funE 1 (aCons (varE 3) aNil) Ftrim) aNil)))))))))
theorem ok_divided {f : Addr} {fd : FuncData} (F : Fun K "divided" "divided" s_divided f fd) {CR : Addr} (h_enumerate : mg "enumerate" = none) (h_len : mg "len" = none) (h_list : mg "list" = none) (h_range : mg "range" = none) (h_reversed : mg "reversed" = none) (h_tuple : mg "tuple" = none) (R_Refused : RaS P w K mg base "Refused" CR "reason") (c__trimmed : Cal P w K mg base "_trimmed" 1 ["items"] (spD K 1 Ftrim)) (c_inverse : Cal P w K mg base "inverse" 1 ["a", "p"] (spD K 2 Finverse)) : FnOk P w K mg base (L2.CX P w) 3 f fd ["a", "b", "p"] (spD K 3 (runD 10 (m_divided CR))) :=
  defOk F sc_divided fun cdv A outer s H E hr => by
    have nd : N_divided.Nodup := sc_divided.nd
    have tk : Takes (cxOf (L2.CX P w) P w K mg base N_divided "divided" (defScope s_divided) f cdv A outer s H E) (fun cls d _ H' => E cls d H') := takes_of rfl rfl rfl rfl
    have po : PassesOwn (model P w) (cxOf (L2.CX P w) P w K mg base N_divided "divided" (defScope s_divided) f cdv A outer s H E).A (cxOf (L2.CX P w) P w K mg base N_divided "divided" (defScope s_divided) f cdv A outer s H E).env (cxOf (L2.CX P w) P w K mg base N_divided "divided" (defScope s_divided) f cdv A outer s H E).xe := passes_of rfl
    have hu64 := hr.units
    have hu65 := hu65_of hr
    have hu0 := hr.units0
    have hu1 := hu_of hr
    exact (dss_cons (ds_if (dt_eq hu64 (de_len (by rfl) h_len (de_var (pv 1))) de_int) (dss_one (ds_raiseS R_Refused (by rfl) tk (hr.mono (by decide)) (by rfl) (by decide +kernel))) dss_nil)
      (dss_cons (ds_setN (i := 3) nd (by rfl) (by first | exact Or.inl rfl | exact Or.inr rfl) (dn_list (by rfl) h_list (de_var (pv 0))))
      (dss_cons (ds_setN (i := 4) nd (by rfl) (by first | exact Or.inl rfl | exact Or.inr rfl) (dn_lst da_nil))
      (dss_cons (ds_set (i := 5) nd (by rfl) (by first | exact Or.inl rfl | exact Or.inr rfl) (de_cal c_inverse tk hr (by decide) (by rfl) (da_cons (de_sub1 (de_var (pv 1)) (de_neg de_int)) (da_cons (de_var (pv 2)) da_nil))))
      (dss_cons (ds_for po (by rfl) (di_revR (by rfl) h_reversed (by rfl) h_range (de_add (de_sub (de_len (by rfl) h_len (de_var (pv 0))) (de_len (by rfl) h_len (de_var (pv 1)))) de_int)) (dg_name (pg_name (i := 6) nd (by rfl) (by first | exact Or.inl rfl | exact Or.inr rfl))) (dss_cons (ds_set (i := 7) nd (by rfl) (by first | exact Or.inl rfl | exact Or.inr rfl) (de_mod (de_mul (de_ixV (pv 3) (de_sub (de_add (de_var (pv 6)) (de_len (by rfl) h_len (de_var (pv 1)))) de_int)) (de_var (pv 5))) (de_var (pv 2))))
      (dss_cons (ds_app (pv 4) (de_var (pv 7)))
      (dss_one (ds_for po (by rfl) (di_enum (by rfl) h_enumerate (da_cons (de_var (pv 1)) da_nil)) (dg_tup (by rfl) (dgs_cons (pg_name (i := 8) nd (by rfl) (by first | exact Or.inl rfl | exact Or.inr rfl)) (dgs_cons (pg_name (i := 9) nd (by rfl) (by first | exact Or.inl rfl | exact Or.inr rfl)) dgs_nil))) (dss_one (ds_setI (pv 3) (de_add (de_var (pv 6)) (de_var (pv 8))) (de_mod (de_sub (de_ixV (pv 3) (de_add (de_var (pv 6)) (de_var (pv 8)))) (de_mul (de_var (pv 7)) (de_var (pv 9)))) (de_var (pv 2))))))))))
      (dss_one (ds_ret (de_tup (da_cons (de_tupc (by rfl) h_tuple (de_frz (dn_revL (de_var (pv 4))))) (da_cons (de_cal c__trimmed tk hr (by decide) (by rfl) (da_cons (de_var (pv 3)) da_nil)) da_nil))))))))))
abbrev s_common_divisor : Stmt := topS 37
abbrev N_common_divisor : List Str := ["a", "b", "p", "one", "other", "_", "rest"]
theorem sc_common_divisor : FnScope N_common_divisor ["a", "b", "p"] (defScope s_common_divisor) := ⟨rfl, rfl, rfl, by decide +kernel, rfl, by decide +kernel, by decide +kernel⟩
noncomputable def m_common_divisor (CR : Addr) : Ms → O := (seqS (moveS 3 0)
  (seqS (moveS 4 1)
  (seqS (whileS (fun _ => 64) (truT (varE 4)) (seqS (asgT (Tk.tp [5, 6]) (funE 3 (aCons (varE 3) (aCons (varE 4) (aCons (varE 2) aNil))) (Fdivd CR)))
  (seqS (moveS 3 4)
  (moveS 4 6))))
  (retS (funE 2 (aCons (varE 3) (aCons (varE 2) aNil)) Fmonic)))))
theorem ok_common_divisor {f : Addr} {fd : FuncData} (F : Fun K "common_divisor" "common_divisor" s_common_divisor f fd) {CR : Addr} (c__monic : Cal P w K mg base "_monic" 2 ["a", "p"] (spD K 2 Fmonic)) (c_divided : Cal P w K mg base "divided" 3 ["a", "b", "p"] (spD K 3 (Fdivd CR))) : FnOk P w K mg base (L2.CX P w) 4 f fd ["a", "b", "p"] (spD K 3 (runD 7 (m_common_divisor CR))) :=
  defOk F sc_common_divisor fun cdv A outer s H E hr => by
    have nd : N_common_divisor.Nodup := sc_common_divisor.nd
    have tk : Takes (cxOf (L2.CX P w) P w K mg base N_common_divisor "common_divisor" (defScope s_common_divisor) f cdv A outer s H E) (fun cls d _ H' => E cls d H') := takes_of rfl rfl rfl rfl
    have po : PassesOwn (model P w) (cxOf (L2.CX P w) P w K mg base N_common_divisor "common_divisor" (defScope s_common_divisor) f cdv A outer s H E).A (cxOf (L2.CX P w) P w K mg base N_common_divisor "common_divisor" (defScope s_common_divisor) f cdv A outer s H E).env (cxOf (L2.CX P w) P w K mg base N_common_divisor "common_divisor" (defScope s_common_divisor) f cdv A outer s H E).xe := passes_of rfl
    have hu64 := hr.units
    have hu65 := hu65_of hr
    have hu0 := hr.units0
    have hu1 := hu_of hr
    exact (dss_cons (ds_mov (i := 3) nd (by rfl) (by first | exact Or.inl rfl | exact Or.inr rfl) (pv 0))
      (dss_cons (ds_mov (i := 4) nd (by rfl) (by first | exact Or.inl rfl | exact Or.inr rfl) (pv 1))
      (dss_cons (ds_while (fuel := fun _ => 64) po (dt_tru (de_var (pv 4))) (dss_cons (ds_tgt (de_cal c_divided tk hr (by decide) (by rfl) (da_cons (de_var (pv 3)) (da_cons (de_var (pv 4)) (da_cons (de_var (pv 2)) da_nil)))) (dg_tup (by rfl) (dgs_cons (pg_name (i := 5) nd (by rfl) (by first | exact Or.inl rfl | exact Or.inr rfl)) (dgs_cons (pg_name (i := 6) nd (by rfl) (by first | exact Or.inl rfl | exact Or.inr rfl)) dgs_nil))))
      (dss_cons (ds_mov (i := 3) nd (by rfl) (by first | exact Or.inl rfl | exact Or.inr rfl) (pv 4))
      (dss_one (ds_mov (i := 4) nd (by rfl) (by first | exact Or.inl rfl | exact Or.inr rfl) (pv 6))))))
      (dss_one (ds_ret (de_cal c__monic tk hr (by decide) (by rfl) (da_cons (de_var (pv 3)) (da_cons (de_var (pv 2)) da_nil))))))))
abbrev s__check_unit : Stmt := topS 39
abbrev N__check_unit : List Str := ["p", "n"]
theorem sc__check_unit : FnScope N__check_unit ["p", "n"] (defScope s__check_unit) := ⟨rfl, rfl, rfl, by decide +kernel, rfl, by decide +kernel, by decide +kernel⟩
noncomputable def m__check_unit (CM CR : Addr) : Ms → O := (seqS (ifS (orT (notT (truT (funE 1 (aCons (varE 0) aNil) Fisprime))) (orT (notT (truT (funE 1 (aCons (varE 1) aNil) Fisint))) (tst (op2 (varE 1) (cE (.int 1)) ltO)))) (raiseS ⟨CM, [], []⟩) nilS)
  (ifS (tst (op2 (varE 1) (cE (.int 12)) gtO)) (raiseS ⟨CR, ["reason"], [.str "length"]⟩) nilS))
theorem ok__check_unit {f : Addr} {fd : FuncData} (F : Fun K "_check_unit" "_check_unit" s__check_unit f fd) {CM CR : Addr} {tkY : Tok} (h_LONGEST_cyclic : mg "LONGEST_cyclic" = some (.int 12 tkY)) (R_Malformed : RaN P w K mg base "Malformed" CM) (R_Refused : RaS P w K mg base "Refused" CR "reason") (c_is_integer : Cal P w K mg base "is_integer" 1 ["value"] (spD K 1 Fisint)) (c_is_prime : Cal P w K mg base "is_prime" 2 ["p"] (spD K 1 Fisprime)) : FnOk P w K mg base (L2.CX P w) 3 f fd ["p", "n"] (spD K 2 (runD 2 (m__check_unit CM CR))) :=
  defOk F sc__check_unit fun cdv A outer s H E hr => by
    have nd : N__check_unit.Nodup := sc__check_unit.nd
    have tk : Takes (cxOf (L2.CX P w) P w K mg base N__check_unit "_check_unit" (defScope s__check_unit) f cdv A outer s H E) (fun cls d _ H' => E cls d H') := takes_of rfl rfl rfl rfl
    have po : PassesOwn (model P w) (cxOf (L2.CX P w) P w K mg base N__check_unit "_check_unit" (defScope s__check_unit) f cdv A outer s H E).A (cxOf (L2.CX P w) P w K mg base N__check_unit "_check_unit" (defScope s__check_unit) f cdv A outer s H E).env (cxOf (L2.CX P w) P w K mg base N__check_unit "_check_unit" (defScope s__check_unit) f cdv A outer s H E).xe := passes_of rfl
    have hu64 := hr.units
    have hu65 := hu65_of hr
    have hu0 := hr.units0
    have hu1 := hu_of hr
    exact (dss_cons (ds_if (PW.pt (dw_or (dt_not (dt_tru (de_cal c_is_prime tk hr (by decide) (by rfl) (da_cons (de_var (pv 0)) da_nil)))) (dw_or (dt_not (dt_tru (de_cal c_is_integer tk hr (by decide) (by rfl) (da_cons (de_var (pv 1)) da_nil)))) (dw_or1 (dt_lt (de_var (pv 1)) de_int))))) (dss_one (ds_raiseN R_Malformed (by rfl) tk (hr.mono (by decide)) (by rfl))) dss_nil)
      (dss_one (ds_if (dt_gt (de_var (pv 1)) (de_gint (by rfl) h_LONGEST_cyclic)) (dss_one (ds_raiseS R_Refused (by rfl) tk (hr.mono (by decide)) (by rfl) (by decide +kernel))) dss_nil)))
abbrev s_unit_polynomial : Stmt := topS 38
abbrev N_unit_polynomial : List Str := ["p", "n"]
theorem sc_unit_polynomial : FnScope N_unit_polynomial ["p", "n"] (defScope s_unit_polynomial) := ⟨rfl, rfl, rfl, by decide +kernel, rfl, by decide +kernel, by decide +kernel⟩
noncomputable def m_unit_polynomial (CM CR : Addr) : Ms → O := (seqS (dropS (funE 2 (aCons (varE 0) (aCons (varE 1) aNil)) (Fckun CM CR)))
  (retS (op2 (op2 (tupE (aCons (op2 (varE 0) (cE (.int 1)) subO) aNil)) (op2 (tupE (aCons (cE (.int 0)) aNil)) (op2 (varE 1) (cE (.int 1)) subO) repT) catT) (tupE (aCons (cE (.int 1)) aNil)) catT)))
theorem ok_unit_polynomial {f : Addr} {fd : FuncData} (F : Fun K "unit_polynomial" "unit_polynomial" s_unit_polynomial f fd) {CM CR : Addr} (c__check_unit : Cal P w K mg base "_check_unit" 3 ["p", "n"] (spD K 2 (Fckun CM CR))) : FnOk P w K mg base (L2.CX P w) 4 f fd ["p", "n"] (spD K 2 (runD 2 (m_unit_polynomial CM CR))) :=
  defOk F sc_unit_polynomial fun cdv A outer s H E hr => by
    have nd : N_unit_polynomial.Nodup := sc_unit_polynomial.nd
    have tk : Takes (cxOf (L2.CX P w) P w K mg base N_unit_polynomial "unit_polynomial" (defScope s_unit_polynomial) f cdv A outer s H E) (fun cls d _ H' => E cls d H') := takes_of rfl rfl rfl rfl
    have po : PassesOwn (model P w) (cxOf (L2.CX P w) P w K mg base N_unit_polynomial "unit_polynomial" (defScope s_unit_polynomial) f cdv A outer s H E).A (cxOf (L2.CX P w) P w K mg base N_unit_polynomial "unit_polynomial" (defScope s_unit_polynomial) f cdv A outer s H E).env (cxOf (L2.CX P w) P w K mg base N_unit_polynomial "unit_polynomial" (defScope s_unit_polynomial) f cdv A outer s H E).xe := passes_of rfl
    have hu64 := hr.units
    have hu65 := hu65_of hr
    have hu0 := hr.units0
    have hu1 := hu_of hr
    exact (dss_cons (ds_drop (de_cal c__check_unit tk hr (by decide) (by rfl) (da_cons (de_var (pv 0)) (da_cons (de_var (pv 1)) da_nil))))
      (dss_one (ds_ret (de_catT (de_catT (de_tup (da_cons (de_sub (de_var (pv 0)) de_int) da_nil)) (de_repT (de_tup (da_cons de_int da_nil)) (de_sub (de_var (pv 1)) de_int))) (de_tup (da_cons de_int da_nil))))))
abbrev s__classes : Stmt := topS 41
abbrev N__classes : List Str := ["p", "m", "classes", "start", "numbers"]
theorem sc__classes : FnScope N__classes ["p", "m"] (defScope s__classes) := ⟨rfl, rfl, rfl, by decide +kernel, rfl, by decide +kernel, by decide +kernel⟩
noncomputable def m__classes : Ms → O := (seqS (asgN 2 (lstE aNil))
  (seqS (forS (itR1 (aCons (varE 1) aNil)) (Tk.nm 3).k (seqS (asgN 4 (lstE (aCons (varE 3) aNil)))
  (seqS (whileS (fun _ => 64) (tst (op2 (op2 (op2 (ixV 4 (op1 (cE (.int 1)) negO)) (varE 0) mulO) (varE 1) modO) (varE 3) neO)) (appS 4 (op2 (op2 (ixV 4 (op1 (cE (.int 1)) negO)) (varE 0) mulO) (varE 1) modO)))
  (ifS (tst (op2 (calE (aCons (varE 4) aNil) minLO) (varE 3) eqO)) (appS 2 (varE 4)) nilS))))
  (retS (varE 2))))
theorem ok__classes {f : Addr} {fd : FuncData} (F : Fun K "_classes" "_classes" s__classes f fd) (h_min : mg "min" = none) (h_range : mg "range" = none) : FnOk P w K mg base (L2.CX P w) 1 f fd ["p", "m"] (spD K 2 (runD 5 m__classes)) :=
  defOk F sc__classes fun cdv A outer s H E hr => by
    have nd : N__classes.Nodup := sc__classes.nd
    have tk : Takes (cxOf (L2.CX P w) P w K mg base N__classes "_classes" (defScope s__classes) f cdv A outer s H E) (fun cls d _ H' => E cls d H') := takes_of rfl rfl rfl rfl
    have po : PassesOwn (model P w) (cxOf (L2.CX P w) P w K mg base N__classes "_classes" (defScope s__classes) f cdv A outer s H E).A (cxOf (L2.CX P w) P w K mg base N__classes "_classes" (defScope s__classes) f cdv A outer s H E).env (cxOf (L2.CX P w) P w K mg base N__classes "_classes" (defScope s__classes) f cdv A outer s H E).xe := passes_of rfl
    have hu64 := hr.units
    have hu65 := hu65_of hr
    have hu0 := hr.units0
    have hu1 := hu_of hr
    exact (dss_cons (ds_setN (i := 2) nd (by rfl) (by first | exact Or.inl rfl | exact Or.inr rfl) (dn_lst da_nil))
      (dss_cons (ds_for po (by rfl) (di_range1 (by rfl) h_range (da_cons (de_var (pv 1)) da_nil)) (dg_name (pg_name (i := 3) nd (by rfl) (by first | exact Or.inl rfl | exact Or.inr rfl))) (dss_cons (ds_setN (i := 4) nd (by rfl) (by first | exact Or.inl rfl | exact Or.inr rfl) (dn_lst (da_cons (de_var (pv 3)) da_nil)))
      (dss_cons (ds_while (fuel := fun _ => 64) po (dt_ne hu64 (de_mod (de_mul (de_ixV (pv 4) (de_neg de_int)) (de_var (pv 0))) (de_var (pv 1))) (de_var (pv 3))) (dss_one (ds_app (pv 4) (de_mod (de_mul (de_ixV (pv 4) (de_neg de_int)) (de_var (pv 0))) (de_var (pv 1))))))
      (dss_one (ds_if (dt_eq hu64 (de_minL (by rfl) (by rfl) h_min (de_var (pv 4))) (de_var (pv 3))) (dss_one (ds_app (pv 2) (de_var (pv 4)))) dss_nil)))))
      (dss_one (ds_ret (de_var (pv 2))))))
abbrev s__split : Stmt := topS 42
abbrev N__split : List Str := ["part", "numbers", "m", "p", "total", "shifts", "divisors", "c", "shift", "found", "at"]
theorem sc__split : FnScope N__split ["part", "numbers", "m", "p"] (defScope s__split) := ⟨rfl, rfl, rfl, by decide +kernel, rfl, by decide +kernel, by decide +kernel⟩
noncomputable def m__split (CR : Addr) : Ms → O := (seqS (asgS 4 (calE (aCons (frz (lcE (itR1 (aCons (varE 2) aNil)) (Tk.nm 10).k yesT (calE (aCons (op2 (varE 10) (varE 1) (inI false)) aNil) intO) [10])) aNil) tupO))
  (seqS (asgS 5 (frz (lcE (itR1 (aCons (varE 3) aNil)) (Tk.nm 7).k yesT (funE 1 (aCons (funE 3 (aCons (varE 4) (aCons (op2 (tupE (aCons (op2 (op1 (varE 7) negO) (varE 3) modO) aNil)) (op2 (tupE (aCons (cE (.int 0)) aNil)) (op2 (varE 2) (cE (.int 1)) subO) repT) catT) (aCons (varE 3) aNil))) FaddW) aNil) Ftrim) [7])))
  (seqS (asgS 6 (frz (lcE (itS (varE 5)) (Tk.nm 8).k yesT (funE 3 (aCons (varE 0) (aCons (varE 8) (aCons (varE 3) aNil))) (Fgcd CR)) [8])))
  (retS (frz (lcE (itS (varE 6)) (Tk.nm 9).k (tst (op2 (calE (aCons (varE 9) aNil) lenO) (cE (.int 1)) gtO)) (varE 9) [9]))))))
theorem ok__split {f : Addr} {fd : FuncData} (F : Fun K "_split" "_split" s__split f fd) {CR : Addr} (h_int : mg "int" = none) (h_len : mg "len" = none) (h_range : mg "range" = none) (h_tuple : mg "tuple" = none) (c_common_divisor : Cal P w K mg base "common_divisor" 4 ["a", "b", "p"] (spD K 3 (Fgcd CR))) (c__trimmed : Cal P w K mg base "_trimmed" 1 ["items"] (spD K 1 Ftrim)) (c_add : Cal P w K mg base "add" 1 ["v", "w", "p"] (spD K 3 FaddW)) : FnOk P w K mg base (L2.CX P w) 5 f fd ["part", "numbers", "m", "p"] (spD K 4 (runD 11 (m__split CR))) :=
  defOk F sc__split fun cdv A outer s H E hr => by
    have nd : N__split.Nodup := sc__split.nd
    have tk : Takes (cxOf (L2.CX P w) P w K mg base N__split "_split" (defScope s__split) f cdv A outer s H E) (fun cls d _ H' => E cls d H') := takes_of rfl rfl rfl rfl
    have po : PassesOwn (model P w) (cxOf (L2.CX P w) P w K mg base N__split "_split" (defScope s__split) f cdv A outer s H E).A (cxOf (L2.CX P w) P w K mg base N__split "_split" (defScope s__split) f cdv A outer s H E).env (cxOf (L2.CX P w) P w K mg base N__split "_split" (defScope s__split) f cdv A outer s H E).xe := passes_of rfl
    have hu64 := hr.units
    have hu65 := hu65_of hr
    have hu0 := hr.units0
    have hu1 := hu_of hr
    exact (dss_cons (ds_set (i := 4) nd (by rfl) (by first | exact Or.inl rfl | exact Or.inr rfl) (de_tupc (by rfl) h_tuple (de_frz (dn_lc (by rfl) nd (di_range1 (by rfl) h_range (da_cons (de_var (pv 2)) da_nil)) (blkOk_by (own := [("at", 10)]) (N := N__split) (sc := defScope s__split) (by decide +kernel)) (by decide) (fun _ _ _ _ _ => (dg_name (pg_name (i := 10) nd (by rfl) (by first | exact Or.inl rfl | exact Or.inr rfl)))) (fun _ _ _ _ _ => dts_nil) (fun _ _ _ _ _ => (de_intc (by rfl) h_int (de_in (de_var (pv 10)) (de_var (pv 1)))))))))
      (dss_cons (ds_lc (i := 5) (by rfl) nd (by rfl) (by rfl) (sw_true (by rfl) (by rfl) (by rfl) (by decide +kernel)) (di_range1 (by rfl) h_range (da_cons (de_var (pv 3)) da_nil)) (blkOk_by (own := [("c", 7)]) (N := N__split) (sc := defScope s__split) (by decide +kernel)) (by decide) (fun _ _ _ _ _ => (dg_name (pg_name (i := 7) nd (by rfl) (by first | exact Or.inl rfl | exact Or.inr rfl)))) (fun _ _ _ _ _ => dts_nil) (fun _ _ _ _ _ => (de_cal c__trimmed takes0 hr (by decide) (by rfl) (da_cons (de_cal c_add takes0 hr (by decide) (by rfl) (da_cons (de_var (pv 4)) (da_cons (de_catT (de_tup (da_cons (de_mod (de_neg (de_var (pv 7))) (de_var (pv 3))) da_nil)) (de_repT (de_tup (da_cons de_int da_nil)) (de_sub (de_var (pv 2)) de_int))) (da_cons (de_var (pv 3)) da_nil)))) da_nil))))
      (dss_cons (ds_lc (i := 6) (by rfl) nd (by rfl) (by rfl) (sw_true (by rfl) (by rfl) (by rfl) (by decide +kernel)) (di_seq (de_var (pv 5))) (blkOk_by (own := [("shift", 8)]) (N := N__split) (sc := defScope s__split) (by decide +kernel)) (by decide) (fun _ _ _ _ _ => (dg_name (pg_name (i := 8) nd (by rfl) (by first | exact Or.inl rfl | exact Or.inr rfl)))) (fun _ _ _ _ _ => dts_nil) (fun _ _ _ _ _ => (de_cal c_common_divisor takes0 hr (by decide) (by rfl) (da_cons (de_var (pv 0)) (da_cons (de_var (pv 8)) (da_cons (de_var (pv 3)) da_nil))))))
      (dss_one (ds_ret (de_frz (dn_lc (by rfl) nd (di_seq (de_var (pv 6))) (blkOk_by (own := [("found", 9)]) (N := N__split) (sc := defScope s__split) (by decide +kernel)) (by decide) (fun _ _ _ _ _ => (dg_name (pg_name (i := 9) nd (by rfl) (by first | exact Or.inl rfl | exact Or.inr rfl)))) (fun _ _ _ _ _ => (dts_one (dt_gt (de_len (by rfl) h_len (de_var (pv 9))) de_int))) (fun _ _ _ _ _ => (de_var (pv 9))))))))))
abbrev s__in_order : Stmt := topS 43
abbrev N__in_order : List Str := ["polynomials", "_", "found"]
theorem sc__in_order : FnScope N__in_order ["polynomials"] (defScope s__in_order) := ⟨rfl, rfl, rfl, by decide +kernel, rfl, by decide +kernel, by decide +kernel⟩
noncomputable def m__in_order : Ms → O := (retS (frz (lcE (itS (frz (calN (aCons (frz (lcE (itS (varE 0)) (Tk.nm 2).k yesT (tupE (aCons (calE (aCons (varE 2) aNil) lenO) (aCons (varE 2) aNil))) [2])) aNil) sortPO))) (Tk.tp [1, 2]).k yesT (varE 2) [1, 2])))
theorem ok__in_order {f : Addr} {fd : FuncData} (F : Fun K "_in_order" "_in_order" s__in_order f fd) (h_len : mg "len" = none) (h_sorted : mg "sorted" = none) : FnOk P w K mg base (L2.CX P w) 1 f fd ["polynomials"] (spD K 1 (runD 3 m__in_order)) :=
  defOk F sc__in_order fun cdv A outer s H E hr => by
    have nd : N__in_order.Nodup := sc__in_order.nd
    have tk : Takes (cxOf (L2.CX P w) P w K mg base N__in_order "_in_order" (defScope s__in_order) f cdv A outer s H E) (fun cls d _ H' => E cls d H') := takes_of rfl rfl rfl rfl
    have po : PassesOwn (model P w) (cxOf (L2.CX P w) P w K mg base N__in_order "_in_order" (defScope s__in_order) f cdv A outer s H E).A (cxOf (L2.CX P w) P w K mg base N__in_order "_in_order" (defScope s__in_order) f cdv A outer s H E).env (cxOf (L2.CX P w) P w K mg base N__in_order "_in_order" (defScope s__in_order) f cdv A outer s H E).xe := passes_of rfl
    have hu64 := hr.units
    have hu65 := hu65_of hr
    have hu0 := hr.units0
    have hu1 := hu_of hr
    exact (dss_one (ds_ret (de_frz (dn_lc (by rfl) nd (di_seq (de_frz (dn_sortedP hu64 (by rfl) h_sorted (de_frz (dn_lc (by rfl) nd (di_seq (de_var (pv 0))) (blkOk_by (own := [("found", 2)]) (N := N__in_order) (sc := defScope s__in_order) (by decide +kernel)) (by decide) (fun _ _ _ _ _ => (dg_name (pg_name (i := 2) nd (by rfl) (by first | exact Or.inl rfl | exact Or.inr rfl)))) (fun _ _ _ _ _ => dts_nil) (fun _ _ _ _ _ => (de_tup (da_cons (de_len (by rfl) h_len (de_var (pv 2))) (da_cons (de_var (pv 2)) da_nil))))))))) (blkOk_by (own := [("_", 1), ("found", 2)]) (N := N__in_order) (sc := defScope s__in_order) (by decide +kernel)) (by decide) (fun _ _ _ _ _ => (dg_tup (by rfl) (dgs_cons (pg_name (i := 1) nd (by rfl) (by first | exact Or.inl rfl | exact Or.inr rfl)) (dgs_cons (pg_name (i := 2) nd (by rfl) (by first | exact Or.inl rfl | exact Or.inr rfl)) dgs_nil)))) (fun _ _ _ _ _ => dts_nil) (fun _ _ _ _ _ => (de_var (pv 2)))))))
abbrev s_factors_of_unit : Stmt := topS 40
abbrev N_factors_of_unit : List Str := ["p", "n", "exponent", "m", "parts", "numbers", "part", "found"]
theorem sc_factors_of_unit : FnScope N_factors_of_unit ["p", "n"] (defScope s_factors_of_unit) := ⟨rfl, rfl, rfl, by decide +kernel, rfl, by decide +kernel, by decide +kernel⟩
noncomputable def m_factors_of_unit (CM CR : Addr) : Ms → O := (seqS (dropS (funE 2 (aCons (varE 0) (aCons (varE 1) aNil)) (Fckun CM CR)))
  (seqS (asgS 2 (cE (.int 1)))
  (seqS (whileS (fun _ => 64) (tst (op2 (op2 (op2 (varE 1) (varE 2) divO) (varE 0) modO) (cE (.int 0)) eqO)) (asgS 2 (op2 (varE 2) (varE 0) mulO)))
  (seqS (asgS 3 (op2 (varE 1) (varE 2) divO))
  (seqS (asgN 4 (lstE (aCons (funE 2 (aCons (varE 0) (aCons (varE 3) aNil)) (Funitp CM CR)) aNil)))
  (seqS (forS (itS (funE 2 (aCons (varE 0) (aCons (varE 3) aNil)) Fclasses)) (Tk.nm 5).k (asgN 4 (lcE2 (itS (varE 4)) (Tk.nm 6).k yesT (itS (funE 4 (aCons (varE 6) (aCons (varE 5) (aCons (varE 3) (aCons (varE 0) aNil)))) (Fsplit CR))) (Tk.nm 7).k yesT (varE 7) [6, 7] [7])))
  (retS (calE (aCons (frz (lcE (itS (funE 1 (aCons (varE 4) aNil) Finorder)) (Tk.nm 6).k yesT (tupE (aCons (varE 6) (aCons (varE 2) aNil))) [6])) aNil) tupO))))))))
theorem ok_factors_of_unit {f : Addr} {fd : FuncData} (F : Fun K "factors_of_unit" "factors_of_unit" s_factors_of_unit f fd) {CM CR : Addr} (h_tuple : mg "tuple" = none) (c__in_order : Cal P w K mg base "_in_order" 1 ["polynomials"] (spD K 1 Finorder)) (c__classes : Cal P w K mg base "_classes" 1 ["p", "m"] (spD K 2 Fclasses)) (c__split : Cal P w K mg base "_split" 5 ["part", "numbers", "m", "p"] (spD K 4 (Fsplit CR))) (c_unit_polynomial : Cal P w K mg base "unit_polynomial" 4 ["p", "n"] (spD K 2 (Funitp CM CR))) (c__check_unit : Cal P w K mg base "_check_unit" 3 ["p", "n"] (spD K 2 (Fckun CM CR))) : FnOk P w K mg base (L2.CX P w) 6 f fd ["p", "n"] (spD K 2 (runD 8 (m_factors_of_unit CM CR))) :=
  defOk F sc_factors_of_unit fun cdv A outer s H E hr => by
    have nd : N_factors_of_unit.Nodup := sc_factors_of_unit.nd
    have tk : Takes (cxOf (L2.CX P w) P w K mg base N_factors_of_unit "factors_of_unit" (defScope s_factors_of_unit) f cdv A outer s H E) (fun cls d _ H' => E cls d H') := takes_of rfl rfl rfl rfl
    have po : PassesOwn (model P w) (cxOf (L2.CX P w) P w K mg base N_factors_of_unit "factors_of_unit" (defScope s_factors_of_unit) f cdv A outer s H E).A (cxOf (L2.CX P w) P w K mg base N_factors_of_unit "factors_of_unit" (defScope s_factors_of_unit) f cdv A outer s H E).env (cxOf (L2.CX P w) P w K mg base N_factors_of_unit "factors_of_unit" (defScope s_factors_of_unit) f cdv A outer s H E).xe := passes_of rfl
    have hu64 := hr.units
    have hu65 := hu65_of hr
    have hu0 := hr.units0
    have hu1 := hu_of hr
    exact (dss_cons (ds_drop (de_cal c__check_unit tk hr (by decide) (by rfl) (da_cons (de_var (pv 0)) (da_cons (de_var (pv 1)) da_nil))))
      (dss_cons (ds_set (i := 2) nd (by rfl) (by first | exact Or.inl rfl | exact Or.inr rfl) de_int)
      (dss_cons (ds_while (fuel := fun _ => 64) po (dt_eq hu64 (de_mod (de_div (de_var (pv 1)) (de_var (pv 2))) (de_var (pv 0))) de_int) (dss_one (ds_set (i := 2) nd (by rfl) (by first | exact Or.inl rfl | exact Or.inr rfl) (de_mul (de_var (pv 2)) (de_var (pv 0))))))
      (dss_cons (ds_set (i := 3) nd (by rfl) (by first | exact Or.inl rfl | exact Or.inr rfl) (de_div (de_var (pv 1)) (de_var (pv 2))))
      (dss_cons (ds_setN (i := 4) nd (by rfl) (by first | exact Or.inl rfl | exact Or.inr rfl) (dn_lst (da_cons (de_cal c_unit_polynomial tk hr (by decide) (by rfl) (da_cons (de_var (pv 0)) (da_cons (de_var (pv 3)) da_nil))) da_nil)))
      (dss_cons (ds_for po (by rfl) (di_seq (de_cal c__classes tk hr (by decide) (by rfl) (da_cons (de_var (pv 0)) (da_cons (de_var (pv 3)) da_nil)))) (dg_name (pg_name (i := 5) nd (by rfl) (by first | exact Or.inl rfl | exact Or.inr rfl))) (dss_one (ds_lc2N (i := 4) (by rfl) nd (by rfl) (by rfl) (sw_true (by rfl) (by rfl) (by rfl) (by decide +kernel)) (di_seq (de_var (pv 4))) (blkOk_by (own := [("part", 6), ("found", 7)]) (N := N_factors_of_unit) (sc := defScope s_factors_of_unit) (by decide +kernel)) (by decide) (vs1 := [7]) (by decide) (by decide) (fun _ _ _ _ _ => (dg_name (pg_name (i := 6) nd (by rfl) (by first | exact Or.inl rfl | exact Or.inr rfl)))) (fun _ _ _ _ _ => dts_nil) (fun _ _ _ _ _ => (di_seq (de_cal c__split takes0 hr (by decide) (by rfl) (da_cons (de_var (pv 6)) (da_cons (de_var (pv 5)) (da_cons (de_var (pv 3)) (da_cons (de_var (pv 0)) da_nil))))))) (fun _ _ _ _ _ => (dg_name (pg_name (i := 7) nd (by rfl) (by first | exact Or.inl rfl | exact Or.inr rfl)))) (fun _ _ _ _ _ => dts_nil) (fun _ _ _ _ _ => (de_var (pv 7))))))
      (dss_one (ds_ret (de_tupc (by rfl) h_tuple (de_frz (dn_lc (by rfl) nd (di_seq (de_cal c__in_order tk hr (by decide) (by rfl) (da_cons (de_var (pv 4)) da_nil))) (blkOk_by (own := [("part", 6)]) (N := N_factors_of_unit) (sc := defScope s_factors_of_unit) (by decide +kernel)) (by decide) (fun _ _ _ _ _ => (dg_name (pg_name (i := 6) nd (by rfl) (by first | exact Or.inl rfl | exact Or.inr rfl)))) (fun _ _ _ _ _ => dts_nil) (fun _ _ _ _ _ => (de_tup (da_cons (de_var (pv 6)) (da_cons (de_var (pv 2)) da_nil)))))))))))))))
abbrev s_divisors_of_unit : Stmt := topS 44
abbrev N_divisors_of_unit : List Str := ["p", "n", "found", "factor", "exponent", "powers", "_", "divisor", "told"]
theorem sc_divisors_of_unit : FnScope N_divisors_of_unit ["p", "n"] (defScope s_divisors_of_unit) := ⟨rfl, rfl, rfl, by decide +kernel, rfl, by decide +kernel, by decide +kernel⟩
noncomputable def m_divisors_of_unit (CM CR : Addr) : Ms → O := (seqS (asgN 2 (lstE (aCons (tupE (aCons (cE (.int 1)) aNil)) aNil)))
  (seqS (forS (itS (funE 2 (aCons (varE 0) (aCons (varE 1) aNil)) (Ffacts CM CR))) (Tk.tp [3, 4]).k (seqS (asgN 5 (lstE (aCons (tupE (aCons (cE (.int 1)) aNil)) aNil)))
  (seqS (forS (itR1 (aCons (varE 4) aNil)) (Tk.nm 6).k (appS 5 (funE 3 (aCons (ixV 5 (op1 (cE (.int 1)) negO)) (aCons (varE 3) (aCons (varE 0) aNil))) Ftimes)))
  (asgN 2 (lcE2 (itS (varE 2)) (Tk.nm 7).k yesT (itS (varE 5)) (Tk.nm 8).k yesT (funE 3 (aCons (varE 7) (aCons (varE 8) (aCons (varE 0) aNil))) Ftimes) [7, 8] [8])))))
  (retS (calE (aCons (funE 1 (aCons (varE 2) aNil) Finorder) aNil) tupO))))
theorem ok_divisors_of_unit {f : Addr} {fd : FuncData} (F : Fun K "divisors_of_unit" "divisors_of_unit" s_divisors_of_unit f fd) {CM CR : Addr} (h_range : mg "range" = none) (h_tuple : mg "tuple" = none) (c__in_order : Cal P w K mg base "_in_order" 1 ["polynomials"] (spD K 1 Finorder)) (c_factors_of_unit : Cal P w K mg base "factors_of_unit" 6 ["p", "n"] (spD K 2 (Ffacts CM CR))) (c_times : Cal P w K mg base "times" 2 ["a", "b", "p"] (spD K 3 Ftimes)) : FnOk P w K mg base (L2.CX P w) 7 f fd ["p", "n"] (spD K 2 (runD 9 (m_divisors_of_unit CM CR))) :=
  defOk F sc_divisors_of_unit fun cdv A outer s H E hr => by
    have nd : N_divisors_of_unit.Nodup := sc_divisors_of_unit.nd
    have tk : Takes (cxOf (L2.CX P w) P w K mg base N_divisors_of_unit "divisors_of_unit" (defScope s_divisors_of_unit) f cdv A outer s H E) (fun cls d _ H' => E cls d H') := takes_of rfl rfl rfl rfl
    have po : PassesOwn (model P w) (cxOf (L2.CX P w) P w K mg base N_divisors_of_unit "divisors_of_unit" (defScope s_divisors_of_unit) f cdv A outer s H E).A (cxOf (L2.CX P w) P w K mg base N_divisors_of_unit "divisors_of_unit" (defScope s_divisors_of_unit) f cdv A outer s H E).env (cxOf (L2.CX P w) P w K mg base N_divisors_of_unit "divisors_of_unit" (defScope s_divisors_of_unit) f cdv A outer s H E).xe := passes_of rfl
    have hu64 := hr.units
    have hu65 := hu65_of hr
    have hu0 := hr.units0
    have hu1 := hu_of hr
    exact (dss_cons (ds_setN (i := 2) nd (by rfl) (by first | exact Or.inl rfl | exact Or.inr rfl) (dn_lst (da_cons (de_tup (da_cons de_int da_nil)) da_nil)))
      (dss_cons (ds_for po (by rfl) (di_seq (de_cal c_factors_of_unit tk hr (by decide) (by rfl) (da_cons (de_var (pv 0)) (da_cons (de_var (pv 1)) da_nil)))) (dg_tup (by rfl) (dgs_cons (pg_name (i := 3) nd (by rfl) (by first | exact Or.inl rfl | exact Or.inr rfl)) (dgs_cons (pg_name (i := 4) nd (by rfl) (by first | exact Or.inl rfl | exact Or.inr rfl)) dgs_nil))) (dss_cons (ds_setN (i := 5) nd (by rfl) (by first | exact Or.inl rfl | exact Or.inr rfl) (dn_lst (da_cons (de_tup (da_cons de_int da_nil)) da_nil)))
      (dss_cons (ds_for po (by rfl) (di_range1 (by rfl) h_range (da_cons (de_var (pv 4)) da_nil)) (dg_name (pg_name (i := 6) nd (by rfl) (by first | exact Or.inl rfl | exact Or.inr rfl))) (dss_one (ds_app (pv 5) (de_cal c_times tk hr (by decide) (by rfl) (da_cons (de_ixV (pv 5) (de_neg de_int)) (da_cons (de_var (pv 3)) (da_cons (de_var (pv 0)) da_nil)))))))
      (dss_one (ds_lc2N (i := 2) (by rfl) nd (by rfl) (by rfl) (sw_true (by rfl) (by rfl) (by rfl) (by decide +kernel)) (di_seq (de_var (pv 2))) (blkOk_by (own := [("divisor", 7), ("told", 8)]) (N := N_divisors_of_unit) (sc := defScope s_divisors_of_unit) (by decide +kernel)) (by decide) (vs1 := [8]) (by decide) (by decide) (fun _ _ _ _ _ => (dg_name (pg_name (i := 7) nd (by rfl) (by first | exact Or.inl rfl | exact Or.inr rfl)))) (fun _ _ _ _ _ => dts_nil) (fun _ _ _ _ _ => (di_seq (de_var (pv 5)))) (fun _ _ _ _ _ => (dg_name (pg_name (i := 8) nd (by rfl) (by first | exact Or.inl rfl | exact Or.inr rfl)))) (fun _ _ _ _ _ => dts_nil) (fun _ _ _ _ _ => (de_cal c_times takes0 hr (by decide) (by rfl) (da_cons (de_var (pv 7)) (da_cons (de_var (pv 8)) (da_cons (de_var (pv 0)) da_nil))))))))))
      (dss_one (ds_ret (de_tupc (by rfl) h_tuple (de_cal c__in_order tk hr (by decide) (by rfl) (da_cons (de_var (pv 2)) da_nil)))))))
abbrev s_shifted : Stmt := topS 45
abbrev N_shifted : List Str := ["word"]
theorem sc_shifted : FnScope N_shifted ["word"] (defScope s_shifted) := ⟨rfl, rfl, rfl, by decide +kernel, rfl, by decide +kernel, by decide +kernel⟩
noncomputable def m_shifted : Ms → O := (retS (op2 (slT (varE 0) (oSome (op1 (cE (.int 1)) negO)) oNone) (slT (varE 0) oNone (oSome (op1 (cE (.int 1)) negO))) catT))
theorem ok_shifted {f : Addr} {fd : FuncData} (F : Fun K "shifted" "shifted" s_shifted f fd) : FnOk P w K mg base (L2.CX P w) 1 f fd ["word"] (spD K 1 (runD 1 m_shifted)) :=
  defOk F sc_shifted fun cdv A outer s H E hr => by
    have nd : N_shifted.Nodup := sc_shifted.nd
    have tk : Takes (cxOf (L2.CX P w) P w K mg base N_shifted "shifted" (defScope s_shifted) f cdv A outer s H E) (fun cls d _ H' => E cls d H') := takes_of rfl rfl rfl rfl
    have po : PassesOwn (model P w) (cxOf (L2.CX P w) P w K mg base N_shifted "shifted" (defScope s_shifted) f cdv A outer s H E).A (cxOf (L2.CX P w) P w K mg base N_shifted "shifted" (defScope s_shifted) f cdv A outer s H E).env (cxOf (L2.CX P w) P w K mg base N_shifted "shifted" (defScope s_shifted) f cdv A outer s H E).xe := passes_of rfl
    have hu64 := hr.units
    have hu65 := hu65_of hr
    have hu0 := hr.units0
    have hu1 := hu_of hr
    exact (dss_one (ds_ret (de_catT (de_sliceT (de_var (pv 0)) (do_some (de_neg de_int)) do_none) (de_sliceT (de_var (pv 0)) do_none (do_some (de_neg de_int))))))
abbrev s_is_cyclic : Stmt := topS 46
abbrev N_is_cyclic : List Str := ["code", "row"]
theorem sc_is_cyclic : FnScope N_is_cyclic ["code"] (defScope s_is_cyclic) := ⟨rfl, rfl, rfl, by decide +kernel, rfl, by decide +kernel, by decide +kernel⟩
noncomputable def m_is_cyclic (CC CM : Addr) : Ms → O := (retS (andV (op2 (fldE CC "n" (varE 0)) (cE (.int 1)) geO) (calE (aCons (frz (lcE (itS (fldE CC "rows" (varE 0))) (Tk.nm 1).k yesT (metE CC "holds" 2 (varE 0) (aCons (funE 1 (aCons (varE 1) aNil) Fshift) aNil) (Fholds CC CM)) [1])) aNil) allO)))
theorem ok_is_cyclic {f : Addr} {fd : FuncData} (F : Fun K "is_cyclic" "is_cyclic" s_is_cyclic f fd) {CC CM : Addr} (h_all : mg "all" = none) (cl_Code : Cls K CC) (na_Code_n : NoAttr K CC "n") (na_Code_rows : NoAttr K CC "rows") (cm_Code_holds : CalM P w K mg base CC "holds" 4 ["self", "value"] (spD K 2 (Fholds CC CM))) (c_shifted : Cal P w K mg base "shifted" 1 ["word"] (spD K 1 Fshift)) : FnOk P w K mg base (L2.CX P w) 5 f fd ["code"] (spD K 1 (runD 2 (m_is_cyclic CC CM))) :=
  defOk F sc_is_cyclic fun cdv A outer s H E hr => by
    have nd : N_is_cyclic.Nodup := sc_is_cyclic.nd
    have tk : Takes (cxOf (L2.CX P w) P w K mg base N_is_cyclic "is_cyclic" (defScope s_is_cyclic) f cdv A outer s H E) (fun cls d _ H' => E cls d H') := takes_of rfl rfl rfl rfl
    have po : PassesOwn (model P w) (cxOf (L2.CX P w) P w K mg base N_is_cyclic "is_cyclic" (defScope s_is_cyclic) f cdv A outer s H E).A (cxOf (L2.CX P w) P w K mg base N_is_cyclic "is_cyclic" (defScope s_is_cyclic) f cdv A outer s H E).env (cxOf (L2.CX P w) P w K mg base N_is_cyclic "is_cyclic" (defScope s_is_cyclic) f cdv A outer s H E).xe := passes_of rfl
    have hu64 := hr.units
    have hu65 := hu65_of hr
    have hu0 := hr.units0
    have hu1 := hu_of hr
    exact (dss_one (ds_ret (de_and (de_ge (de_fld cl_Code na_Code_n (de_var (pv 0))) de_int) (de_one (de_all (by rfl) (by rfl) h_all (de_frz (dn_lc (by rfl) nd (di_seq (de_fld cl_Code na_Code_rows (de_var (pv 0)))) (blkOk_by (own := [("row", 1)]) (N := N_is_cyclic) (sc := defScope s_is_cyclic) (by decide +kernel)) (by decide) (fun _ _ _ _ _ => (dg_name (pg_name (i := 1) nd (by rfl) (by first | exact Or.inl rfl | exact Or.inr rfl)))) (fun _ _ _ _ _ => dts_nil) (fun _ _ _ _ _ => (de_met cm_Code_holds takes0 hr (by decide) (de_var (pv 0)) (da_cons (de_cal c_shifted takes0 hr (by decide) (by rfl) (da_cons (de_var (pv 1)) da_nil)) da_nil))))))))))
abbrev s__is_monic : Stmt := topS 48
abbrev N__is_monic : List Str := ["value", "p"]
theorem sc__is_monic : FnScope N__is_monic ["value", "p"] (defScope s__is_monic) := ⟨rfl, rfl, rfl, by decide +kernel, rfl, by decide +kernel, by decide +kernel⟩
noncomputable def m__is_monic : Ms → O := (retS (andV (op1 (varE 0) (isiO "tuple")) (andV (op2 (calE (aCons (varE 0) aNil) lenO) (cE (.int 0)) gtO) (andV (funE 3 (aCons (varE 0) (aCons (varE 1) (aCons (calE (aCons (varE 0) aNil) lenO) aNil))) Fisword) (op2 (op2 (varE 0) (op1 (cE (.int 1)) negO) ixO) (cE (.int 1)) eqO)))))
theorem ok__is_monic {f : Addr} {fd : FuncData} (F : Fun K "_is_monic" "_is_monic" s__is_monic f fd) (h_isinstance : mg "isinstance" = none) (h_len : mg "len" = none) (h_tuple : mg "tuple" = none) (c_is_word : Cal P w K mg base "is_word" 2 ["value", "p", "n"] (spD K 3 Fisword)) : FnOk P w K mg base (L2.CX P w) 3 f fd ["value", "p"] (spD K 2 (runD 2 m__is_monic)) :=
  defOk F sc__is_monic fun cdv A outer s H E hr => by
    have nd : N__is_monic.Nodup := sc__is_monic.nd
    have tk : Takes (cxOf (L2.CX P w) P w K mg base N__is_monic "_is_monic" (defScope s__is_monic) f cdv A outer s H E) (fun cls d _ H' => E cls d H') := takes_of rfl rfl rfl rfl
    have po : PassesOwn (model P w) (cxOf (L2.CX P w) P w K mg base N__is_monic "_is_monic" (defScope s__is_monic) f cdv A outer s H E).A (cxOf (L2.CX P w) P w K mg base N__is_monic "_is_monic" (defScope s__is_monic) f cdv A outer s H E).env (cxOf (L2.CX P w) P w K mg base N__is_monic "_is_monic" (defScope s__is_monic) f cdv A outer s H E).xe := passes_of rfl
    have hu64 := hr.units
    have hu65 := hu65_of hr
    have hu0 := hr.units0
    have hu1 := hu_of hr
    exact (dss_one (ds_ret (de_and (de_isi (T := "tuple") (by decide +kernel) (by rfl) h_isinstance (by rfl) h_tuple (by constructor) (de_var (pv 0))) (de_and (de_gt (de_len (by rfl) h_len (de_var (pv 0))) de_int) (de_and (de_cal c_is_word tk hr (by decide) (by rfl) (da_cons (de_var (pv 0)) (da_cons (de_var (pv 1)) (da_cons (de_len (by rfl) h_len (de_var (pv 0))) da_nil)))) (de_one (de_eq hu64 (de_sub1 (de_var (pv 0)) (de_neg de_int)) de_int)))))))
abbrev s_cyclic_code : Stmt := topS 47
abbrev N_cyclic_code : List Str := ["p", "n", "g", "unit", "count", "at"]
theorem sc_cyclic_code : FnScope N_cyclic_code ["p", "n", "g"] (defScope s_cyclic_code) := ⟨rfl, rfl, rfl, by decide +kernel, rfl, by decide +kernel, by decide +kernel⟩
noncomputable def m_cyclic_code (CC CM CR : Addr) : Ms → O := (seqS (asgS 3 (funE 2 (aCons (varE 0) (aCons (varE 1) aNil)) (Funitp CM CR)))
  (seqS (ifS (orT (notT (truT (funE 2 (aCons (varE 2) (aCons (varE 0) aNil)) Fismon))) (tst (op2 (op2 (funE 3 (aCons (varE 3) (aCons (varE 2) (aCons (varE 0) aNil))) (Fdivd CR)) (cE (.int 1)) ixO) (tupE aNil) neO))) (raiseS ⟨CM, [], []⟩) nilS)
  (seqS (asgS 4 (op2 (op2 (varE 1) (calE (aCons (varE 2) aNil) lenO) subO) (cE (.int 1)) addO))
  (retS (makE CC 3 (aCons (varE 0) (aCons (varE 1) (aCons (frz (lcE (itR1 (aCons (varE 4) aNil)) (Tk.nm 5).k yesT (op2 (op2 (op2 (tupE (aCons (cE (.int 0)) aNil)) (varE 5) repT) (varE 2) catT) (op2 (tupE (aCons (cE (.int 0)) aNil)) (op2 (op2 (varE 4) (cE (.int 1)) subO) (varE 5) subO) repT) catT) [5])) aNil))) (Finit CC CM CR))))))
theorem ok_cyclic_code {f : Addr} {fd : FuncData} (F : Fun K "cyclic_code" "cyclic_code" s_cyclic_code f fd) {CC CM CR : Addr} (h_len : mg "len" = none) (h_range : mg "range" = none) (R_Malformed : RaN P w K mg base "Malformed" CM) (ci_Code : CalI P w K mg base "Code" CC 5 ["self", "p", "n", "rows"] 3 (Finit CC CM CR)) (c_divided : Cal P w K mg base "divided" 3 ["a", "b", "p"] (spD K 3 (Fdivd CR))) (c__is_monic : Cal P w K mg base "_is_monic" 3 ["value", "p"] (spD K 2 Fismon)) (c_unit_polynomial : Cal P w K mg base "unit_polynomial" 4 ["p", "n"] (spD K 2 (Funitp CM CR))) : FnOk P w K mg base (L2.CX P w) 7 f fd ["p", "n", "g"] (spD K 3 (runD 6 (m_cyclic_code CC CM CR))) :=
  defOk F sc_cyclic_code fun cdv A outer s H E hr => by
    have nd : N_cyclic_code.Nodup := sc_cyclic_code.nd
    have tk : Takes (cxOf (L2.CX P w) P w K mg base N_cyclic_code "cyclic_code" (defScope s_cyclic_code) f cdv A outer s H E) (fun cls d _ H' => E cls d H') := takes_of rfl rfl rfl rfl
    have po : PassesOwn (model P w) (cxOf (L2.CX P w) P w K mg base N_cyclic_code "cyclic_code" (defScope s_cyclic_code) f cdv A outer s H E).A (cxOf (L2.CX P w) P w K mg base N_cyclic_code "cyclic_code" (defScope s_cyclic_code) f cdv A outer s H E).env (cxOf (L2.CX P w) P w K mg base N_cyclic_code "cyclic_code" (defScope s_cyclic_code) f cdv A outer s H E).xe := passes_of rfl
    have hu64 := hr.units
    have hu65 := hu65_of hr
    have hu0 := hr.units0
    have hu1 := hu_of hr
    exact (dss_cons (ds_set (i := 3) nd (by rfl) (by first | exact Or.inl rfl | exact Or.inr rfl) (de_cal c_unit_polynomial tk hr (by decide) (by rfl) (da_cons (de_var (pv 0)) (da_cons (de_var (pv 1)) da_nil))))
      (dss_cons (ds_if (PW.pt (dw_or (dt_not (dt_tru (de_cal c__is_monic tk hr (by decide) (by rfl) (da_cons (de_var (pv 2)) (da_cons (de_var (pv 0)) da_nil))))) (dw_or1 (dt_ne hu64 (de_sub1 (de_cal c_divided tk hr (by decide) (by rfl) (da_cons (de_var (pv 3)) (da_cons (de_var (pv 2)) (da_cons (de_var (pv 0)) da_nil)))) de_int) (de_tup da_nil))))) (dss_one (ds_raiseN R_Malformed (by rfl) tk (hr.mono (by decide)) (by rfl))) dss_nil)
      (dss_cons (ds_set (i := 4) nd (by rfl) (by first | exact Or.inl rfl | exact Or.inr rfl) (de_add (de_sub (de_var (pv 1)) (de_len (by rfl) h_len (de_var (pv 2)))) de_int))
      (dss_one (ds_ret (de_make ci_Code tk hr (by decide) (by rfl) (da_cons (de_var (pv 0)) (da_cons (de_var (pv 1)) (da_cons (de_frz (dn_lc (by rfl) nd (di_range1 (by rfl) h_range (da_cons (de_var (pv 4)) da_nil)) (blkOk_by (own := [("at", 5)]) (N := N_cyclic_code) (sc := defScope s_cyclic_code) (by decide +kernel)) (by decide) (fun _ _ _ _ _ => (dg_name (pg_name (i := 5) nd (by rfl) (by first | exact Or.inl rfl | exact Or.inr rfl)))) (fun _ _ _ _ _ => dts_nil) (fun _ _ _ _ _ => (de_catT (de_catT (de_repT (de_tup (da_cons de_int da_nil)) (de_var (pv 5))) (de_var (pv 2))) (de_repT (de_tup (da_cons de_int da_nil)) (de_sub (de_sub (de_var (pv 4)) de_int) (de_var (pv 5)))))))) da_nil)))))))))
abbrev s_generator_polynomial : Stmt := topS 49
abbrev N_generator_polynomial : List Str := ["code", "found", "row"]
theorem sc_generator_polynomial : FnScope N_generator_polynomial ["code"] (defScope s_generator_polynomial) := ⟨rfl, rfl, rfl, by decide +kernel, rfl, by decide +kernel, by decide +kernel⟩
noncomputable def m_generator_polynomial (CC CM CR : Addr) : Ms → O := (seqS (ifS (notT (truT (funE 1 (aCons (varE 0) aNil) (Fiscyc CC CM)))) (raiseS ⟨CR, ["reason"], [.str "cyclic"]⟩) nilS)
  (seqS (asgS 1 (funE 2 (aCons (fldE CC "p" (varE 0)) (aCons (fldE CC "n" (varE 0)) aNil)) (Funitp CM CR)))
  (seqS (forS (itS (fldE CC "rows" (varE 0))) (Tk.nm 2).k (asgS 1 (funE 3 (aCons (varE 1) (aCons (funE 1 (aCons (varE 2) aNil) Ftrim) (aCons (fldE CC "p" (varE 0)) aNil))) (Fgcd CR))))
  (retS (varE 1)))))
theorem ok_generator_polynomial {f : Addr} {fd : FuncData} (F : Fun K "generator_polynomial" "generator_polynomial" s_generator_polynomial f fd) {CC CM CR : Addr} (R_Refused : RaS P w K mg base "Refused" CR "reason") (cl_Code : Cls K CC) (na_Code_n : NoAttr K CC "n") (na_Code_p : NoAttr K CC "p") (na_Code_rows : NoAttr K CC "rows") (c_common_divisor : Cal P w K mg base "common_divisor" 4 ["a", "b", "p"] (spD K 3 (Fgcd CR))) (c__trimmed : Cal P w K mg base "_trimmed" 1 ["items"] (spD K 1 Ftrim)) (c_unit_polynomial : Cal P w K mg base "unit_polynomial" 4 ["p", "n"] (spD K 2 (Funitp CM CR))) (c_is_cyclic : Cal P w K mg base "is_cyclic" 5 ["code"] (spD K 1 (Fiscyc CC CM))) : FnOk P w K mg base (L2.CX P w) 6 f fd ["code"] (spD K 1 (runD 3 (m_generator_polynomial CC CM CR))) :=
  defOk F sc_generator_polynomial fun cdv A outer s H E hr => by
    have nd : N_generator_polynomial.Nodup := sc_generator_polynomial.nd
    have tk : Takes (cxOf (L2.CX P w) P w K mg base N_generator_polynomial "generator_polynomial" (defScope s_generator_polynomial) f cdv A outer s H E) (fun cls d _ H' => E cls d H') := takes_of rfl rfl rfl rfl
    have po : PassesOwn (model P w) (cxOf (L2.CX P w) P w K mg base N_generator_polynomial "generator_polynomial" (defScope s_generator_polynomial) f cdv A outer s H E).A (cxOf (L2.CX P w) P w K mg base N_generator_polynomial "generator_polynomial" (defScope s_generator_polynomial) f cdv A outer s H E).env (cxOf (L2.CX P w) P w K mg base N_generator_polynomial "generator_polynomial" (defScope s_generator_polynomial) f cdv A outer s H E).xe := passes_of rfl
    have hu64 := hr.units
    have hu65 := hu65_of hr
    have hu0 := hr.units0
    have hu1 := hu_of hr
    exact (dss_cons (ds_if (dt_not (dt_tru (de_cal c_is_cyclic tk hr (by decide) (by rfl) (da_cons (de_var (pv 0)) da_nil)))) (dss_one (ds_raiseS R_Refused (by rfl) tk (hr.mono (by decide)) (by rfl) (by decide +kernel))) dss_nil)
      (dss_cons (ds_set (i := 1) nd (by rfl) (by first | exact Or.inl rfl | exact Or.inr rfl) (de_cal c_unit_polynomial tk hr (by decide) (by rfl) (da_cons (de_fld cl_Code na_Code_p (de_var (pv 0))) (da_cons (de_fld cl_Code na_Code_n (de_var (pv 0))) da_nil))))
      (dss_cons (ds_for po (by rfl) (di_seq (de_fld cl_Code na_Code_rows (de_var (pv 0)))) (dg_name (pg_name (i := 2) nd (by rfl) (by first | exact Or.inl rfl | exact Or.inr rfl))) (dss_one (ds_set (i := 1) nd (by rfl) (by first | exact Or.inl rfl | exact Or.inr rfl) (de_cal c_common_divisor tk hr (by decide) (by rfl) (da_cons (de_var (pv 1)) (da_cons (de_cal c__trimmed tk hr (by decide) (by rfl) (da_cons (de_var (pv 2)) da_nil)) (da_cons (de_fld cl_Code na_Code_p (de_var (pv 0))) da_nil)))))))
      (dss_one (ds_ret (de_var (pv 1)))))))
abbrev s_check_polynomial : Stmt := topS 50
abbrev N_check_polynomial : List Str := ["code", "generator", "quotient", "_"]
theorem sc_check_polynomial : FnScope N_check_polynomial ["code"] (defScope s_check_polynomial) := ⟨rfl, rfl, rfl, by decide +kernel, rfl, by decide +kernel, by decide +kernel⟩
noncomputable def m_check_polynomial (CC CM CR : Addr) : Ms → O := (seqS (asgS 1 (funE 1 (aCons (varE 0) aNil) (Fgenp CC CM CR)))
  (seqS (asgT (Tk.tp [2, 3]) (funE 3 (aCons (funE 2 (aCons (fldE CC "p" (varE 0)) (aCons (fldE CC "n" (varE 0)) aNil)) (Funitp CM CR)) (aCons (varE 1) (aCons (fldE CC "p" (varE 0)) aNil))) (Fdivd CR)))
  (retS (varE 2))))
theorem ok_check_polynomial {f : Addr} {fd : FuncData} (F : Fun K "check_polynomial" "check_polynomial" s_check_polynomial f fd) {CC CM CR : Addr} (cl_Code : Cls K CC) (na_Code_n : NoAttr K CC "n") (na_Code_p : NoAttr K CC "p") (c_divided : Cal P w K mg base "divided" 3 ["a", "b", "p"] (spD K 3 (Fdivd CR))) (c_unit_polynomial : Cal P w K mg base "unit_polynomial" 4 ["p", "n"] (spD K 2 (Funitp CM CR))) (c_generator_polynomial : Cal P w K mg base "generator_polynomial" 6 ["code"] (spD K 1 (Fgenp CC CM CR))) : FnOk P w K mg base (L2.CX P w) 7 f fd ["code"] (spD K 1 (runD 4 (m_check_polynomial CC CM CR))) :=
  defOk F sc_check_polynomial fun cdv A outer s H E hr => by
    have nd : N_check_polynomial.Nodup := sc_check_polynomial.nd
    have tk : Takes (cxOf (L2.CX P w) P w K mg base N_check_polynomial "check_polynomial" (defScope s_check_polynomial) f cdv A outer s H E) (fun cls d _ H' => E cls d H') := takes_of rfl rfl rfl rfl
    have po : PassesOwn (model P w) (cxOf (L2.CX P w) P w K mg base N_check_polynomial "check_polynomial" (defScope s_check_polynomial) f cdv A outer s H E).A (cxOf (L2.CX P w) P w K mg base N_check_polynomial "check_polynomial" (defScope s_check_polynomial) f cdv A outer s H E).env (cxOf (L2.CX P w) P w K mg base N_check_polynomial "check_polynomial" (defScope s_check_polynomial) f cdv A outer s H E).xe := passes_of rfl
    have hu64 := hr.units
    have hu65 := hu65_of hr
    have hu0 := hr.units0
    have hu1 := hu_of hr
    exact (dss_cons (ds_set (i := 1) nd (by rfl) (by first | exact Or.inl rfl | exact Or.inr rfl) (de_cal c_generator_polynomial tk hr (by decide) (by rfl) (da_cons (de_var (pv 0)) da_nil)))
      (dss_cons (ds_tgt (de_cal c_divided tk hr (by decide) (by rfl) (da_cons (de_cal c_unit_polynomial tk hr (by decide) (by rfl) (da_cons (de_fld cl_Code na_Code_p (de_var (pv 0))) (da_cons (de_fld cl_Code na_Code_n (de_var (pv 0))) da_nil))) (da_cons (de_var (pv 1)) (da_cons (de_fld cl_Code na_Code_p (de_var (pv 0))) da_nil)))) (dg_tup (by rfl) (dgs_cons (pg_name (i := 2) nd (by rfl) (by first | exact Or.inl rfl | exact Or.inr rfl)) (dgs_cons (pg_name (i := 3) nd (by rfl) (by first | exact Or.inl rfl | exact Or.inr rfl)) dgs_nil))))
      (dss_one (ds_ret (de_var (pv 2))))))
abbrev s__law_state : Stmt := topS 52
abbrev N__law_state : List Str := ["script", "seed", "total", "cell"]
theorem sc__law_state : FnScope N__law_state ["script"] (defScope s__law_state) := ⟨rfl, rfl, rfl, by decide +kernel, rfl, by decide +kernel, by decide +kernel⟩
noncomputable def m__law_state : Ms → ON := (seqN (asgS 1 (cE (.int 0)))
  (seqN (asgS 2 (cE (.int 1)))
  (seqN (forS (itS (frz (slL (varE 0) oNone (oSome (cE (.int 63)))))) (Tk.nm 3).k (seqS (asgS 1 (op2 (op2 (varE 1) (cE (.int 1000003)) mulO) (calE (aCons (varE 3) aNil) absO) addO))
  (asgS 2 (op2 (calE (aCons (op2 (op2 (varE 2) (cE (.int 48271)) mulO) (varE 3) addO) aNil) intO) (cE (.int 2147483647)) modO))))
  (retNL (lstE (aCons (varE 1) (aCons (varE 2) aNil)))))))
theorem ok__law_state {f : Addr} {fd : FuncData} (F : Fun K "_law_state" "_law_state" s__law_state f fd) (h_abs : mg "abs" = none) (h_int : mg "int" = none) : FnOk P w K mg base (L2.CX P w) 1 f fd ["script"] (spN K 1 (runN 4 m__law_state)) :=
  defOkN F sc__law_state fun cdv A outer s H E hr => by
    have nd : N__law_state.Nodup := sc__law_state.nd
    have tk : Takes (cxOf (L2.CX P w) P w K mg base N__law_state "_law_state" (defScope s__law_state) f cdv A outer s H E) (fun cls d _ H' => E cls d H') := takes_of rfl rfl rfl rfl
    have po : PassesOwn (model P w) (cxOf (L2.CX P w) P w K mg base N__law_state "_law_state" (defScope s__law_state) f cdv A outer s H E).A (cxOf (L2.CX P w) P w K mg base N__law_state "_law_state" (defScope s__law_state) f cdv A outer s H E).env (cxOf (L2.CX P w) P w K mg base N__law_state "_law_state" (defScope s__law_state) f cdv A outer s H E).xe := passes_of rfl
    have hu64 := hr.units
    have hu65 := hu65_of hr
    have hu0 := hr.units0
    have hu1 := hu_of hr
    exact (dsN_cons (ds_set (i := 1) nd (by rfl) (by first | exact Or.inl rfl | exact Or.inr rfl) de_int)
      (dsN_cons (ds_set (i := 2) nd (by rfl) (by first | exact Or.inl rfl | exact Or.inr rfl) de_int)
      (dsN_cons (ds_for po (by rfl) (di_seq (de_frz (dn_sliceL (de_var (pv 0)) do_none (do_some de_int)))) (dg_name (pg_name (i := 3) nd (by rfl) (by first | exact Or.inl rfl | exact Or.inr rfl))) (dss_cons (ds_set (i := 1) nd (by rfl) (by first | exact Or.inl rfl | exact Or.inr rfl) (de_add (de_mul (de_var (pv 1)) de_int) (de_abs (by rfl) h_abs (de_var (pv 3)))))
      (dss_one (ds_set (i := 2) nd (by rfl) (by first | exact Or.inl rfl | exact Or.inr rfl) (de_mod (de_intc (by rfl) h_int (de_add (de_mul (de_var (pv 2)) de_int) (de_var (pv 3)))) de_int)))))
      (dsN_retL (dn_lst (da_cons (de_var (pv 1)) (da_cons (de_var (pv 2)) da_nil)))))))
abbrev s__law_take : Stmt := topS 53
abbrev N__law_take : List Str := ["state", "m", "value"]
theorem sc__law_take : FnScope N__law_take ["state", "m"] (defScope s__law_take) := ⟨rfl, rfl, rfl, by decide +kernel, rfl, by decide +kernel, by decide +kernel⟩
noncomputable def m__law_take : Ms → O := (seqS (ifS (tst (op2 (ixV 0 (cE (.int 0))) (cE (.int 0)) gtO)) (seqS (asgS 2 (op2 (calE (aCons (ixV 0 (cE (.int 0))) aNil) intO) (varE 1) modO))
  (seqS (setS 0 (op2 (ixV 0 (cE (.int 0))) (varE 1) divO) (cE (.int 0)))
  (retS (varE 2)))) nilS)
  (seqS (setS 0 (op2 (calE (aCons (op2 (op2 (ixV 0 (cE (.int 1))) (cE (.int 48271)) mulO) (cE (.int 11)) addO) aNil) intO) (cE (.int 2147483647)) modO) (cE (.int 1)))
  (retS (op2 (calE (aCons (op2 (ixV 0 (cE (.int 1))) (cE (.int 7)) divO) aNil) intO) (varE 1) modO))))
theorem ok__law_take {f : Addr} {fd : FuncData} (F : Fun K "_law_take" "_law_take" s__law_take f fd) (h_int : mg "int" = none) : FnOk P w K mg base (L2.CX P w) 1 f fd ["state", "m"] (spM K 1 (runM 3 m__law_take)) :=
  defOkM F sc__law_take fun cdv A outer s H E hr => by
    have nd : N__law_take.Nodup := sc__law_take.nd
    have tk : Takes (cxOf (L2.CX P w) P w K mg base N__law_take "_law_take" (defScope s__law_take) f cdv A outer s H E) (fun cls d _ H' => E cls d H') := takes_of rfl rfl rfl rfl
    have po : PassesOwn (model P w) (cxOf (L2.CX P w) P w K mg base N__law_take "_law_take" (defScope s__law_take) f cdv A outer s H E).A (cxOf (L2.CX P w) P w K mg base N__law_take "_law_take" (defScope s__law_take) f cdv A outer s H E).env (cxOf (L2.CX P w) P w K mg base N__law_take "_law_take" (defScope s__law_take) f cdv A outer s H E).xe := passes_of rfl
    have hu64 := hr.units
    have hu65 := hu65_of hr
    have hu0 := hr.units0
    have hu1 := hu_of hr
    exact (dss_cons (ds_if (dt_gt (de_ixV (pv 0) de_int) de_int) (dss_cons (ds_set (i := 2) nd (by rfl) (by first | exact Or.inl rfl | exact Or.inr rfl) (de_mod (de_intc (by rfl) h_int (de_ixV (pv 0) de_int)) (de_var (pv 1))))
      (dss_cons (ds_setI (pv 0) de_int (de_div (de_ixV (pv 0) de_int) (de_var (pv 1))))
      (dss_one (ds_ret (de_var (pv 2)))))) dss_nil)
      (dss_cons (ds_setI (pv 0) de_int (de_mod (de_intc (by rfl) h_int (de_add (de_mul (de_ixV (pv 0) de_int) de_int) de_int)) de_int))
      (dss_one (ds_ret (de_mod (de_intc (by rfl) h_int (de_div (de_ixV (pv 0) de_int) de_int)) (de_var (pv 1)))))))
abbrev s__law_scaled : Stmt := topS 54
abbrev N__law_scaled : List Str := ["v", "a", "p", "x"]
theorem sc__law_scaled : FnScope N__law_scaled ["v", "a", "p"] (defScope s__law_scaled) := ⟨rfl, rfl, rfl, by decide +kernel, rfl, by decide +kernel, by decide +kernel⟩
noncomputable def m__law_scaled : Ms → O := (retS (calE (aCons (frz (lcE (itS (varE 0)) (Tk.nm 3).k yesT (op2 (calE (aCons (op2 (varE 3) (varE 1) mulO) aNil) intO) (varE 2) modO) [3])) aNil) tupO))
theorem ok__law_scaled {f : Addr} {fd : FuncData} (F : Fun K "_law_scaled" "_law_scaled" s__law_scaled f fd) (h_int : mg "int" = none) (h_tuple : mg "tuple" = none) : FnOk P w K mg base (L2.CX P w) 1 f fd ["v", "a", "p"] (spD K 3 (runD 4 m__law_scaled)) :=
  defOk F sc__law_scaled fun cdv A outer s H E hr => by
    have nd : N__law_scaled.Nodup := sc__law_scaled.nd
    have tk : Takes (cxOf (L2.CX P w) P w K mg base N__law_scaled "_law_scaled" (defScope s__law_scaled) f cdv A outer s H E) (fun cls d _ H' => E cls d H') := takes_of rfl rfl rfl rfl
    have po : PassesOwn (model P w) (cxOf (L2.CX P w) P w K mg base N__law_scaled "_law_scaled" (defScope s__law_scaled) f cdv A outer s H E).A (cxOf (L2.CX P w) P w K mg base N__law_scaled "_law_scaled" (defScope s__law_scaled) f cdv A outer s H E).env (cxOf (L2.CX P w) P w K mg base N__law_scaled "_law_scaled" (defScope s__law_scaled) f cdv A outer s H E).xe := passes_of rfl
    have hu64 := hr.units
    have hu65 := hu65_of hr
    have hu0 := hr.units0
    have hu1 := hu_of hr
    exact (dss_one (ds_ret (de_tupc (by rfl) h_tuple (de_frz (dn_lc (by rfl) nd (di_seq (de_var (pv 0))) (blkOk_by (own := [("x", 3)]) (N := N__law_scaled) (sc := defScope s__law_scaled) (by decide +kernel)) (by decide) (fun _ _ _ _ _ => (dg_name (pg_name (i := 3) nd (by rfl) (by first | exact Or.inl rfl | exact Or.inr rfl)))) (fun _ _ _ _ _ => dts_nil) (fun _ _ _ _ _ => (de_mod (de_intc (by rfl) h_int (de_mul (de_var (pv 3)) (de_var (pv 1)))) (de_var (pv 2)))))))))
abbrev s__law_prime : Stmt := topS 55
abbrev N__law_prime : List Str := ["state"]
theorem sc__law_prime : FnScope N__law_prime ["state"] (defScope s__law_prime) := ⟨rfl, rfl, rfl, by decide +kernel, rfl, by decide +kernel, by decide +kernel⟩
noncomputable def m__law_prime : Ms → O := (retS (op2 (frz (lstE (aCons (cE (.int 2)) (aCons (cE (.int 2)) (aCons (cE (.int 3)) (aCons (cE (.int 3)) (aCons (cE (.int 5)) (aCons (cE (.int 7)) aNil)))))))) (funM 1 0 (aCons (cE (.int 6)) aNil) Ftake) ixO))
theorem ok__law_prime {f : Addr} {fd : FuncData} (F : Fun K "_law_prime" "_law_prime" s__law_prime f fd) (c__law_take : Cal P w K mg base "_law_take" 1 ["state", "m"] (spM K 1 Ftake)) : FnOk P w K mg base (L2.CX P w) 2 f fd ["state"] (spM K 0 (runM 1 m__law_prime)) :=
  defOkM F sc__law_prime fun cdv A outer s H E hr => by
    have nd : N__law_prime.Nodup := sc__law_prime.nd
    have tk : Takes (cxOf (L2.CX P w) P w K mg base N__law_prime "_law_prime" (defScope s__law_prime) f cdv A outer s H E) (fun cls d _ H' => E cls d H') := takes_of rfl rfl rfl rfl
    have po : PassesOwn (model P w) (cxOf (L2.CX P w) P w K mg base N__law_prime "_law_prime" (defScope s__law_prime) f cdv A outer s H E).A (cxOf (L2.CX P w) P w K mg base N__law_prime "_law_prime" (defScope s__law_prime) f cdv A outer s H E).env (cxOf (L2.CX P w) P w K mg base N__law_prime "_law_prime" (defScope s__law_prime) f cdv A outer s H E).xe := passes_of rfl
    have hu64 := hr.units
    have hu65 := hu65_of hr
    have hu0 := hr.units0
    have hu1 := hu_of hr
    exact (dss_one (ds_ret (de_sub1 (de_frz (dn_lst (da_cons de_int (da_cons de_int (da_cons de_int (da_cons de_int (da_cons de_int (da_cons de_int da_nil)))))))) (de_calM c__law_take tk hr (by decide) (by rfl) (pv 0) (da_cons de_int da_nil)))))
abbrev s__law_trimmed : Stmt := topS 56
abbrev N__law_trimmed : List Str := ["row", "out", "k"]
theorem sc__law_trimmed : FnScope N__law_trimmed ["row"] (defScope s__law_trimmed) := ⟨rfl, rfl, rfl, by decide +kernel, rfl, by decide +kernel, by decide +kernel⟩
noncomputable def m__law_trimmed : Ms → O := (seqS (asgS 1 (frz (calN (aCons (varE 0) aNil) lstO)))
  (seqS (forS (itR1 (aCons (calE (aCons (varE 0) aNil) lenO) aNil)) (Tk.nm 2).k (ifS (andT (tst (op2 (calE (aCons (varE 1) aNil) lenO) (cE (.int 0)) gtO)) (tst (op2 (op2 (varE 1) (op1 (cE (.int 1)) negO) ixO) (cE (.int 0)) eqO))) (asgS 1 (frz (slL (varE 1) oNone (oSome (op1 (cE (.int 1)) negO))))) nilS))
  (retS (calE (aCons (varE 1) aNil) tupO))))
theorem ok__law_trimmed {f : Addr} {fd : FuncData} (F : Fun K "_law_trimmed" "_law_trimmed" s__law_trimmed f fd) (h_len : mg "len" = none) (h_list : mg "list" = none) (h_range : mg "range" = none) (h_tuple : mg "tuple" = none) : FnOk P w K mg base (L2.CX P w) 1 f fd ["row"] (spD K 1 (runD 3 m__law_trimmed)) :=
  defOk F sc__law_trimmed fun cdv A outer s H E hr => by
    have nd : N__law_trimmed.Nodup := sc__law_trimmed.nd
    have tk : Takes (cxOf (L2.CX P w) P w K mg base N__law_trimmed "_law_trimmed" (defScope s__law_trimmed) f cdv A outer s H E) (fun cls d _ H' => E cls d H') := takes_of rfl rfl rfl rfl
    have po : PassesOwn (model P w) (cxOf (L2.CX P w) P w K mg base N__law_trimmed "_law_trimmed" (defScope s__law_trimmed) f cdv A outer s H E).A (cxOf (L2.CX P w) P w K mg base N__law_trimmed "_law_trimmed" (defScope s__law_trimmed) f cdv A outer s H E).env (cxOf (L2.CX P w) P w K mg base N__law_trimmed "_law_trimmed" (defScope s__law_trimmed) f cdv A outer s H E).xe := passes_of rfl
    have hu64 := hr.units
    have hu65 := hu65_of hr
    have hu0 := hr.units0
    have hu1 := hu_of hr
    exact (dss_cons (ds_set (i := 1) nd (by rfl) (by first | exact Or.inl rfl | exact Or.inr rfl) (de_frz (dn_list (by rfl) h_list (de_var (pv 0)))))
      (dss_cons (ds_for po (by rfl) (di_range1 (by rfl) h_range (da_cons (de_len (by rfl) h_len (de_var (pv 0))) da_nil)) (dg_name (pg_name (i := 2) nd (by rfl) (by first | exact Or.inl rfl | exact Or.inr rfl))) (dss_one (ds_if (PW.pt (dw_and (dt_gt (de_len (by rfl) h_len (de_var (pv 1))) de_int) (dw_and1 (dt_eq hu64 (de_sub1 (de_var (pv 1)) (de_neg de_int)) de_int)))) (dss_one (ds_set (i := 1) nd (by rfl) (by first | exact Or.inl rfl | exact Or.inr rfl) (de_frz (dn_sliceL (de_var (pv 1)) do_none (do_some (de_neg de_int)))))) dss_nil)))
      (dss_one (ds_ret (de_tupc (by rfl) h_tuple (de_var (pv 1)))))))
abbrev s__law_rest : Stmt := topS 57
abbrev N__law_rest : List Str := ["a", "b", "p", "rest", "head", "at", "factor", "k"]
theorem sc__law_rest : FnScope N__law_rest ["a", "b", "p"] (defScope s__law_rest) := ⟨rfl, rfl, rfl, by decide +kernel, rfl, by decide +kernel, by decide +kernel⟩
noncomputable def m__law_rest : Ms → O := (seqS (asgN 3 (calN (aCons (varE 0) aNil) lstO))
  (seqS (asgS 4 (op2 (frz (lcE (itR2 (aCons (cE (.int 1)) (aCons (varE 2) aNil))) (Tk.nm 7).k (tst (op2 (op2 (calE (aCons (op2 (varE 7) (op2 (varE 1) (op1 (cE (.int 1)) negO) ixO) mulO) aNil) intO) (varE 2) modO) (cE (.int 1)) eqO)) (varE 7) [7])) (cE (.int 0)) ixO))
  (seqS (forS (itR3 (aCons (op2 (calE (aCons (varE 0) aNil) lenO) (calE (aCons (varE 1) aNil) lenO) subO) (aCons (op1 (cE (.int 1)) negO) (aCons (op1 (cE (.int 1)) negO) aNil)))) (Tk.nm 5).k (seqS (asgS 6 (op2 (calE (aCons (op2 (ixV 3 (op2 (op2 (varE 5) (calE (aCons (varE 1) aNil) lenO) addO) (cE (.int 1)) subO)) (varE 4) mulO) aNil) intO) (varE 2) modO))
  (forS (itR1 (aCons (calE (aCons (varE 1) aNil) lenO) aNil)) (Tk.nm 7).k (setS 3 (op2 (calE (aCons (op2 (ixV 3 (op2 (varE 5) (varE 7) addO)) (op2 (varE 6) (op2 (varE 1) (varE 7) ixO) mulO) subO) aNil) intO) (varE 2) modO) (op2 (varE 5) (varE 7) addO)))))
  (retS (funE 1 (aCons (varE 3) aNil) Fltrim)))))
theorem ok__law_rest {f : Addr} {fd : FuncData} (F : Fun K "_law_rest" "_law_rest" s__law_rest f fd) (h_int : mg "int" = none) (h_len : mg "len" = none) (h_list : mg "list" = none) (h_range : mg "range" = none) (c__law_trimmed : Cal P w K mg base "_law_trimmed" 1 ["row"] (spD K 1 Fltrim)) : FnOk P w K mg base (L2.CX P w) 2 f fd ["a", "b", "p"] (spD K 3 (runD 8 m__law_rest)) :=
  defOk F sc__law_rest fun cdv A outer s H E hr => by
    have nd : N__law_rest.Nodup := sc__law_rest.nd
    have tk : Takes (cxOf (L2.CX P w) P w K mg base N__law_rest "_law_rest" (defScope s__law_rest) f cdv A outer s H E) (fun cls d _ H' => E cls d H') := takes_of rfl rfl rfl rfl
    have po : PassesOwn (model P w) (cxOf (L2.CX P w) P w K mg base N__law_rest "_law_rest" (defScope s__law_rest) f cdv A outer s H E).A (cxOf (L2.CX P w) P w K mg base N__law_rest "_law_rest" (defScope s__law_rest) f cdv A outer s H E).env (cxOf (L2.CX P w) P w K mg base N__law_rest "_law_rest" (defScope s__law_rest) f cdv A outer s H E).xe := passes_of rfl
    have hu64 := hr.units
    have hu65 := hu65_of hr
    have hu0 := hr.units0
    have hu1 := hu_of hr
    exact (dss_cons (ds_setN (i := 3) nd (by rfl) (by first | exact Or.inl rfl | exact Or.inr rfl) (dn_list (by rfl) h_list (de_var (pv 0))))
      (dss_cons (ds_set (i := 4) nd (by rfl) (by first | exact Or.inl rfl | exact Or.inr rfl) (de_sub1 (de_frz (dn_lc (by rfl) nd (di_range2 (by rfl) h_range (da_cons de_int (da_cons (de_var (pv 2)) da_nil))) (blkOk_by (own := [("k", 7)]) (N := N__law_rest) (sc := defScope s__law_rest) (by decide +kernel)) (by decide) (fun _ _ _ _ _ => (dg_name (pg_name (i := 7) nd (by rfl) (by first | exact Or.inl rfl | exact Or.inr rfl)))) (fun _ _ _ _ _ => (dts_one (dt_eq hu64 (de_mod (de_intc (by rfl) h_int (de_mul (de_var (pv 7)) (de_sub1 (de_var (pv 1)) (de_neg de_int)))) (de_var (pv 2))) de_int))) (fun _ _ _ _ _ => (de_var (pv 7))))) de_int))
      (dss_cons (ds_for po (by rfl) (di_range3 (by rfl) h_range (da_cons (de_sub (de_len (by rfl) h_len (de_var (pv 0))) (de_len (by rfl) h_len (de_var (pv 1)))) (da_cons (de_neg de_int) (da_cons (de_neg de_int) da_nil)))) (dg_name (pg_name (i := 5) nd (by rfl) (by first | exact Or.inl rfl | exact Or.inr rfl))) (dss_cons (ds_set (i := 6) nd (by rfl) (by first | exact Or.inl rfl | exact Or.inr rfl) (de_mod (de_intc (by rfl) h_int (de_mul (de_ixV (pv 3) (de_sub (de_add (de_var (pv 5)) (de_len (by rfl) h_len (de_var (pv 1)))) de_int)) (de_var (pv 4)))) (de_var (pv 2))))
      (dss_one (ds_for po (by rfl) (di_range1 (by rfl) h_range (da_cons (de_len (by rfl) h_len (de_var (pv 1))) da_nil)) (dg_name (pg_name (i := 7) nd (by rfl) (by first | exact Or.inl rfl | exact Or.inr rfl))) (dss_one (ds_setI (pv 3) (de_add (de_var (pv 5)) (de_var (pv 7))) (de_mod (de_intc (by rfl) h_int (de_sub (de_ixV (pv 3) (de_add (de_var (pv 5)) (de_var (pv 7)))) (de_mul (de_var (pv 6)) (de_sub1 (de_var (pv 1)) (de_var (pv 7)))))) (de_var (pv 2)))))))))
      (dss_one (ds_ret (de_cal c__law_trimmed tk hr (by decide) (by rfl) (da_cons (de_var (pv 3)) da_nil)))))))
abbrev s_law : Stmt := topS 58
abbrev N_law : List Str := ["script", "state", "p", "n", "rows", "g", "f", "a", "b", "h", "head", "turned", "dual", "both", "wide", "greatest", "least", "row", "k", "other"]
theorem sc_law : FnScope N_law ["script"] (defScope s_law) := ⟨rfl, rfl, rfl, by decide +kernel, rfl, by decide +kernel, by decide +kernel⟩
theorem ok_law {f : Addr} {fd : FuncData} (F : Fun K "law" "law" s_law f fd) {CC CM CR : Addr} (h_int : mg "int" = none) (h_len : mg "len" = none) (h_max : mg "max" = none) (h_min : mg "min" = none) (h_range : mg "range" = none) (cl_Code : Cls K CC) (na_Code_k : NoAttr K CC "k") (cm_Code_dual : CalM P w K mg base CC "dual" 7 ["self"] (spD K 1 (Fcdual CC CM CR))) (c_generator_polynomial : Cal P w K mg base "generator_polynomial" 6 ["code"] (spD K 1 (Fgenp CC CM CR))) (c_common_part : Cal P w K mg base "common_part" 7 ["a", "b"] (spD K 2 (Fcpart CC CM CR))) (c_sum_of : Cal P w K mg base "sum_of" 7 ["a", "b"] (spD K 2 (Fsumof CC CM CR))) (c__law_rest : Cal P w K mg base "_law_rest" 2 ["a", "b", "p"] (spD K 3 Flrest)) (c_is_cyclic : Cal P w K mg base "is_cyclic" 5 ["code"] (spD K 1 (Fiscyc CC CM))) (c__law_scaled : Cal P w K mg base "_law_scaled" 1 ["v", "a", "p"] (spD K 3 FscW)) (c_check_polynomial : Cal P w K mg base "check_polynomial" 7 ["code"] (spD K 1 (Fchkp CC CM CR))) (c_cyclic_code : Cal P w K mg base "cyclic_code" 7 ["p", "n", "g"] (spD K 3 (Fcycc CC CM CR))) (c__law_take : Cal P w K mg base "_law_take" 1 ["state", "m"] (spM K 1 Ftake)) (c_divisors_of_unit : Cal P w K mg base "divisors_of_unit" 7 ["p", "n"] (spD K 2 (Fdivs CM CR))) (c__law_prime : Cal P w K mg base "_law_prime" 2 ["state"] (spM K 0 Fprime)) (c__law_state : Cal P w K mg base "_law_state" 1 ["script"] (spN K 1 Fstate)) (e_cc : CC = 219) : FnOk P w K mg base (L2.CX P w) 8 f fd ["script"] (Lq.spLaw K) :=
  lawOk F sc_law (fun ns h => run_law37 CC CM CR e_cc ns h) fun cdv A outer s H E hr => by
    have nd : N_law.Nodup := sc_law.nd
    have tk : Takes (cxOf (L2.CX P w) P w K mg base N_law "law" (defScope s_law) f cdv A outer s H E) (fun cls d _ H' => E cls d H') := takes_of rfl rfl rfl rfl
    have po : PassesOwn (model P w) (cxOf (L2.CX P w) P w K mg base N_law "law" (defScope s_law) f cdv A outer s H E).A (cxOf (L2.CX P w) P w K mg base N_law "law" (defScope s_law) f cdv A outer s H E).env (cxOf (L2.CX P w) P w K mg base N_law "law" (defScope s_law) f cdv A outer s H E).xe := passes_of rfl
    have hu64 := hr.units
    have hu65 := hu65_of hr
    have hu0 := hr.units0
    have hu1 := hu_of hr
    exact (dss_cons (ds_setN (i := 1) nd (by rfl) (by first | exact Or.inl rfl | exact Or.inr rfl) (dn_cal c__law_state tk hr (by decide) (by rfl) (da_cons (de_var (pv 0)) da_nil)))
      (dss_cons (ds_set (i := 2) nd (by rfl) (by first | exact Or.inl rfl | exact Or.inr rfl) (de_calM c__law_prime tk hr (by decide) (by rfl) (pv 1) da_nil))
      (dss_cons (ds_set (i := 3) nd (by rfl) (by first | exact Or.inl rfl | exact Or.inr rfl) (de_add de_int (de_calM c__law_take tk hr (by decide) (by rfl) (pv 1) (da_cons (de_sub1 (de_frz (dn_lst (da_cons de_int (da_cons de_int (da_cons de_int (da_cons de_int (da_cons de_int (da_cons de_int (da_cons de_int (da_cons de_int da_nil)))))))))) (de_var (pv 2))) da_nil))))
      (dss_cons (ds_set (i := 4) nd (by rfl) (by first | exact Or.inl rfl | exact Or.inr rfl) (de_cal c_divisors_of_unit tk hr (by decide) (by rfl) (da_cons (de_var (pv 2)) (da_cons (de_var (pv 3)) da_nil))))
      (dss_cons (ds_set (i := 5) nd (by rfl) (by first | exact Or.inl rfl | exact Or.inr rfl) (de_sub1 (de_var (pv 4)) (de_calM c__law_take tk hr (by decide) (by rfl) (pv 1) (da_cons (de_len (by rfl) h_len (de_var (pv 4))) da_nil))))
      (dss_cons (ds_set (i := 6) nd (by rfl) (by first | exact Or.inl rfl | exact Or.inr rfl) (de_sub1 (de_var (pv 4)) (de_calM c__law_take tk hr (by decide) (by rfl) (pv 1) (da_cons (de_len (by rfl) h_len (de_var (pv 4))) da_nil))))
      (dss_cons (ds_set (i := 7) nd (by rfl) (by first | exact Or.inl rfl | exact Or.inr rfl) (de_cal c_cyclic_code tk hr (by decide) (by rfl) (da_cons (de_var (pv 2)) (da_cons (de_var (pv 3)) (da_cons (de_var (pv 5)) da_nil)))))
      (dss_cons (ds_set (i := 8) nd (by rfl) (by first | exact Or.inl rfl | exact Or.inr rfl) (de_cal c_cyclic_code tk hr (by decide) (by rfl) (da_cons (de_var (pv 2)) (da_cons (de_var (pv 3)) (da_cons (de_var (pv 6)) da_nil)))))
      (dss_cons (ds_set (i := 9) nd (by rfl) (by first | exact Or.inl rfl | exact Or.inr rfl) (de_cal c_check_polynomial tk hr (by decide) (by rfl) (da_cons (de_var (pv 7)) da_nil)))
      (dss_cons (ds_set (i := 10) nd (by rfl) (by first | exact Or.inl rfl | exact Or.inr rfl) (de_sub1 (de_frz (dn_lc (by rfl) nd (di_range2 (by rfl) h_range (da_cons de_int (da_cons (de_var (pv 2)) da_nil))) (blkOk_by (own := [("k", 18)]) (N := N_law) (sc := defScope s_law) (by decide +kernel)) (by decide) (fun _ _ _ _ _ => (dg_name (pg_name (i := 18) nd (by rfl) (by first | exact Or.inl rfl | exact Or.inr rfl)))) (fun _ _ _ _ _ => (dts_one (dt_eq hu64 (de_mod (de_intc (by rfl) h_int (de_mul (de_var (pv 18)) (de_sub1 (de_var (pv 9)) de_int))) (de_var (pv 2))) de_int))) (fun _ _ _ _ _ => (de_var (pv 18))))) de_int))
      (dss_cons (ds_set (i := 11) nd (by rfl) (by first | exact Or.inl rfl | exact Or.inr rfl) (de_cal c__law_scaled tk hr (by decide) (by rfl) (da_cons (de_revT (de_var (pv 9))) (da_cons (de_var (pv 10)) (da_cons (de_var (pv 2)) da_nil)))))
      (dss_cons (ds_set (i := 12) nd (by rfl) (by first | exact Or.inl rfl | exact Or.inr rfl) (de_met0 cm_Code_dual tk hr (by decide) (de_var (pv 7))))
      (dss_cons (ds_if (PW.pt (dw_or (dt_notB (de_cal c_is_cyclic tk hr (by decide) (by rfl) (da_cons (de_var (pv 12)) da_nil)) de_bl) (dw_or (dt_ne hu64 (de_cal c_generator_polynomial tk hr (by decide) (by rfl) (da_cons (de_var (pv 12)) da_nil)) (de_var (pv 11))) (dw_or1 (dt_ne hu64 (de_cal c_generator_polynomial tk hr (by decide) (by rfl) (da_cons (de_var (pv 7)) da_nil)) (de_var (pv 5))))))) (dss_one (ds_ret de_bl)) dss_nil)
      (dss_cons (ds_set (i := 13) nd (by rfl) (by first | exact Or.inl rfl | exact Or.inr rfl) (de_frz (dn_lc (by rfl) nd (di_seq (de_var (pv 4))) (blkOk_by (own := [("row", 17)]) (N := N_law) (sc := defScope s_law) (by decide +kernel)) (by decide) (fun _ _ _ _ _ => (dg_name (pg_name (i := 17) nd (by rfl) (by first | exact Or.inl rfl | exact Or.inr rfl)))) (fun _ _ _ _ _ => (dts_one (PW.pt (dw_and (dt_eq hu64 (de_cal c__law_rest takes0 hr (by decide) (by rfl) (da_cons (de_var (pv 5)) (da_cons (de_var (pv 17)) (da_cons (de_var (pv 2)) da_nil)))) (de_tup da_nil)) (dw_and1 (dt_eq hu64 (de_cal c__law_rest takes0 hr (by decide) (by rfl) (da_cons (de_var (pv 6)) (da_cons (de_var (pv 17)) (da_cons (de_var (pv 2)) da_nil)))) (de_tup da_nil))))))) (fun _ _ _ _ _ => (de_var (pv 17))))))
      (dss_cons (ds_set (i := 14) nd (by rfl) (by first | exact Or.inl rfl | exact Or.inr rfl) (de_frz (dn_lc (by rfl) nd (di_seq (de_var (pv 4))) (blkOk_by (own := [("row", 17)]) (N := N_law) (sc := defScope s_law) (by decide +kernel)) (by decide) (fun _ _ _ _ _ => (dg_name (pg_name (i := 17) nd (by rfl) (by first | exact Or.inl rfl | exact Or.inr rfl)))) (fun _ _ _ _ _ => (dts_one (PW.pt (dw_and (dt_eq hu64 (de_cal c__law_rest takes0 hr (by decide) (by rfl) (da_cons (de_var (pv 17)) (da_cons (de_var (pv 5)) (da_cons (de_var (pv 2)) da_nil)))) (de_tup da_nil)) (dw_and1 (dt_eq hu64 (de_cal c__law_rest takes0 hr (by decide) (by rfl) (da_cons (de_var (pv 17)) (da_cons (de_var (pv 6)) (da_cons (de_var (pv 2)) da_nil)))) (de_tup da_nil))))))) (fun _ _ _ _ _ => (de_var (pv 17))))))
      (dss_cons (ds_lc (i := 15) (by rfl) nd (by rfl) (by rfl) (sw_true (by rfl) (by rfl) (by rfl) (by decide +kernel)) (di_seq (de_var (pv 13))) (blkOk_by (own := [("row", 17)]) (N := N_law) (sc := defScope s_law) (by decide +kernel)) (by decide) (fun _ _ _ _ _ => (dg_name (pg_name (i := 17) nd (by rfl) (by first | exact Or.inl rfl | exact Or.inr rfl)))) (fun _ _ _ _ _ => (dts_one (dt_eq hu64 (de_len (by rfl) h_len (de_var (pv 17))) (de_maxL (by rfl) (by rfl) h_max (de_frz (dn_lc (by rfl) nd (di_seq (de_var (pv 13))) (blkOk_by (own := [("other", 19)]) (N := N_law) (sc := _) (by kernel_rfl)) (by decide) (fun _ _ _ _ _ => (dg_name (pg_name (i := 19) nd (by rfl) (by first | exact Or.inl rfl | exact Or.inr rfl)))) (fun _ _ _ _ _ => dts_nil) (fun _ _ _ _ _ => (de_len (by rfl) h_len (de_var (pv 19)))))))))) (fun _ _ _ _ _ => (de_var (pv 17))))
      (dss_cons (ds_lc (i := 16) (by rfl) nd (by rfl) (by rfl) (sw_true (by rfl) (by rfl) (by rfl) (by decide +kernel)) (di_seq (de_var (pv 14))) (blkOk_by (own := [("row", 17)]) (N := N_law) (sc := defScope s_law) (by decide +kernel)) (by decide) (fun _ _ _ _ _ => (dg_name (pg_name (i := 17) nd (by rfl) (by first | exact Or.inl rfl | exact Or.inr rfl)))) (fun _ _ _ _ _ => (dts_one (dt_eq hu64 (de_len (by rfl) h_len (de_var (pv 17))) (de_minL (by rfl) (by rfl) h_min (de_frz (dn_lc (by rfl) nd (di_seq (de_var (pv 14))) (blkOk_by (own := [("other", 19)]) (N := N_law) (sc := _) (by kernel_rfl)) (by decide) (fun _ _ _ _ _ => (dg_name (pg_name (i := 19) nd (by rfl) (by first | exact Or.inl rfl | exact Or.inr rfl)))) (fun _ _ _ _ _ => dts_nil) (fun _ _ _ _ _ => (de_len (by rfl) h_len (de_var (pv 19)))))))))) (fun _ _ _ _ _ => (de_var (pv 17))))
      (dss_cons (ds_if (PW.pt (dw_or (dt_ne hu64 (de_len (by rfl) h_len (de_var (pv 15))) de_int) (dw_or1 (dt_ne hu64 (de_len (by rfl) h_len (de_var (pv 16))) de_int)))) (dss_one (ds_ret de_bl)) dss_nil)
      (dss_cons (ds_if (PW.pt (dw_or (dt_ne hu64 (de_cal c_generator_polynomial tk hr (by decide) (by rfl) (da_cons (de_cal c_sum_of tk hr (by decide) (by rfl) (da_cons (de_var (pv 7)) (da_cons (de_var (pv 8)) da_nil))) da_nil)) (de_sub1 (de_var (pv 15)) de_int)) (dw_or1 (dt_ne hu64 (de_cal c_generator_polynomial tk hr (by decide) (by rfl) (da_cons (de_cal c_common_part tk hr (by decide) (by rfl) (da_cons (de_var (pv 7)) (da_cons (de_var (pv 8)) da_nil))) da_nil)) (de_sub1 (de_var (pv 16)) de_int))))) (dss_one (ds_ret de_bl)) dss_nil)
      (dss_one (ds_ret (de_and (de_eq hu64 (de_fld cl_Code na_Code_k (de_var (pv 12))) (de_sub (de_len (by rfl) h_len (de_var (pv 5))) de_int)) (de_one (de_eq hu64 (de_fld cl_Code na_Code_k (de_var (pv 7))) (de_sub (de_add (de_var (pv 3)) de_int) (de_len (by rfl) h_len (de_var (pv 5))))))))))))))))))))))))))))
theorem all_mk {l : PySem.W.OpenLaw} {w : World} {K : PySem.W.Frag} {h : Heap} {mg : Str → Option Value} {fa f1 f2 f3 f4 f5 f6 f7 f8 f9 f10 f11 f12 f13 f14 f15 f16 f17 f18 f19 f20 f21 f22 f23 f24 f25 f26 f27 f28 f29 f30 f31 f32 f33 f34 f35 f36 f37 f38 f39 f40 f41 f42 f43 f44 f45 f46 : Addr} (X : K.In h) (G : h.Ns mainGlobals mg) (hfa : mg "law" = some (.ref fa))
    {CC : Addr}
    {od1 an1 od2 an2 od3 an3 od4 an4 od5 an5 od6 an6 od7 an7 od8 an8 od9 an9 od10 an10 od11 an11 od12 an12 od13 an13 od14 an14 od15 an15 od16 an16 od17 an17 od18 an18 od19 an19 od20 an20 od21 an21 od22 an22 od23 an23 od24 an24 od25 an25 od26 an26 od27 an27 od28 an28 od29 an29 od30 an30 od31 an31 od32 an32 od33 an33 od34 an34 od35 an35 od36 an36 od37 an37 od38 an38 od39 an39 od40 an40 od41 an41 od42 an42 od43 an43 od44 an44 od45 an45 od46 an46 : Option Addr} {sl1 sl2 sl3 sl4 sl5 sl6 sl7 sl8 sl9 sl10 sl11 sl12 sl13 sl14 sl15 sl16 sl17 sl18 sl19 sl20 sl21 sl22 sl23 sl24 sl25 sl26 sl27 sl28 sl29 sl30 sl31 sl32 sl33 sl34 sl35 sl36 sl37 sl38 sl39 sl40 sl41 sl42 sl43 sl44 sl45 sl46 : Array (Option Value)} {oc1 kV1 dc1 pm1 cd1 ct1 oc2 kV2 dc2 pm2 cd2 ct2 oc3 kV3 dc3 pm3 cd3 ct3 oc4 kV4 dc4 pm4 cd4 ct4 oc5 kV5 dc5 pm5 cd5 ct5 oc6 kV6 dc6 pm6 cd6 ct6 oc7 kV7 dc7 pm7 cd7 ct7 oc8 kV8 dc8 pm8 cd8 ct8 oc9 kV9 dc9 pm9 cd9 ct9 oc10 kV10 dc10 pm10 cd10 ct10 oc11 kV11 dc11 pm11 cd11 ct11 oc12 kV12 dc12 pm12 cd12 ct12 oc13 kV13 dc13 pm13 cd13 ct13 oc14 kV14 dc14 pm14 cd14 ct14 oc15 kV15 dc15 pm15 cd15 ct15 oc16 kV16 dc16 pm16 cd16 ct16 oc17 kV17 dc17 pm17 cd17 ct17 oc18 kV18 dc18 pm18 cd18 ct18 oc19 kV19 dc19 pm19 cd19 ct19 oc20 kV20 dc20 pm20 cd20 ct20 oc21 kV21 dc21 pm21 cd21 ct21 oc22 kV22 dc22 pm22 cd22 ct22 oc23 kV23 dc23 pm23 cd23 ct23 oc24 kV24 dc24 pm24 cd24 ct24 oc25 kV25 dc25 pm25 cd25 ct25 oc26 kV26 dc26 pm26 cd26 ct26 oc27 kV27 dc27 pm27 cd27 ct27 oc28 kV28 dc28 pm28 cd28 ct28 oc29 kV29 dc29 pm29 cd29 ct29 oc30 kV30 dc30 pm30 cd30 ct30 oc31 kV31 dc31 pm31 cd31 ct31 oc32 kV32 dc32 pm32 cd32 ct32 oc33 kV33 dc33 pm33 cd33 ct33 oc34 kV34 dc34 pm34 cd34 ct34 oc35 kV35 dc35 pm35 cd35 ct35 oc36 kV36 dc36 pm36 cd36 ct36 oc37 kV37 dc37 pm37 cd37 ct37 oc38 kV38 dc38 pm38 cd38 ct38 oc39 kV39 dc39 pm39 cd39 ct39 oc40 kV40 dc40 pm40 cd40 ct40 oc41 kV41 dc41 pm41 cd41 ct41 oc42 kV42 dc42 pm42 cd42 ct42 oc43 kV43 dc43 pm43 cd43 ct43 oc44 kV44 dc44 pm44 cd44 ct44 oc45 kV45 dc45 pm45 cd45 ct45 oc46 kV46 dc46 pm46 cd46 ct46 : Value}
    (a1 : PySem.W.nsIn K mainGlobals "is_integer" = some (some (.ref f1))) (l1 : K.lookup f1 = some ⟨oc1, od1, .func (PySem.W.fnOf "is_integer" "is_integer" (defArgs s_is_integer) (defBody s_is_integer) (defScope s_is_integer) .none kV1 dc1 pm1 an1 cd1 ct1), sl1⟩) (c1 : PySem.W.codeIn K cd1 "is_integer" = true) (k1 : PySem.W.keepIn K (.ref f1) = true)
    (a2 : PySem.W.nsIn K mainGlobals "inverse" = some (some (.ref f2))) (l2 : K.lookup f2 = some ⟨oc2, od2, .func (PySem.W.fnOf "inverse" "inverse" (defArgs s_inverse) (defBody s_inverse) (defScope s_inverse) .none kV2 dc2 pm2 an2 cd2 ct2), sl2⟩) (c2 : PySem.W.codeIn K cd2 "inverse" = true) (k2 : PySem.W.keepIn K (.ref f2) = true)
    (a3 : PySem.W.nsIn K mainGlobals "power" = some (some (.ref f3))) (l3 : K.lookup f3 = some ⟨oc3, od3, .func (PySem.W.fnOf "power" "power" (defArgs s_power) (defBody s_power) (defScope s_power) .none kV3 dc3 pm3 an3 cd3 ct3), sl3⟩) (c3 : PySem.W.codeIn K cd3 "power" = true) (k3 : PySem.W.keepIn K (.ref f3) = true)
    (a4 : PySem.W.nsIn K mainGlobals "is_word" = some (some (.ref f4))) (l4 : K.lookup f4 = some ⟨oc4, od4, .func (PySem.W.fnOf "is_word" "is_word" (defArgs s_is_word) (defBody s_is_word) (defScope s_is_word) .none kV4 dc4 pm4 an4 cd4 ct4), sl4⟩) (c4 : PySem.W.codeIn K cd4 "is_word" = true) (k4 : PySem.W.keepIn K (.ref f4) = true)
    (a5 : PySem.W.nsIn K mainGlobals "add" = some (some (.ref f5))) (l5 : K.lookup f5 = some ⟨oc5, od5, .func (PySem.W.fnOf "add" "add" (defArgs s_add) (defBody s_add) (defScope s_add) .none kV5 dc5 pm5 an5 cd5 ct5), sl5⟩) (c5 : PySem.W.codeIn K cd5 "add" = true) (k5 : PySem.W.keepIn K (.ref f5) = true)
    (a6 : PySem.W.nsIn K mainGlobals "scaled" = some (some (.ref f6))) (l6 : K.lookup f6 = some ⟨oc6, od6, .func (PySem.W.fnOf "scaled" "scaled" (defArgs s_scaled) (defBody s_scaled) (defScope s_scaled) .none kV6 dc6 pm6 an6 cd6 ct6), sl6⟩) (c6 : PySem.W.codeIn K cd6 "scaled" = true) (k6 : PySem.W.keepIn K (.ref f6) = true)
    (a7 : PySem.W.nsIn K mainGlobals "dot" = some (some (.ref f7))) (l7 : K.lookup f7 = some ⟨oc7, od7, .func (PySem.W.fnOf "dot" "dot" (defArgs s_dot) (defBody s_dot) (defScope s_dot) .none kV7 dc7 pm7 an7 cd7 ct7), sl7⟩) (c7 : PySem.W.codeIn K cd7 "dot" = true) (k7 : PySem.W.keepIn K (.ref f7) = true)
    (a8 : PySem.W.nsIn K mainGlobals "reduced" = some (some (.ref f8))) (l8 : K.lookup f8 = some ⟨oc8, od8, .func (PySem.W.fnOf "reduced" "reduced" (defArgs s_reduced) (defBody s_reduced) (defScope s_reduced) .none kV8 dc8 pm8 an8 cd8 ct8), sl8⟩) (c8 : PySem.W.codeIn K cd8 "reduced" = true) (k8 : PySem.W.keepIn K (.ref f8) = true)
    (a9 : PySem.W.nsIn K mainGlobals "_cleared" = some (some (.ref f9))) (l9 : K.lookup f9 = some ⟨oc9, od9, .func (PySem.W.fnOf "_cleared" "_cleared" (defArgs s__cleared) (defBody s__cleared) (defScope s__cleared) .none kV9 dc9 pm9 an9 cd9 ct9), sl9⟩) (c9 : PySem.W.codeIn K cd9 "_cleared" = true) (k9 : PySem.W.keepIn K (.ref f9) = true)
    (a10 : PySem.W.nsIn K mainGlobals "kernel" = some (some (.ref f10))) (l10 : K.lookup f10 = some ⟨oc10, od10, .func (PySem.W.fnOf "kernel" "kernel" (defArgs s_kernel) (defBody s_kernel) (defScope s_kernel) .none kV10 dc10 pm10 an10 cd10 ct10), sl10⟩) (c10 : PySem.W.codeIn K cd10 "kernel" = true) (k10 : PySem.W.keepIn K (.ref f10) = true)
    (a11 : PySem.W.nsIn K mainGlobals "_kernel_word" = some (some (.ref f11))) (l11 : K.lookup f11 = some ⟨oc11, od11, .func (PySem.W.fnOf "_kernel_word" "_kernel_word" (defArgs s__kernel_word) (defBody s__kernel_word) (defScope s__kernel_word) .none kV11 dc11 pm11 an11 cd11 ct11), sl11⟩) (c11 : PySem.W.codeIn K cd11 "_kernel_word" = true) (k11 : PySem.W.keepIn K (.ref f11) = true)
    (a12 : PySem.W.nsIn K mainGlobals "is_prime" = some (some (.ref f12))) (l12 : K.lookup f12 = some ⟨oc12, od12, .func (PySem.W.fnOf "is_prime" "is_prime" (defArgs s_is_prime) (defBody s_is_prime) (defScope s_is_prime) .none kV12 dc12 pm12 an12 cd12 ct12), sl12⟩) (c12 : PySem.W.codeIn K cd12 "is_prime" = true) (k12 : PySem.W.keepIn K (.ref f12) = true)
    (a13 : PySem.W.nsIn K mainGlobals "check_rows" = some (some (.ref f13))) (l13 : K.lookup f13 = some ⟨oc13, od13, .func (PySem.W.fnOf "check_rows" "check_rows" (defArgs s_check_rows) (defBody s_check_rows) (defScope s_check_rows) .none kV13 dc13 pm13 an13 cd13 ct13), sl13⟩) (c13 : PySem.W.codeIn K cd13 "check_rows" = true) (k13 : PySem.W.keepIn K (.ref f13) = true)
    (a14 : PySem.W.findIn K (.ref CC) "__init__" = some (some (.ref f14))) (l14 : K.lookup f14 = some ⟨oc14, od14, .func (PySem.W.fnOf "__init__" "Code.__init__" (defArgs s_Code___init__) (defBody s_Code___init__) (defScope s_Code___init__) .none kV14 dc14 pm14 an14 cd14 ct14), sl14⟩) (c14 : PySem.W.codeIn K cd14 "Code.__init__" = true) (k14 : PySem.W.keepIn K (.ref f14) = true) (i14 : PySem.W.isFn K (.ref f14) = true)
    (a15 : PySem.W.findIn K (.ref CC) "syndrome" = some (some (.ref f15))) (l15 : K.lookup f15 = some ⟨oc15, od15, .func (PySem.W.fnOf "syndrome" "Code.syndrome" (defArgs s_Code_syndrome) (defBody s_Code_syndrome) (defScope s_Code_syndrome) .none kV15 dc15 pm15 an15 cd15 ct15), sl15⟩) (c15 : PySem.W.codeIn K cd15 "Code.syndrome" = true) (k15 : PySem.W.keepIn K (.ref f15) = true) (i15 : PySem.W.isFn K (.ref f15) = true)
    (a16 : PySem.W.findIn K (.ref CC) "holds" = some (some (.ref f16))) (l16 : K.lookup f16 = some ⟨oc16, od16, .func (PySem.W.fnOf "holds" "Code.holds" (defArgs s_Code_holds) (defBody s_Code_holds) (defScope s_Code_holds) .none kV16 dc16 pm16 an16 cd16 ct16), sl16⟩) (c16 : PySem.W.codeIn K cd16 "Code.holds" = true) (k16 : PySem.W.keepIn K (.ref f16) = true) (i16 : PySem.W.isFn K (.ref f16) = true)
    (a17 : PySem.W.findIn K (.ref CC) "dual" = some (some (.ref f17))) (l17 : K.lookup f17 = some ⟨oc17, od17, .func (PySem.W.fnOf "dual" "Code.dual" (defArgs s_Code_dual) (defBody s_Code_dual) (defScope s_Code_dual) .none kV17 dc17 pm17 an17 cd17 ct17), sl17⟩) (c17 : PySem.W.codeIn K cd17 "Code.dual" = true) (k17 : PySem.W.keepIn K (.ref f17) = true) (i17 : PySem.W.isFn K (.ref f17) = true)
    (a18 : PySem.W.findIn K (.ref CC) "checks" = some (some (.ref f18))) (l18 : K.lookup f18 = some ⟨oc18, od18, .func (PySem.W.fnOf "checks" "Code.checks" (defArgs s_Code_checks) (defBody s_Code_checks) (defScope s_Code_checks) .none kV18 dc18 pm18 an18 cd18 ct18), sl18⟩) (c18 : PySem.W.codeIn K cd18 "Code.checks" = true) (k18 : PySem.W.keepIn K (.ref f18) = true) (i18 : PySem.W.isFn K (.ref f18) = true)
    (a19 : PySem.W.nsIn K mainGlobals "_check_alike" = some (some (.ref f19))) (l19 : K.lookup f19 = some ⟨oc19, od19, .func (PySem.W.fnOf "_check_alike" "_check_alike" (defArgs s__check_alike) (defBody s__check_alike) (defScope s__check_alike) .none kV19 dc19 pm19 an19 cd19 ct19), sl19⟩) (c19 : PySem.W.codeIn K cd19 "_check_alike" = true) (k19 : PySem.W.keepIn K (.ref f19) = true)
    (a20 : PySem.W.nsIn K mainGlobals "sum_of" = some (some (.ref f20))) (l20 : K.lookup f20 = some ⟨oc20, od20, .func (PySem.W.fnOf "sum_of" "sum_of" (defArgs s_sum_of) (defBody s_sum_of) (defScope s_sum_of) .none kV20 dc20 pm20 an20 cd20 ct20), sl20⟩) (c20 : PySem.W.codeIn K cd20 "sum_of" = true) (k20 : PySem.W.keepIn K (.ref f20) = true)
    (a21 : PySem.W.nsIn K mainGlobals "common_part" = some (some (.ref f21))) (l21 : K.lookup f21 = some ⟨oc21, od21, .func (PySem.W.fnOf "common_part" "common_part" (defArgs s_common_part) (defBody s_common_part) (defScope s_common_part) .none kV21 dc21 pm21 an21 cd21 ct21), sl21⟩) (c21 : PySem.W.codeIn K cd21 "common_part" = true) (k21 : PySem.W.keepIn K (.ref f21) = true)
    (a22 : PySem.W.nsIn K mainGlobals "_trimmed" = some (some (.ref f22))) (l22 : K.lookup f22 = some ⟨oc22, od22, .func (PySem.W.fnOf "_trimmed" "_trimmed" (defArgs s__trimmed) (defBody s__trimmed) (defScope s__trimmed) .none kV22 dc22 pm22 an22 cd22 ct22), sl22⟩) (c22 : PySem.W.codeIn K cd22 "_trimmed" = true) (k22 : PySem.W.keepIn K (.ref f22) = true)
    (a23 : PySem.W.nsIn K mainGlobals "_monic" = some (some (.ref f23))) (l23 : K.lookup f23 = some ⟨oc23, od23, .func (PySem.W.fnOf "_monic" "_monic" (defArgs s__monic) (defBody s__monic) (defScope s__monic) .none kV23 dc23 pm23 an23 cd23 ct23), sl23⟩) (c23 : PySem.W.codeIn K cd23 "_monic" = true) (k23 : PySem.W.keepIn K (.ref f23) = true)
    (a24 : PySem.W.nsIn K mainGlobals "times" = some (some (.ref f24))) (l24 : K.lookup f24 = some ⟨oc24, od24, .func (PySem.W.fnOf "times" "times" (defArgs s_times) (defBody s_times) (defScope s_times) .none kV24 dc24 pm24 an24 cd24 ct24), sl24⟩) (c24 : PySem.W.codeIn K cd24 "times" = true) (k24 : PySem.W.keepIn K (.ref f24) = true)
    (a25 : PySem.W.nsIn K mainGlobals "divided" = some (some (.ref f25))) (l25 : K.lookup f25 = some ⟨oc25, od25, .func (PySem.W.fnOf "divided" "divided" (defArgs s_divided) (defBody s_divided) (defScope s_divided) .none kV25 dc25 pm25 an25 cd25 ct25), sl25⟩) (c25 : PySem.W.codeIn K cd25 "divided" = true) (k25 : PySem.W.keepIn K (.ref f25) = true)
    (a26 : PySem.W.nsIn K mainGlobals "common_divisor" = some (some (.ref f26))) (l26 : K.lookup f26 = some ⟨oc26, od26, .func (PySem.W.fnOf "common_divisor" "common_divisor" (defArgs s_common_divisor) (defBody s_common_divisor) (defScope s_common_divisor) .none kV26 dc26 pm26 an26 cd26 ct26), sl26⟩) (c26 : PySem.W.codeIn K cd26 "common_divisor" = true) (k26 : PySem.W.keepIn K (.ref f26) = true)
    (a27 : PySem.W.nsIn K mainGlobals "_check_unit" = some (some (.ref f27))) (l27 : K.lookup f27 = some ⟨oc27, od27, .func (PySem.W.fnOf "_check_unit" "_check_unit" (defArgs s__check_unit) (defBody s__check_unit) (defScope s__check_unit) .none kV27 dc27 pm27 an27 cd27 ct27), sl27⟩) (c27 : PySem.W.codeIn K cd27 "_check_unit" = true) (k27 : PySem.W.keepIn K (.ref f27) = true)
    (a28 : PySem.W.nsIn K mainGlobals "unit_polynomial" = some (some (.ref f28))) (l28 : K.lookup f28 = some ⟨oc28, od28, .func (PySem.W.fnOf "unit_polynomial" "unit_polynomial" (defArgs s_unit_polynomial) (defBody s_unit_polynomial) (defScope s_unit_polynomial) .none kV28 dc28 pm28 an28 cd28 ct28), sl28⟩) (c28 : PySem.W.codeIn K cd28 "unit_polynomial" = true) (k28 : PySem.W.keepIn K (.ref f28) = true)
    (a29 : PySem.W.nsIn K mainGlobals "_classes" = some (some (.ref f29))) (l29 : K.lookup f29 = some ⟨oc29, od29, .func (PySem.W.fnOf "_classes" "_classes" (defArgs s__classes) (defBody s__classes) (defScope s__classes) .none kV29 dc29 pm29 an29 cd29 ct29), sl29⟩) (c29 : PySem.W.codeIn K cd29 "_classes" = true) (k29 : PySem.W.keepIn K (.ref f29) = true)
    (a30 : PySem.W.nsIn K mainGlobals "_split" = some (some (.ref f30))) (l30 : K.lookup f30 = some ⟨oc30, od30, .func (PySem.W.fnOf "_split" "_split" (defArgs s__split) (defBody s__split) (defScope s__split) .none kV30 dc30 pm30 an30 cd30 ct30), sl30⟩) (c30 : PySem.W.codeIn K cd30 "_split" = true) (k30 : PySem.W.keepIn K (.ref f30) = true)
    (a31 : PySem.W.nsIn K mainGlobals "_in_order" = some (some (.ref f31))) (l31 : K.lookup f31 = some ⟨oc31, od31, .func (PySem.W.fnOf "_in_order" "_in_order" (defArgs s__in_order) (defBody s__in_order) (defScope s__in_order) .none kV31 dc31 pm31 an31 cd31 ct31), sl31⟩) (c31 : PySem.W.codeIn K cd31 "_in_order" = true) (k31 : PySem.W.keepIn K (.ref f31) = true)
    (a32 : PySem.W.nsIn K mainGlobals "factors_of_unit" = some (some (.ref f32))) (l32 : K.lookup f32 = some ⟨oc32, od32, .func (PySem.W.fnOf "factors_of_unit" "factors_of_unit" (defArgs s_factors_of_unit) (defBody s_factors_of_unit) (defScope s_factors_of_unit) .none kV32 dc32 pm32 an32 cd32 ct32), sl32⟩) (c32 : PySem.W.codeIn K cd32 "factors_of_unit" = true) (k32 : PySem.W.keepIn K (.ref f32) = true)
    (a33 : PySem.W.nsIn K mainGlobals "divisors_of_unit" = some (some (.ref f33))) (l33 : K.lookup f33 = some ⟨oc33, od33, .func (PySem.W.fnOf "divisors_of_unit" "divisors_of_unit" (defArgs s_divisors_of_unit) (defBody s_divisors_of_unit) (defScope s_divisors_of_unit) .none kV33 dc33 pm33 an33 cd33 ct33), sl33⟩) (c33 : PySem.W.codeIn K cd33 "divisors_of_unit" = true) (k33 : PySem.W.keepIn K (.ref f33) = true)
    (a34 : PySem.W.nsIn K mainGlobals "shifted" = some (some (.ref f34))) (l34 : K.lookup f34 = some ⟨oc34, od34, .func (PySem.W.fnOf "shifted" "shifted" (defArgs s_shifted) (defBody s_shifted) (defScope s_shifted) .none kV34 dc34 pm34 an34 cd34 ct34), sl34⟩) (c34 : PySem.W.codeIn K cd34 "shifted" = true) (k34 : PySem.W.keepIn K (.ref f34) = true)
    (a35 : PySem.W.nsIn K mainGlobals "is_cyclic" = some (some (.ref f35))) (l35 : K.lookup f35 = some ⟨oc35, od35, .func (PySem.W.fnOf "is_cyclic" "is_cyclic" (defArgs s_is_cyclic) (defBody s_is_cyclic) (defScope s_is_cyclic) .none kV35 dc35 pm35 an35 cd35 ct35), sl35⟩) (c35 : PySem.W.codeIn K cd35 "is_cyclic" = true) (k35 : PySem.W.keepIn K (.ref f35) = true)
    (a36 : PySem.W.nsIn K mainGlobals "_is_monic" = some (some (.ref f36))) (l36 : K.lookup f36 = some ⟨oc36, od36, .func (PySem.W.fnOf "_is_monic" "_is_monic" (defArgs s__is_monic) (defBody s__is_monic) (defScope s__is_monic) .none kV36 dc36 pm36 an36 cd36 ct36), sl36⟩) (c36 : PySem.W.codeIn K cd36 "_is_monic" = true) (k36 : PySem.W.keepIn K (.ref f36) = true)
    (a37 : PySem.W.nsIn K mainGlobals "cyclic_code" = some (some (.ref f37))) (l37 : K.lookup f37 = some ⟨oc37, od37, .func (PySem.W.fnOf "cyclic_code" "cyclic_code" (defArgs s_cyclic_code) (defBody s_cyclic_code) (defScope s_cyclic_code) .none kV37 dc37 pm37 an37 cd37 ct37), sl37⟩) (c37 : PySem.W.codeIn K cd37 "cyclic_code" = true) (k37 : PySem.W.keepIn K (.ref f37) = true)
    (a38 : PySem.W.nsIn K mainGlobals "generator_polynomial" = some (some (.ref f38))) (l38 : K.lookup f38 = some ⟨oc38, od38, .func (PySem.W.fnOf "generator_polynomial" "generator_polynomial" (defArgs s_generator_polynomial) (defBody s_generator_polynomial) (defScope s_generator_polynomial) .none kV38 dc38 pm38 an38 cd38 ct38), sl38⟩) (c38 : PySem.W.codeIn K cd38 "generator_polynomial" = true) (k38 : PySem.W.keepIn K (.ref f38) = true)
    (a39 : PySem.W.nsIn K mainGlobals "check_polynomial" = some (some (.ref f39))) (l39 : K.lookup f39 = some ⟨oc39, od39, .func (PySem.W.fnOf "check_polynomial" "check_polynomial" (defArgs s_check_polynomial) (defBody s_check_polynomial) (defScope s_check_polynomial) .none kV39 dc39 pm39 an39 cd39 ct39), sl39⟩) (c39 : PySem.W.codeIn K cd39 "check_polynomial" = true) (k39 : PySem.W.keepIn K (.ref f39) = true)
    (a40 : PySem.W.nsIn K mainGlobals "_law_state" = some (some (.ref f40))) (l40 : K.lookup f40 = some ⟨oc40, od40, .func (PySem.W.fnOf "_law_state" "_law_state" (defArgs s__law_state) (defBody s__law_state) (defScope s__law_state) .none kV40 dc40 pm40 an40 cd40 ct40), sl40⟩) (c40 : PySem.W.codeIn K cd40 "_law_state" = true) (k40 : PySem.W.keepIn K (.ref f40) = true)
    (a41 : PySem.W.nsIn K mainGlobals "_law_take" = some (some (.ref f41))) (l41 : K.lookup f41 = some ⟨oc41, od41, .func (PySem.W.fnOf "_law_take" "_law_take" (defArgs s__law_take) (defBody s__law_take) (defScope s__law_take) .none kV41 dc41 pm41 an41 cd41 ct41), sl41⟩) (c41 : PySem.W.codeIn K cd41 "_law_take" = true) (k41 : PySem.W.keepIn K (.ref f41) = true)
    (a42 : PySem.W.nsIn K mainGlobals "_law_scaled" = some (some (.ref f42))) (l42 : K.lookup f42 = some ⟨oc42, od42, .func (PySem.W.fnOf "_law_scaled" "_law_scaled" (defArgs s__law_scaled) (defBody s__law_scaled) (defScope s__law_scaled) .none kV42 dc42 pm42 an42 cd42 ct42), sl42⟩) (c42 : PySem.W.codeIn K cd42 "_law_scaled" = true) (k42 : PySem.W.keepIn K (.ref f42) = true)
    (a43 : PySem.W.nsIn K mainGlobals "_law_prime" = some (some (.ref f43))) (l43 : K.lookup f43 = some ⟨oc43, od43, .func (PySem.W.fnOf "_law_prime" "_law_prime" (defArgs s__law_prime) (defBody s__law_prime) (defScope s__law_prime) .none kV43 dc43 pm43 an43 cd43 ct43), sl43⟩) (c43 : PySem.W.codeIn K cd43 "_law_prime" = true) (k43 : PySem.W.keepIn K (.ref f43) = true)
    (a44 : PySem.W.nsIn K mainGlobals "_law_trimmed" = some (some (.ref f44))) (l44 : K.lookup f44 = some ⟨oc44, od44, .func (PySem.W.fnOf "_law_trimmed" "_law_trimmed" (defArgs s__law_trimmed) (defBody s__law_trimmed) (defScope s__law_trimmed) .none kV44 dc44 pm44 an44 cd44 ct44), sl44⟩) (c44 : PySem.W.codeIn K cd44 "_law_trimmed" = true) (k44 : PySem.W.keepIn K (.ref f44) = true)
    (a45 : PySem.W.nsIn K mainGlobals "_law_rest" = some (some (.ref f45))) (l45 : K.lookup f45 = some ⟨oc45, od45, .func (PySem.W.fnOf "_law_rest" "_law_rest" (defArgs s__law_rest) (defBody s__law_rest) (defScope s__law_rest) .none kV45 dc45 pm45 an45 cd45 ct45), sl45⟩) (c45 : PySem.W.codeIn K cd45 "_law_rest" = true) (k45 : PySem.W.keepIn K (.ref f45) = true)
    (a46 : PySem.W.nsIn K mainGlobals "law" = some (some (.ref f46))) (l46 : K.lookup f46 = some ⟨oc46, od46, .func (PySem.W.fnOf "law" "law" (defArgs s_law) (defBody s_law) (defScope s_law) .none kV46 dc46 pm46 an46 cd46 ct46), sl46⟩) (c46 : PySem.W.codeIn K cd46 "law" = true) (k46 : PySem.W.keepIn K (.ref f46) = true)
    (z_LONGEST_code : PySem.W.nsIn K mainGlobals "LONGEST_code" = some (some (.int 12 tkL)))
    (z_LONGEST_cyclic : PySem.W.nsIn K mainGlobals "LONGEST_cyclic" = some (some (.int 12 tkY)))
    (z__MOST_WORDS : PySem.W.nsIn K mainGlobals "_MOST_WORDS" = some (some (.int 4096 tkW)))
    (z_abs : PySem.W.nsIn K mainGlobals "abs" = some none)
    (z_all : PySem.W.nsIn K mainGlobals "all" = some none)
    (z_any : PySem.W.nsIn K mainGlobals "any" = some none)
    (z_bool : PySem.W.nsIn K mainGlobals "bool" = some none)
    (z_enumerate : PySem.W.nsIn K mainGlobals "enumerate" = some none)
    (z_int : PySem.W.nsIn K mainGlobals "int" = some none)
    (z_isinstance : PySem.W.nsIn K mainGlobals "isinstance" = some none)
    (z_len : PySem.W.nsIn K mainGlobals "len" = some none)
    (z_list : PySem.W.nsIn K mainGlobals "list" = some none)
    (z_max : PySem.W.nsIn K mainGlobals "max" = some none)
    (z_min : PySem.W.nsIn K mainGlobals "min" = some none)
    (z_range : PySem.W.nsIn K mainGlobals "range" = some none)
    (z_reversed : PySem.W.nsIn K mainGlobals "reversed" = some none)
    (z_sorted : PySem.W.nsIn K mainGlobals "sorted" = some none)
    (z_sum : PySem.W.nsIn K mainGlobals "sum" = some none)
    (z_tuple : PySem.W.nsIn K mainGlobals "tuple" = some none)
    (z_zip : PySem.W.nsIn K mainGlobals "zip" = some none)
    {tkL tkY tkW : Tok}
    {CF : Addr} {CR fI_Refused cda_Refused cc_Refused N_Refused : Addr} {nm_Refused qn_Refused file_Refused : Str} {bs_Refused : List Value} {sn_Refused : List Str} {sub_Refused : List Value} {ab_Refused : Bool} {col_Refused : Option Bool} {dd_Refused odI_Refused anI_Refused cdd_Refused ecd_Refused : Option Addr} {m0_Refused m1_Refused m2_Refused m3_Refused m5_Refused : Option Value} {ocI_Refused kVI_Refused dcI_Refused pmI_Refused ctI_Refused ccl_Refused ecl_Refused : Value} {slI_Refused ccs_Refused ecs_Refused : Array (Option Value)} {cvs_Refused : Array Value} {tf_Refused : Tok} {CM : Addr}
    (zS : PySem.W.nsIn K mainGlobals "super" = some none)
    (an_ : PySem.W.nsIn K PySem.cStatics "thirdparty.any" = some none)
    (tp : (l.prog.main.scope.names.lookup ("super" : Str)).isSome = false)
    (gC_Refused : PySem.W.nsIn K mainGlobals "Refused" = some (some (.ref CR)))
    (xC_Refused : K.lookup CR = some (excClassObj nm_Refused qn_Refused CR N_Refused bs_Refused [.ref CF, .type "ValueError", .type "Exception", .type "BaseException", .type "object"] true sn_Refused sub_Refused ab_Refused col_Refused dd_Refused m0_Refused m1_Refused m2_Refused m3_Refused m5_Refused "ValueError.__new__"))
    (sa_Refused : PySem.W.findIn K (.ref CR) "__setattr__" = some (some (.builtin "object.__setattr__")))
    (ga_Refused : PySem.W.findIn K (.ref CR) "__getattribute__" = some (some (.builtin "BaseException.__getattribute__")))
    (gg_Refused : PySem.W.findIn K (.ref CR) "__getattr__" = some none)
    (nr_Refused : PySem.W.findIn K (.ref CR) "reason" = some none)
    (eC_Refused : PySem.W.subIn K (.ref CR) (.type "BaseException") = some true)
    (tC_Refused : PySem.W.typeIn K (.ref CR) = some (.type "type"))
    (kC_Refused : PySem.W.keepIn K (.ref CR) = true)
    (hC_Refused : PySem.W.hasDictIn K CR = true)
    (sC_Refused : PySem.W.subIn K (.ref CR) (.ref CR) = some true)
    (aI_Refused : PySem.W.findIn K (.ref CR) "__init__" = some (some (.ref fI_Refused)))
    (tI_Refused : PySem.W.typeIn K (.ref fI_Refused) = some (.type "function"))
    (lI_Refused : K.lookup fI_Refused = some ⟨ocI_Refused, odI_Refused, .func (PySem.W.ksFn "__init__" "Refused.__init__" (defArgs s_init_Refused) (defBody s_init_Refused) (defScope s_init_Refused) .none kVI_Refused dcI_Refused pmI_Refused anI_Refused (.ref cda_Refused) ctI_Refused cc_Refused), slI_Refused⟩)
    (cI_Refused : PySem.W.codeIn K (.ref cda_Refused) "Refused.__init__" = true)
    (lc_Refused : K.lookup cda_Refused = some ⟨ccl_Refused, cdd_Refused, .fields cvs_Refused, ccs_Refused⟩)
    (lf_Refused : cvs_Refused[2]? = some (.str file_Refused tf_Refused))
    (lq_Refused : ((l.prog.main.file : Str) == file_Refused) = true)
    (cl_Refused : K.lookup cc_Refused = some ⟨ecl_Refused, ecd_Refused, .cell (some (.ref CR)), ecs_Refused⟩)
    (mC_Refused : PySem.W.mroIn K CR (.ref CR) = some true)
    (up_Refused : PySem.W.ks_superIn K CR CR "__init__" = some (some (.builtin "ValueError.__init__")))
    (bsv_Refused : PySem.W.subIn K (.ref CR) (.type "ValueError") = some true)
    (gC_Malformed : PySem.W.nsIn K mainGlobals "Malformed" = some (some (.ref CM)))
    (xC_Malformed : PySem.W.excIn K CM [.type "ValueError", .type "Exception", .type "BaseException", .type "object"] "ValueError.__new__" = true)
    (eC_Malformed : PySem.W.subIn K (.ref CM) (.type "BaseException") = some true)
    (tC_Malformed : PySem.W.typeIn K (.ref CM) = some (.type "type"))
    (kC_Malformed : PySem.W.keepIn K (.ref CM) = true)
    (hC_Malformed : PySem.W.hasDictIn K CM = true)
    (sC_Malformed : PySem.W.subIn K (.ref CM) (.ref CM) = some true)
    {q__PRIMES : Addr} {dd__PRIMES : Option Addr} {n__PRIMES : Nat} {sl__PRIMES : Array (Option Value)} {tk_PRIMES0 tk_PRIMES1 tk_PRIMES2 tk_PRIMES3 : Tok}
    (gC_Code : PySem.W.nsIn K mainGlobals "Code" = some (some (.ref CC)))
    (pg_Code : PySem.W.plainGet K CC Str.empty = true)
    (hd_Code : PySem.W.hasDictIn K CC = true)
    (po_Code : PySem.W.plainOver K CC = true)
    (sa_Code : PySem.W.findIn K (.ref CC) "__setattr__" = some (some (.builtin "object.__setattr__")))
    (mk_Code : PySem.W.makesIn K CC = true)
    (kp_Code : PySem.W.keepIn K (.ref CC) = true)
    (zna_Code__checks : PySem.W.findIn K (.ref CC) "_checks" = some none)
    (zna_Code_k : PySem.W.findIn K (.ref CC) "k" = some none)
    (zna_Code_n : PySem.W.findIn K (.ref CC) "n" = some none)
    (zna_Code_p : PySem.W.findIn K (.ref CC) "p" = some none)
    (zna_Code_rows : PySem.W.findIn K (.ref CC) "rows" = some none)
    (zt__PRIMES : PySem.W.nsIn K mainGlobals "_PRIMES" = some (some (.ref q__PRIMES)))
    (lt__PRIMES : K.lookup q__PRIMES = some ⟨.type "tuple", dd__PRIMES, .seq #[.int 2 tk_PRIMES0, .int 3 tk_PRIMES1, .int 5 tk_PRIMES2, .int 7 tk_PRIMES3] n__PRIMES, sl__PRIMES⟩)
    (vl_CC : CC = 219)
    : ∃ fd : FuncData, (∀ (s : Shared) (v : Value), BindsTo s fd ⟨[v], []⟩ [("script", v)]) ∧ ∀ base : Heap, K.In base → base.Ns mainGlobals mg → FnOk l.prog w K mg base (L2.CX l.prog w) 8 fa fd ["script"] (Lq.spLaw K) := by
  have e := hfa.symm.trans (PySem.W.mg_of X G a46)
  cases e
  have h_LONGEST_code := PySem.W.mg_of X G z_LONGEST_code
  have h_LONGEST_cyclic := PySem.W.mg_of X G z_LONGEST_cyclic
  have h__MOST_WORDS := PySem.W.mg_of X G z__MOST_WORDS
  have h_abs := PySem.W.mg_none_of X G z_abs
  have h_all := PySem.W.mg_none_of X G z_all
  have h_any := PySem.W.mg_none_of X G z_any
  have h_bool := PySem.W.mg_none_of X G z_bool
  have h_enumerate := PySem.W.mg_none_of X G z_enumerate
  have h_int := PySem.W.mg_none_of X G z_int
  have h_isinstance := PySem.W.mg_none_of X G z_isinstance
  have h_len := PySem.W.mg_none_of X G z_len
  have h_list := PySem.W.mg_none_of X G z_list
  have h_max := PySem.W.mg_none_of X G z_max
  have h_min := PySem.W.mg_none_of X G z_min
  have h_range := PySem.W.mg_none_of X G z_range
  have h_reversed := PySem.W.mg_none_of X G z_reversed
  have h_sorted := PySem.W.mg_none_of X G z_sorted
  have h_sum := PySem.W.mg_none_of X G z_sum
  have h_tuple := PySem.W.mg_none_of X G z_tuple
  have h_zip := PySem.W.mg_none_of X G z_zip
  have F1 := fun_mk (st := s_is_integer) l1 c1 k1
  have F2 := fun_mk (st := s_inverse) l2 c2 k2
  have F3 := fun_mk (st := s_power) l3 c3 k3
  have F4 := fun_mk (st := s_is_word) l4 c4 k4
  have F5 := fun_mk (st := s_add) l5 c5 k5
  have F6 := fun_mk (st := s_scaled) l6 c6 k6
  have F7 := fun_mk (st := s_dot) l7 c7 k7
  have F8 := fun_mk (st := s_reduced) l8 c8 k8
  have F9 := fun_mk (st := s__cleared) l9 c9 k9
  have F10 := fun_mk (st := s_kernel) l10 c10 k10
  have F11 := fun_mk (st := s__kernel_word) l11 c11 k11
  have F12 := fun_mk (st := s_is_prime) l12 c12 k12
  have F13 := fun_mk (st := s_check_rows) l13 c13 k13
  have F14 := fun_mk (st := s_Code___init__) l14 c14 k14
  have F15 := fun_mk (st := s_Code_syndrome) l15 c15 k15
  have F16 := fun_mk (st := s_Code_holds) l16 c16 k16
  have F17 := fun_mk (st := s_Code_dual) l17 c17 k17
  have F18 := fun_mk (st := s_Code_checks) l18 c18 k18
  have F19 := fun_mk (st := s__check_alike) l19 c19 k19
  have F20 := fun_mk (st := s_sum_of) l20 c20 k20
  have F21 := fun_mk (st := s_common_part) l21 c21 k21
  have F22 := fun_mk (st := s__trimmed) l22 c22 k22
  have F23 := fun_mk (st := s__monic) l23 c23 k23
  have F24 := fun_mk (st := s_times) l24 c24 k24
  have F25 := fun_mk (st := s_divided) l25 c25 k25
  have F26 := fun_mk (st := s_common_divisor) l26 c26 k26
  have F27 := fun_mk (st := s__check_unit) l27 c27 k27
  have F28 := fun_mk (st := s_unit_polynomial) l28 c28 k28
  have F29 := fun_mk (st := s__classes) l29 c29 k29
  have F30 := fun_mk (st := s__split) l30 c30 k30
  have F31 := fun_mk (st := s__in_order) l31 c31 k31
  have F32 := fun_mk (st := s_factors_of_unit) l32 c32 k32
  have F33 := fun_mk (st := s_divisors_of_unit) l33 c33 k33
  have F34 := fun_mk (st := s_shifted) l34 c34 k34
  have F35 := fun_mk (st := s_is_cyclic) l35 c35 k35
  have F36 := fun_mk (st := s__is_monic) l36 c36 k36
  have F37 := fun_mk (st := s_cyclic_code) l37 c37 k37
  have F38 := fun_mk (st := s_generator_polynomial) l38 c38 k38
  have F39 := fun_mk (st := s_check_polynomial) l39 c39 k39
  have F40 := fun_mk (st := s__law_state) l40 c40 k40
  have F41 := fun_mk (st := s__law_take) l41 c41 k41
  have F42 := fun_mk (st := s__law_scaled) l42 c42 k42
  have F43 := fun_mk (st := s__law_prime) l43 c43 k43
  have F44 := fun_mk (st := s__law_trimmed) l44 c44 k44
  have F45 := fun_mk (st := s__law_rest) l45 c45 k45
  have F46 := fun_mk (st := s_law) l46 c46 k46
  have b1 := F1.binds (ps := ["value"]) fun _ _ _ _ _ _ us hl => match us, hl with | [_], _ => rfl
  have b2 := F2.binds (ps := ["a", "p"]) fun _ _ _ _ _ _ us hl => match us, hl with | [_, _], _ => rfl
  have b3 := F3.binds (ps := ["a", "k"]) fun _ _ _ _ _ _ us hl => match us, hl with | [_, _], _ => rfl
  have b4 := F4.binds (ps := ["value", "p", "n"]) fun _ _ _ _ _ _ us hl => match us, hl with | [_, _, _], _ => rfl
  have b5 := F5.binds (ps := ["v", "w", "p"]) fun _ _ _ _ _ _ us hl => match us, hl with | [_, _, _], _ => rfl
  have b6 := F6.binds (ps := ["v", "a", "p"]) fun _ _ _ _ _ _ us hl => match us, hl with | [_, _, _], _ => rfl
  have b7 := F7.binds (ps := ["v", "w", "p"]) fun _ _ _ _ _ _ us hl => match us, hl with | [_, _, _], _ => rfl
  have b8 := F8.binds (ps := ["rows", "width", "p"]) fun _ _ _ _ _ _ us hl => match us, hl with | [_, _, _], _ => rfl
  have b9 := F9.binds (ps := ["row", "head", "at", "p"]) fun _ _ _ _ _ _ us hl => match us, hl with | [_, _, _, _], _ => rfl
  have b10 := F10.binds (ps := ["rows", "width", "p"]) fun _ _ _ _ _ _ us hl => match us, hl with | [_, _, _], _ => rfl
  have b11 := F11.binds (ps := ["table", "pivots", "free", "width", "p"]) fun _ _ _ _ _ _ us hl => match us, hl with | [_, _, _, _, _], _ => rfl
  have b12 := F12.binds (ps := ["p"]) fun _ _ _ _ _ _ us hl => match us, hl with | [_], _ => rfl
  have b13 := F13.binds (ps := ["p", "n", "rows"]) fun _ _ _ _ _ _ us hl => match us, hl with | [_, _, _], _ => rfl
  have b14 := F14.binds (ps := ["self", "p", "n", "rows"]) fun _ _ _ _ _ _ us hl => match us, hl with | [_, _, _, _], _ => rfl
  have b15 := F15.binds (ps := ["self", "word"]) fun _ _ _ _ _ _ us hl => match us, hl with | [_, _], _ => rfl
  have b16 := F16.binds (ps := ["self", "value"]) fun _ _ _ _ _ _ us hl => match us, hl with | [_, _], _ => rfl
  have b17 := F17.binds (ps := ["self"]) fun _ _ _ _ _ _ us hl => match us, hl with | [_], _ => rfl
  have b18 := F18.binds (ps := ["self"]) fun _ _ _ _ _ _ us hl => match us, hl with | [_], _ => rfl
  have b19 := F19.binds (ps := ["a", "b"]) fun _ _ _ _ _ _ us hl => match us, hl with | [_, _], _ => rfl
  have b20 := F20.binds (ps := ["a", "b"]) fun _ _ _ _ _ _ us hl => match us, hl with | [_, _], _ => rfl
  have b21 := F21.binds (ps := ["a", "b"]) fun _ _ _ _ _ _ us hl => match us, hl with | [_, _], _ => rfl
  have b22 := F22.binds (ps := ["items"]) fun _ _ _ _ _ _ us hl => match us, hl with | [_], _ => rfl
  have b23 := F23.binds (ps := ["a", "p"]) fun _ _ _ _ _ _ us hl => match us, hl with | [_, _], _ => rfl
  have b24 := F24.binds (ps := ["a", "b", "p"]) fun _ _ _ _ _ _ us hl => match us, hl with | [_, _, _], _ => rfl
  have b25 := F25.binds (ps := ["a", "b", "p"]) fun _ _ _ _ _ _ us hl => match us, hl with | [_, _, _], _ => rfl
  have b26 := F26.binds (ps := ["a", "b", "p"]) fun _ _ _ _ _ _ us hl => match us, hl with | [_, _, _], _ => rfl
  have b27 := F27.binds (ps := ["p", "n"]) fun _ _ _ _ _ _ us hl => match us, hl with | [_, _], _ => rfl
  have b28 := F28.binds (ps := ["p", "n"]) fun _ _ _ _ _ _ us hl => match us, hl with | [_, _], _ => rfl
  have b29 := F29.binds (ps := ["p", "m"]) fun _ _ _ _ _ _ us hl => match us, hl with | [_, _], _ => rfl
  have b30 := F30.binds (ps := ["part", "numbers", "m", "p"]) fun _ _ _ _ _ _ us hl => match us, hl with | [_, _, _, _], _ => rfl
  have b31 := F31.binds (ps := ["polynomials"]) fun _ _ _ _ _ _ us hl => match us, hl with | [_], _ => rfl
  have b32 := F32.binds (ps := ["p", "n"]) fun _ _ _ _ _ _ us hl => match us, hl with | [_, _], _ => rfl
  have b33 := F33.binds (ps := ["p", "n"]) fun _ _ _ _ _ _ us hl => match us, hl with | [_, _], _ => rfl
  have b34 := F34.binds (ps := ["word"]) fun _ _ _ _ _ _ us hl => match us, hl with | [_], _ => rfl
  have b35 := F35.binds (ps := ["code"]) fun _ _ _ _ _ _ us hl => match us, hl with | [_], _ => rfl
  have b36 := F36.binds (ps := ["value", "p"]) fun _ _ _ _ _ _ us hl => match us, hl with | [_, _], _ => rfl
  have b37 := F37.binds (ps := ["p", "n", "g"]) fun _ _ _ _ _ _ us hl => match us, hl with | [_, _, _], _ => rfl
  have b38 := F38.binds (ps := ["code"]) fun _ _ _ _ _ _ us hl => match us, hl with | [_], _ => rfl
  have b39 := F39.binds (ps := ["code"]) fun _ _ _ _ _ _ us hl => match us, hl with | [_], _ => rfl
  have b40 := F40.binds (ps := ["script"]) fun _ _ _ _ _ _ us hl => match us, hl with | [_], _ => rfl
  have b41 := F41.binds (ps := ["state", "m"]) fun _ _ _ _ _ _ us hl => match us, hl with | [_, _], _ => rfl
  have b42 := F42.binds (ps := ["v", "a", "p"]) fun _ _ _ _ _ _ us hl => match us, hl with | [_, _, _], _ => rfl
  have b43 := F43.binds (ps := ["state"]) fun _ _ _ _ _ _ us hl => match us, hl with | [_], _ => rfl
  have b44 := F44.binds (ps := ["row"]) fun _ _ _ _ _ _ us hl => match us, hl with | [_], _ => rfl
  have b45 := F45.binds (ps := ["a", "b", "p"]) fun _ _ _ _ _ _ us hl => match us, hl with | [_, _, _], _ => rfl
  refine ⟨PySem.W.fnOf "law" "law" (defArgs s_law) (defBody s_law) (defScope s_law) .none kV46 dc46 pm46 an46 cd46 ct46, fun s v => .of_eq rfl, fun base _ _ => ?_⟩
  have cl_Code : Cls K CC := ⟨pg_Code, hd_Code, po_Code, sa_Code⟩
  have na_Code__checks := zna_Code__checks
  have na_Code_k := zna_Code_k
  have na_Code_n := zna_Code_n
  have na_Code_p := zna_Code_p
  have na_Code_rows := zna_Code_rows
  have k__PRIMES : KTup K mg "_PRIMES" [.int 2, .int 3, .int 5, .int 7] := ⟨q__PRIMES, dd__PRIMES, _, n__PRIMES, sl__PRIMES, [V.int 2, V.int 3, V.int 5, V.int 7], PySem.W.mg_of X G zt__PRIMES, lt__PRIMES, (show 4 ≤ sizeLine by decide), (.cons ⟨_, rfl⟩ (.cons ⟨_, rfl⟩ (.cons ⟨_, rfl⟩ (.cons ⟨_, rfl⟩ .nil)))), fun F => (.cons (.int _) (.cons (.int _) (.cons (.int _) (.cons (.int _) .nil))))⟩
  have T_Refused : OexC K CR := ⟨⟨nm_Refused, qn_Refused, N_Refused, bs_Refused, _, sn_Refused, sub_Refused, ab_Refused, col_Refused, dd_Refused, m0_Refused, m1_Refused, m2_Refused, m3_Refused, m5_Refused, xC_Refused, rfl⟩, sa_Refused, eC_Refused, tC_Refused, kC_Refused⟩
  have hcl_Refused : ∃ cd, PySem.W.clsIn K CR = some cd := by
    obtain ⟨cd, hc, _⟩ := PySem.W.any_some hC_Refused
    exact ⟨cd, hc⟩
  have SF_Refused : SupF l.prog K mg fI_Refused cda_Refused cc_Refused CR CR (defScope s_init_Refused) "self" := ⟨⟨_, _, _, _, _, lI_Refused, rfl, rfl⟩, ⟨_, _, _, _, _, _, lc_Refused, lf_Refused, lq_Refused⟩, ⟨_, _, _, cl_Refused⟩, hcl_Refused, mC_Refused, up_Refused, bsv_Refused, an_, PySem.W.mg_none_of X G zS, rfl, rfl, rfl, tp⟩
  have R_Refused : RaS l.prog w K mg base "Refused" CR "reason" := ⟨T_Refused, ⟨fI_Refused, _, aI_Refused, tI_Refused, ok_init_Refused lI_Refused cI_Refused cl_Refused SF_Refused T_Refused nr_Refused, .all fun us hl => match us, hl with | [_, _], _ => rfl⟩, PySem.W.mg_of X G gC_Refused, ⟨ga_Refused, gg_Refused, eC_Refused, hC_Refused⟩, nr_Refused, PySem.W.exm_ref eC_Refused hC_Refused tC_Refused sC_Refused⟩
  have R_Malformed : RaN l.prog w K mg base "Malformed" CM := ⟨PySem.W.mg_of X G gC_Malformed, kC_Malformed, xC_Malformed, eC_Malformed, tC_Malformed, PySem.W.exm_ref eC_Malformed hC_Malformed tC_Malformed sC_Malformed⟩
  have C_is_integer : Cal l.prog w K mg base "is_integer" 1 ["value"] (spD K 1 Fisint) := ⟨f1, _, Lq.FnOk.toF (ok_is_integer (P := l.prog) (w := w) (mg := mg) (base := base) F1 (h_bool := h_bool) (h_int := h_int) (h_isinstance := h_isinstance)) (fun ds h => Lq.run_is_integer ds h), PySem.W.mg_of X G a1, k1, b1⟩
  have C_inverse : Cal l.prog w K mg base "inverse" 1 ["a", "p"] (spD K 2 Finverse) := ⟨f2, _, Lq.FnOk.toF (ok_inverse (P := l.prog) (w := w) (mg := mg) (base := base) F2 (h_range := h_range)) (fun ds h => Lq.run_inverse ds h), PySem.W.mg_of X G a2, k2, b2⟩
  have C_power : Cal l.prog w K mg base "power" 1 ["a", "k"] (spD K 2 Fpow) := ⟨f3, _, Lq.FnOk.toF (ok_power (P := l.prog) (w := w) (mg := mg) (base := base) F3 ) (fun ds h => Lq.run_power ds h), PySem.W.mg_of X G a3, k3, b3⟩
  have C_add : Cal l.prog w K mg base "add" 1 ["v", "w", "p"] (spD K 3 FaddW) := ⟨f5, _, Lq.FnOk.toF (ok_add (P := l.prog) (w := w) (mg := mg) (base := base) F5 (h_tuple := h_tuple) (h_zip := h_zip)) (fun ds h => Lq.run_add ds h), PySem.W.mg_of X G a5, k5, b5⟩
  have C_scaled : Cal l.prog w K mg base "scaled" 1 ["v", "a", "p"] (spD K 3 FscW) := ⟨f6, _, Lq.FnOk.toF (ok_scaled (P := l.prog) (w := w) (mg := mg) (base := base) F6 (h_tuple := h_tuple)) (fun ds h => Lq.run_scaled ds h), PySem.W.mg_of X G a6, k6, b6⟩
  have C_dot : Cal l.prog w K mg base "dot" 1 ["v", "w", "p"] (spD K 3 Fdot) := ⟨f7, _, Lq.FnOk.toF (ok_dot (P := l.prog) (w := w) (mg := mg) (base := base) F7 (h_sum := h_sum) (h_zip := h_zip)) (fun ds h => Lq.run_dot ds h), PySem.W.mg_of X G a7, k7, b7⟩
  have C__kernel_word : Cal l.prog w K mg base "_kernel_word" 1 ["table", "pivots", "free", "width", "p"] (spD K 5 Fkword) := ⟨f11, _, Lq.FnOk.toF (ok__kernel_word (P := l.prog) (w := w) (mg := mg) (base := base) F11 (h_tuple := h_tuple) (h_zip := h_zip)) (fun ds h => Lq.run__kernel_word ds h), PySem.W.mg_of X G a11, k11, b11⟩
  have CM_Code_checks : CalM l.prog w K mg base CC "checks" 1 ["self"] (spD K 1 (Fchecks CC)) := ⟨f18, _, Lq.FnOk.toF (ok_Code_checks (P := l.prog) (w := w) (mg := mg) (base := base) F18 (cl_Code := cl_Code) (na_Code__checks := na_Code__checks)) (fun _ _ => rfl), cl_Code, ⟨a18, i18, k18⟩, b18⟩
  have C__trimmed : Cal l.prog w K mg base "_trimmed" 1 ["items"] (spD K 1 Ftrim) := ⟨f22, _, Lq.FnOk.toF (ok__trimmed (P := l.prog) (w := w) (mg := mg) (base := base) F22 (h_enumerate := h_enumerate) (h_tuple := h_tuple)) (fun _ _ => rfl), PySem.W.mg_of X G a22, k22, b22⟩
  have C__classes : Cal l.prog w K mg base "_classes" 1 ["p", "m"] (spD K 2 Fclasses) := ⟨f29, _, Lq.FnOk.toF (ok__classes (P := l.prog) (w := w) (mg := mg) (base := base) F29 (h_min := h_min) (h_range := h_range)) (fun _ _ => rfl), PySem.W.mg_of X G a29, k29, b29⟩
  have C__in_order : Cal l.prog w K mg base "_in_order" 1 ["polynomials"] (spD K 1 Finorder) := ⟨f31, _, Lq.FnOk.toF (ok__in_order (P := l.prog) (w := w) (mg := mg) (base := base) F31 (h_len := h_len) (h_sorted := h_sorted)) (fun _ _ => rfl), PySem.W.mg_of X G a31, k31, b31⟩
  have C_shifted : Cal l.prog w K mg base "shifted" 1 ["word"] (spD K 1 Fshift) := ⟨f34, _, Lq.FnOk.toF (ok_shifted (P := l.prog) (w := w) (mg := mg) (base := base) F34 ) (fun _ _ => rfl), PySem.W.mg_of X G a34, k34, b34⟩
  have C__law_state : Cal l.prog w K mg base "_law_state" 1 ["script"] (spN K 1 Fstate) := ⟨f40, _, Lq.FnOk.toN (ok__law_state (P := l.prog) (w := w) (mg := mg) (base := base) F40 (h_abs := h_abs) (h_int := h_int)) (fun _ _ => rfl), PySem.W.mg_of X G a40, k40, b40⟩
  have C__law_take : Cal l.prog w K mg base "_law_take" 1 ["state", "m"] (spM K 1 Ftake) := ⟨f41, _, Lq.FnOk.toM (ok__law_take (P := l.prog) (w := w) (mg := mg) (base := base) F41 (h_int := h_int)) (fun xs ds h => Lq.run__law_take xs ds h), PySem.W.mg_of X G a41, k41, b41⟩
  have C__law_scaled : Cal l.prog w K mg base "_law_scaled" 1 ["v", "a", "p"] (spD K 3 FscW) := ⟨f42, _, Lq.FnOk.toF (ok__law_scaled (P := l.prog) (w := w) (mg := mg) (base := base) F42 (h_int := h_int) (h_tuple := h_tuple)) (fun ds h => Lq.run__law_scaled ds h), PySem.W.mg_of X G a42, k42, b42⟩
  have C__law_trimmed : Cal l.prog w K mg base "_law_trimmed" 1 ["row"] (spD K 1 Fltrim) := ⟨f44, _, Lq.FnOk.toF (ok__law_trimmed (P := l.prog) (w := w) (mg := mg) (base := base) F44 (h_len := h_len) (h_list := h_list) (h_range := h_range) (h_tuple := h_tuple)) (fun _ _ => rfl), PySem.W.mg_of X G a44, k44, b44⟩
  have C_is_word : Cal l.prog w K mg base "is_word" 2 ["value", "p", "n"] (spD K 3 Fisword) := ⟨f4, _, Lq.FnOk.toF (ok_is_word (P := l.prog) (w := w) (mg := mg) (base := base) F4 (h_all := h_all) (h_isinstance := h_isinstance) (h_len := h_len) (h_tuple := h_tuple) (c_is_integer := C_is_integer)) (fun ds h => Lq.run_is_word ds h), PySem.W.mg_of X G a4, k4, b4⟩
  have C__cleared : Cal l.prog w K mg base "_cleared" 2 ["row", "head", "at", "p"] (spD K 4 Fcleared) := ⟨f9, _, Lq.FnOk.toF (ok__cleared (P := l.prog) (w := w) (mg := mg) (base := base) F9 (c_add := C_add) (c_scaled := C_scaled)) (fun ds h => Lq.run__cleared ds h), PySem.W.mg_of X G a9, k9, b9⟩
  have C_is_prime : Cal l.prog w K mg base "is_prime" 2 ["p"] (spD K 1 Fisprime) := ⟨f12, _, Lq.FnOk.toF (ok_is_prime (P := l.prog) (w := w) (mg := mg) (base := base) F12 (k__PRIMES := k__PRIMES) (c_is_integer := C_is_integer)) (fun _ _ => rfl), PySem.W.mg_of X G a12, k12, b12⟩
  have C__monic : Cal l.prog w K mg base "_monic" 2 ["a", "p"] (spD K 2 Fmonic) := ⟨f23, _, Lq.FnOk.toF (ok__monic (P := l.prog) (w := w) (mg := mg) (base := base) F23 (c_scaled := C_scaled) (c_inverse := C_inverse)) (fun _ _ => rfl), PySem.W.mg_of X G a23, k23, b23⟩
  have C_times : Cal l.prog w K mg base "times" 2 ["a", "b", "p"] (spD K 3 Ftimes) := ⟨f24, _, Lq.FnOk.toF (ok_times (P := l.prog) (w := w) (mg := mg) (base := base) F24 (h_enumerate := h_enumerate) (h_len := h_len) (c__trimmed := C__trimmed)) (fun _ _ => rfl), PySem.W.mg_of X G a24, k24, b24⟩
  have C__law_prime : Cal l.prog w K mg base "_law_prime" 2 ["state"] (spM K 0 Fprime) := ⟨f43, _, Lq.FnOk.toM (ok__law_prime (P := l.prog) (w := w) (mg := mg) (base := base) F43 (c__law_take := C__law_take)) (fun xs ds h => Lq.run__law_prime xs ds h), PySem.W.mg_of X G a43, k43, b43⟩
  have C__law_rest : Cal l.prog w K mg base "_law_rest" 2 ["a", "b", "p"] (spD K 3 Flrest) := ⟨f45, _, Lq.FnOk.toF (ok__law_rest (P := l.prog) (w := w) (mg := mg) (base := base) F45 (h_int := h_int) (h_len := h_len) (h_list := h_list) (h_range := h_range) (c__law_trimmed := C__law_trimmed)) (fun _ _ => rfl), PySem.W.mg_of X G a45, k45, b45⟩
  have C_reduced : Cal l.prog w K mg base "reduced" 3 ["rows", "width", "p"] (spD K 3 Freduced) := ⟨f8, _, Lq.FnOk.toF (ok_reduced (P := l.prog) (w := w) (mg := mg) (base := base) F8 (h_range := h_range) (h_tuple := h_tuple) (c__cleared := C__cleared) (c_scaled := C_scaled) (c_inverse := C_inverse)) (fun ds h => Lq.run_reduced ds h), PySem.W.mg_of X G a8, k8, b8⟩
  have C_check_rows : Cal l.prog w K mg base "check_rows" 3 ["p", "n", "rows"] (spD K 3 (Fchk CM CR)) := ⟨f13, _, Lq.FnOk.toF (ok_check_rows (P := l.prog) (w := w) (mg := mg) (base := base) F13 (h_LONGEST_code := h_LONGEST_code) (h_all := h_all) (h_isinstance := h_isinstance) (h_list := h_list) (h_tuple := h_tuple) (R_Malformed := R_Malformed) (R_Refused := R_Refused) (c_is_word := C_is_word) (c_is_integer := C_is_integer) (c_is_prime := C_is_prime)) (fun _ _ => rfl), PySem.W.mg_of X G a13, k13, b13⟩
  have CM_Code_syndrome : CalM l.prog w K mg base CC "syndrome" 3 ["self", "word"] (spD K 2 (Fsynd CC CM)) := ⟨f15, _, Lq.FnOk.toF (ok_Code_syndrome (P := l.prog) (w := w) (mg := mg) (base := base) F15 (h_tuple := h_tuple) (R_Malformed := R_Malformed) (cl_Code := cl_Code) (na_Code__checks := na_Code__checks) (na_Code_n := na_Code_n) (na_Code_p := na_Code_p) (c_dot := C_dot) (c_is_word := C_is_word)) (fun _ _ => rfl), cl_Code, ⟨a15, i15, k15⟩, b15⟩
  have C__check_alike : Cal l.prog w K mg base "_check_alike" 3 ["a", "b"] (spD K 2 (Falike CC CM)) := ⟨f19, _, Lq.FnOk.toF (ok__check_alike (P := l.prog) (w := w) (mg := mg) (base := base) F19 (R_Malformed := R_Malformed) (cl_Code := cl_Code) (na_Code_n := na_Code_n) (na_Code_p := na_Code_p)) (fun _ _ => rfl), PySem.W.mg_of X G a19, k19, b19⟩
  have C_divided : Cal l.prog w K mg base "divided" 3 ["a", "b", "p"] (spD K 3 (Fdivd CR)) := ⟨f25, _, Lq.FnOk.toF (ok_divided (P := l.prog) (w := w) (mg := mg) (base := base) F25 (h_enumerate := h_enumerate) (h_len := h_len) (h_list := h_list) (h_range := h_range) (h_reversed := h_reversed) (h_tuple := h_tuple) (R_Refused := R_Refused) (c__trimmed := C__trimmed) (c_inverse := C_inverse)) (fun _ _ => rfl), PySem.W.mg_of X G a25, k25, b25⟩
  have C__check_unit : Cal l.prog w K mg base "_check_unit" 3 ["p", "n"] (spD K 2 (Fckun CM CR)) := ⟨f27, _, Lq.FnOk.toF (ok__check_unit (P := l.prog) (w := w) (mg := mg) (base := base) F27 (h_LONGEST_cyclic := h_LONGEST_cyclic) (R_Malformed := R_Malformed) (R_Refused := R_Refused) (c_is_integer := C_is_integer) (c_is_prime := C_is_prime)) (fun _ _ => rfl), PySem.W.mg_of X G a27, k27, b27⟩
  have C__is_monic : Cal l.prog w K mg base "_is_monic" 3 ["value", "p"] (spD K 2 Fismon) := ⟨f36, _, Lq.FnOk.toF (ok__is_monic (P := l.prog) (w := w) (mg := mg) (base := base) F36 (h_isinstance := h_isinstance) (h_len := h_len) (h_tuple := h_tuple) (c_is_word := C_is_word)) (fun _ _ => rfl), PySem.W.mg_of X G a36, k36, b36⟩
  have C_kernel : Cal l.prog w K mg base "kernel" 4 ["rows", "width", "p"] (spD K 3 Fkernel) := ⟨f10, _, Lq.FnOk.toF (ok_kernel (P := l.prog) (w := w) (mg := mg) (base := base) F10 (h_range := h_range) (h_tuple := h_tuple) (c__kernel_word := C__kernel_word) (c_reduced := C_reduced)) (fun ds h => Lq.run_kernel ds h), PySem.W.mg_of X G a10, k10, b10⟩
  have CM_Code_holds : CalM l.prog w K mg base CC "holds" 4 ["self", "value"] (spD K 2 (Fholds CC CM)) := ⟨f16, _, Lq.FnOk.toF (ok_Code_holds (P := l.prog) (w := w) (mg := mg) (base := base) F16 (h_any := h_any) (cl_Code := cl_Code) (na_Code_n := na_Code_n) (na_Code_p := na_Code_p) (cm_Code_syndrome := CM_Code_syndrome) (c_is_word := C_is_word)) (fun _ _ => rfl), cl_Code, ⟨a16, i16, k16⟩, b16⟩
  have C_common_divisor : Cal l.prog w K mg base "common_divisor" 4 ["a", "b", "p"] (spD K 3 (Fgcd CR)) := ⟨f26, _, Lq.FnOk.toF (ok_common_divisor (P := l.prog) (w := w) (mg := mg) (base := base) F26 (c__monic := C__monic) (c_divided := C_divided)) (fun _ _ => rfl), PySem.W.mg_of X G a26, k26, b26⟩
  have C_unit_polynomial : Cal l.prog w K mg base "unit_polynomial" 4 ["p", "n"] (spD K 2 (Funitp CM CR)) := ⟨f28, _, Lq.FnOk.toF (ok_unit_polynomial (P := l.prog) (w := w) (mg := mg) (base := base) F28 (c__check_unit := C__check_unit)) (fun _ _ => rfl), PySem.W.mg_of X G a28, k28, b28⟩
  have CI_Code : CalI l.prog w K mg base "Code" CC 5 ["self", "p", "n", "rows"] 3 (Finit CC CM CR) := ⟨f14, _, ok_Code___init__ (P := l.prog) (w := w) (mg := mg) (base := base) F14 (h__MOST_WORDS := h__MOST_WORDS) (h_len := h_len) (R_Refused := R_Refused) (cl_Code := cl_Code) (na_Code__checks := na_Code__checks) (na_Code_k := na_Code_k) (na_Code_n := na_Code_n) (na_Code_p := na_Code_p) (na_Code_rows := na_Code_rows) (c_kernel := C_kernel) (c_power := C_power) (c_reduced := C_reduced) (c_check_rows := C_check_rows), ⟨mk_Code, a14, i14, kp_Code⟩, PySem.W.mg_of X G gC_Code, b14⟩
  have C__split : Cal l.prog w K mg base "_split" 5 ["part", "numbers", "m", "p"] (spD K 4 (Fsplit CR)) := ⟨f30, _, Lq.FnOk.toF (ok__split (P := l.prog) (w := w) (mg := mg) (base := base) F30 (h_int := h_int) (h_len := h_len) (h_range := h_range) (h_tuple := h_tuple) (c_common_divisor := C_common_divisor) (c__trimmed := C__trimmed) (c_add := C_add)) (fun _ _ => rfl), PySem.W.mg_of X G a30, k30, b30⟩
  have C_is_cyclic : Cal l.prog w K mg base "is_cyclic" 5 ["code"] (spD K 1 (Fiscyc CC CM)) := ⟨f35, _, Lq.FnOk.toF (ok_is_cyclic (P := l.prog) (w := w) (mg := mg) (base := base) F35 (h_all := h_all) (cl_Code := cl_Code) (na_Code_n := na_Code_n) (na_Code_rows := na_Code_rows) (cm_Code_holds := CM_Code_holds) (c_shifted := C_shifted)) (fun _ _ => rfl), PySem.W.mg_of X G a35, k35, b35⟩
  have C_factors_of_unit : Cal l.prog w K mg base "factors_of_unit" 6 ["p", "n"] (spD K 2 (Ffacts CM CR)) := ⟨f32, _, Lq.FnOk.toF (ok_factors_of_unit (P := l.prog) (w := w) (mg := mg) (base := base) F32 (h_tuple := h_tuple) (c__in_order := C__in_order) (c__classes := C__classes) (c__split := C__split) (c_unit_polynomial := C_unit_polynomial) (c__check_unit := C__check_unit)) (fun _ _ => rfl), PySem.W.mg_of X G a32, k32, b32⟩
  have C_generator_polynomial : Cal l.prog w K mg base "generator_polynomial" 6 ["code"] (spD K 1 (Fgenp CC CM CR)) := ⟨f38, _, Lq.FnOk.toF (ok_generator_polynomial (P := l.prog) (w := w) (mg := mg) (base := base) F38 (R_Refused := R_Refused) (cl_Code := cl_Code) (na_Code_n := na_Code_n) (na_Code_p := na_Code_p) (na_Code_rows := na_Code_rows) (c_common_divisor := C_common_divisor) (c__trimmed := C__trimmed) (c_unit_polynomial := C_unit_polynomial) (c_is_cyclic := C_is_cyclic)) (fun _ _ => rfl), PySem.W.mg_of X G a38, k38, b38⟩
  have CM_Code_dual : CalM l.prog w K mg base CC "dual" 7 ["self"] (spD K 1 (Fcdual CC CM CR)) := ⟨f17, _, Lq.FnOk.toF (ok_Code_dual (P := l.prog) (w := w) (mg := mg) (base := base) F17 (cl_Code := cl_Code) (na_Code__checks := na_Code__checks) (na_Code_n := na_Code_n) (na_Code_p := na_Code_p) (ci_Code := CI_Code)) (fun _ _ => rfl), cl_Code, ⟨a17, i17, k17⟩, b17⟩
  have C_sum_of : Cal l.prog w K mg base "sum_of" 7 ["a", "b"] (spD K 2 (Fsumof CC CM CR)) := ⟨f20, _, Lq.FnOk.toF (ok_sum_of (P := l.prog) (w := w) (mg := mg) (base := base) F20 (cl_Code := cl_Code) (na_Code_n := na_Code_n) (na_Code_p := na_Code_p) (na_Code_rows := na_Code_rows) (ci_Code := CI_Code) (c__check_alike := C__check_alike)) (fun _ _ => rfl), PySem.W.mg_of X G a20, k20, b20⟩
  have C_common_part : Cal l.prog w K mg base "common_part" 7 ["a", "b"] (spD K 2 (Fcpart CC CM CR)) := ⟨f21, _, Lq.FnOk.toF (ok_common_part (P := l.prog) (w := w) (mg := mg) (base := base) F21 (cl_Code := cl_Code) (na_Code_n := na_Code_n) (na_Code_p := na_Code_p) (cm_Code_checks := CM_Code_checks) (ci_Code := CI_Code) (c_kernel := C_kernel) (c__check_alike := C__check_alike)) (fun _ _ => rfl), PySem.W.mg_of X G a21, k21, b21⟩
  have C_divisors_of_unit : Cal l.prog w K mg base "divisors_of_unit" 7 ["p", "n"] (spD K 2 (Fdivs CM CR)) := ⟨f33, _, Lq.FnOk.toF (ok_divisors_of_unit (P := l.prog) (w := w) (mg := mg) (base := base) F33 (h_range := h_range) (h_tuple := h_tuple) (c__in_order := C__in_order) (c_factors_of_unit := C_factors_of_unit) (c_times := C_times)) (fun _ _ => rfl), PySem.W.mg_of X G a33, k33, b33⟩
  have C_cyclic_code : Cal l.prog w K mg base "cyclic_code" 7 ["p", "n", "g"] (spD K 3 (Fcycc CC CM CR)) := ⟨f37, _, Lq.FnOk.toF (ok_cyclic_code (P := l.prog) (w := w) (mg := mg) (base := base) F37 (h_len := h_len) (h_range := h_range) (R_Malformed := R_Malformed) (ci_Code := CI_Code) (c_divided := C_divided) (c__is_monic := C__is_monic) (c_unit_polynomial := C_unit_polynomial)) (fun _ _ => rfl), PySem.W.mg_of X G a37, k37, b37⟩
  have C_check_polynomial : Cal l.prog w K mg base "check_polynomial" 7 ["code"] (spD K 1 (Fchkp CC CM CR)) := ⟨f39, _, Lq.FnOk.toF (ok_check_polynomial (P := l.prog) (w := w) (mg := mg) (base := base) F39 (cl_Code := cl_Code) (na_Code_n := na_Code_n) (na_Code_p := na_Code_p) (c_divided := C_divided) (c_unit_polynomial := C_unit_polynomial) (c_generator_polynomial := C_generator_polynomial)) (fun _ _ => rfl), PySem.W.mg_of X G a39, k39, b39⟩
  have e_cc := vl_CC
  exact ok_law (P := l.prog) (w := w) (mg := mg) (base := base) F46 (h_int := h_int) (h_len := h_len) (h_max := h_max) (h_min := h_min) (h_range := h_range) (cl_Code := cl_Code) (na_Code_k := na_Code_k) (cm_Code_dual := CM_Code_dual) (c_generator_polynomial := C_generator_polynomial) (c_common_part := C_common_part) (c_sum_of := C_sum_of) (c__law_rest := C__law_rest) (c_is_cyclic := C_is_cyclic) (c__law_scaled := C__law_scaled) (c_check_polynomial := C_check_polynomial) (c_cyclic_code := C_cyclic_code) (c__law_take := C__law_take) (c_divisors_of_unit := C_divisors_of_unit) (c__law_prime := C__law_prime) (c__law_state := C__law_state) (e_cc := e_cc)
end
end K37
open PySem PySem.W PyProof.Rows L2 in
set_option maxRecDepth 100000 in
set_option maxHeartbeats 0 in
theorem PySem.Challenge.cw_weightkeepers_k37_duals_of_cyclic_codes_holds : PySem.Challenge.rw_weightkeepers_k37_duals_of_cyclic_codes.Holds := by
  w_on; o_law; k_head; (case hw => w_witness2)
  k_fill
  refine L2.walk_of (l := PySem.Challenge.rw_weightkeepers_k37_duals_of_cyclic_codes) (n := 63) (k := 8) (x := "script") (CX := fun w => L2.CX (PySem.Challenge.rw_weightkeepers_k37_duals_of_cyclic_codes).prog w) (sp := fun w => Lq.spLaw _) rfl (by decide) rfl ⟨rfl, by decide, by decide⟩ (fun w h Y => PySem.W.kIn_of Y) ?F (fun _ _ a ns hl _ hS => ⟨a, ns, rfl, hS, hl, fun _ => rfl⟩) (fun _ _ _ _ _ ⟨_, _, _, _, _, _, _, _, _, _, _, _, z⟩ => z)
  case F =>
    intro w mg fa h KX G hmg
    refine' K37.all_mk KX G hmg ?a1 ?l1 ?c1 ?k1 ?a2 ?l2 ?c2 ?k2 ?a3 ?l3 ?c3 ?k3 ?a4 ?l4 ?c4 ?k4 ?a5 ?l5 ?c5 ?k5 ?a6 ?l6 ?c6 ?k6 ?a7 ?l7 ?c7 ?k7 ?a8 ?l8 ?c8 ?k8 ?a9 ?l9 ?c9 ?k9 ?a10 ?l10 ?c10 ?k10 ?a11 ?l11 ?c11 ?k11 ?a12 ?l12 ?c12 ?k12 ?a13 ?l13 ?c13 ?k13 ?a14 ?l14 ?c14 ?k14 ?i14 ?a15 ?l15 ?c15 ?k15 ?i15 ?a16 ?l16 ?c16 ?k16 ?i16 ?a17 ?l17 ?c17 ?k17 ?i17 ?a18 ?l18 ?c18 ?k18 ?i18 ?a19 ?l19 ?c19 ?k19 ?a20 ?l20 ?c20 ?k20 ?a21 ?l21 ?c21 ?k21 ?a22 ?l22 ?c22 ?k22 ?a23 ?l23 ?c23 ?k23 ?a24 ?l24 ?c24 ?k24 ?a25 ?l25 ?c25 ?k25 ?a26 ?l26 ?c26 ?k26 ?a27 ?l27 ?c27 ?k27 ?a28 ?l28 ?c28 ?k28 ?a29 ?l29 ?c29 ?k29 ?a30 ?l30 ?c30 ?k30 ?a31 ?l31 ?c31 ?k31 ?a32 ?l32 ?c32 ?k32 ?a33 ?l33 ?c33 ?k33 ?a34 ?l34 ?c34 ?k34 ?a35 ?l35 ?c35 ?k35 ?a36 ?l36 ?c36 ?k36 ?a37 ?l37 ?c37 ?k37 ?a38 ?l38 ?c38 ?k38 ?a39 ?l39 ?c39 ?k39 ?a40 ?l40 ?c40 ?k40 ?a41 ?l41 ?c41 ?k41 ?a42 ?l42 ?c42 ?k42 ?a43 ?l43 ?c43 ?k43 ?a44 ?l44 ?c44 ?k44 ?a45 ?l45 ?c45 ?k45 ?a46 ?l46 ?c46 ?k46 ?z_LONGEST_code ?z_LONGEST_cyclic ?z__MOST_WORDS ?z_abs ?z_all ?z_any ?z_bool ?z_enumerate ?z_int ?z_isinstance ?z_len ?z_list ?z_max ?z_min ?z_range ?z_reversed ?z_sorted ?z_sum ?z_tuple ?z_zip ?zS ?an_ ?tp ?gC_Refused ?xC_Refused ?sa_Refused ?ga_Refused ?gg_Refused ?nr_Refused ?eC_Refused ?tC_Refused ?kC_Refused ?hC_Refused ?sC_Refused ?aI_Refused ?tI_Refused ?lI_Refused ?cI_Refused ?lc_Refused ?lf_Refused ?lq_Refused ?cl_Refused ?mC_Refused ?up_Refused ?bsv_Refused ?gC_Malformed ?xC_Malformed ?eC_Malformed ?tC_Malformed ?kC_Malformed ?hC_Malformed ?sC_Malformed ?gC_Code ?pg_Code ?hd_Code ?po_Code ?sa_Code ?mk_Code ?kp_Code ?zna_Code__checks ?zna_Code_k ?zna_Code_n ?zna_Code_p ?zna_Code_rows ?zt__PRIMES ?lt__PRIMES ?vl_CC
    (case gC_Refused => k_is)
    (case gC_Malformed => k_is)
    (case gC_Code => k_is)
    (case a1 => k_is)
    (case l1 => k_is)
    (case c1 => k_is)
    (case k1 => k_is)
    (case a2 => k_is)
    (case l2 => k_is)
    (case c2 => k_is)
    (case k2 => k_is)
    (case a3 => k_is)
    (case l3 => k_is)
    (case c3 => k_is)
    (case k3 => k_is)
    (case a4 => k_is)
    (case l4 => k_is)
    (case c4 => k_is)
    (case k4 => k_is)
    (case a5 => k_is)
    (case l5 => k_is)
    (case c5 => k_is)
    (case k5 => k_is)
    (case a6 => k_is)
    (case l6 => k_is)
    (case c6 => k_is)
    (case k6 => k_is)
    (case a7 => k_is)
    (case l7 => k_is)
    (case c7 => k_is)
    (case k7 => k_is)
    (case a8 => k_is)
    (case l8 => k_is)
    (case c8 => k_is)
    (case k8 => k_is)
    (case a9 => k_is)
    (case l9 => k_is)
    (case c9 => k_is)
    (case k9 => k_is)
    (case a10 => k_is)
    (case l10 => k_is)
    (case c10 => k_is)
    (case k10 => k_is)
    (case a11 => k_is)
    (case l11 => k_is)
    (case c11 => k_is)
    (case k11 => k_is)
    (case a12 => k_is)
    (case l12 => k_is)
    (case c12 => k_is)
    (case k12 => k_is)
    (case a13 => k_is)
    (case l13 => k_is)
    (case c13 => k_is)
    (case k13 => k_is)
    (case a14 => k_is)
    (case l14 => k_is)
    (case c14 => k_is)
    (case k14 => k_is)
    (case i14 => k_is)
    (case a15 => k_is)
    (case l15 => k_is)
    (case c15 => k_is)
    (case k15 => k_is)
    (case i15 => k_is)
    (case a16 => k_is)
    (case l16 => k_is)
    (case c16 => k_is)
    (case k16 => k_is)
    (case i16 => k_is)
    (case a17 => k_is)
    (case l17 => k_is)
    (case c17 => k_is)
    (case k17 => k_is)
    (case i17 => k_is)
    (case a18 => k_is)
    (case l18 => k_is)
    (case c18 => k_is)
    (case k18 => k_is)
    (case i18 => k_is)
    (case a19 => k_is)
    (case l19 => k_is)
    (case c19 => k_is)
    (case k19 => k_is)
    (case a20 => k_is)
    (case l20 => k_is)
    (case c20 => k_is)
    (case k20 => k_is)
    (case a21 => k_is)
    (case l21 => k_is)
    (case c21 => k_is)
    (case k21 => k_is)
    (case a22 => k_is)
    (case l22 => k_is)
    (case c22 => k_is)
    (case k22 => k_is)
    (case a23 => k_is)
    (case l23 => k_is)
    (case c23 => k_is)
    (case k23 => k_is)
    (case a24 => k_is)
    (case l24 => k_is)
    (case c24 => k_is)
    (case k24 => k_is)
    (case a25 => k_is)
    (case l25 => k_is)
    (case c25 => k_is)
    (case k25 => k_is)
    (case a26 => k_is)
    (case l26 => k_is)
    (case c26 => k_is)
    (case k26 => k_is)
    (case a27 => k_is)
    (case l27 => k_is)
    (case c27 => k_is)
    (case k27 => k_is)
    (case a28 => k_is)
    (case l28 => k_is)
    (case c28 => k_is)
    (case k28 => k_is)
    (case a29 => k_is)
    (case l29 => k_is)
    (case c29 => k_is)
    (case k29 => k_is)
    (case a30 => k_is)
    (case l30 => k_is)
    (case c30 => k_is)
    (case k30 => k_is)
    (case a31 => k_is)
    (case l31 => k_is)
    (case c31 => k_is)
    (case k31 => k_is)
    (case a32 => k_is)
    (case l32 => k_is)
    (case c32 => k_is)
    (case k32 => k_is)
    (case a33 => k_is)
    (case l33 => k_is)
    (case c33 => k_is)
    (case k33 => k_is)
    (case a34 => k_is)
    (case l34 => k_is)
    (case c34 => k_is)
    (case k34 => k_is)
    (case a35 => k_is)
    (case l35 => k_is)
    (case c35 => k_is)
    (case k35 => k_is)
    (case a36 => k_is)
    (case l36 => k_is)
    (case c36 => k_is)
    (case k36 => k_is)
    (case a37 => k_is)
    (case l37 => k_is)
    (case c37 => k_is)
    (case k37 => k_is)
    (case a38 => k_is)
    (case l38 => k_is)
    (case c38 => k_is)
    (case k38 => k_is)
    (case a39 => k_is)
    (case l39 => k_is)
    (case c39 => k_is)
    (case k39 => k_is)
    (case a40 => k_is)
    (case l40 => k_is)
    (case c40 => k_is)
    (case k40 => k_is)
    (case a41 => k_is)
    (case l41 => k_is)
    (case c41 => k_is)
    (case k41 => k_is)
    (case a42 => k_is)
    (case l42 => k_is)
    (case c42 => k_is)
    (case k42 => k_is)
    (case a43 => k_is)
    (case l43 => k_is)
    (case c43 => k_is)
    (case k43 => k_is)
    (case a44 => k_is)
    (case l44 => k_is)
    (case c44 => k_is)
    (case k44 => k_is)
    (case a45 => k_is)
    (case l45 => k_is)
    (case c45 => k_is)
    (case k45 => k_is)
    (case a46 => k_is)
    (case l46 => k_is)
    (case c46 => k_is)
    (case k46 => k_is)
    (case z_LONGEST_code => k_is)
    (case z_LONGEST_cyclic => k_is)
    (case z__MOST_WORDS => k_is)
    (case z_abs => k_is)
    (case z_all => k_is)
    (case z_any => k_is)
    (case z_bool => k_is)
    (case z_enumerate => k_is)
    (case z_int => k_is)
    (case z_isinstance => k_is)
    (case z_len => k_is)
    (case z_list => k_is)
    (case z_max => k_is)
    (case z_min => k_is)
    (case z_range => k_is)
    (case z_reversed => k_is)
    (case z_sorted => k_is)
    (case z_sum => k_is)
    (case z_tuple => k_is)
    (case z_zip => k_is)
    (case zS => k_is)
    (case an_ => k_is)
    (case tp => first | rfl | decide +kernel)
    (case xC_Refused => k_is)
    (case sa_Refused => k_is)
    (case ga_Refused => k_is)
    (case gg_Refused => k_is)
    (case nr_Refused => k_is)
    (case eC_Refused => k_is)
    (case tC_Refused => k_is)
    (case kC_Refused => k_is)
    (case hC_Refused => k_is)
    (case sC_Refused => first | k_is | rfl)
    (case aI_Refused => k_is)
    (case tI_Refused => k_is)
    (case lI_Refused => k_is)
    (case cI_Refused => k_is)
    (case lc_Refused => k_is)
    (case lf_Refused => rfl)
    (case lq_Refused => first | rfl | decide +kernel)
    (case cl_Refused => k_is)
    (case mC_Refused => first | k_is | rfl)
    (case up_Refused => first | k_is | rfl | decide +kernel)
    (case bsv_Refused => k_is)
    (case xC_Malformed => k_exc)
    (case eC_Malformed => k_is)
    (case tC_Malformed => k_is)
    (case kC_Malformed => k_is)
    (case hC_Malformed => k_is)
    (case sC_Malformed => first | k_is | rfl)
    (case pg_Code => k_is)
    (case hd_Code => k_is)
    (case po_Code => k_is)
    (case sa_Code => k_is)
    (case mk_Code => k_is)
    (case kp_Code => k_is)
    (case zna_Code__checks => k_is)
    (case zna_Code_k => k_is)
    (case zna_Code_n => k_is)
    (case zna_Code_p => k_is)
    (case zna_Code_rows => k_is)
    (case zt__PRIMES => k_is)
    (case lt__PRIMES => k_is)
    (case vl_CC => rfl)
    all_goals exact (0 : Tok)


